import PyProof.Rows.All
import Wide.All
import OpenK.AllK
import Wide.FinOn
import PyProof.ReprRoads
import PyProof.CallFns
import HandS.ForMost
import HandS.ForExc
import HandS.Lambda
import HandS.EndBits
import HandS.EndTab
import PyProof.NeKinds
import PyProof.NeData
import PyProof.FactsAll.dict_1
import PyProof.FactsAll.dict_2
import PyProof.FactsAll.subtypes
import HandS.Comp
import HandS.Dict
import HandS.Ends
import HandS.Words
import HandS.WordsList
import HandS.WordsDict
import HandS.Exc
import HandS.ExcOwn
import HandS.Wide
import HandS.IsInst
import HandS.ExcIs
import HandS.TupLe
import HandS.TupAny
import HandS.TupMul
import HandS.Text
import HandS.Walk
import PyProof.Fits
import HandS.TupSets
import HandS.DictTup
import KE.SortData
import HandS.Zip
import KE.DataCmp
import PyProof.ReprLoop
import PyProof.ReprReads
import PySem.Challenge.RW_loopfoundry_k18_shapes_and_patterns_judg
set_option Elab.async false
set_option linter.all false
set_option maxRecDepth 100000
set_option maxHeartbeats 8000000
/-! defs that are told that no repr is under way around them; repr of data; the end of a law for them -/
namespace L2.My
open PySem PySem.Spec PyProof.Rows
/-- as FnOk, where the guards around are none -/
structure FnG (P : Program) (w : World) (K : PySem.W.Frag) (mg : Str → Option Value) (base : Heap) (k : Nat) (f : Addr) (fd : FuncData) (ps : List Str) (sp : Sp) : Prop where
  len : ∀ vs H Q E, sp vs H Q E → vs.length = ps.length
  run : ∀ (A : Around) (outer : List Env) (s : Shared) (H : Hp) (args : Args) (us : List Value) (vs : List V) (Q : VK) (E : XK), Room k A → A.guards = some [] → Env0 P w K mg base A outer s H →
    BindsTo s fd args (ps.zip us) → Vals vs us → sp vs H Q E → codeAny (model P w) A (.call (.ref f) args) (CR CX0 outer P w H s Q E) s
theorem guards_deeper {A : Around} {env : Env} (h : A.guards = some []) : (A.deeper env).guards = some [] := h
section
variable {P : Program} {w : World} {K : PySem.W.Frag} {mg : Str → Option Value} {base : Heap}
theorem Fun.okG {x qual : Str} {st : Stmt} {f : Addr} {fd : FuncData} {N ps : List Str} {k : Nat} {sp : Sp} (F : Fun K x qual st f fd) (S : FnScope N ps (defScope st)) (len : ∀ vs H Q E, sp vs H Q E → vs.length = ps.length)
    (hbody : ∀ (cdv : Value) (A : Around) (outer : List Env) (s : Shared) (H : Hp) (vs : List V) (Q : VK) (E : XK), PySem.W.codeIn K cdv qual = true → Room k (A.deeper (envOfC qual (defScope st) s.heap.objs.size f cdv)) → A.guards = some [] → sp vs H Q E →
      ∃ t, PSs (cxOf CX0 P w K mg base N qual (defScope st) f cdv A outer s H E).nox (defBody st) t ∧ t { nx := fun _ H' => Q .non H', rt := Q } (start N vs) H) : FnG P w K mg base (k + 1) f fd ps sp := by
  obtain ⟨oc, od, kV, doc, pm, an, cdv, ct, osl, rfl, lk, hcd⟩ := F.ex
  refine ⟨len, fun A outer s H args us vs Q E hr hg e0 hb r h => ?_⟩
  refine LamX.run_ofS lk hcd S hr e0 hb r (len _ _ _ _ h) fun hr' => ?_
  obtain ⟨t, ht, q⟩ := hbody cdv A outer s H vs Q E hcd hr' hg h
  exact ⟨t, ht.nox, q⟩
end
section
variable {X : Cx}
/-- f(e, ..), f such a def -/
theorem pe_callG {k : Nat} {f : Addr} {fd : FuncData} {ps : List Str} {sp : Sp} {x : Str} {p pos : Pos} {e : Expr} {es : List Expr} {t : TA} (F : FnG X.prog X.w X.K X.mg X.base k f fd ps sp) (hr : Room k X.A) (gd : X.A.guards = some []) (hg : Gl X x) (hm : X.mg x = some (.ref f))
    (hk : PySem.W.keepIn X.K (.ref f) = true) (hb : Binds X.K fd ps []) (ha : PA X (e :: es) t) (hdb : (x == ("__debug__" : Str)) = false := by decide)
    (he : starEach (e :: es) X.env = (false, eval e X.env) :: starEach es X.env := by rfl) (hpl : (backTo pos (starEach es X.env)).any (·.1) = false := by rfl) :
    PE X (.Call (.Name x p) (e :: es) [] pos) (tCall sp [] E0 t) := by
  refine ⟨fun pins s σ H Q I h => wpAny_Call_Name_kw (ld_glob I hg hm (PySem.W.callWith_K (h₀ := X.base) I.ok.mod.kin hk (thn (ha.run pos pins s σ H _ I h) fun us s1 hh => ?_) he hpl) hdb)⟩
  obtain ⟨vs, H1, I1, r, q⟩ := hh
  rw [List.append_nil] at q
  have hl : us.length = ps.length := by rw [← r.length]; exact F.len _ _ _ _ q
  have hb2 := hb s1 us I1.kIn (by rw [List.append_nil]; exact hl)
  rw [List.append_nil] at hb2
  refine ⟨I1.kIn, wpAny_call (codeAny_mono (F.run X.A X.stack s1 H1 ⟨us, []⟩ us vs Q E0 hr gd I1.env0 hb2 r q) fun r2 s2 hq => ?_)⟩
  match r2, hq with
  | .error e, hq => exact (show False from hq).elim
  | .ok (.ret u), hq => exact I1.after hq
  | .ok .next, hq => exact False.elim hq
  | .ok .brk, hq => exact False.elim hq
  | .ok .cont, hq => exact False.elim hq
/-- repr(v) of data without dicts -/
def rRepr (K : PySem.W.Frag) : List V → Hp → VK → Prop := fun xs H Q => ∃ v d, xs = [v] ∧ Dp K H v d ∧ d.showable = true ∧ d.hasDict = false ∧ d.depth ≤ 64 ∧ d.shown.length ≤ sizeLine ∧ Q (.str d.shown) H
theorem call_repr (gd : X.A.guards = some []) (hu : X.A.units + 70 < cLine) : CallR X (.builtin "repr") (rRepr X.K) := by
  intro pins s σ H xs us Q I r h
  obtain ⟨v, d, rfl, dp, sh, nd, dd, sz, q⟩ := h
  obtain ⟨u, rfl, ru⟩ : ∃ u, us = [u] ∧ RelV v u := by
    cases r with
    | cons ra rn =>
      cases rn
      exact ⟨_, rfl, ra⟩
  have done : ∀ t tk, EP X pins σ Q (.str d.shown t) { s with toks := tk } := fun t tk => ⟨.str d.shown, H, I.tok tk, ⟨t, rfl⟩, q⟩
  obtain ⟨as, rd⟩ := Dp.reads I d v u dp ru
  cases rd with
  | none => exact PySem.P.repr_of_none (done _ _)
  | bool b => exact PySem.P.repr_of_bool (done _ _)
  | int i t => exact PySem.P.repr_of_int (by simpa [PyData.showable] using sh) (done _ _)
  | str x t => exact PySem.P.repr_of_str (done _ _) sz
  | list e1 e2 e3 ra =>
    refine repr_of_reads' (.list e1 e2 e3 ra) sh (PyData.noDict_hsm nd) gd (by omega) (fun _ _ e => e) (fun h' t tk hk => ?_) sz
    exact ⟨.str _, H, I.kept (t' := tk) hk, ⟨t, rfl⟩, q⟩
  | tuple e1 e2 e3 ra =>
    refine repr_of_reads' (.tuple e1 e2 e3 ra) sh (PyData.noDict_hsm nd) gd (by omega) (fun _ _ e => e) (fun h' t tk hk => ?_) sz
    exact ⟨.str _, H, I.kept (t' := tk) hk, ⟨t, rfl⟩, q⟩
  | dict => cases nd
end
end L2.My
/-! the end of a law for such defs, with tables of code objects -/
namespace L2.My
open PySem PySem.Spec PyProof.Rows
abbrev scrO (vs : List Value) : Obj := { cls := .type "list", data := .seq vs.toArray }
abbrev tabO : Obj := { cls := .none, data := .fields #[] }
/-- the abstract heap at the law's entry: the tables, and the script if it is no object of the module -/
structure Begin (K : PySem.W.Frag) (a : Addr) (vs : List Value) (ns : List Int) (ts : List Addr) (H : Hp) : Prop where
  tab : ∀ b ∈ ts, H b = some (.tbl #[])
  cas : ∀ b u, H b = some u → (b ∈ ts ∧ u = .tbl #[]) ∨ (b = a ∧ K.lookup a = none ∧ u = .frz (scrO vs) (.lst (ns.map V.int)))
  scr : SqL K H a (ns.map V.int)
theorem begin_ex {K : PySem.W.Frag} {h : Heap} {a : Addr} {vs : List Value} {ns : List Int} {ts : List Addr} (KX : K.In h) (ha : h.get? a = some (scrO vs)) (hi : IntsAre vs ns) (hl : ns.length ≤ sizeLine) (na : a ∉ ts) : ∃ H, Begin K a vs ns ts H := by
  cases hk : K.lookup a with
  | some o =>
    have e := (KX a o hk).symm.trans ha
    cases e
    have sz : vs.toArray.size ≤ sizeLine := by rw [List.size_toArray, hi.length]; exact hl
    refine ⟨fun b => if b ∈ ts then some (.tbl #[]) else none, fun b hb => if_pos hb, fun b u e => ?_, .inr ⟨_, vs.toArray, _, hk, rfl, rfl, rfl, sz, by simpa using vals_ints hi⟩⟩
    by_cases hb : b ∈ ts
    · exact .inl ⟨hb, (Option.some.inj ((if_pos hb).symm.trans e)).symm⟩
    · cases (if_neg hb).symm.trans e
  | none =>
    refine ⟨fun b => if b ∈ ts then some (.tbl #[]) else if b = a then some (.frz (scrO vs) (.lst (ns.map V.int))) else none, fun b hb => if_pos hb, fun b u e => ?_, .inl (.inr ⟨scrO vs, (if_neg na).trans (if_pos rfl)⟩)⟩
    by_cases hb : b ∈ ts
    · exact .inl ⟨hb, (Option.some.inj ((if_pos hb).symm.trans e)).symm⟩
    · have e2 := (if_neg hb).symm.trans e
      by_cases h2 : b = a
      · exact .inr ⟨h2, hk, (Option.some.inj ((if_pos h2).symm.trans e2)).symm⟩
      · cases (if_neg h2).symm.trans e2
section
variable {P : Program} {w : World} {K : PySem.W.Frag} {h : Heap} {a : Addr} {vs : List Value} {ns : List Int} {ts : List Addr} {H : Hp}
theorem Begin.holds (B : Begin K a vs ns ts H) (ha : h.get? a = some (scrO vs)) (hi : IntsAre vs ns) (hl : ns.length ≤ sizeLine) (hT : ∀ b ∈ ts, h.get? b = some tabO) : HOk P w H h := by
  intro b u e
  rcases B.cas b u e with ⟨hb, rfl⟩ | ⟨rfl, _, rfl⟩
  · exact hT b hb
  · exact ⟨ha, by rw [List.length_map]; exact hl, vs, _, vals_ints hi, ha⟩
/-- an object that is neither a table nor the script's list is not tracked -/
theorem Begin.off (B : Begin K a vs ns ts H) (ha : h.get? a = some (scrO vs)) (hT : ∀ b ∈ ts, h.get? b = some tabO) {b : Addr} {o : Obj} (e : h.get? b = some o) (h1 : o ≠ tabO) (h2 : o ≠ scrO vs) : H b = none := by
  cases q : H b with
  | none => rfl
  | some u =>
    rcases B.cas b u q with ⟨hb, _⟩ | ⟨rfl, _, _⟩
    · exact absurd (Option.some.inj (e.symm.trans (hT b hb))) h1
    · exact absurd (Option.some.inj (e.symm.trans ha)) h2
theorem Begin.kin (B : Begin K a vs ns ts H) (KX : K.In h) (nT : ∀ b ∈ ts, K.lookup b = none) : K.In (hidT h H) := by
  intro b o e
  refine hidT_get (KX b o e) ?_
  cases q : H b with
  | none => rfl
  | some u =>
    rcases B.cas b u q with ⟨hb, _⟩ | ⟨rfl, hk, _⟩
    · rw [nT b hb] at e
      cases e
    · rw [hk] at e
      cases e
theorem Begin.nsAt (B : Begin K a vs ns ts H) (ha : h.get? a = some (scrO vs)) (hT : ∀ b ∈ ts, h.get? b = some tabO) {b : Addr} {m : Str → Option Value} (n : h.Ns b m) : (hidT h H).Ns b m := by
  obtain ⟨o, es, ep, e, d, r⟩ := n
  refine ⟨o, es, ep, hidT_get e (B.off ha hT e ?_ ?_), d, r⟩
  · rintro rfl
    cases d
  · rintro rfl
    cases d
end
/-- what is known of the law's promise behind the top -/
def LawG (l : PySem.W.OpenLaw) (w : World) (K : PySem.W.Frag) (k n : Nat) (x : Str) (mg : Str → Option Value) (fa : Addr) (h : Heap) : Prop :=
  ∃ (fd : FuncData) (cs : List (Addr × Addr)) (sp : Sp), (∀ p ∈ cs, h.get? p.2 = some tabO) ∧ (∀ p ∈ cs, K.lookup p.2 = none) ∧ (∀ p ∈ cs, PySem.W.CodeHd h p.1 p.2) ∧ (∀ (s : Shared) (u : Value), BindsTo s fd ⟨[u], []⟩ [(x, u)]) ∧
    (∀ (H : Hp) (a : Addr) (ns : List Int), ns.length ≤ n → (∀ z ∈ ns, Builtin.Int.intBits z ≤ 1048576) → (∀ p ∈ cs, H p.2 = some (.tbl #[])) → SqL K H a (ns.map V.int) → sp [.ref a] H (fun v _ => v = .bl true) E0) ∧
    ∀ base : Heap, K.In base → base.Ns mainGlobals mg → (∀ p ∈ cs, LamX.TabB base mg p.1 p.2) → FnG l.prog w K mg base k fa fd [x] sp
theorem walkG {l : PySem.W.OpenLaw} {n k : Nat} {q : Program} {loose : List Str} {XP : (Str → Option Value) → Heap → Prop} {YP : World → Heap → Prop} {d : DefRec} {K : Params → PySem.W.Frag} {x : Str}
    (hn : l.most = some n) (hn2 : n ≤ sizeLine) (hdf : d.params.defaults = []) (hr : Room k callerA) (hY : ∀ (w : World) (h : Heap), YP w h → (K w.params).In h)
    (F : ∀ (w : World) (mg : Str → Option Value) (fa : Addr) (h : Heap), YP w h → (K w.params).In h → h.Ns mainGlobals mg → mg d.name = some (.ref fa) → LawG l w (K w.params) k n x mg fa h) :
    PySem.W.WalkO q loose XP YP l.row.toRowW d [] (fun f vs => PySem.call f vs) := by
  refine Att.attach_callB hn hdf fun w s0 s1 mg mb fa o pm cd doc a vs ns G Y ho hd hcd hmg ha hi hlen hbits hg => ?_
  have KX := hY w _ Y
  obtain ⟨fd, cs, sp, hT, nT, hC, hb, hsp, hF⟩ := F w mg fa _ Y KX G.T.g hmg
  have hl : ns.length ≤ sizeLine := Nat.le_trans hlen hn2
  have hTs : ∀ b ∈ cs.map (·.2), s1.heap.get? b = some tabO := by
    intro b hb
    obtain ⟨p, hp, rfl⟩ := List.mem_map.mp hb
    exact hT p hp
  have nTs : ∀ b ∈ cs.map (·.2), (K w.params).lookup b = none := by
    intro b hb
    obtain ⟨p, hp, rfl⟩ := List.mem_map.mp hb
    exact nT p hp
  have na : a ∉ cs.map (·.2) := by
    intro z
    cases ha.symm.trans (hTs a z)
  obtain ⟨H, B⟩ := begin_ex KX ha hi hl na
  have hok : HOk l.prog w H s1.heap := B.holds ha hi hl hTs
  have kin := B.kin KX nTs
  have gns := B.nsAt ha hTs G.T.g
  have tabs : ∀ p ∈ cs, H p.2 = some (.tbl #[]) := fun p hp => B.tab _ (List.mem_map.mpr ⟨p, hp, rfl⟩)
  have hM : Mod (K w.params) mg (hidT s1.heap H) := ⟨kin, gns, ⟨mb, B.nsAt ha hTs G.T.b, G.T.builtins⟩, let ⟨mc, h1, h2⟩ := G.T.nolimit; ⟨mc, B.nsAt ha hTs h1, h2⟩⟩
  have TB : ∀ p ∈ cs, LamX.TabB (hidT s1.heap H) mg p.1 p.2 := by
    intro p hp
    obtain ⟨oc, us, file, tf, flags, tg, inF, text, tt, e1, r1, r2, r3, r4, r5, r6, r7, r8, hne⟩ := hC p hp
    obtain ⟨bm, ob, b1, b2, b3, b4, b5, b6⟩ := G.T.bmain
    obtain ⟨og, es, ep, eg, dg, _⟩ := G.T.g
    refine ⟨⟨oc, us, file, tf, flags, tg, inF, text, tt, hidT_get e1 (B.off ha hTs e1 ?_ ?_), r1, r2, r3, r4, r5, r6, r7, r8, hne⟩, ⟨bm, ob, b1, b2, ?_, ?_, hidT_get b3 (B.off ha hTs b3 ?_ ?_), b4, b5, b6⟩, ?_⟩
    · rintro rfl
      cases r2
      simp at r3
    · rintro rfl
      cases r2
    · rintro rfl
      cases b3.symm.trans eg
      rw [b6] at dg
      cases dg
    · rintro rfl
      cases b3.symm.trans (hT p hp)
      cases b6
    · rintro rfl
      cases b6
    · rintro rfl
      cases b6
    · intro z
      rw [z] at eg
      cases eg.symm.trans (hT p hp)
      cases dg
  have e0 : Env0 l.prog w (K w.params) mg (hidT s1.heap H) callerA [] s1 H :=
    ⟨rfl, hM, fun b o e => of_hidT e, Nat.le_of_eq (hidT_size _ _), trivial, fun b hb => absurd (show b ∈ ([] : List Addr) from hb) (by simp), hok, .of_eq hg⟩
  refine codeAny_mono ((hF _ kin gns TB).run callerA [] s1 H ⟨[.ref a], []⟩ [.ref a] [.ref a] _ _ hr rfl e0 (hb s1 (.ref a)) (.cons rfl .nil) (hsp H a ns hlen hbits tabs B.scr)) fun r s2 hq => ?_
  match r, hq with
  | .error e, hq => exact (show False from hq).elim
  | .ok .next, hq => exact False.elim hq
  | .ok .brk, hq => exact False.elim hq
  | .ok .cont, hq => exact False.elim hq
  | .ok (.ret u), hq =>
    obtain ⟨v, H2, os, bare, un, hok2, rv, ev⟩ := hq
    obtain rfl : v = .bl true := ev
    obtain rfl : u = Value.bool true := rv
    have grown : ∀ b ∈ cs.map (·.2), ∃ more : Array Value, s2.heap.get? b = some { cls := .none, data := .fields more } := by
      intro b hb
      obtain ⟨more, z⟩ := un.tbls b #[] (B.tab b hb)
      exact ⟨_, hok2 b _ z⟩
    have same : ∀ b o, b ∉ cs.map (·.2) → s1.heap.get? b = some o → s2.heap.get? b = some o := by
      intro b o nb e
      cases qh : H b with
      | none => exact un.keep b o e qh (by intro z; exact absurd (show b ∈ ([] : List Addr) from z) (by simp)) (by simp)
      | some u =>
        rcases B.cas b u qh with ⟨hb, _⟩ | ⟨rfl, _, rfl⟩
        · exact absurd hb nb
        · have z2 := un.frzs b _ _ qh
          obtain ⟨e2, _⟩ := hok2 b _ z2
          cases e.symm.trans ha
          exact e2
    refine ⟨rfl, ⟨fun b o e => ?_, fun b o e => ?_⟩, os, bare⟩
    · by_cases hb : b ∈ cs.map (·.2)
      · obtain ⟨more, hm⟩ := grown b hb
        obtain ⟨p, hp, rfl⟩ := List.mem_map.mp hb
        cases e.symm.trans (hT p hp)
        exact .inr (.inl ⟨((hC p hp).tab (hT p hp)).isCodeTable, rfl, #[], more, rfl, by rw [Array.empty_append]; exact hm⟩)
      · exact .inl (same b o hb e)
    · by_cases hb : b ∈ cs.map (·.2)
      · obtain ⟨more, hm⟩ := grown b hb
        exact ⟨_, hm⟩
      · exact ⟨o, same b o hb e⟩
end L2.My
/-! == and != of a text with data of any kind; of lists with the empty one; great powers -/
namespace PySem.SeqAt
open MeetsSeq
open AutoSeq1 (wpAny_loadPart')
theorem dict_eq_no_str (l : Addr) (es : Array DictEntry) (n : Nat) (dd : Option Addr) (sl : Array (Option Value)) (b : Str) (u : Tok) :
    Meets (Builtin.«dict.__eq__» ⟨[.ref l, .str b u], []⟩) (fun _ R s => s.heap.get? l = some { cls := .type "dict", dict := dd, data := .dict es n, slots := sl } ∧ R (.ok (.ret .notImplemented)) s) :=
  .of_wp fun prog w A R s h => by
    obtain ⟨hp, g, d, tk, os⟩ := s
    obtain ⟨hl, h⟩ := h
    have f1 := F.sub_str_dict
    wp_walk using wpAny_loadPart' hl
    exact ⟨_, rfl, h⟩
theorem dict_ne_no_str (l : Addr) (es : Array DictEntry) (n : Nat) (dd : Option Addr) (sl : Array (Option Value)) (b : Str) (u : Tok) :
    Meets (Builtin.«dict.__ne__» ⟨[.ref l, .str b u], []⟩) (fun _ R s => s.heap.get? l = some { cls := .type "dict", dict := dd, data := .dict es n, slots := sl } ∧ R (.ok (.ret .notImplemented)) s) :=
  .of_wp fun prog w A R s h => by
    obtain ⟨hp, g, d, tk, os⟩ := s
    obtain ⟨hl, h⟩ := h
    have f1 := F.sub_str_dict
    wp_walk using wpAny_loadPart' hl
    exact ⟨_, rfl, h⟩
theorem str_eq_no_dict (b : Str) (u : Tok) (l : Addr) (es : Array DictEntry) (n : Nat) (dd : Option Addr) (sl : Array (Option Value)) :
    Meets (Builtin.«str.__eq__» ⟨[.str b u, .ref l], []⟩) (fun _ R s => s.heap.get? l = some { cls := .type "dict", dict := dd, data := .dict es n, slots := sl } ∧ R (.ok (.ret .notImplemented)) s) :=
  .of_wp fun prog w A R s h => by
    obtain ⟨hp, g, d, tk, os⟩ := s
    obtain ⟨hl, h⟩ := h
    wp_walk using wpAny_loadPart' hl, wpAny_load hl
    exact ⟨_, rfl, h⟩
theorem str_ne_no_dict (b : Str) (u : Tok) (l : Addr) (es : Array DictEntry) (n : Nat) (dd : Option Addr) (sl : Array (Option Value)) :
    Meets (Builtin.«str.__ne__» ⟨[.str b u, .ref l], []⟩) (fun _ R s => s.heap.get? l = some { cls := .type "dict", dict := dd, data := .dict es n, slots := sl } ∧ R (.ok (.ret .notImplemented)) s) :=
  .of_wp fun prog w A R s h => by
    obtain ⟨hp, g, d, tk, os⟩ := s
    obtain ⟨hl, h⟩ := h
    wp_walk using wpAny_loadPart' hl, wpAny_load hl
    exact ⟨_, rfl, h⟩
section
variable {A : Around} {s : Shared}
theorem RcAt.dict_str {l : Addr} {es : Array DictEntry} {n : Nat} {dd : Option Addr} {sl : Array (Option Value)} (b : Str) (u : Tok) (ho : s.heap.get? l = some { cls := .type "dict", dict := dd, data := .dict es n, slots := sl }) (hu : A.units < cLine) : RcAt A s (.ref l) (.str b u) false :=
  fun prog w E Q h => rc_eq_decline_or (k := false) ⟨_, ho, rfl⟩ (typeIs_str s b u) (by decide) F.sub_str_dict F.slot_dict_eq F.slot_str_eq_refl
    (fun _ hq => call_meets F.slot_dict_eq ⟨_, ho, rfl⟩ F.entry_dict_eq (F.args_dict_eq_2 _ _) (dict_eq_no_str l es n dd sl b u) ⟨ho, hq⟩)
    (fun _ hq => call_meets F.slot_str_eq_refl (typeIs_str s b u) F.entry_str_eq (F.args_str_eq_2 _ _) (str_eq_no_dict b u l es n dd sl) ⟨ho, hq⟩)
    (fun _ hq => wpAny_of_eq (rfl : isSame (.ref l) (.str b u) = pure false) hq) (.inr hu) h
theorem RcNeAt.dict_str {l : Addr} {es : Array DictEntry} {n : Nat} {dd : Option Addr} {sl : Array (Option Value)} (b : Str) (u : Tok) (ho : s.heap.get? l = some { cls := .type "dict", dict := dd, data := .dict es n, slots := sl }) (hu : A.units < cLine) : RcNeAt A s (.ref l) (.str b u) true :=
  fun prog w E Q h => rc_ne_decline_or (k := false) ⟨_, ho, rfl⟩ (typeIs_str s b u) (by decide) F.sub_str_dict F.slot_dict_ne F.slot_str_ne_refl
    (fun _ hq => call_meets F.slot_dict_ne ⟨_, ho, rfl⟩ F.entry_dict_ne (F.args_dict_ne_2 _ _) (dict_ne_no_str l es n dd sl b u) ⟨ho, hq⟩)
    (fun _ hq => call_meets F.slot_str_ne_refl (typeIs_str s b u) F.entry_str_ne (F.args_str_ne_2 _ _) (str_ne_no_dict b u l es n dd sl) ⟨ho, hq⟩)
    (fun _ hq => wpAny_of_eq (rfl : isSame (.ref l) (.str b u) = pure false) hq) (.inr hu) h
end
end PySem.SeqAt
namespace L2.My
open PySem PySem.Spec PyProof.Rows
/-- a value as a text sees it: the text that it is, or none -/
inductive AsText (H : Hp) : V → Option Str → Prop
  | str (z : Str) : AsText H (.str z) (some z)
  | non : AsText H .non none
  | bl (b : Bool) : AsText H (.bl b) none
  | int (i : Int) : AsText H (.int i) none
  | lst {a : Addr} {xs : List V} (e : H a = some (.lst xs)) : AsText H (.ref a) none
  | tup {a : Addr} {xs : List V} (e : H a = some (.tup xs)) : AsText H (.ref a) none
  | dic {a : Addr} {kvs : List (Key × V)} (e : H a = some (.dK kvs)) : AsText H (.ref a) none
section
variable {X : Cx} {pins : List (Addr × Obj)} {σ : L2.St} {H : Hp} {s : Shared}
theorem dict_get (I : Inv X pins σ H s) {a : Addr} {kvs : List (Key × V)} (e : H a = some (.dK kvs)) : ∃ dd es n sl, s.heap.get? a = some { cls := .type "dict", dict := dd, data := .dict es n, slots := sl } := by
  obtain ⟨_, _, vs, _, o, es, ep, h1, h2, h3, _⟩ := (show ObjOk X.prog X.w H s.heap a (.dK kvs) from I.hok a _ e)
  obtain ⟨oc, od, dt, sl⟩ := o
  obtain ⟨c1, _⟩ := h2
  simp only at c1 h3
  subst c1 h3
  exact ⟨od, es, ep, sl, h1⟩
def rEqX : R2 := fun x y H Q => ∃ k z, y = .str z ∧ AsText H x k ∧ Q (.bl (decide (k = some z))) H
def rNeX : R2 := fun x y H Q => ∃ k z, y = .str z ∧ AsText H x k ∧ Q (.bl (!decide (k = some z))) H
theorem some_eq (a b : Str) : decide ((some a : Option Str) = some b) = (a == b) := by
  by_cases e : a = b
  · subst e
    simp
  · simp [e]
theorem op_eqX (hu : X.A.units < cLine) : OpR X (compareOp .Eq) rEqX := by
  intro pins s σ H x y v u Q I rx ry h
  obtain ⟨k, z, rfl, tx, q⟩ := h
  obtain ⟨t, rfl⟩ := ry
  have done : ∀ b : Bool, decide (k = some z) = b → EP X pins σ Q (.bool b) s := fun b e => ⟨.bl b, H, I, rfl, e ▸ q⟩
  cases tx with
  | str z' =>
    obtain ⟨t', rfl⟩ := rx
    exact SeqAt.RcAt.str_str z' t' z t _ _ _ _ (done _ (some_eq z' z))
  | non =>
    cases rx
    exact SeqAt.RcAt.none_str z t _ _ _ _ (done _ (by simp))
  | bl b =>
    cases rx
    exact SeqAt.RcAt.bool_str b z t _ _ _ _ (done _ (by simp))
  | int i =>
    obtain ⟨t', rfl⟩ := rx
    exact SeqAt.RcAt.int_str i t' z t _ _ _ _ (done _ (by simp))
  | @lst a xs e =>
    cases rx
    obtain ⟨_, its, n, _, h1⟩ := (show ObjOk X.prog X.w H s.heap a (.lst xs) from I.hok a _ e)
    exact SeqAt.RcAt.list_str z t ⟨_, h1, rfl, n, rfl⟩ hu _ _ _ _ (done _ (by simp))
  | @tup a xs e =>
    cases rx
    obtain ⟨_, its, _, o, h1, h2, n, h3⟩ := (show ObjOk X.prog X.w H s.heap a (.tup xs) from I.hok a _ e)
    exact SeqAt.RcAt.tuple_str z t ⟨_, h1, h2, n, h3⟩ hu _ _ _ _ (done _ (by simp))
  | @dic a kvs e =>
    cases rx
    obtain ⟨dd, es, n, sl, h1⟩ := dict_get I e
    exact SeqAt.RcAt.dict_str z t h1 hu _ _ _ _ (done _ (by simp))
theorem op_neX (hu : X.A.units < cLine) : OpR X (compareOp .NotEq) rNeX := by
  intro pins s σ H x y v u Q I rx ry h
  obtain ⟨k, z, rfl, tx, q⟩ := h
  obtain ⟨t, rfl⟩ := ry
  have done : ∀ b : Bool, (!decide (k = some z)) = b → EP X pins σ Q (.bool b) s := fun b e => ⟨.bl b, H, I, rfl, e ▸ q⟩
  cases tx with
  | str z' =>
    obtain ⟨t', rfl⟩ := rx
    exact SeqAt.RcNeAt.str_str z' t' z t _ _ _ _ (done _ (by rw [some_eq z' z]))
  | non =>
    cases rx
    exact SeqAt.RcNeAt.none_str z t _ _ _ _ (done _ (by simp))
  | bl b =>
    cases rx
    exact SeqAt.RcNeAt.bool_str b z t _ _ _ _ (done _ (by simp))
  | int i =>
    obtain ⟨t', rfl⟩ := rx
    exact SeqAt.RcNeAt.int_str i t' z t _ _ _ _ (done _ (by simp))
  | @lst a xs e =>
    cases rx
    obtain ⟨_, its, n, _, h1⟩ := (show ObjOk X.prog X.w H s.heap a (.lst xs) from I.hok a _ e)
    exact SeqAt.RcNeAt.list_str z t ⟨_, h1, rfl, n, rfl⟩ hu _ _ _ _ (done _ (by simp))
  | @tup a xs e =>
    cases rx
    obtain ⟨_, its, _, o, h1, h2, n, h3⟩ := (show ObjOk X.prog X.w H s.heap a (.tup xs) from I.hok a _ e)
    exact SeqAt.RcNeAt.tuple_str z t ⟨_, h1, h2, n, h3⟩ hu _ _ _ _ (done _ (by simp))
  | @dic a kvs e =>
    cases rx
    obtain ⟨dd, es, n, sl, h1⟩ := dict_get I e
    exact SeqAt.RcNeAt.dict_str z t h1 hu _ _ _ _ (done _ (by simp))
/-- xs == [] -/
def rEqNil : R2 := fun x y H Q => ∃ a b xs, x = .ref a ∧ y = .ref b ∧ H a = some (.lst xs) ∧ H b = some (.lst []) ∧ Q (.bl xs.isEmpty) H
theorem op_eqNil (hu : X.A.units < cLine) : OpR X (compareOp .Eq) rEqNil := by
  intro pins s σ H x y v u Q I rx ry h
  obtain ⟨a, b, xs, rfl, rfl, ea, eb, q⟩ := h
  cases rx
  cases ry
  obtain ⟨_, its, n, r1, h1⟩ := (show ObjOk X.prog X.w H s.heap a (.lst xs) from I.hok a _ ea)
  obtain ⟨_, its2, n2, r2, h2⟩ := (show ObjOk X.prog X.w H s.heap b (.lst []) from I.hok b _ eb)
  cases r2
  have la : s.heap.IsList a its.toArray := ⟨_, h1, rfl, n, rfl⟩
  have lb : s.heap.IsList b #[] := ⟨_, h2, rfl, n2, rfl⟩
  cases r1 with
  | nil => exact SeqAt.RcAt.lists (e := fun _ => true) la lb rfl hu (fun j h1 _ => absurd h1 (by simp)) _ _ _ _ ⟨.bl true, H, I, rfl, q⟩
  | cons r t => exact SeqAt.RcAt.lists_lengths la lb (by simp) hu _ _ _ _ ⟨.bl false, H, I, rfl, q⟩
/-- t != () -/
def rNeUnit : R2 := fun x y H Q => ∃ a b xs, x = .ref a ∧ y = .ref b ∧ H a = some (.tup xs) ∧ H b = some (.tup []) ∧ Q (.bl (!xs.isEmpty)) H
theorem op_neUnit (hu : X.A.units < cLine) : OpR X (compareOp .NotEq) rNeUnit := by
  intro pins s σ H x y v u Q I rx ry h
  obtain ⟨a, b, xs, rfl, rfl, ea, eb, q⟩ := h
  cases rx
  cases ry
  obtain ⟨_, its, r1, o, h1, h2, n, h3⟩ := (show ObjOk X.prog X.w H s.heap a (.tup xs) from I.hok a _ ea)
  obtain ⟨_, its2, r2, o2, g1, g2, n2, g3⟩ := (show ObjOk X.prog X.w H s.heap b (.tup []) from I.hok b _ eb)
  cases r2
  have la : s.heap.IsTuple a its.toArray := ⟨_, h1, h2, n, h3⟩
  have lb : s.heap.IsTuple b #[] := ⟨_, g1, g2, n2, g3⟩
  refine SeqAt.RcNeAt.tuples (e := fun _ => true) la lb hu (fun j _ h2 => absurd h2 (by simp)) _ _ _ _ ?_
  cases r1 with
  | nil => exact ⟨.bl false, H, I, rfl, q⟩
  | cons r t => exact ⟨.bl true, H, I, by simp [RelV], q⟩
/-- a great power -/
def CPowW (i j : Int) : Prop := 0 ≤ j ∧ (Builtin.Int.intBits i : Int) * j ≤ 2 ^ 27
theorem op_powW : OpR X (binaryOp .Pow) (rI CPowW fun i j => .int (i ^ j.toNat)) := opI fun _ _ _ _ _ _ _ hc q => pow_int hc.1 hc.2 q
end
end L2.My
/-! a tuple of any data compared with a tuple of one text -/
namespace L2.My
open PySem PySem.Spec PyProof.Rows
section
variable {A : Around} {s : Shared}
/-- what == tells of a text, where the two are not the same object -/
theorem eqAt_of {x : Value} {z : Str} {t : Tok} {k : Bool} (ne : x ≠ .str z t) (h : SeqAt.RcAt A s x (.str z t) k) : SeqAt.EqAt A s x (.str z t) k := fun prog w E Q q => by
  unfold eqBool
  refine wpAny_holding (wpAny_ite_split (fun c => absurd (eq_of_beq c) ne) fun _ => ?_)
  cases x <;> exact wpAny_bind (h prog w E _ (wpAny_truthy_bool q))
end
section
variable {X : Cx} {pins : List (Addr × Obj)} {σ : L2.St} {H : Hp} {s : Shared}
/-- one item against a text -/
theorem item_text (I : Inv X pins σ H s) {v : V} {u : Value} {k : Option Str} (r : RelV v u) (t : AsText H v k) (z : Str) (tk : Tok) {A : Around} (hu : A.units < cLine) : SeqAt.EqAt A s u (.str z tk) (decide (k = some z)) := by
  cases t with
  | str z' =>
    obtain ⟨t', rfl⟩ := r
    rw [some_eq]
    exact SeqAt.EqAt.str_str z' t' z tk
  | non =>
    cases r
    exact eqAt_of (by intro e; cases e) (SeqAt.RcAt.none_str z tk)
  | bl b =>
    cases r
    exact eqAt_of (by intro e; cases e) (SeqAt.RcAt.bool_str b z tk)
  | int i =>
    obtain ⟨t', rfl⟩ := r
    exact eqAt_of (by intro e; cases e) (SeqAt.RcAt.int_str i t' z tk)
  | @lst a xs e =>
    cases r
    obtain ⟨_, its, n, _, h1⟩ := (show ObjOk X.prog X.w H s.heap a (.lst xs) from I.hok a _ e)
    exact eqAt_of (by intro e; cases e) (SeqAt.RcAt.list_str z tk ⟨_, h1, rfl, n, rfl⟩ hu)
  | @tup a xs e =>
    cases r
    obtain ⟨_, its, _, o, h1, h2, n, h3⟩ := (show ObjOk X.prog X.w H s.heap a (.tup xs) from I.hok a _ e)
    exact eqAt_of (by intro e; cases e) (SeqAt.RcAt.tuple_str z tk ⟨_, h1, h2, n, h3⟩ hu)
  | @dic a kvs e =>
    cases r
    obtain ⟨dd, es, n, sl, h1⟩ := dict_get I e
    exact eqAt_of (by intro e; cases e) (SeqAt.RcAt.dict_str z tk h1 hu)
/-- the tuple is (z,) -/
def isTag : List (Option Str) → Str → Bool
  | [k], z => decide (k = some z)
  | _, _ => false
/-- items as a text sees them -/
inductive Texts (H : Hp) : List V → List (Option Str) → Prop
  | nil : Texts H [] []
  | cons {v : V} {k : Option Str} {vs : List V} {ks : List (Option Str)} (t : AsText H v k) (r : Texts H vs ks) : Texts H (v :: vs) (k :: ks)
def rEqTag : R2 := fun x y H Q => ∃ a b xs ks z, x = .ref a ∧ y = .ref b ∧ H a = some (.tup xs) ∧ H b = some (.tup [.str z]) ∧ Texts H xs ks ∧ Q (.bl (isTag ks z)) H
theorem op_eqTag (hu : X.A.units + 1 < cLine) : OpR X (compareOp .Eq) rEqTag := by
  intro pins s σ H x y v u Q I rx ry h
  obtain ⟨a, b, xs, ks, z, rfl, rfl, ea, eb, tx, q⟩ := h
  cases rx
  cases ry
  obtain ⟨_, its, r1, o, h1, h2, n, h3⟩ := (show ObjOk X.prog X.w H s.heap a (.tup xs) from I.hok a _ ea)
  obtain ⟨_, its2, r2, o2, g1, g2, n2, g3⟩ := (show ObjOk X.prog X.w H s.heap b (.tup [.str z]) from I.hok b _ eb)
  have la : s.heap.IsTuple a its.toArray := ⟨_, h1, h2, n, h3⟩
  cases r2 with
  | @cons _ w _ ws rz rn =>
    cases rn
    obtain ⟨tk, rfl⟩ := rz
    have lb : s.heap.IsTuple b #[.str z tk] := ⟨_, g1, g2, n2, g3⟩
    refine SeqAt.RcAt.tuples (e := fun _ => isTag [ks.headD none] z) la lb (Nat.lt_of_succ_lt hu) (fun j j1 j2 => ?_) _ _ _ _ ?_
    · have j0 : j = 0 := by
        have : j < 1 := j2
        omega
      subst j0
      cases r1 with
      | nil => exact absurd j1 (by simp)
      | @cons v w vs ws r t =>
        cases tx with
        | cons t0 tr => exact item_text I r t0 z tk hu
    · cases r1 with
      | nil =>
        cases tx
        exact ⟨.bl false, H, I, rfl, q⟩
      | @cons v w vs ws r t =>
        cases tx with
        | @cons _ k _ kr t0 tr =>
          cases t with
          | nil =>
            cases tr
            exact ⟨.bl _, H, I, by simp [RelV, List.range_succ], q⟩
          | cons r' t' =>
            cases tr
            exact ⟨.bl false, H, I, by simp [RelV], q⟩
end
end L2.My
/-! repr of an empty dict -/
namespace L2.My
open PySem PySem.Spec PyProof.Rows
section
variable {X : Cx} {pins : List (Addr × Obj)} {σ : L2.St} {H : Hp} {s : Shared}
theorem dict_nil (I : Inv X pins σ H s) {a : Addr} (e : H a = some (.dK [])) : (a == sysModules) = false ∧ ∃ o n, s.heap.get? a = some o ∧ o.cls = .type "dict" ∧ o.data = .dict #[] n := by
  obtain ⟨_, q0, vs, q1, o, es, ep, h1, h2, h3, h4⟩ := (show ObjOk X.prog X.w H s.heap a (.dK []) from I.hok a _ e)
  cases q1
  have z : es = #[] := by
    have p := h4.2.1
    have p2 : es.toList = [] := by
      cases q : es.toList with
      | nil => rfl
      | cons x r =>
        rw [q] at p
        cases p
    exact Array.ext' p2
  subst z
  exact ⟨q0, o, ep, h1, h2.1, h3⟩
/-- repr(d) of an empty dict -/
def rReprNil : List V → Hp → VK → Prop := fun xs H Q => ∃ a, xs = [.ref a] ∧ H a = some (.dK []) ∧ Q (.str "{}") H
theorem call_reprNil (gd : X.A.guards = some []) (hu : X.A.units + 70 < cLine) : CallR X (.builtin "repr") rReprNil := by
  intro pins s σ H xs us Q I r h
  obtain ⟨a, rfl, e, q⟩ := h
  obtain ⟨ne, o, n, h1, h2, h3⟩ := dict_nil I e
  cases r with
  | cons ra rn =>
    cases rn
    cases ra
    have rd : Reads s.heap (.ref a) (.dict []) ([a] ++ []) := .dict h1 h2 h3 (by simpa using ReadsAll.nil) (by simpa using ReadsAll.nil)
    refine repr_of_reads' rd (by rfl) (fun _ hm => ?_) gd (by show X.A.units + (_ + 1) < cLine; have : (PyData.dict []).depth = 1 := rfl; omega) (fun _ _ e => e) (fun h' t tk hk => ?_) (by decide +kernel)
    · have hm2 : sysModules = a := by simpa using hm
      rw [hm2] at ne
      simp at ne
    · have z : (PyData.dict []).shown = "{}" := by decide +kernel
      rw [z]
      exact ⟨.str _, H, I.kept (t' := tk) hk, ⟨t, rfl⟩, q⟩
end
end L2.My
namespace K18
open PySem L2
open L2.My
def top (i : Nat) : Stmt := PySem.Challenge.pw_loopfoundry_k18_shapes_and_patterns_judg.main.body.getD i (.Pass ⟨0, 0, 0, 0⟩)
abbrev tName : Stmt := top 5
abbrev tWhole : Stmt := top 6
abbrev tInteger : Stmt := top 7
abbrev tBetween : Stmt := top 8
abbrev tShape : Stmt := top 12
abbrev tWorking : Stmt := top 13
abbrev tTogether : Stmt := top 14
abbrev tUse : Stmt := top 18
abbrev tUses : Stmt := top 19
abbrev tMove : Stmt := top 20
abbrev tPattern : Stmt := top 21
abbrev tUrn : Stmt := top 23
abbrev tPull : Stmt := top 24
abbrev tOne : Stmt := top 25
abbrev tSome : Stmt := top 26
abbrev tMenu : Stmt := top 27
abbrev tPatterns : Stmt := top 28
abbrev tWord : Stmt := top 29
abbrev tSize : Stmt := top 30
abbrev tFrom : Stmt := top 31
abbrev tAreUses : Stmt := top 32
abbrev tRule : Stmt := top 33
abbrev tBent : Stmt := top 34
abbrev tRight : Stmt := top 35
abbrev tLaw : Stmt := top 36
/-! ### growing heaps -/
theorem grow {H : Hp} {p : Addr} {o : HO} (hp : H p = none) : Same H (upd H p o) := fun b u e => by rw [upd_ne (ne_of_none e hp)]; exact e
/-! ### data: what the checks are asked of -/
inductive Tv (H : Hp) (N : Nat) : Nat → V → Prop
  | non {n : Nat} : Tv H N n .non
  | bl {n : Nat} (b : Bool) : Tv H N n (.bl b)
  | int {n : Nat} (i : Int) (h : i.natAbs < 10 ^ 40) : Tv H N n (.int i)
  | str {n : Nat} (z : Str) (h : z.length ≤ 100) : Tv H N n (.str z)
  | lst {n : Nat} {a : Addr} {xs : List V} (e : H a = some (.lst xs)) : Tv H N n (.ref a)
  | dct {n : Nat} {a : Addr} {kvs : List (Key × V)} (e : H a = some (.dK kvs)) : Tv H N n (.ref a)
  | tup {n : Nat} {a : Addr} {xs : List V} (e : H a = some (.tup xs)) (l : xs.length ≤ N) (h : ∀ x ∈ xs, Tv H N n x) : Tv H N (n + 1) (.ref a)
def IsL (H : Hp) (p : Addr) : Prop := ∃ xs, H p = some (.lst xs)
/-- tuples and dicts stay, lists stay lists -/
structure Kp (H H' : Hp) : Prop where
  tup : ∀ a xs, H a = some (.tup xs) → H' a = some (.tup xs)
  lst : ∀ a, IsL H a → IsL H' a
  dct : ∀ a (kvs : List (Key × V)), H a = some (.dK kvs) → H' a = some (.dK kvs)
theorem Kp.of {H H' : Hp} (s : Same H H') : Kp H H' := ⟨fun _ _ e => s _ _ e, fun _ ⟨_, e⟩ => ⟨_, s _ _ e⟩, fun _ _ e => s _ _ e⟩
theorem Kp.refl {H : Hp} : Kp H H := ⟨fun _ _ e => e, fun _ e => e, fun _ _ e => e⟩
theorem Kp.trans {H H1 H2 : Hp} (a : Kp H H1) (b : Kp H1 H2) : Kp H H2 := ⟨fun _ _ e => b.tup _ _ (a.tup _ _ e), fun _ e => b.lst _ (a.lst _ e), fun _ _ e => b.dct _ _ (a.dct _ _ e)⟩
theorem Kp.upd {H : Hp} {p : Addr} {xs ys : List V} (e : H p = some (.lst xs)) : Kp H (upd H p (.lst ys)) := by
  refine ⟨fun a zs e2 => ?_, fun a e2 => ?_, fun a k e2 => ?_⟩
  · rw [upd_ne (fun c => by subst c; rw [e] at e2; cases e2)]
    exact e2
  · by_cases c : a = p
    · subst c
      exact ⟨_, upd_same⟩
    · obtain ⟨zs, e2⟩ := e2
      exact ⟨zs, by rw [upd_ne c]; exact e2⟩
  · rw [upd_ne (fun c => by subst c; rw [e] at e2; cases e2)]
    exact e2
theorem Tv.kp {H H' : Hp} {N n : Nat} {v : V} (t : Tv H N n v) (s : Kp H H') : Tv H' N n v := by
  induction t with
  | non => exact .non
  | bl b => exact .bl b
  | int i h => exact .int i h
  | str z h => exact .str z h
  | lst e =>
    obtain ⟨ys, e2⟩ := s.lst _ ⟨_, e⟩
    exact .lst e2
  | dct e => exact .dct (s.dct _ _ e)
  | tup e l h ih => exact .tup (s.tup _ _ e) l ih
theorem Tv.up {H : Hp} {N n : Nat} {v : V} (t : Tv H N n v) : Tv H N (n + 1) v := by
  induction t with
  | non => exact .non
  | bl b => exact .bl b
  | int i h => exact .int i h
  | str z h => exact .str z h
  | lst e => exact .lst e
  | dct e => exact .dct e
  | tup e l h ih => exact .tup e l ih
theorem Tv.upN {H : Hp} {N n m : Nat} {v : V} (t : Tv H N n v) (h : n ≤ m) : Tv H N m v := by
  obtain ⟨k, rfl⟩ := Nat.le.dest h
  clear h
  induction k with
  | zero => exact t
  | succ k ih => exact ih.up
theorem Tv.wide {H : Hp} {N M n : Nat} {v : V} (t : Tv H N n v) (le : N ≤ M) : Tv H M n v := by
  induction t with
  | non => exact .non
  | bl b => exact .bl b
  | int i h => exact .int i h
  | str z h => exact .str z h
  | lst e => exact .lst e
  | dct e => exact .dct e
  | tup e l h ih => exact .tup e (Nat.le_trans l le) ih
/-- all but the loom at p is as it was -/
def But (p : Addr) (H H' : Hp) : Prop := ∀ q, q ≠ p → ∀ o, H q = some o → H' q = some o
theorem But.refl {p : Addr} {H : Hp} : But p H H := fun _ _ _ e => e
theorem But.trans {p : Addr} {H H1 H2 : Hp} (a : But p H H1) (b : But p H1 H2) : But p H H2 := fun q hq o e => b q hq o (a q hq o e)
theorem But.of {p : Addr} {H H' : Hp} (s : Same H H') : But p H H' := fun q _ o e => s q o e
theorem But.fresh {p : Addr} {H H' : Hp} (b : But p H H') (d : H p = none) : Same H H' := fun q o e => b q (ne_of_none e d) o e
theorem But.kp {H H' : Hp} {p : Addr} (s : But p H H') (l : IsL H p) (l' : IsL H' p) : Kp H H' := by
  obtain ⟨ys, e0⟩ := l
  refine ⟨fun a xs e => s _ (fun c => by subst c; rw [e] at e0; cases e0) _ e, fun a e => ?_, fun a xs e => s _ (fun c => by subst c; rw [e] at e0; cases e0) _ e⟩
  by_cases c : a = p
  · subst c
    exact l'
  · obtain ⟨zs, e⟩ := e
    exact ⟨zs, s _ c _ e⟩
/-! ### what the checks tell, of a heap -/
def nameZ (z : Str) : Bool := decide (1 ≤ z.length) && decide (z.length ≤ 8) && z.cps.toList.all fun c => decide (97 ≤ c) && decide (c ≤ 122)
def nameB : V → Bool
  | .str z => nameZ z
  | _ => false
def inB (i : Int) : Bool := decide (-(10 ^ 30) < i) && decide (i < 10 ^ 30)
def integB : V → Bool
  | .int i => inB i
  | _ => false
def betw (lo hi : Int) : V → Bool
  | .int i => decide (lo ≤ i) && decide (i ≤ hi)
  | _ => false
def tupV (H : Hp) : V → Option (List V)
  | .ref a => match H a with
    | some (.tup xs) => some xs
    | _ => none
  | _ => none
def strOf : V → Option Str
  | .str z => some z
  | _ => none
def isS (v : V) (z : Str) : Bool := decide (strOf v = some z)
theorem Tv.text {H : Hp} {N n : Nat} {v : V} (t : Tv H N n v) : AsText H v (strOf v) := by
  cases t with
  | non => exact .non
  | bl b => exact .bl b
  | int i h => exact .int i
  | str z h => exact .str z
  | lst e => exact .lst e
  | dct e => exact .dic e
  | tup e l h => exact .tup e
theorem tupV_of {H : Hp} {a : Addr} {xs : List V} (e : H a = some (.tup xs)) : tupV H (.ref a) = some xs := by
  show (match H a with | some (.tup xs) => some xs | _ => none) = _
  rw [e]
theorem tupV_kp {H H' : Hp} {N n : Nat} {v : V} (t : Tv H N n v) (s : Kp H H') : tupV H' v = tupV H v := by
  cases t with
  | non => rfl
  | bl b => rfl
  | int i h => rfl
  | str z h => rfl
  | lst e =>
    obtain ⟨ys, e2⟩ := s.lst _ ⟨_, e⟩
    simp only [tupV, e, e2]
  | dct e =>
    have e2 := s.dct _ _ e
    simp only [tupV, e, e2]
  | tup e l h => rw [tupV_of e, tupV_of (s.tup _ _ e)]
structure Txt (mg : Str → Option Value) : Prop where
  isi : mg "isinstance" = none
  int : mg "int" = none
  bool : mg "bool" = none
  str : mg "str" = none
  tuple : mg "tuple" = none
  list : mg "list" = none
  len : mg "len" = none
  all : mg "all" = none
  abs : mg "abs" = none
  long : ∃ t, mg "LONG" = some (.int (10 ^ 30) t)
  letters8 : ∃ t, mg "MAX_LETTERS" = some (.int 8 t)
  letters : ∃ t, mg "LETTERS" = some (.str "abcdefghijklmnopqrstuvwxyz" t)
theorem Tv.ty {K : PySem.W.Frag} {H : Hp} {N n : Nat} {v : V} (t : Tv H N n v) : ∃ z : String, z ∈ ["NoneType", "bool", "int", "str", "list", "dict", "tuple"] ∧ TyX K H v (.type z) ∧ (z = "str" ↔ ∃ y, v = .str y) ∧ (z = "tuple" ↔ ∃ xs, tupV H v = some xs) ∧ (z = "int" ↔ ∃ i, v = .int i) ∧ (z = "bool" ↔ ∃ b, v = .bl b) := by
  cases t with
  | non => exact ⟨"NoneType", by decide, .base .non, by simp, by simp [tupV], by simp, by simp⟩
  | bl b => exact ⟨"bool", by decide, .base (.bl b), by simp, by simp [tupV], by simp, by simp⟩
  | int i h => exact ⟨"int", by decide, .base (.int i), by simp, by simp [tupV], by simp, by simp⟩
  | str z h => exact ⟨"str", by decide, .base (.str z), by simp, by simp [tupV], by simp, by simp⟩
  | lst e => exact ⟨"list", by decide, .base (.lst e), by simp, by simp [tupV, e], by simp, by simp⟩
  | dct e => exact ⟨"dict", by decide, .base (.dK e), by simp, by simp [tupV, e], by simp, by simp⟩
  | tup e l h => exact ⟨"tuple", by decide, .base (.tup e), by simp, by simp [tupV, e], by simp, by simp⟩
end K18
namespace K18
open PySem L2
open L2.My
theorem iteD {c A B : Prop} [Decidable c] (hc : c) (h : A) : if decide c = true then A else B := by
  rw [decide_eq_true hc]
  exact iteT h
theorem iteDn {c A B : Prop} [Decidable c] (hc : ¬ c) (h : B) : if decide c = true then A else B := by
  rw [decide_eq_false hc]
  exact iteF h
theorem letters_range (c : Nat) : decide (c ∈ ("abcdefghijklmnopqrstuvwxyz" : Str).cps.toList) = (decide (97 ≤ c) && decide (c ≤ 122)) := by
  have e : ("abcdefghijklmnopqrstuvwxyz" : Str).cps.toList = [97,98,99,100,101,102,103,104,105,106,107,108,109,110,111,112,113,114,115,116,117,118,119,120,121,122] := by decide +kernel
  rw [e]
  apply Bool.eq_iff_iff.mpr
  simp only [decide_eq_true_eq, Bool.and_eq_true, List.mem_cons, List.not_mem_nil, or_false]
  omega
theorem take_step {α β : Type} (f : α → β) {xs : List α} {i : Nat} {x : α} (h : xs[i]? = some x) : (xs.take (i + 1)).map f = (xs.take i).map f ++ [f x] := by
  obtain ⟨hi, hx⟩ := List.getElem?_eq_some_iff.mp h
  rw [← hx, List.take_succ_eq_append_getElem hi, List.map_append, List.map_singleton]
theorem all_map_id {α : Type} (f : α → Bool) (xs : List α) : (xs.map f).all id = xs.all f := by
  rw [List.all_map]
  rfl
/-- H with the list xs at D, which is new since H0 -/
def Acc (H0 : Hp) (D : Addr) (xs : List V) (H : Hp) : Prop := Same H0 H ∧ H0 D = none ∧ H D = some (.lst xs)
theorem Acc.start {H0 : Hp} {D : Addr} (hD : H0 D = none) : Acc H0 D [] (upd H0 D (.lst [])) := ⟨grow hD, hD, upd_same⟩
theorem Acc.put {H0 H : Hp} {D : Addr} {xs ys : List V} (a : Acc H0 D xs H) : Acc H0 D ys (upd H D (.lst ys)) :=
  ⟨fun q o e => by rw [upd_ne (ne_of_none e a.2.1)]; exact a.1 q o e, a.2.1, upd_same⟩
theorem Acc.on {H0 H H' : Hp} {D : Addr} {xs : List V} (a : Acc H0 D xs H) (s : Same H H') : Acc H0 D xs H' := ⟨fun q o e => s _ _ (a.1 q o e), a.2.1, s _ _ a.2.2⟩
section
variable {P : Program} {w : World} {K : PySem.W.Frag} {mg : Str → Option Value} {base : Heap}
/-! ### is_name -/
def spV (N m : Nat) (f : V → Bool) : Sp := fun vs H Q _ => ∃ x, vs = [x] ∧ Tv H N m x ∧ ∀ H', Same H H' → Q (.bl (f x)) H'
def spB (N m : Nat) (f : Hp → V → Bool) : Sp := fun vs H Q _ => ∃ x, vs = [x] ∧ Tv H N m x ∧ ∀ H', Same H H' → Q (.bl (f H x)) H'
theorem scName : FnScope ["value", "letter"] ["value"] (defScope tName) := ⟨rfl, rfl, rfl, by decide +kernel, rfl, by decide +kernel, by decide +kernel⟩
theorem ok_name {N m : Nat} {f : Addr} {fd : FuncData} (F : Fun K "is_name" "is_name" tName f fd) (T : Txt mg) : FnOk P w K mg base CX0 1 f fd ["value"] (spV N m nameB) := by
  obtain ⟨t8, l8⟩ := T.letters8
  obtain ⟨tL, lL⟩ := T.letters
  refine F.ok scName (fun vs H Q E h => ?_) (fun cdv A outer s H vs Q E hr h => ?_)
  · obtain ⟨x, rfl, _⟩ := h
    rfl
  · obtain ⟨x, rfl, tx, k⟩ := h
    refine ⟨_, pss_cons (ps_if (PW.pt (pw_or (pt_not (pt_val (pe_callB call_isi (by rfl) T.isi (by decide +kernel) (pa_cons (pv 0) (pa_cons (pe_bltn (v := .ty "str") (by rfl) T.str (by decide +kernel) rfl) pa_nil)))))
        (pw_or1 (pt_not (pt_chain op_le op_le pe_int (pe_callB call_len_str (by rfl) T.len PySem.boot_len (pa_cons (pv 0) pa_nil)) (pe_glob (v := .int 8) rfl l8 ⟨_, rfl⟩))))))
        (pss_one (ps_ret pe_bl)) pss_nil)
      (pss_one (ps_ret (pe_callB (cr_all (by rfl)) (by rfl) T.all (by decide +kernel) (pa_cons (pe_lc (own := [("letter", 1)]) (g := gName 1) (tt := tYes) (by rfl) scName.nd (pi_str (pv 0)) (blkOk_by (own := [("letter", 1)]) (N := ["value", "letter"]) (sc := defScope tName) (by decide +kernel))
        (fun _ _ _ _ _ => pg_name (i := 1) scName.nd rfl (Or.inl rfl)) (fun _ _ _ _ _ => pts_nil) (fun _ _ _ _ _ => pe_cmpR op_in_sign (pv 1) (pe_glob (v := .str "abcdefghijklmnopqrstuvwxyz") rfl lL ⟨_, rfl⟩) (by rfl))) pa_nil)))), ?_⟩
    obtain ⟨z, hz, ty, q1, _⟩ := tx.ty (K := K)
    by_cases c : z = "str"
    · obtain ⟨y, rfl⟩ := q1.mp c
      cases tx with
      | str _ len =>
      refine ⟨_, rfl, _, _, _, _, _, rfl, ClsV.ty _, .base (.str y), kit_ty (r := true) (by decide +kernel), _, rfl, iteF ?_⟩
      refine ⟨_, rfl, y, rfl, (by have : (100 : Nat) ≤ sizeLine := by decide
                                  omega), _, _, rfl, rfl, _, rfl, ?_⟩
      have nz : nameZ y = (decide (1 ≤ y.length) && decide (y.length ≤ 8) && y.cps.toList.all fun c => decide (97 ≤ c) && decide (c ≤ 122)) := rfl
      by_cases c1 : (1 : Int) ≤ (y.length : Int)
      · refine iteD c1 ⟨_, _, rfl, rfl, _, rfl, ?_⟩
        by_cases c2 : (y.length : Int) ≤ 8
        · rw [decide_eq_true c2]
          refine iteF ?_
          refine ⟨_, rfl, y, rfl, fun D hD => lc_it walk_str (fun i H' => Acc H D (((y.cps.toList.take i).map fun c => decide (c ∈ ("abcdefghijklmnopqrstuvwxyz" : Str).cps.toList)).map V.bl) H') (Acc.start hD) (fun _ _ _ _ => trivial) ?_ ?_⟩
          · rintro i v H1 H2 hi a ⟨rfl, c, hc, rfl⟩
            refine ⟨rfl, _, rfl, c, _, rfl, rfl, _, a.2.2, ?_, ?_⟩
            · rw [List.length_map, List.length_map, List.length_take]
              have : (100 : Nat) ≤ sizeLine := by decide
              have z1 : y.cps.toList.length = y.length := Array.length_toList
              omega
            · have e : y.cps.toList[i]? = some c := by simpa using hc
              rw [take_step _ e, List.map_append]
              exact a.put
          · intro H1 a
            refine ⟨_, _, rfl, SqL.of a.2.2, ?_⟩
            have e : y.cps.toList.take y.cps.size = y.cps.toList := List.take_of_length_le (by simp)
            have e2 : nameB (.str y) = ((y.cps.toList.take y.cps.size).map fun c => decide (c ∈ ("abcdefghijklmnopqrstuvwxyz" : Str).cps.toList)).all id := by
              rw [e, all_map_id]
              show nameZ y = _
              rw [nz, decide_eq_true (show 1 ≤ y.length by omega), decide_eq_true (show y.length ≤ 8 by omega), Bool.true_and, Bool.true_and]
              congr 1
              funext c
              exact (letters_range c).symm
            rw [← e2]
            exact k _ a.1
        · rw [decide_eq_false c2]
          refine iteT ?_
          have nb : nameB (.str y) = false := by
            show nameZ y = false
            rw [nz, decide_eq_false (show ¬ y.length ≤ 8 by omega), Bool.and_false, Bool.false_and]
          rw [← nb]
          exact k H (Same.refl H)
      · refine iteDn c1 ⟨_, rfl, iteT ?_⟩
        have nb : nameB (.str y) = false := by
          show nameZ y = false
          rw [nz, decide_eq_false (show ¬ 1 ≤ y.length by omega), Bool.false_and, Bool.false_and]
        rw [← nb]
        exact k H (Same.refl H)
    · have nb : nameB x = false := by
        cases x with
        | str y => exact absurd (q1.mpr ⟨y, rfl⟩) c
        | _ => rfl
      refine ⟨_, rfl, _, _, _, _, _, rfl, ClsV.ty _, ty, kit_ty (r := false) (by
        simp only [List.mem_cons, List.not_mem_nil, or_false] at hz
        rcases hz with rfl | rfl | rfl | rfl | rfl | rfl | rfl <;> first | exact absurd rfl c | decide +kernel), _, rfl, iteT (iteT ?_)⟩
      rw [← nb]
      exact k H (Same.refl H)
end
end K18
namespace K18
open PySem L2
open L2.My
def wholeB : V → Bool
  | .int _ => true
  | _ => false
theorem inB_iff {i : Int} : inB i = true ↔ -(10 ^ 30) < i ∧ i < 10 ^ 30 := by
  unfold inB
  rw [Bool.and_eq_true, decide_eq_true_eq, decide_eq_true_eq]
section
variable {P : Program} {w : World} {K : PySem.W.Frag} {mg : Str → Option Value} {base : Heap}
/-! ### is_whole, is_integer, is_between -/
theorem scWhole : FnScope ["value"] ["value"] (defScope tWhole) := ⟨rfl, rfl, rfl, by decide +kernel, rfl, by decide +kernel, by decide +kernel⟩
theorem ok_whole {N m : Nat} {f : Addr} {fd : FuncData} (F : Fun K "is_whole" "is_whole" tWhole f fd) (T : Txt mg) : FnOk P w K mg base CX0 1 f fd ["value"] (spV N m wholeB) := by
  refine F.ok scWhole (fun vs H Q E h => ?_) (fun cdv A outer s H vs Q E hr h => ?_)
  · obtain ⟨x, rfl, _⟩ := h
    rfl
  · obtain ⟨x, rfl, it, k⟩ := h
    refine ⟨_, pss_one (ps_ret (pe_and (pe_callB call_isi (by rfl) T.isi (by decide +kernel) (pa_cons (pv 0) (pa_cons (pe_bltn (v := .ty "int") (by rfl) T.int (by decide +kernel) rfl) pa_nil)))
      (pe_one (pe_not (pe_callB call_isi (by rfl) T.isi (by decide +kernel) (pa_cons (pv 0) (pa_cons (pe_bltn (v := .ty "bool") (by rfl) T.bool (by decide +kernel) rfl) pa_nil))))))), ?_⟩
    obtain ⟨z, hz, ty, q1, q2, q3, q4⟩ := it.ty (K := K)
    by_cases c : z = "int" ∨ z = "bool"
    · rcases c with c | c
      · obtain ⟨y, rfl⟩ := q3.mp c
        refine ⟨_, rfl, _, _, _, _, _, rfl, ClsV.ty _, .base (.int _), kit_ty (r := true) (by decide +kernel), _, rfl, iteT ?_⟩
        exact ⟨_, rfl, _, _, _, _, _, rfl, ClsV.ty _, .base (.int _), kit_ty (r := false) (by decide +kernel), _, rfl, k H (Same.refl H)⟩
      · obtain ⟨y, rfl⟩ := q4.mp c
        refine ⟨_, rfl, _, _, _, _, _, rfl, ClsV.ty _, .base (.bl _), kit_ty (r := true) (by decide +kernel), _, rfl, iteT ?_⟩
        exact ⟨_, rfl, _, _, _, _, _, rfl, ClsV.ty _, .base (.bl _), kit_ty (r := true) (by decide +kernel), _, rfl, k H (Same.refl H)⟩
    · have nb : wholeB x = false := by
        cases x with
        | int y => exact absurd (.inl (q3.mpr ⟨y, rfl⟩)) c
        | _ => rfl
      refine ⟨_, rfl, _, _, _, _, _, rfl, ClsV.ty _, ty, kit_ty (r := false) (by
        simp only [List.mem_cons, List.not_mem_nil, or_false] at hz
        rcases hz with rfl | rfl | rfl | rfl | rfl | rfl | rfl <;> first | exact absurd (.inl rfl) c | exact absurd (.inr rfl) c | decide +kernel), _, rfl, iteF ?_⟩
      rw [← nb]
      exact k H (Same.refl H)
theorem scInteger : FnScope ["value"] ["value"] (defScope tInteger) := ⟨rfl, rfl, rfl, by decide +kernel, rfl, by decide +kernel, by decide +kernel⟩
theorem ok_integer {N m : Nat} {f fW : Addr} {fd fdW : FuncData} (F : Fun K "is_integer" "is_integer" tInteger f fd) (T : Txt mg) (FW : Fun K "is_whole" "is_whole" tWhole fW fdW) (bW : Binds K fdW ["value"] []) (gW : mg "is_whole" = some (.ref fW)) :
    FnOk P w K mg base CX0 2 f fd ["value"] (spV N m integB) := by
  have GW : FnOk P w K mg base CX0 1 fW fdW ["value"] (spV N m wholeB) := ok_whole FW T
  obtain ⟨tl, long⟩ := T.long
  refine F.ok scInteger (fun vs H Q E h => ?_) (fun cdv A outer s H vs Q E hr h => ?_)
  · obtain ⟨x, rfl, _⟩ := h
    rfl
  · obtain ⟨x, rfl, it, k⟩ := h
    refine ⟨_, pss_one (ps_ret (pe_and (pe_call GW hr rfl gW FW.kp bW .nil pass0 (pa_cons (pv 0) pa_nil))
      (pe_one (pe_chain op_lt op_lt (pe_un un_neg (pe_glob (v := .int (10 ^ 30)) rfl long ⟨_, rfl⟩)) (pv 0) (pe_glob (v := .int (10 ^ 30)) rfl long ⟨_, rfl⟩))))), ?_⟩
    refine ⟨_, rfl, x, rfl, it, fun H1 s1 => ?_⟩
    refine ⟨_, rfl, ?_⟩
    cases x with
    | int i =>
      refine iteT ⟨_, rfl, _, rfl, _, _, rfl, rfl, _, rfl, ?_⟩
      by_cases c : -(10 ^ 30) < i
      · rw [decide_eq_true c]
        refine iteT ⟨_, _, rfl, rfl, ?_⟩
        have z : integB (.int i) = decide (i < 10 ^ 30) := by
          show (decide (-(10 ^ 30) < i) && _) = _
          rw [decide_eq_true c, Bool.true_and]
        have kk := k _ s1
        rw [z] at kk
        exact kk
      · rw [decide_eq_false c]
        have z : integB (.int i) = false := by
          show (decide (-(10 ^ 30) < i) && _) = _
          rw [decide_eq_false c, Bool.false_and]
        have kk := k _ s1
        rw [z] at kk
        exact iteF kk
    | _ => exact iteF (k _ s1)
def spBetween (N m : Nat) (lo hi : Int) : Sp := fun vs H Q _ => ∃ x, vs = [x, .int lo, .int hi] ∧ Tv H N m x ∧ ∀ H', Same H H' → Q (.bl (betw lo hi x)) H'
theorem betw_no {lo hi : Int} {x : V} (h0 : -(10 ^ 30) < lo) (h1 : hi < 10 ^ 30) (h : integB x = false) : betw lo hi x = false := by
  cases x with
  | int i =>
    have z : betw lo hi (.int i) = (decide (lo ≤ i) && decide (i ≤ hi)) := rfl
    rw [z]
    have ci2 : ¬ (inB i = true) := by
      show ¬ (integB (.int i) = true)
      rw [h]
      exact Bool.false_ne_true
    rw [inB_iff] at ci2
    by_cases c0 : lo ≤ i
    · rw [decide_eq_false (show ¬ i ≤ hi by omega), Bool.and_false]
    · rw [decide_eq_false c0, Bool.false_and]
  | _ => rfl
theorem scBetween : FnScope ["value", "least", "most"] ["value", "least", "most"] (defScope tBetween) := ⟨rfl, rfl, rfl, by decide +kernel, rfl, by decide +kernel, by decide +kernel⟩
theorem ok_between {N m : Nat} {lo hi : Int} (h0 : -(10 ^ 30) < lo) (h1 : hi < 10 ^ 30) {f fI : Addr} {fd fdI : FuncData} (F : Fun K "is_between" "is_between" tBetween f fd) (GI : FnOk P w K mg base CX0 2 fI fdI ["value"] (spV N m integB)) (kI : PySem.W.keepIn K (.ref fI) = true) (bI : Binds K fdI ["value"] []) (gI : mg "is_integer" = some (.ref fI)) :
    FnOk P w K mg base CX0 3 f fd ["value", "least", "most"] (spBetween N m lo hi) := by
  refine F.ok scBetween (fun vs H Q E h => ?_) (fun cdv A outer s H vs Q E hr h => ?_)
  · obtain ⟨x, rfl, _⟩ := h
    rfl
  · obtain ⟨x, rfl, it, k⟩ := h
    refine ⟨_, pss_one (ps_ret (pe_and (pe_call GI hr rfl gI kI bI .nil pass0 (pa_cons (pv 0) pa_nil))
      (pe_and (pe_cmpR op_le (pv 1) (pv 0) (nomark _))
      (pe_one (pe_or (pe_cmpR op_isN (pv 2) pe_non (nomark _)) (pe_one (pe_cmpR op_le (pv 0) (pv 2) (nomark _)))))))), ?_⟩
    refine ⟨_, rfl, x, rfl, it, fun H1 s1 => ?_⟩
    refine ⟨_, rfl, ?_⟩
    have kk := k _ s1
    cases x with
    | int i =>
      have z : betw lo hi (.int i) = (decide (lo ≤ i) && decide (i ≤ hi)) := rfl
      cases ci : integB (.int i) with
      | false =>
        rw [betw_no h0 h1 ci] at kk
        exact iteF kk
      | true =>
        refine iteT ⟨_, rfl, _, rfl, _, _, rfl, rfl, _, rfl, ?_⟩
        by_cases c0 : lo ≤ i
        · rw [z, decide_eq_true c0, Bool.true_and] at kk
          exact iteD c0 ⟨_, rfl, rfl, _, rfl, iteF ⟨_, rfl, _, rfl, _, _, rfl, rfl, kk⟩⟩
        · rw [z, decide_eq_false c0, Bool.false_and] at kk
          exact iteDn c0 kk
    | _ => exact iteF kk
/-! ### the law's own -/
theorem scWord : FnScope ["_law_value", "_law_letter"] ["_law_value"] (defScope tWord) := ⟨rfl, rfl, rfl, by decide +kernel, rfl, by decide +kernel, by decide +kernel⟩
def okc (c : Nat) : Bool := decide (97 ≤ c) && decide (c ≤ 122)
theorem filter_step {α : Type} (p : α → Bool) {xs : List α} {i : Nat} {x : α} (h : xs[i]? = some x) : (xs.take (i + 1)).filter p = (xs.take i).filter p ++ (if p x = true then [x] else []) := by
  obtain ⟨hi, hx⟩ := List.getElem?_eq_some_iff.mp h
  rw [← hx, List.take_succ_eq_append_getElem hi, List.filter_append]
  congr 1
  cases h : p xs[i] <;> simp [h]
theorem filter_none {α : Type} (f : α → Bool) : ∀ xs : List α, (xs.filter fun c => !f c).isEmpty = xs.all f
  | [] => rfl
  | x :: xs => by
    rw [List.filter_cons, List.all_cons]
    cases h : f x with
    | false => rfl
    | true =>
      show (xs.filter _).isEmpty = _
      rw [filter_none f xs, Bool.true_and]
theorem sign_a (c : Nat) : (!decide ((⟨#[c]⟩ : Str).cps.toList < ("a" : Str).cps.toList)) = decide (97 ≤ c) := by
  have e : ("a" : Str).cps.toList = [97] := by decide +kernel
  rw [e]
  apply Bool.eq_iff_iff.mpr
  simp [List.cons_lt_cons_iff]
theorem sign_z (c : Nat) : (!decide (("z" : Str).cps.toList < (⟨#[c]⟩ : Str).cps.toList)) = decide (c ≤ 122) := by
  have e : ("z" : Str).cps.toList = [122] := by decide +kernel
  rw [e]
  apply Bool.eq_iff_iff.mpr
  simp [List.cons_lt_cons_iff]
theorem ok_word {N m : Nat} {f : Addr} {fd : FuncData} (F : Fun K "_law_is_word" "_law_is_word" tWord f fd) (T : Txt mg) : FnOk P w K mg base CX0 1 f fd ["_law_value"] (spV N m nameB) := by
  refine F.ok scWord (fun vs H Q E h => ?_) (fun cdv A outer s H vs Q E hr h => ?_)
  · obtain ⟨x, rfl, _⟩ := h
    rfl
  · obtain ⟨x, rfl, tx, k⟩ := h
    have hu := Nat.lt_of_succ_lt (hu_of hr)
    refine ⟨_, pss_cons (ps_if (PW.pt (pw_or (pt_not (pt_val (pe_callB call_isi (by rfl) T.isi (by decide +kernel) (pa_cons (pv 0) (pa_cons (pe_bltn (v := .ty "str") (by rfl) T.str (by decide +kernel) rfl) pa_nil)))))
        (pw_or1 (pt_not (pt_chain op_le op_le pe_int (pe_callB call_len_str (by rfl) T.len PySem.boot_len (pa_cons (pv 0) pa_nil)) pe_int)))))
        (pss_one (ps_ret pe_bl)) pss_nil)
      (pss_one (ps_ret (pe_cmpR (op_eqNil hu) (pe_lc (own := [("_law_letter", 1)]) (g := gName 1) (tt := _) (by rfl) scWord.nd (pi_str (pv 0)) (blkOk_by (own := [("_law_letter", 1)]) (N := ["_law_value", "_law_letter"]) (sc := defScope tWord) (by decide +kernel))
        (fun _ _ _ _ _ => pg_name (i := 1) scWord.nd rfl (Or.inl rfl)) (fun _ _ _ _ _ => pts_one (pt_not (pt_chain op_le_str op_le_str pe_str (pv 1) pe_str))) (fun _ _ _ _ _ => pv 1)) (pe_lst pa_nil) (nomark _)))), ?_⟩
    obtain ⟨z, hz, ty, q1, _⟩ := tx.ty (K := K)
    by_cases c : z = "str"
    · obtain ⟨y, rfl⟩ := q1.mp c
      cases tx with
      | str _ len =>
      refine ⟨_, rfl, _, _, _, _, _, rfl, ClsV.ty _, .base (.str y), kit_ty (r := true) (by decide +kernel), _, rfl, iteF ?_⟩
      refine ⟨_, rfl, y, rfl, (by have : (100 : Nat) ≤ sizeLine := by decide
                                  omega), _, _, rfl, rfl, _, rfl, ?_⟩
      have nz : nameZ y = (decide (1 ≤ y.length) && decide (y.length ≤ 8) && y.cps.toList.all okc) := rfl
      by_cases c1 : (1 : Int) ≤ (y.length : Int)
      · refine iteD c1 ⟨_, _, rfl, rfl, _, rfl, ?_⟩
        by_cases c2 : (y.length : Int) ≤ 8
        · rw [decide_eq_true c2]
          refine iteF ?_
          refine ⟨_, rfl, y, rfl, fun D hD => lc_it walk_str (fun i H' => Acc H D (((y.cps.toList.take i).filter fun c => !okc c).map fun c => V.str ⟨#[c]⟩) H') (Acc.start hD) (fun _ _ _ _ => trivial) ?_ ?_⟩
          · rintro i v H1 H2 hi a ⟨rfl, c, hc, rfl⟩
            have e : y.cps.toList[i]? = some c := by simpa using hc
            refine ⟨rfl, _, rfl, _, _, rfl, rfl, _, rfl, ?_⟩
            rw [sign_a]
            have put : okc c = false → ∃ acc, H2 D = some (.lst acc) ∧ acc.length < sizeLine ∧ Acc H D (((y.cps.toList.take (i + 1)).filter fun c => !okc c).map fun c => V.str ⟨#[c]⟩) (upd H2 D (.lst (acc ++ [.str ⟨#[c]⟩]))) := by
              intro b
              refine ⟨_, a.2.2, ?_, ?_⟩
              · rw [List.length_map]
                have l1 := List.length_filter_le (fun c => !okc c) (y.cps.toList.take i)
                have l2 := List.length_take_le i y.cps.toList
                have l3 : (y.cps.toList.take i).length ≤ y.cps.toList.length := by rw [List.length_take]; omega
                have : (100 : Nat) ≤ sizeLine := by decide
                have z1 : y.cps.toList.length = y.length := Array.length_toList
                omega
              · rw [filter_step (fun c => !okc c) e, b, List.map_append]
                exact a.put
            have same : okc c = true → Acc H D (((y.cps.toList.take (i + 1)).filter fun c => !okc c).map fun c => V.str ⟨#[c]⟩) H2 := by
              intro b
              rw [filter_step (fun c => !okc c) e, b]
              simpa using a
            by_cases d1 : 97 ≤ c
            · refine iteD d1 ⟨_, _, rfl, rfl, _, rfl, ?_⟩
              rw [sign_z]
              by_cases d2 : c ≤ 122
              · rw [decide_eq_true d2]
                refine iteF (same ?_)
                simp [okc, d1, d2]
              · rw [decide_eq_false d2]
                refine iteT ⟨_, rfl, put ?_⟩
                simp [okc, d2]
            · refine iteDn d1 ⟨_, rfl, ?_⟩
              refine iteT ⟨_, rfl, put ?_⟩
              simp [okc, d1]
          · intro H1 a
            refine ⟨(by show 0 ≤ sizeLine; decide), fun l nl => ?_⟩
            have a2 := a.on (grow (o := .lst []) nl)
            refine ⟨_, _, _, rfl, rfl, a2.2.2, upd_same, ?_⟩
            have e : y.cps.toList.take y.cps.size = y.cps.toList := List.take_of_length_le (by simp)
            have kk := k _ a2.1
            have z2 : nameB (.str y) = (((y.cps.toList.take y.cps.size).filter fun c => !okc c).map fun c => V.str ⟨#[c]⟩).isEmpty := by
              rw [e, List.isEmpty_map, filter_none]
              show nameZ y = _
              rw [nz, decide_eq_true (show 1 ≤ y.length by omega), decide_eq_true (show y.length ≤ 8 by omega), Bool.true_and, Bool.true_and]
            rw [z2] at kk
            exact kk
        · rw [decide_eq_false c2]
          refine iteT ?_
          have nb : nameB (.str y) = false := by
            show nameZ y = false
            rw [nz, decide_eq_false (show ¬ y.length ≤ 8 by omega), Bool.and_false, Bool.false_and]
          have kk := k H (Same.refl H)
          rw [nb] at kk
          exact kk
      · refine iteDn c1 ⟨_, rfl, iteT ?_⟩
        have nb : nameB (.str y) = false := by
          show nameZ y = false
          rw [nz, decide_eq_false (show ¬ 1 ≤ y.length by omega), Bool.false_and, Bool.false_and]
        have kk := k H (Same.refl H)
        rw [nb] at kk
        exact kk
    · have nb : nameB x = false := by
        cases x with
        | str y => exact absurd (q1.mpr ⟨y, rfl⟩) c
        | _ => rfl
      refine ⟨_, rfl, _, _, _, _, _, rfl, ClsV.ty _, ty, kit_ty (r := false) (by
        simp only [List.mem_cons, List.not_mem_nil, or_false] at hz
        rcases hz with rfl | rfl | rfl | rfl | rfl | rfl | rfl <;> first | exact absurd rfl c | decide +kernel), _, rfl, iteT (iteT ?_)⟩
      have kk := k H (Same.refl H)
      rw [nb] at kk
      exact kk
end
end K18
namespace K18
open PySem L2
open L2.My
def ctGo (f : Nat → V → Option Nat) (most : Nat) : Nat → List V → Option Nat
  | t, [] => some t
  | t, s :: r => match f (most - t) s with
    | none => none
    | some k => ctGo f most (t + k) r
def cwStore (f : Nat → V → Option Nat) (most : Nat) : List V → Option Nat
  | [s] => ctGo f most 1 [s]
  | _ => none
def cwOp (f : Nat → V → Option Nat) (most : Nat) (hd : V) : List V → Option Nat
  | [] => none
  | nm :: rs => if isS hd "op" = true ∧ rs.length ≤ 3 ∧ nameB nm = true then ctGo f most 1 rs else none
def cwIn (f : Nat → V → Option Nat) (most : Nat) (root : Bool) : List V → Option Nat
  | [] => none
  | hd :: tl => if isTag ((hd :: tl).map strOf) "hole" = true then some 0 else if most = 0 then none else if isTag ((hd :: tl).map strOf) "load" = true then some 1
    else if (isS hd "store" && root) = true then cwStore f most tl else cwOp f most hd tl
def cw (H : Hp) : Nat → Nat → V → Bool → Option Nat
  | 0, _, _, _ => none
  | d + 1, most, v, root => match tupV H v with
    | some xs => cwIn (fun q u => cw H d q u false) most root xs
    | none => none
theorem ctGo_congr {f g : Nat → V → Option Nat} {q : Nat} : ∀ {l : List V} {t : Nat}, 1 ≤ t → (∀ t u, 1 ≤ t → u ∈ l → f (q - t) u = g (q - t) u) → ctGo f q t l = ctGo g q t l
  | [], _, _, _ => rfl
  | s :: r, t, ht, h => by
    simp only [ctGo]
    rw [h t s ht (List.mem_cons_self ..)]
    cases g (q - t) s with
    | none => rfl
    | some k => exact ctGo_congr (by omega) fun t u ht hu => h t u ht (List.mem_cons_of_mem _ hu)
theorem cwIn_congr {f g : Nat → V → Option Nat} {q : Nat} {root : Bool} {xs : List V} (h : q ≠ 0 → ∀ t u, 1 ≤ t → u ∈ xs → f (q - t) u = g (q - t) u) : cwIn f q root xs = cwIn g q root xs := by
  match xs, h with
  | [], _ => rfl
  | hd :: tl, h =>
    simp only [cwIn]
    by_cases q0 : q = 0
    · simp [q0]
    · have h := h q0
      match tl, h with
      | [], _ => rfl
      | [s], h =>
        have e0 := h 1 s (Nat.le_refl 1) (by simp)
        simp only [cwStore, cwOp, ctGo, e0]
      | a :: b :: r, h =>
        have e1 := ctGo_congr (f := f) (g := g) (q := q) (l := b :: r) (Nat.le_refl 1) fun t u ht hu => h t u ht (List.mem_cons_of_mem _ (List.mem_cons_of_mem _ hu))
        simp only [cwStore, cwOp, e1]
theorem cw_fuel {H : Hp} : ∀ {d e q : Nat} {u : V} {r : Bool}, q + 1 ≤ d → q + 1 ≤ e → cw H d q u r = cw H e q u r
  | 0, _, _, _, _, h, _ => absurd h (by omega)
  | _, 0, _, _, _, _, h => absurd h (by omega)
  | d + 1, e + 1, q, u, r, hd, he => by
    simp only [cw]
    cases tupV H u with
    | none => rfl
    | some xs => exact cwIn_congr fun q0 t u ht _ => cw_fuel (by omega) (by omega)
theorem ctGo_le {f : Nat → V → Option Nat} {q : Nat} : ∀ {l : List V} {t k : Nat}, t ≤ q → (∀ t u k, f (q - t) u = some k → k ≤ q - t) → ctGo f q t l = some k → k ≤ q
  | [], t, k, ht, _, h => by
    cases h
    exact ht
  | s :: r, t, k, ht, hf, h => by
    simp only [ctGo] at h
    cases e : f (q - t) s with
    | none =>
      rw [e] at h
      cases h
    | some j =>
      rw [e] at h
      have := hf t s j e
      exact ctGo_le (by omega) hf h
theorem cw_le {H : Hp} : ∀ {d q k : Nat} {u : V} {r : Bool}, cw H d q u r = some k → k ≤ q
  | 0, _, _, _, _, h => by cases h
  | d + 1, q, k, u, r, h => by
    simp only [cw] at h
    cases e : tupV H u with
    | none =>
      rw [e] at h
      cases h
    | some xs =>
      rw [e] at h
      have go : ∀ l, ctGo (fun q u => cw H d q u false) q 1 l = some k → q ≠ 0 → k ≤ q := fun l hl q0 => ctGo_le (by omega) (fun t u k hk => cw_le hk) hl
      match xs, h with
      | hd :: tl, h =>
        simp only [cwIn] at h
        split at h
        · cases h
          exact Nat.zero_le _
        split at h
        · cases h
        rename_i q0
        split at h
        · cases h
          omega
        split at h
        · match tl, h with
          | [s], h => exact go _ h q0
        · match tl, h with
          | nm :: rs, h =>
            simp only [cwOp] at h
            split at h
            · exact go _ h q0
            · cases h
end K18
namespace K18
open PySem L2
open L2.My
def optV : Option Nat → V
  | none => .non
  | some k => .int (k : Nat)
theorem Tv.same {H H' : Hp} {N m : Nat} {v : V} (t : Tv H N m v) (s : Same H H') : Tv H' N m v := t.kp (.of s)
theorem cw_kp {H H' : Hp} {N : Nat} (s : Kp H H') : ∀ {d q k : Nat} {v : V} {r : Bool}, Tv H N k v → cw H' d q v r = cw H d q v r
  | 0, _, _, _, _, _ => rfl
  | d + 1, q, k, v, r, t => by
    simp only [cw]
    rw [tupV_kp t s]
    cases t with
    | tup e l h =>
      rw [tupV_of e]
      exact cwIn_congr fun _ _ u _ hu => cw_kp s (h u hu)
    | lst e => simp only [tupV, e]
    | dct e => simp only [tupV, e]
    | _ => rfl
section
variable {P : Program} {w : World} {K : PySem.W.Frag} {mg : Str → Option Value} {base : Heap}
def spWorking (N k M : Nat) : Sp := fun vs H Q _ => ∃ v m root, vs = [v, .int ((m : Nat) : Int), .bl root] ∧ m ≤ M ∧ Tv H N k v ∧ ∀ H', Same H H' → Q (optV (cw H (m + 1) m v root)) H'
def spTogether (N k M : Nat) : Sp := fun vs H Q _ => ∃ a ss m, vs = [.ref a, .int ((m : Nat) : Int)] ∧ 1 ≤ m ∧ m ≤ M ∧ H a = some (.tup ss) ∧ (∀ s ∈ ss, Tv H N k s) ∧ ∀ H', Same H H' → Q (optV (ctGo (fun q u => cw H m q u false) m 1 ss)) H'
theorem scTogether : FnScope ["shapes", "most", "total", "shape", "many"] ["shapes", "most"] (defScope tTogether) := ⟨rfl, rfl, rfl, by decide +kernel, rfl, by decide +kernel, by decide +kernel⟩
theorem step_together {N k M : Nat} (hM : M ≤ 100) {f fW : Addr} {fd fdW : FuncData} (F : Fun K "count_together" "count_together" tTogether f fd)
    (GW : FnOk P w K mg base CX0 (2 * M + 2) fW fdW ["value", "most", "is_root"] (spWorking N k M)) (kW : PySem.W.keepIn K (.ref fW) = true) (bW : Binds K fdW ["value", "most", "is_root"] []) (gW : mg "count_working" = some (.ref fW)) :
    FnOk P w K mg base CX0 (2 * M + 2 + 1) f fd ["shapes", "most"] (spTogether N k (M + 1)) := by
  refine F.ok scTogether (fun vs H Q E h => ?_) (fun cdv A outer s H vs Q E hr h => ?_)
  · obtain ⟨a, ss, m, rfl, _⟩ := h
    rfl
  · obtain ⟨a, ss, m, rfl, m1, mM, e, ts, kk⟩ := h
    refine ⟨_, pss_cons (ps_set (i := 2) scTogether.nd rfl (.inl rfl) pe_int)
      (pss_cons (ps_for PassesOwn.never rfl (pi_tup (pv 0)) (pg_name (i := 3) scTogether.nd rfl (.inl rfl))
        (pss_cons (ps_set (i := 4) scTogether.nd rfl (.inl rfl) (pe_call GW hr rfl gW kW bW .nil pass0 (pa_cons (pv 3) (pa_cons (pe_op op_sub (pv 1) (pv 2)) (pa_cons pe_bl pa_nil)))))
        (pss_cons (ps_if (pt_cmpR op_isN (pv 4) pe_non (nomark _)) (pss_one (ps_ret pe_non)) pss_nil)
        (pss_one (ps_aug (i := 2) scTogether.nd rfl (.inl rfl) (pv 4) ip_add)))))
      (pss_one (ps_ret (pv 2)))), ?_⟩
    refine ⟨_, rfl, a, rfl, ⟨_, SqT.of e⟩, for_tup (xs := ss) (fun i σ H' => ∃ t o3 o4, σ = [some (.ref a), some (.int (m : Int)), some (.int ((t : Nat) : Int)), o3, o4] ∧ 1 ≤ t ∧ t ≤ m ∧ Same H H' ∧
      ctGo (fun q u => cw H m q u false) m 1 ss = ctGo (fun q u => cw H m q u false) m t (ss.drop i))
      ⟨1, none, none, rfl, Nat.le_refl 1, m1, Same.refl H, rfl⟩ (fun i σ H' _ ⟨_, _, _, _, _, _, s, _⟩ => SqT.of (s _ _ e)) ?_ ?_⟩
    · rintro i x σ H1 hx ⟨t, o3, o4, rfl, t1, tm, s1, eq⟩
      obtain ⟨hi, hx2⟩ := List.getElem?_eq_some_iff.mp hx
      have ed : ss.drop i = x :: ss.drop (i + 1) := by rw [← hx2]; exact List.drop_eq_getElem_cons hi
      have tx := ts x (List.mem_of_getElem? hx)
      rw [ed] at eq
      refine ⟨_, rfl, _, rfl, _, rfl, _, _, rfl, rfl, x, m - t, false, ?_, by omega, tx.same s1, fun H2 s2 => ?_⟩
      · have z : (m : Int) - (t : Int) = ((m - t : Nat) : Int) := by omega
        show [x, V.int ((m : Int) - (t : Int)), V.bl false] = _
        rw [z]
      rw [cw_kp (.of s1) tx, cw_fuel (e := m) (Nat.le_refl _) (by omega)]
      simp only [ctGo] at eq
      refine ⟨_, rfl, rfl, _, rfl, ?_⟩
      cases c : cw H m (m - t) x false with
      | none =>
        rw [c] at eq
        have k2 := kk _ (s1.trans s2)
        rw [eq] at k2
        exact iteD rfl k2
      | some j =>
        rw [c] at eq
        refine iteDn (fun z => by cases z) ?_
        have := cw_le c
        refine ⟨_, rfl, _, rfl, _, _, rfl, rfl, ?_⟩
        refine ⟨t + j, some x, some (.int ((j : Nat) : Int)), ?_, by omega, by omega, s1.trans s2, eq⟩
        have z : ((t : Nat) : Int) + ((j : Nat) : Int) = ((t + j : Nat) : Int) := by omega
        show [some (V.ref a), some (V.int (m : Int)), some (V.int ((t : Int) + (j : Int))), some x, some (V.int (j : Int))] = _
        rw [z]
    · rintro σ H1 ⟨t, o3, o4, rfl, t1, tm, s1, eq⟩
      rw [List.drop_eq_nil_of_le (Nat.le_refl _)] at eq
      have k2 := kk _ s1
      rw [eq] at k2
      exact ⟨_, rfl, k2⟩
theorem Tv.tupcase {K : PySem.W.Frag} {H : Hp} {N m : Nat} {x : V} (t : Tv H N m x) :
    (∃ a xs, x = .ref a ∧ H a = some (.tup xs) ∧ xs.length ≤ N ∧ ∀ y ∈ xs, Tv H N m y) ∨ (tupV H x = none ∧ ∃ u, TyX K H x u ∧ PySem.W.kitOne K u (.type "tuple") = some false) := by
  cases t with
  | non => exact .inr ⟨rfl, _, .base .non, kit_ty (by decide +kernel)⟩
  | bl b => exact .inr ⟨rfl, _, .base (.bl b), kit_ty (by decide +kernel)⟩
  | int i h => exact .inr ⟨rfl, _, .base (.int i), kit_ty (by decide +kernel)⟩
  | str z h => exact .inr ⟨rfl, _, .base (.str z), kit_ty (by decide +kernel)⟩
  | lst e => exact .inr ⟨by simp [tupV, e], _, .base (.lst e), kit_ty (by decide +kernel)⟩
  | dct e => exact .inr ⟨by simp [tupV, e], _, .base (.dK e), kit_ty (by decide +kernel)⟩
  | tup e l h => exact .inl ⟨_, _, rfl, e, l, fun y hy => (h y hy).up⟩
theorem texts {H : Hp} {N m : Nat} : ∀ {xs : List V}, (∀ y ∈ xs, Tv H N m y) → Texts H xs (xs.map strOf)
  | [], _ => .nil
  | x :: xs, h => .cons (h x (List.mem_cons_self ..)).text (texts fun y hy => h y (List.mem_cons_of_mem _ hy))
theorem sl_go {H : Hp} {a : Addr} {xs : List V} {lo hi : Option Int} {Q : VK} (e : H a = some (.tup xs)) (k : ∀ b H', Same H H' → H' b = some (.tup (cutV xs lo hi)) → Q (.ref b) H') : rSlA K (.ref a) lo hi H Q := by
  refine ⟨a, xs, rfl, SqT.of e, fun z => k a H (Same.refl H) ?_, fun _ p np => k p _ (grow np) upd_same⟩
  have c : cutV xs lo hi = xs := by
    unfold cutV
    rw [z.1, z.2]
    simp
  rw [c]
  exact e
theorem cut1 {hd : V} {tl : List V} : cutV (hd :: tl) (some 1) none = tl := by
  unfold cutV
  rw [show (1 : Int) = ((1 : Nat) : Int) from rfl, HT.sIx_nat, HT.sIx_none, List.length_cons, Nat.min_eq_left (by omega), List.drop_succ_cons, List.drop_zero]
  exact List.take_of_length_le (by omega)
theorem cut2 {hd nm : V} {rs : List V} : cutV (hd :: nm :: rs) (some 2) none = rs := by
  unfold cutV
  rw [show (2 : Int) = ((2 : Nat) : Int) from rfl, HT.sIx_nat, HT.sIx_none, List.length_cons, List.length_cons, Nat.min_eq_left (by omega), List.drop_succ_cons, List.drop_succ_cons, List.drop_zero]
  exact List.take_of_length_le (by omega)
theorem scWorking : FnScope ["value", "most", "is_root"] ["value", "most", "is_root"] (defScope tWorking) := ⟨rfl, rfl, rfl, by decide +kernel, rfl, by decide +kernel, by decide +kernel⟩
theorem step_working {N k M : Nat} (hN : N ≤ 1000) {spT : Sp} {f fT fN : Addr} {fd fdT fdN : FuncData} (F : Fun K "count_working" "count_working" tWorking f fd) (T : Txt mg) (hS : ∃ t, mg "MAX_SHAPES" = some (.int 3 t))
    (GN : FnOk P w K mg base CX0 1 fN fdN ["value"] (spV N k nameB)) (kN : PySem.W.keepIn K (.ref fN) = true) (bN : Binds K fdN ["value"] []) (gN : mg "is_name" = some (.ref fN))
    (GT : FnOk P w K mg base CX0 (2 * M + 1) fT fdT ["shapes", "most"] spT) (kT : PySem.W.keepIn K (.ref fT) = true) (bT : Binds K fdT ["shapes", "most"] []) (gT : mg "count_together" = some (.ref fT)) (hT : M ≠ 0 → spT = spTogether N k M) :
    FnOk P w K mg base CX0 (2 * M + 1 + 1) f fd ["value", "most", "is_root"] (spWorking N k M) := by
  obtain ⟨tS, lS⟩ := hS
  refine F.ok scWorking (fun vs H Q E h => ?_) (fun cdv A outer s H vs Q E hr h => ?_)
  · obtain ⟨v, m, root, rfl, _⟩ := h
    rfl
  · obtain ⟨v, m, root, rfl, mM, tx, kk⟩ := h
    have hr1 : Room 1 _ := hr.mono (by omega)
    have hu := hu_of hr
    have hu0 := Nat.lt_of_succ_lt hu
    refine ⟨_, pss_cons (ps_if (PW.pt (pw_or (pt_not (pt_val (pe_callB call_isi (by rfl) T.isi (by decide +kernel) (pa_cons (pv 0) (pa_cons (pe_bltn (v := .ty "tuple") (by rfl) T.tuple (by decide +kernel) rfl) pa_nil)))))
          (pw_or1 (pt_cmpR op_eq (pe_callB call_len_seq (by rfl) T.len PySem.boot_len (pa_cons (pv 0) pa_nil)) pe_int (nomark _)))))
        (pss_one (ps_ret pe_non)) pss_nil)
      (pss_cons (ps_if (pt_cmpR (op_eqTag hu) (pv 0) (pe_tup (pa_cons pe_str pa_nil)) (nomark _)) (pss_one (ps_ret pe_int)) pss_nil)
      (pss_cons (ps_if (pt_cmpR op_eq (pv 1) pe_int (nomark _)) (pss_one (ps_ret pe_non)) pss_nil)
      (pss_cons (ps_if (pt_cmpR (op_eqTag hu) (pv 0) (pe_tup (pa_cons pe_str pa_nil)) (nomark _)) (pss_one (ps_ret pe_int)) pss_nil)
      (pss_cons (ps_if (PW.pt (pw_and (pt_cmpR (op_eqX hu0) (pe_ix ix_tup (pv 0) pe_int (fun _ _ => rfl)) pe_str (nomark _)) (pw_and1 (pt_val (pv 2)))))
        (pss_one (ps_ret (pe_ifExp (pt_cmpR op_eq (pe_callB call_len_seq (by rfl) T.len PySem.boot_len (pa_cons (pv 0) pa_nil)) pe_int (nomark _)) (pe_call GT hr rfl gT kT bT .nil pass0 (pa_cons (pe_slice sl_tupA (pv 0) (po_some pe_int) po_none) (pa_cons (pv 1) pa_nil))) pe_non))) pss_nil)
      (pss_cons (ps_if (PW.pt (pw_or (pt_cmpR (op_neX hu0) (pe_ix ix_tup (pv 0) pe_int (fun _ _ => rfl)) pe_str (nomark _))
          (pw_or (pt_not (pt_chain op_le op_le pe_int (pe_callB call_len_seq (by rfl) T.len PySem.boot_len (pa_cons (pv 0) pa_nil)) (pe_op op_add pe_int (pe_glob (v := .int 3) rfl lS ⟨_, rfl⟩))))
          (pw_or1 (pt_not (pt_val (pe_call GN hr1 rfl gN kN bN .nil pass0 (pa_cons (pe_ix ix_tup (pv 0) pe_int (fun _ _ => rfl)) pa_nil))))))))
        (pss_one (ps_ret pe_non)) pss_nil)
      (pss_one (ps_ret (pe_call GT hr rfl gT kT bT .nil pass0 (pa_cons (pe_slice sl_tupA (pv 0) (po_some pe_int) po_none) (pa_cons (pv 1) pa_nil)))))))))), ?_⟩
    have lp : ∀ n : Nat, n ≤ 10 → n ≤ sizeLine := fun n h => Nat.le_trans h (by decide)
    rcases tx.tupcase (K := K) with ⟨a, xs, rfl, e, l, hx⟩ | ⟨nt, u, ty, kt⟩
    · refine ⟨_, rfl, _, _, _, _, _, rfl, ClsV.ty _, .base (.tup e), kit_ty (r := true) (by decide +kernel), _, rfl, iteF ?_⟩
      have eC : cw H (m + 1) m (.ref a) root = cwIn (fun q u => cw H m q u false) m root xs := by
        simp only [cw]
        rw [tupV_of e]
      refine ⟨_, rfl, a, xs, rfl, .inr (SqT.of e), rfl, _, rfl, ?_⟩
      match xs, e, l, hx, eC with
      | [], e, l, hx, eC =>
        have k2 := kk H (Same.refl H)
        rw [eC] at k2
        exact iteD rfl k2
      | hd :: tl, e, l, hx, eC =>
        refine iteDn (fun z => by have := V.int.inj z; rw [List.length_cons] at this; omega) ?_
        have eI : cwIn (fun q u => cw H m q u false) m root (hd :: tl) = if isTag ((hd :: tl).map strOf) "hole" = true then some 0 else if m = 0 then none else if isTag ((hd :: tl).map strOf) "load" = true then some 1
          else if (isS hd "store" && root) = true then cwStore (fun q u => cw H m q u false) m tl else cwOp (fun q u => cw H m q u false) m hd tl := rfl
        rw [eI] at eC
        have two : ∀ {H' : Hp}, Same H H' → Texts H' (hd :: tl) ((hd :: tl).map strOf) := fun s => texts fun y hy => (hx y hy).same s
        refine ⟨_, rfl, lp 1 (by decide), fun t nt => ?_⟩
        have s1 : Same H (upd H t (.tup [.str "hole"])) := grow nt
        have e1 : (upd H t (.tup [.str "hole"])) t = some (.tup [.str "hole"]) := upd_same
        revert s1 e1
        generalize upd H t (.tup [.str "hole"]) = H1
        intro s1 e1
        refine ⟨a, t, _, _, "hole", rfl, rfl, s1 _ _ e, e1, two s1, _, rfl, ?_⟩
        cases c1 : isTag ((hd :: tl).map strOf) "hole" with
        | true =>
          have k2 := kk _ s1
          rw [eC, if_pos c1] at k2
          exact iteT k2
        | false =>
          rw [if_neg (by rw [c1]; decide)] at eC
          refine iteF ⟨_, rfl, rfl, _, rfl, ?_⟩
          by_cases m0 : m = 0
          · have k2 := kk _ s1
            rw [eC, if_pos m0] at k2
            exact iteD (by rw [m0]; rfl) k2
          rw [if_neg m0] at eC
          have sT : spT = spTogether N k M := hT (by omega)
          subst sT
          refine iteDn (fun z => m0 (by have := V.int.inj z; omega)) ?_
          refine ⟨_, rfl, lp 1 (by decide), fun t2 nt2 => ?_⟩
          have s2 : Same H (upd H1 t2 (.tup [.str "load"])) := s1.trans (grow nt2)
          have e2 : (upd H1 t2 (.tup [.str "load"])) t2 = some (.tup [.str "load"]) := upd_same
          revert s2 e2
          generalize upd H1 t2 (.tup [.str "load"]) = H2
          intro s2 e2
          have ea := s2 _ _ e
          refine ⟨a, t2, _, _, "load", rfl, rfl, ea, e2, two s2, _, rfl, ?_⟩
          cases c2 : isTag ((hd :: tl).map strOf) "load" with
          | true =>
            have k2 := kk _ s2
            rw [eC, if_pos c2] at k2
            exact iteT k2
          | false =>
            rw [if_neg (by rw [c2]; decide)] at eC
            have call : ∀ (ss : List V) (b : Addr) (H3 : Hp), (∀ y ∈ ss, y ∈ hd :: tl) → Same H2 H3 → H3 b = some (.tup ss) → (∀ H', Same H H' → Q (optV (ctGo (fun q u => cw H m q u false) m 1 ss)) H') → spTogether N k M [.ref b, .int (m : Int)] H3 Q E0 := fun ss b H3 hs s3 eb kq => by
              have s03 := s2.trans s3
              refine ⟨b, ss, m, rfl, by omega, mM, eb, fun y hy => (hx y (hs y hy)).same s03, fun H4 s4 => ?_⟩
              have z : ctGo (fun q u => cw H3 m q u false) m 1 ss = ctGo (fun q u => cw H m q u false) m 1 ss := ctGo_congr (Nat.le_refl 1) fun t u _ hu => cw_kp (.of s03) (hx u (hs u hu))
              rw [z]
              exact kq _ (s03.trans s4)
            refine iteF ⟨_, rfl, a, _, 0, hd, rfl, rfl, SqT.of ea, atI_nat (j := 0) rfl, strOf hd, _, rfl, ((hx hd (by simp)).same s2).text, _, rfl, ?_⟩
            by_cases cs : strOf hd = some ("store" : Str)
            · have zs : isS hd "store" = true := decide_eq_true cs
              refine iteD cs ⟨_, rfl, root, rfl, ?_⟩
              cases root with
              | true =>
                rw [zs, Bool.true_and, if_pos rfl] at eC
                refine iteT ⟨_, rfl, a, _, rfl, .inr (SqT.of ea), rfl, _, rfl, ?_⟩
                match tl, e, l, hx, eC, c1, c2, ea, call with
                | [], e, l, hx, eC, c1, c2, ea, call =>
                  have k2 := kk _ s2
                  rw [eC] at k2
                  exact iteDn (fun z => by cases z) k2
                | [s1'], e, l, hx, eC, c1, c2, ea, call =>
                  refine iteD (by rfl) ⟨_, rfl, _, rfl, ?_⟩
                  unfold tNoPart
                  refine sl_go ea fun b H4 s4 eb => ⟨_, rfl, call [s1'] b H4 (fun y hy => List.mem_cons_of_mem _ hy) s4 (by rw [eb, cut1]) fun H' s' => ?_⟩
                  have k2 := kk _ s'
                  rw [eC] at k2
                  exact k2
                | _ :: _ :: _, e, l, hx, eC, c1, c2, ea, call =>
                  have k2 := kk _ s2
                  rw [eC] at k2
                  exact iteDn (fun z => by have := V.int.inj z; rw [List.length_cons, List.length_cons, List.length_cons] at this; omega) k2
              | false =>
                rw [zs, Bool.and_false, if_neg Bool.false_ne_true] at eC
                refine iteF ?_
                refine ⟨_, rfl, a, _, 0, hd, rfl, rfl, SqT.of ea, atI_nat (j := 0) rfl, strOf hd, _, rfl, ((hx hd (by simp)).same s2).text, _, rfl, ?_⟩
                by_cases co : strOf hd = some ("op" : Str)
                · have zo : isS hd "op" = true := decide_eq_true co
                  refine iteNS co ⟨_, rfl, a, _, rfl, .inr (SqT.of ea), _, _, rfl, rfl, _, rfl, ?_⟩
                  match tl, e, l, hx, eC, c1, c2, ea, call with
                  | [], e, l, hx, eC, c1, c2, ea, call =>
                    have k2 := kk _ s2
                    rw [eC] at k2
                    exact iteDn (by show ¬ ((2 : Int) ≤ 1); decide) ⟨_, rfl, iteT (iteT k2)⟩
                  | nm :: rs, e, l, hx, eC, c1, c2, ea, call =>
                    have eO : cwOp (fun q u => cw H m q u false) m hd (nm :: rs) = if isS hd "op" = true ∧ rs.length ≤ 3 ∧ nameB nm = true then ctGo (fun q u => cw H m q u false) m 1 rs else none := rfl
                    rw [eO] at eC
                    refine iteD (by rw [List.length_cons, List.length_cons]; omega) ⟨_, _, rfl, rfl, _, _, rfl, rfl, _, rfl, ?_⟩
                    by_cases l3 : rs.length ≤ 3
                    · rw [decide_eq_true (show (((hd :: nm :: rs).length : Nat) : Int) ≤ 2 + 3 by rw [List.length_cons, List.length_cons]; omega)]
                      refine iteF ⟨_, rfl, a, _, 1, nm, rfl, rfl, SqT.of ea, atI_nat (j := 1) rfl, nm, rfl, (hx nm (by simp)).same s2, fun H3 s3 => ?_⟩
                      refine ⟨_, rfl, ?_⟩
                      cases cn : nameB nm with
                      | false =>
                        have k2 := kk _ (s2.trans s3)
                        rw [eC, if_neg (fun z => by have := z.2.2; rw [cn] at this; cases this)] at k2
                        exact iteT k2
                      | true =>
                        rw [if_pos ⟨zo, l3, cn⟩] at eC
                        refine iteF ⟨_, rfl, _, rfl, ?_⟩
                        unfold tNoPart
                        refine sl_go (s3 _ _ ea) fun b H4 s4 eb => ⟨_, rfl, call rs b H4 (fun y hy => List.mem_cons_of_mem _ (List.mem_cons_of_mem _ hy)) (s3.trans s4) (by rw [eb, cut2]) fun H' s' => ?_⟩
                        have k2 := kk _ s'
                        rw [eC] at k2
                        exact k2
                    · rw [decide_eq_false (show ¬ (((hd :: nm :: rs).length : Nat) : Int) ≤ 2 + 3 by rw [List.length_cons, List.length_cons]; omega)]
                      have k2 := kk _ s2
                      rw [eC, if_neg (fun z => l3 z.2.1)] at k2
                      exact iteT (iteT k2)
                · have k2 := kk _ s2
                  have zo : isS hd "op" = false := decide_eq_false co
                  have eO : cwOp (fun q u => cw H m q u false) m hd tl = none := by
                    match tl with
                    | [] => rfl
                    | nm :: rs =>
                      show (if isS hd "op" = true ∧ rs.length ≤ 3 ∧ nameB nm = true then ctGo (fun q u => cw H m q u false) m 1 rs else none) = none
                      rw [zo, if_neg (fun z => by cases z.1)]
                  rw [eC, eO] at k2
                  rw [decide_eq_false co]
                  exact iteT (iteT k2)
            · have zs : isS hd "store" = false := decide_eq_false cs
              rw [zs, Bool.false_and, if_neg Bool.false_ne_true] at eC
              refine iteDn cs ?_
              refine ⟨_, rfl, a, _, 0, hd, rfl, rfl, SqT.of ea, atI_nat (j := 0) rfl, strOf hd, _, rfl, ((hx hd (by simp)).same s2).text, _, rfl, ?_⟩
              by_cases co : strOf hd = some ("op" : Str)
              · have zo : isS hd "op" = true := decide_eq_true co
                refine iteNS co ⟨_, rfl, a, _, rfl, .inr (SqT.of ea), _, _, rfl, rfl, _, rfl, ?_⟩
                match tl, e, l, hx, eC, c1, c2, ea, call with
                | [], e, l, hx, eC, c1, c2, ea, call =>
                  have k2 := kk _ s2
                  rw [eC] at k2
                  exact iteDn (by show ¬ ((2 : Int) ≤ 1); decide) ⟨_, rfl, iteT (iteT k2)⟩
                | nm :: rs, e, l, hx, eC, c1, c2, ea, call =>
                  have eO : cwOp (fun q u => cw H m q u false) m hd (nm :: rs) = if isS hd "op" = true ∧ rs.length ≤ 3 ∧ nameB nm = true then ctGo (fun q u => cw H m q u false) m 1 rs else none := rfl
                  rw [eO] at eC
                  refine iteD (by rw [List.length_cons, List.length_cons]; omega) ⟨_, _, rfl, rfl, _, _, rfl, rfl, _, rfl, ?_⟩
                  by_cases l3 : rs.length ≤ 3
                  · rw [decide_eq_true (show (((hd :: nm :: rs).length : Nat) : Int) ≤ 2 + 3 by rw [List.length_cons, List.length_cons]; omega)]
                    refine iteF ⟨_, rfl, a, _, 1, nm, rfl, rfl, SqT.of ea, atI_nat (j := 1) rfl, nm, rfl, (hx nm (by simp)).same s2, fun H3 s3 => ?_⟩
                    refine ⟨_, rfl, ?_⟩
                    cases cn : nameB nm with
                    | false =>
                      have k2 := kk _ (s2.trans s3)
                      rw [eC, if_neg (fun z => by have := z.2.2; rw [cn] at this; cases this)] at k2
                      exact iteT k2
                    | true =>
                      rw [if_pos ⟨zo, l3, cn⟩] at eC
                      refine iteF ⟨_, rfl, _, rfl, ?_⟩
                      unfold tNoPart
                      refine sl_go (s3 _ _ ea) fun b H4 s4 eb => ⟨_, rfl, call rs b H4 (fun y hy => List.mem_cons_of_mem _ (List.mem_cons_of_mem _ hy)) (s3.trans s4) (by rw [eb, cut2]) fun H' s' => ?_⟩
                      have k2 := kk _ s'
                      rw [eC] at k2
                      exact k2
                  · rw [decide_eq_false (show ¬ (((hd :: nm :: rs).length : Nat) : Int) ≤ 2 + 3 by rw [List.length_cons, List.length_cons]; omega)]
                    have k2 := kk _ s2
                    rw [eC, if_neg (fun z => l3 z.2.1)] at k2
                    exact iteT (iteT k2)
              · have k2 := kk _ s2
                have zo : isS hd "op" = false := decide_eq_false co
                have eO : cwOp (fun q u => cw H m q u false) m hd tl = none := by
                  match tl with
                  | [] => rfl
                  | nm :: rs =>
                    show (if isS hd "op" = true ∧ rs.length ≤ 3 ∧ nameB nm = true then ctGo (fun q u => cw H m q u false) m 1 rs else none) = none
                    rw [zo, if_neg (fun z => by cases z.1)]
                rw [eC, eO] at k2
                rw [decide_eq_false co]
                exact iteT (iteT k2)
    · have k2 := kk H (Same.refl H)
      have z : cw H (m + 1) m v root = none := by
        simp only [cw]
        rw [nt]
      rw [z] at k2
      exact ⟨_, rfl, _, _, _, _, _, rfl, ClsV.ty _, ty, kt, _, rfl, iteT (iteT k2)⟩
theorem fnok_false {j : Nat} {f : Addr} {fd : FuncData} {ps : List Str} : FnOk P w K mg base CX0 j f fd ps fun _ _ _ _ => False := ⟨fun _ _ _ _ h => h.elim, fun _ _ _ _ _ _ _ _ _ _ _ _ _ h => h.elim⟩
theorem ok_working {N k : Nat} (hN : N ≤ 1000) {f fT fN : Addr} {fd fdT fdN : FuncData} (F : Fun K "count_working" "count_working" tWorking f fd) (FT : Fun K "count_together" "count_together" tTogether fT fdT) (T : Txt mg) (hS : ∃ t, mg "MAX_SHAPES" = some (.int 3 t))
    (bF : Binds K fd ["value", "most", "is_root"] []) (gF : mg "count_working" = some (.ref f))
    (GN : FnOk P w K mg base CX0 1 fN fdN ["value"] (spV N k nameB)) (kN : PySem.W.keepIn K (.ref fN) = true) (bN : Binds K fdN ["value"] []) (gN : mg "is_name" = some (.ref fN))
    (kT : PySem.W.keepIn K (.ref fT) = true) (bT : Binds K fdT ["shapes", "most"] []) (gT : mg "count_together" = some (.ref fT)) :
    ∀ M, M ≤ 100 → FnOk P w K mg base CX0 (2 * M + 1 + 1) f fd ["value", "most", "is_root"] (spWorking N k M)
  | 0, _ => step_working hN F T hS GN kN bN gN (fnok_false (j := 2 * 0 + 1)) kT bT gT fun h => absurd rfl h
  | M + 1, h => step_working hN F T hS GN kN bN gN (step_together (by omega) FT (ok_working hN F FT T hS bF gF GN kN bN gN kT bT gT M (by omega)) F.kp bF gF) kT bT gT fun _ => rfl
def shapeB (H : Hp) (v : V) : Bool := (cw H 5 4 v true).isSome
theorem scShape : FnScope ["value"] ["value"] (defScope tShape) := ⟨rfl, rfl, rfl, by decide +kernel, rfl, by decide +kernel, by decide +kernel⟩
theorem ok_shape {N k : Nat} {f fW : Addr} {fd fdW : FuncData} (F : Fun K "is_shape" "is_shape" tShape f fd) (hS : ∃ t, mg "MAX_SHAPE" = some (.int 4 t))
    (GW : FnOk P w K mg base CX0 10 fW fdW ["value", "most", "is_root"] (spWorking N k 4)) (kW : PySem.W.keepIn K (.ref fW) = true) (bW : Binds K fdW ["value", "most", "is_root"] []) (gW : mg "count_working" = some (.ref fW)) :
    FnOk P w K mg base CX0 11 f fd ["value"] (spB N k shapeB) := by
  obtain ⟨tS, lS⟩ := hS
  refine F.ok scShape (fun vs H Q E h => ?_) (fun cdv A outer s H vs Q E hr h => ?_)
  · obtain ⟨x, rfl, _⟩ := h
    rfl
  · obtain ⟨x, rfl, tx, kk⟩ := h
    refine ⟨_, pss_one (ps_ret (pe_cmpR op_notN (pe_call GW hr rfl gW kW bW .nil pass0 (pa_cons (pv 0) (pa_cons (pe_glob (v := .int 4) rfl lS ⟨_, rfl⟩) (pa_cons pe_bl pa_nil)))) pe_non (nomark _))), ?_⟩
    refine ⟨_, rfl, x, 4, true, rfl, Nat.le_refl 4, tx, fun H1 s1 => ?_⟩
    have k2 := kk _ s1
    refine ⟨rfl, ?_⟩
    have z : shapeB H x = (cw H 5 4 x true).isSome := rfl
    rw [z] at k2
    cases c : cw H (4 + 1) 4 x true with
    | none =>
      rw [show cw H 5 4 x true = none from c] at k2
      exact k2
    | some j =>
      rw [show cw H 5 4 x true = some j from c] at k2
      exact k2
end
end K18
/-! sets of objects of any kind whose hash and equality are known: search and growth of the table -/
namespace L2.My
open PySem PySem.Spec PyProof.Rows L2
/-- objects that a set may hold, told apart by their keys -/
structure Member (P : Program) (w : World) (κ : Type) [DecidableEq κ] where
  knd : HeapKind P w κ
  roomy : ∀ A : Around, A.units < cLine → knd.room A
  noStmt : ∀ {A : Around} {E : Value → Shared → Prop} {s : Shared} {k : κ} {b : Addr} {Q : Bool → Shared → Prop}, knd.is s.heap k b → Q false s → wpAny (model P w) A (ofAClassStatement 8 (.ref b)) Q E s
  worth : ∀ {A : Around} {E : Value → Shared → Prop} {s : Shared} {k : κ} {b : Addr} {Q : Bool → Shared → Prop}, knd.is s.heap k b → (∀ c, Q c s) → wpAny (model P w) A (hashByValue 8 (.ref b)) Q E s
  stays : ∀ {h h' : Heap} {k : κ} {b : Addr}, knd.is h k b → (∀ o, h.get? b = some o → h'.get? b = some o) → knd.is h' k b
  noSet : ∀ {h : Heap} {k : κ} {b : Addr} {o : Obj} {es : Array (Int × Value)} {ep : Nat} {t : SetTable}, knd.is h k b → h.get? b = some o → o.data = .set es ep t → False
section
variable {P : Program} {w : World} {κ : Type} [DecidableEq κ] (I : Member P w κ)
abbrev Member.cell (p : Addr × κ) : Int × Value := (I.knd.hash p.2, Value.ref p.1)
abbrev Member.hashes (L : List (Addr × κ)) : List Int := L.map fun p => I.knd.hash p.2
/-- a set at a with the rows L, as its table has them -/
structure Laid (h : Heap) (a : Addr) (L : List (Addr × κ)) (es : Array (Int × Value)) (ep : Nat) (t : SetTable) : Prop where
  obj : ∃ o, h.get? a = some o ∧ o.ExactSet ∧ o.data = .set es ep t
  cells : es.toList = L.map I.cell
  tab : TabOk t (I.hashes L)
  once : (L.map Prod.snd).Nodup
  each : ∀ p ∈ L, I.knd.is h p.2 p.1
  free : w.params.followText "set-order" = true ∨ t.led = true
  wide : L.length * 5 < t.mask * 3
  few : L.length < 64
variable {A : Around} {E : Value → Shared → Prop} {s : Shared}
/-- a search among members shows nothing -/
theorem Member.unseen {k : κ} {b : Addr} {Q : Bool → Shared → Prop} (hk : I.knd.is s.heap k b) {ys : List Value} (hy : ∀ y ∈ ys, ∃ c j, y = Value.ref c ∧ I.knd.is s.heap j c) (done : Q false s) :
    wpAny (model P w) A (searchCouldBeSeen (.ref b) ys) Q E s := by
  unfold searchCouldBeSeen
  apply wpAny_bind
  refine wpAny_forIn_list _ (fun l r s1 => r.1 = none ∧ s1 = s ∧ ∀ y ∈ l, ∃ c j, y = Value.ref c ∧ I.knd.is s.heap j c) _ ?turn ?stop _ _ ⟨rfl, rfl, hy⟩
  case stop =>
    rintro ⟨o1, o2⟩ s1 ⟨e1, e2, _⟩
    dsimp only at e1
    rw [e1, e2]
    exact wpAny_pure done
  case turn =>
    rintro y l r s1 ⟨e1, rfl, all⟩
    obtain ⟨c, j, rfl, hc⟩ := all y (List.mem_cons_self ..)
    have later := fun u (hu : u ∈ l) => all u (List.mem_cons_of_mem _ hu)
    dsimp only
    cases hv : (b == c || (carriedByValue (.ref b) && carriedByValue (.ref c))) with
    | true => exact wp_if_pos rfl (wpAny_pure ⟨rfl, rfl, later⟩)
    | false =>
      refine wp_if_neg Bool.false_ne_true ?_
      refine wpAny_bind (I.knd.quiet hk ?_)
      simp only [Bool.not_true, Bool.false_eq_true, if_false]
      refine wpAny_bind (I.knd.quiet hc ?_)
      simp only [Bool.not_true, Bool.false_eq_true, if_false]
      refine wpAny_bind (I.noStmt hk ?_)
      simp only [Bool.false_eq_true, if_false]
      refine wpAny_bind (I.noStmt hc ?_)
      simp only [Bool.false_eq_true, if_false]
      exact wpAny_pure ⟨rfl, rfl, later⟩
variable {I} {a : Addr} {L : List (Addr × κ)} {es : Array (Int × Value)} {ep : Nat} {t : SetTable}
theorem Laid.count (R : Laid I s.heap a L es ep t) : es.size = L.length := by
  rw [← Array.length_toList, R.cells, List.length_map]
theorem Laid.holds (R : Laid I s.heap a L es ep t) : t.fits es.size = true := by
  have z := R.tab.sz
  have q := R.wide
  rw [List.length_map] at z
  unfold SetTable.fits SetTable.fill
  rw [R.tab.dm, R.count, Bool.and_eq_true, beq_iff_eq, decide_eq_true_eq]
  refine ⟨z, ?_⟩
  show t.place.size + 0 ≤ t.mask
  omega
theorem Laid.at (R : Laid I s.heap a L es ep t) {i : Nat} {p : Addr × κ} (e : L[i]? = some p) : es[i]? = some (I.cell p) := by
  rw [← Array.getElem?_toList, R.cells, List.getElem?_map, e]
  rfl
theorem Laid.stands (R : Laid I s.heap a L es ep t) : ¬ t.gaveWay = true := by
  unfold SetTable.gaveWay
  rw [mask_odd R.tab.mok]
  decide
theorem nth_quiet (m : Nat) : ∀ (n : Nat) {p : SetTable.Probe}, p.dummy = none → (nth m p n).dummy = none
  | 0, _, e => e
  | n + 1, p, e => nth_quiet m n (p := adv m p) (by unfold adv; split <;> exact e)
/-- the way of a hash from its c-th step on -/
abbrev stepAt (t : SetTable) (h : Int) (c : Nat) : SetTable.Probe := nth t.mask (runAt t.mask (SetTable.bits h % (t.mask + 1)) (SetTable.bits h)) c
theorem stepAt_add (t : SetTable) (h : Int) (c q : Nat) : nth t.mask (stepAt t h c) q = stepAt t h (c + q) := (nth_add t.mask c _ q).symm
theorem Laid.seek (R : Laid I s.heap a L es ep t) {x : Addr} {k : κ} (hx : I.knd.is s.heap k x) (hu : A.units < cLine) {K : Nat} (lim : K < 10 * SetTable.turns t.mask)
    (gap : way t.mask (I.knd.hash k) K ∉ t.place.toList) (run : ∀ c, c < K → way t.mask (I.knd.hash k) c ∈ t.place.toList) {Q : SetFound → Shared → Prop}
    (old : k ∈ L.map Prod.snd → Q (.there none) s) (new : k ∉ L.map Prod.snd → Q (.free (way t.mask (I.knd.hash k) K) false) s) :
    ∀ (f c : Nat) (p0 : Option SetTable.Probe), p0.getD (t.probeStart (I.knd.hash k)) = stepAt t (I.knd.hash k) c → c ≤ K → K < c + f →
      (∀ (i : Nat) (b : Addr), L[i]? = some (b, k) → ∃ d, c ≤ d ∧ d < K ∧ t.place.toList[i]? = some (way t.mask (I.knd.hash k) d)) →
      wpAny (model P w) A (setSearchFrom a (.ref x) (I.knd.hash k) true f p0) Q E s := by
  obtain ⟨o, ho, _, hd⟩ := R.obj
  intro f
  induction f with
  | zero => exact fun c p0 _ h1 h2 => absurd h2 (by omega)
  | succ f again =>
    intro c p0 e0 cK cf rest
    rw [setSearchFrom_succ]
    apply wpAny_bind
    refine wpAny_setState_of ho hd R.holds ?_
    dsimp only
    refine wp_if_neg R.stands ?_
    try refine wpAny_bind (wpAny_pure ?_)
    have place : ∀ q, (nth t.mask (stepAt t (I.knd.hash k) c) q).j = way t.mask (I.knd.hash k) (c + q) := fun q => congrArg SetTable.Probe.j (stepAt_add t _ c q)
    have end1 : c + (K - c) = K := by omega
    have met := go_spec t R.tab.ris R.tab.dm (fun i => (es[i]?.map Prod.fst).getD 0) (I.knd.hash k) (10 * SetTable.turns t.mask) (K - c) (stepAt t (I.knd.hash k) c) (nth_quiet t.mask c rfl) (by omega)
      (fun q hq => by rw [place]; exact run _ (by omega)) (by rw [place, end1]; exact gap)
    have hashOf : ∀ {i : Nat} {p : Addr × κ}, L[i]? = some p → (es[i]?.map Prod.fst).getD 0 = I.knd.hash p.2 := fun e => by rw [R.at e]; rfl
    rcases met with ⟨q, i, qK, at_i, same, first, pr⟩ | ⟨none_, pr⟩
    · have pr2 : t.probe (fun i => (es[i]?.map Prod.fst).getD 0) (I.knd.hash k) (p0.getD (t.probeStart (I.knd.hash k))) = some (.candidate (way t.mask (I.knd.hash k) (c + q)) i (stepAt t (I.knd.hash k) (c + (q + 1)))) := by
        rw [e0, ← place, ← stepAt_add]
        exact pr
      rw [pr2]
      dsimp only
      rw [place] at at_i
      have il : i < L.length := by
        obtain ⟨z, _⟩ := List.getElem?_eq_some_iff.mp at_i
        have y := R.tab.sz
        rw [List.length_map] at y
        rw [Array.length_toList, y] at z
        exact z
      obtain ⟨⟨b, j⟩, hb⟩ : ∃ p, L[i]? = some p := ⟨_, List.getElem?_eq_getElem il⟩
      have inL : (b, j) ∈ L := List.mem_of_getElem? hb
      have is_b : I.knd.is s.heap j b := R.each _ inL
      have compare : wpAny (model P w) A (searchRest a (.ref x) (I.knd.hash k) true f es t (way t.mask (I.knd.hash k) (c + q)) i (stepAt t (I.knd.hash k) (c + (q + 1)))) Q E s := by
        unfold searchRest
        rw [R.at hb]
        dsimp only
        refine wpAny_bind (wpAny_holding (I.knd.eqBool (I.roomy A hu) is_b hx ?_))
        refine wpAny_bind (wpAny_setState_of ho hd R.holds ?_)
        dsimp only
        by_cases jk : j = k
        · refine wp_if_pos (by simp [jk]) (wpAny_pure (old ?_))
          rw [← jk]
          exact List.mem_map.mpr ⟨_, inL, rfl⟩
        · refine wp_if_neg (by simp [jk]) ?_
          try refine wpAny_bind (wpAny_pure ?_)
          have live : t.slot (way t.mask (I.knd.hash k) (c + q)) = .live i := slot_live R.tab.ris at_i
          rw [sameMem]
          dsimp only
          simp only [if_true, live, R.at hb]
          refine wpAny_bind (wpAny_isSame_ref_self (wpAny_bind (wpAny_pure ?_)))
          simp only [if_true]
          refine wp_if_neg (by simp [jk]) ?_
          refine again (c + (q + 1)) _ rfl (by omega) (by omega) fun i2 b2 h2 => ?_
          obtain ⟨d, d1, d2, d3⟩ := rest i2 b2 h2
          refine ⟨d, ?_, d2, d3⟩
          apply Classical.byContradiction
          intro low
          by_cases dq : d = c + q
          · rw [dq] at d3
            have live2 := slot_live R.tab.ris d3
            rw [live] at live2
            injection live2 with ii
            rw [← ii, hb] at h2
            injection h2 with h2
            exact jk (congrArg Prod.snd h2)
          · refine first (d - c) i2 (by omega) ?_ (hashOf h2)
            rw [place, show c + (d - c) = d by omega]
            exact d3
      by_cases hl : t.led = true
      · refine wp_if_neg (by simp [hl]) ?_
        try refine wpAny_bind (wpAny_pure ?_)
        exact compare
      · refine wp_if_pos (by simp [hl]) (wpAny_bind (I.unseen hx (fun y hy => ?_) ?_))
        · obtain ⟨u, hu1, rfl⟩ := List.mem_map.mp hy
          have hu2 : u ∈ es.toList := by
            have z : u ∈ es ∧ u.1 = I.knd.hash k := by simpa using hu1
            simpa using z.1
          rw [R.cells] at hu2
          obtain ⟨p, hp, rfl⟩ := List.mem_map.mp hu2
          exact ⟨p.1, p.2, rfl, R.each p hp⟩
        · refine wp_if_neg (by decide) ?_
          try refine wpAny_bind (wpAny_pure ?_)
          exact compare
    · have pr2 : t.probe (fun i => (es[i]?.map Prod.fst).getD 0) (I.knd.hash k) (p0.getD (t.probeStart (I.knd.hash k))) = some (.empty (way t.mask (I.knd.hash k) K) none) := by
        rw [e0, ← end1, ← place]
        exact pr
      rw [pr2]
      dsimp only
      refine wpAny_pure (new fun inK => ?_)
      obtain ⟨⟨b, j⟩, inL, rfl⟩ := List.mem_map.mp inK
      obtain ⟨i, hi⟩ := List.mem_iff_getElem?.mp inL
      obtain ⟨d, d1, d2, d3⟩ := rest i b hi
      refine none_ (d - c) i (by omega) ?_ (hashOf hi)
      rw [place, show c + (d - c) = d by omega]
      exact d3
theorem Laid.search (R : Laid I s.heap a L es ep t) {x : Addr} {k : κ} (hx : I.knd.is s.heap k x) (hu : A.units < cLine) {Q : SetFound → Shared → Prop} (old : k ∈ L.map Prod.snd → Q (.there none) s)
    (new : ∀ K, k ∉ L.map Prod.snd → way t.mask (I.knd.hash k) K ∉ t.place.toList → (∀ c, c < K → way t.mask (I.knd.hash k) c ∈ t.place.toList) → Q (.free (way t.mask (I.knd.hash k) K) false) s) :
    wpAny (model P w) A (setSearch a (.ref x) (I.knd.hash k) true) Q E s := by
  have wd := R.wide
  obtain ⟨K, lim, gap, run⟩ := R.tab.first (by rw [List.length_map]; omega) (I.knd.hash k)
  have small : 10 * SetTable.turns t.mask ≤ 1420 := by
    unfold SetTable.turns
    rcases R.tab.mok with e | e | e <;> omega
  unfold setSearch
  refine R.seek hx hu lim gap run old (fun no => new K no gap run) 100000 0 none rfl (Nat.zero_le _) (by omega) fun i b hi => ?_
  have hh : (I.hashes L)[i]? = some (I.knd.hash k) := by rw [List.getElem?_map, hi]; rfl
  have il : i < t.place.toList.length := by
    obtain ⟨z, _⟩ := List.getElem?_eq_some_iff.mp hh
    rw [Array.length_toList, R.tab.sz]
    exact z
  obtain ⟨d, dK, e⟩ := R.tab.before gap hh (List.getElem?_eq_getElem il)
  exact ⟨d, Nat.zero_le _, dK, by rw [List.getElem?_eq_getElem il, e]⟩
end
end L2.My
/-! sets of members: one more member, and the table laid anew -/
namespace L2.My
open PySem PySem.Spec PyProof.Rows L2
section
variable {P : Program} {w : World} {κ : Type} [DecidableEq κ] {I : Member P w κ} {A : Around} {E : Value → Shared → Prop} {s : Shared}
theorem Member.past {h h' : Heap} {k : κ} {b a : Addr} {o : Obj} {es : Array (Int × Value)} {ep : Nat} {t : SetTable} (m : I.knd.is h k b) (ho : h.get? a = some o) (hd : o.data = .set es ep t) (sb : Heap.SameBut a h h') : I.knd.is h' k b :=
  I.stays m fun u hu => by
    have ne : b ≠ a := fun e => I.noSet m (e ▸ ho) hd
    rw [sb.2 b ne]
    exact hu
theorem Member.asked {β : Type} {k : κ} {x : Addr} {t : SetTable} {f : Bool → Sem β} {Q : β → Shared → Prop} (hx : I.knd.is s.heap k x) (q : ∀ c, wpAny (model P w) A (f c) Q E s) :
    wpAny (model P w) A (if t.plain = true then hashByValue 8 (.ref x) >>= f else pure true >>= f) Q E s := by
  by_cases pl : t.plain = true
  · exact wp_if_pos pl (wpAny_bind (I.worth hx q))
  · exact wp_if_neg pl (wpAny_bind (wpAny_pure (q true)))
theorem cut_perm {α : Type} (L : List α) (n : Nat) (x : α) : (L.take n ++ x :: L.drop n).Perm (x :: L) := by
  have z : (L.take n ++ x :: L.drop n).Perm (x :: (L.take n ++ L.drop n)) := List.perm_middle
  rwa [List.take_append_drop] at z
theorem gather {β γ : Type} {xs : List β} {g : Nat → Option γ} {q : β → γ} (hg : ∀ i, g i = (xs[i]?).map q) : ∀ {is : List Nat}, (∀ i ∈ is, i < xs.length) → is.filterMap g = (is.filterMap fun i => xs[i]?).map q
  | [], _ => rfl
  | i :: is, h => by
    have hi := h i (List.mem_cons_self ..)
    have e1 : xs[i]? = some xs[i] := List.getElem?_eq_getElem hi
    have e2 : g i = some (q xs[i]) := by rw [hg i, e1]; rfl
    rw [List.filterMap_cons_some (f := g) e2, List.filterMap_cons_some (f := fun i => xs[i]?) e1, List.map_cons, gather hg fun j hj => h j (List.mem_cons_of_mem _ hj)]
theorem pick_all {β : Type} (xs : List β) : (List.range xs.length).filterMap (fun i => xs[i]?) = xs := by
  have z : ∀ n, n ≤ xs.length → (List.range n).filterMap (fun i => xs[i]?) = xs.take n := by
    intro n
    induction n with
    | zero => intro _; rfl
    | succ n ih =>
      intro hn
      have e : xs[n]? = some xs[n] := List.getElem?_eq_getElem hn
      rw [List.range_succ, List.filterMap_append, ih (Nat.le_of_succ_le hn), List.filterMap_cons_some (f := fun i => xs[i]?) e, List.filterMap_nil, List.take_succ, e]
      rfl
  rw [z _ (Nat.le_refl _), List.take_length]
variable {a : Addr} {L : List (Addr × κ)} {es : Array (Int × Value)} {ep : Nat} {t : SetTable}
/-- the larger table has the same rows in another order -/
theorem Laid.anew {o : Obj} (ho : s.heap.get? a = some o) (ex : o.ExactSet) (hd : o.data = .set es ep t) (cells : es.toList = L.map I.cell) (sz : t.place.size = es.size) (dm : t.dummies = #[]) (fill : es.size ≤ t.mask)
    (once : (L.map Prod.snd).Nodup) (each : ∀ p ∈ L, I.knd.is s.heap p.2 p.1) (free : w.params.followText "set-order" = true ∨ t.led = true) (few : L.length < 64) {many M : Nat}
    (toM : SetTable.sizeAbove many - 1 = M) (okM : MaskOk M) (small : SetTable.sizeAbove many ≤ 128) (wide : L.length * 5 < M * 3) {Q : Unit → Shared → Prop}
    (done : ∀ h' L' es' ep' t', Heap.SameBut a s.heap h' → Laid I h' a L' es' ep' t' → L'.Perm L → Q () { s with heap := h' }) : wpAny (model P w) A (setRelay a many) Q E s := by
  have n0 : es.size = L.length := by rw [← Array.length_toList, cells, List.length_map]
  have line : sizeLine = 16777216 := by decide
  have fits : t.fits es.size = true := by
    unfold SetTable.fits SetTable.fill
    rw [dm, Bool.and_eq_true, beq_iff_eq, decide_eq_true_eq]
    refine ⟨sz, ?_⟩
    show t.place.size + 0 ≤ t.mask
    omega
  obtain ⟨t2, order, rel, prm, tab, mk, ld, pl, _⟩ := relaid_ok t (hs := es.map Prod.fst) (wanted := many) toM okM (by rw [Array.size_map, n0]; omega)
  rw [Array.size_map, n0] at prm
  have inb : ∀ i ∈ order.toList, i < L.length := fun i hi => List.mem_range.mp (prm.mem_iff.mp hi)
  have esAt : ∀ i, es[i]? = (L[i]?).map I.cell := fun i => by rw [← Array.getElem?_toList, cells, List.getElem?_map]
  have got := gather (xs := L) (q := I.cell) esAt inb
  generalize hL : order.toList.filterMap (fun i => L[i]?) = L2 at got
  have pL : L2.Perm L := by
    have z := prm.filterMap fun i => L[i]?
    rw [pick_all L] at z
    rw [← hL]
    exact z
  have es2 : (order.filterMap (es[·]?)).toList = L2.map I.cell := by
    rw [Array.toList_filterMap]
    exact got
  have n2 : (order.filterMap (es[·]?)).size = es.size := by rw [← Array.length_toList, es2, List.length_map, pL.length_eq, n0]
  have hs2 : I.hashes L2 = order.toList.map fun i => (es.map Prod.fst).getD i 0 := by
    rw [← hL]
    clear hL pL es2 n2 got prm rel tab
    revert inb
    generalize order.toList = is
    intro inb
    induction is with
    | nil => rfl
    | cons i is ih =>
      have hi := inb i (List.mem_cons_self ..)
      have e1 : L[i]? = some L[i] := List.getElem?_eq_getElem hi
      have e2 : (es.map Prod.fst).getD i 0 = I.knd.hash L[i].2 := by
        have z : (es.map Prod.fst)[i]? = some (I.knd.hash L[i].2) := by rw [Array.getElem?_map, esAt i, e1]; rfl
        rw [Array.getD_eq_getD_getElem?, z]
        rfl
      rw [List.filterMap_cons_some (f := fun i => L[i]?) e1, List.map_cons, ← ih fun j hj => inb j (List.mem_cons_of_mem _ hj), e2]
      rfl
  rw [← hs2] at tab
  rw [setRelay_eq]
  apply wpAny_bind
  refine wpAny_setState_of ho hd fits ?_
  dsimp only
  refine wp_if_neg (by rw [line]; omega) ?_
  try refine wpAny_bind (wpAny_pure ?_)
  rw [rel]
  dsimp only
  apply wpAny_bind
  refine wp_if_neg (by rw [n2]; simp) ?_
  try refine wpAny_bind (wpAny_pure ?_)
  refine wpAny_pure ?_
  dsimp only
  refine wpAny_storeSet_of ho hd ?_ (by rw [n2, n0, line]; omega)
  have sb : Heap.SameBut a s.heap (s.heap.update a (Obj.putSet (order.filterMap (es[·]?)) t2)) := Heap.SameBut.update ..
  refine done _ L2 (order.filterMap (es[·]?)) (ep + 1) t2 sb ⟨⟨_, store_at ho hd, ⟨ex.1, ex.2.1, ex.2.2⟩, rfl⟩, es2, tab, (pL.map Prod.snd).nodup_iff.mpr once, fun p hp => Member.past (I := I) (each p (pL.mem_iff.mp hp)) ho hd sb, ?_, ?_, ?_⟩ pL
  · rw [ld]
    exact free
  · rw [pL.length_eq, mk]
    exact wide
  · rw [pL.length_eq]
    exact few
/-- one more -/
theorem Laid.add (R : Laid I s.heap a L es ep t) {x : Addr} {k : κ} (hx : I.knd.is s.heap k x) (hu : A.units < cLine) (few : L.length + 1 < 64) {Q : Bool → Shared → Prop}
    (done : ∀ b h' L' es' ep' t', Heap.SameBut a s.heap h' → Laid I h' a L' es' ep' t' → (k ∈ L.map Prod.snd → L' = L) → (k ∉ L.map Prod.snd → L'.Perm ((x, k) :: L)) → Q b { s with heap := h' }) :
    wpAny (model P w) A (setAddHashed a (.ref x) (I.knd.hash k)) Q E s := by
  obtain ⟨o, ho, ex, hd⟩ := R.obj
  have n0 := R.count
  have wd := R.wide
  have line : sizeLine = 16777216 := by decide
  unfold setAddHashed
  refine wpAny_holding ?_
  rw [show (100000 : Nat) = 99999 + 1 from rfl, setAddHashedIn_succ]
  apply wpAny_bind
  refine wpAny_setState_of ho hd R.holds ?_
  dsimp only
  refine wp_if_neg (by simp [byScan, Value.scannable]) ?_
  try refine wpAny_bind (wpAny_pure ?_)
  refine wpAny_bind (R.search hx hu (fun isIn => ?_) fun K notIn gap run => ?_)
  · dsimp only
    exact wpAny_pure (done false _ L es ep t (Heap.SameBut.refl a s.heap) R (fun _ => rfl) fun no => absurd isIn no)
  dsimp only
  refine wpAny_bind (wpAny_setState_of ho hd R.holds ?_)
  dsimp only
  obtain ⟨p2, _, tab2, mk2, ld2, _, _, _, fl2⟩ := R.tab.put gap run
  revert p2 tab2 mk2 ld2 fl2
  generalize t.put (way t.mask (I.knd.hash k) K) = both
  obtain ⟨t2, n⟩ := both
  dsimp only
  rintro rfl tab2 mk2 ld2 fl2
  refine Member.asked (I := I) (t := t2) hx fun c => ?_
  have same : TabOk (if c = true then t2 else { t2 with plain := false }) ((I.hashes L).take (SetTable.below t.place (way t.mask (I.knd.hash k) K)) ++ I.knd.hash k :: (I.hashes L).drop (SetTable.below t.place (way t.mask (I.knd.hash k) K))) ∧
      (if c = true then t2 else { t2 with plain := false }).mask = t.mask ∧ (if c = true then t2 else { t2 with plain := false }).led = t.led ∧ (if c = true then t2 else { t2 with plain := false }).fill = (I.hashes L).length + 1 := by
    cases c with
    | true => exact ⟨tab2, mk2, ld2, fl2⟩
    | false => exact ⟨⟨tab2.ris, tab2.dm, tab2.sz, tab2.mok, tab2.bd, tab2.reach⟩, mk2, ld2, fl2⟩
  clear tab2 mk2 ld2 fl2
  revert same
  generalize (if c = true then t2 else { t2 with plain := false }) = t2
  rintro ⟨tab2, mk2, ld2, fl2⟩
  have cells2 : (SetTable.insertAt es (SetTable.below t.place (way t.mask (I.knd.hash k) K)) (I.knd.hash k, Value.ref x)).toList = (L.take (SetTable.below t.place (way t.mask (I.knd.hash k) K)) ++ (x, k) :: L.drop (SetTable.below t.place (way t.mask (I.knd.hash k) K))).map I.cell := by
    rw [SetTable.toList_insertAt, R.cells, List.map_append, List.map_cons, List.map_take, List.map_drop]
  revert tab2 cells2
  generalize SetTable.below t.place (way t.mask (I.knd.hash k) K) = n
  intro tab2 cells2
  have prm := cut_perm L n (x, k)
  have tab3 : TabOk t2 (I.hashes (L.take n ++ (x, k) :: L.drop n)) := by
    show TabOk t2 ((L.take n ++ (x, k) :: L.drop n).map fun p => I.knd.hash p.2)
    rw [List.map_append, List.map_cons, List.map_take, List.map_drop]
    exact tab2
  revert cells2 tab3 prm
  generalize L.take n ++ (x, k) :: L.drop n = L2
  generalize SetTable.insertAt es n (I.knd.hash k, Value.ref x) = es2
  intro cells2 prm tab3
  have nL : L2.length = L.length + 1 := prm.length_eq
  have n2 : es2.size = L.length + 1 := by rw [← Array.length_toList, cells2, List.length_map, nL]
  have once2 : (L2.map Prod.snd).Nodup := (prm.map Prod.snd).nodup_iff.mpr (by rw [List.map_cons]; exact List.nodup_cons.mpr ⟨notIn, R.once⟩)
  refine wpAny_bind (wpAny_storeSet_of ho hd ?_ (by rw [n2, line]; omega))
  have sb : Heap.SameBut a s.heap (s.heap.update a (Obj.putSet es2 t2)) := Heap.SameBut.update ..
  have ho2 := store_at (es' := es2) (t' := t2) ho hd
  revert sb ho2
  generalize s.heap.update a (Obj.putSet es2 t2) = h2
  intro sb ho2
  have each2 : ∀ p ∈ L2, I.knd.is h2 p.2 p.1 := fun p hp => by
    rcases List.mem_cons.mp (prm.mem_iff.mp hp) with rfl | hp
    · exact Member.past (I := I) hx ho hd sb
    · exact Member.past (I := I) (R.each p hp) ho hd sb
  have free2 : w.params.followText "set-order" = true ∨ t2.led = true := by rw [ld2]; exact R.free
  by_cases full : t2.tooFull = true
  · first
      | (refine wpAny_bind ?_; refine wp_if_pos (by simp [full]) ?_)
      | (refine wp_if_pos (by simp [full]) ?_; refine wpAny_bind ?_)
    have much : (L.length + 1) * 5 ≥ t2.mask * 3 := by
      unfold SetTable.tooFull at full
      rw [decide_eq_true_eq, fl2, List.length_map] at full
      exact full
    rw [mk2] at much
    rw [n0]
    have sz2 : t2.place.size = es2.size := by rw [tab3.sz, List.length_map, nL, n2]
    have grow : ∀ M, SetTable.sizeAbove (SetTable.grown (L.length + 1)) - 1 = M → MaskOk M → SetTable.sizeAbove (SetTable.grown (L.length + 1)) ≤ 128 → (L.length + 1) * 5 < M * 3 → L.length + 1 ≤ t2.mask →
        wpAny (model P w) A (setRelay a (SetTable.grown (L.length + 1))) (fun _ s' => wpAny (model P w) A (pure true) Q E s') E { s with heap := h2 } := fun M q1 q2 q3 q4 q5 =>
      Laid.anew (I := I) (s := { s with heap := h2 }) ho2 ⟨ex.1, ex.2.1, ex.2.2⟩ rfl cells2 sz2 tab3.dm (by rw [n2]; exact q5) once2 each2 free2 (by rw [nL]; exact few) q1 q2 q3 (by rw [nL]; exact q4) fun h3 L3 es3 ep3 t3 sb3 R3 prm3 =>
        wpAny_pure (done true h3 L3 es3 ep3 t3 (sb.trans sb3) R3 (fun yes => absurd yes notIn) fun _ => prm3.trans prm)
    rcases R.tab.mok with e | e | e
    · have e4 : L.length = 4 := by omega
      exact grow 31 (by rw [e4, size_20]) (.inr (.inl rfl)) (by rw [e4, size_20]; decide) (by omega) (by omega)
    · have e18 : L.length = 18 := by omega
      exact grow 127 (by rw [e18, size_76]) (.inr (.inr rfl)) (by rw [e18, size_76]; decide) (by omega) (by omega)
    · omega
  · first
      | refine wp_if_neg (by simp [full]) ?_
      | (refine wpAny_bind ?_; refine wp_if_neg (by simp [full]) ?_; refine wpAny_pure ?_)
    refine wpAny_pure (done true h2 L2 es2 (ep + 1) t2 sb ⟨⟨_, ho2, ⟨ex.1, ex.2.1, ex.2.2⟩, rfl⟩, cells2, tab3, once2, each2, free2, ?_, by rw [nL]; exact few⟩ (fun yes => absurd yes notIn) fun _ => prm)
    unfold SetTable.tooFull at full
    rw [decide_eq_true_eq, fl2, List.length_map] at full
    rw [nL]
    omega
end
end L2.My
/-! set(t), t a tuple of members -/
namespace L2.My
open PySem PySem.Spec PyProof.Rows L2
section
variable {P : Program} {w : World} {κ : Type} [DecidableEq κ] {I : Member P w κ} {A : Around} {E : Value → Shared → Prop} {s : Shared}
theorem Laid.later {h h' : Heap} {a : Addr} {L : List (Addr × κ)} {es : Array (Int × Value)} {ep : Nat} {t : SetTable} (R : Laid I h a L es ep t) (ka : ∀ o, h.get? a = some o → h'.get? a = some o) (kL : ∀ p ∈ L, I.knd.is h' p.2 p.1) : Laid I h' a L es ep t := by
  obtain ⟨o, ho, r⟩ := R.obj
  exact ⟨⟨o, ka o ho, r⟩, R.cells, R.tab, R.once, kL, R.free, R.wide, R.few⟩
abbrev bareSet (led : Bool) : Obj := { cls := .type "set", dict := none, data := .set #[] 0 (.fresh 0 0 led) }
theorem Laid.bare {h : Heap} {a : Addr} (e : h.get? a = some (bareSet (!w.params.followText "set-order"))) : Laid I h a [] #[] 0 (.fresh 0 0 (!w.params.followText "set-order")) := by
  refine ⟨⟨_, e, ⟨rfl, rfl, rfl⟩, rfl⟩, rfl, ⟨List.Pairwise.nil, rfl, rfl, .inl rfl, fun x hx => (by cases hx), fun i h j hi => (by cases hi)⟩, List.nodup_nil, fun p hp => (by cases hp), ?_, by show 0 * 5 < 7 * 3; decide, by show 0 < 64; decide⟩
  show _ ∨ (!w.params.followText "set-order") = true
  cases w.params.followText "set-order" with
  | true => exact .inl rfl
  | false => exact .inr rfl
/-- L has what the first i members have -/
structure Upto (ks : List (Addr × κ)) (i : Nat) (L : List (Addr × κ)) : Prop where
  into : ∀ p ∈ L, p ∈ ks.take i
  cover : ∀ p ∈ ks.take i, p.2 ∈ L.map Prod.snd
  short : L.length ≤ i
theorem take_one {α : Type} {l : List α} {i : Nat} {x : α} (e : l[i]? = some x) : l.take (i + 1) = l.take i ++ [x] := by
  rw [List.take_succ, e]
  rfl
theorem Upto.next {ks L L' : List (Addr × κ)} {i : Nat} {x : Addr × κ} (u : Upto ks i L) (e : ks[i]? = some x) (c1 : x.2 ∈ L.map Prod.snd → L' = L) (c2 : x.2 ∉ L.map Prod.snd → L'.Perm (x :: L)) : Upto ks (i + 1) L' := by
  have tk := take_one e
  by_cases m : x.2 ∈ L.map Prod.snd
  · rw [c1 m]
    refine ⟨fun p hp => ?_, fun p hp => ?_, Nat.le_succ_of_le u.short⟩ <;> rw [tk] at *
    · exact List.mem_append_left _ (u.into p hp)
    · rcases List.mem_append.mp hp with hp | hp
      · exact u.cover p hp
      · rw [List.mem_singleton.mp hp]
        exact m
  · have pm := c2 m
    refine ⟨fun p hp => ?_, fun p hp => ?_, by rw [pm.length_eq]; exact Nat.succ_le_succ u.short⟩
    · rw [tk]
      rcases List.mem_cons.mp (pm.mem_iff.mp hp) with rfl | hp
      · exact List.mem_append_right _ (List.mem_singleton.mpr rfl)
      · exact List.mem_append_left _ (u.into p hp)
    · rw [(pm.map Prod.snd).mem_iff, List.map_cons]
      rw [tk] at hp
      rcases List.mem_append.mp hp with hp | hp
      · exact List.mem_cons_of_mem _ (u.cover p hp)
      · rw [List.mem_singleton.mp hp]
        exact List.mem_cons_self ..
theorem fillSet {J : Addr} {fp wr : List Addr} {G : Array GenState → Array GenState → Prop} {n : Nat} {Pv : Nat → Value → Prop} {St : Nat → Shared → Prop} {R : Result → Shared → Prop}
    (W : WalksS P w A.in1 J fp wr G n Pv St) (a : Addr) (off : a ∉ fp) (ks : List (Addr × κ)) (len : n = ks.length) (few : ks.length < 64) (turn : ∀ i v, Pv i v → ∃ p, ks[i]? = some p ∧ v = .ref p.1)
    (base : Heap) (members : ∀ p ∈ ks, I.knd.is base p.2 p.1) (a0 : base.get? a = none) (w0 : ∀ b ∈ wr, base.get? b = none) (hu : A.in1.units < cLine) :
    ∀ (k i : Nat) (s : Shared), i + k = n → St i s → (∀ b o, base.get? b = some o → s.heap.get? b = some o) → (∃ L es ep t, Laid I s.heap a L es ep t ∧ Upto ks i L) →
      (∀ s' L es ep t, Moved (a :: wr) G s s' → Laid I s'.heap a L es ep t → Upto ks n L → (∀ b o, base.get? b = some o → s'.heap.get? b = some o) → R (.ok (.ret .none)) s') →
      codeAny (model P w) A (.builtin "set.update.loop" ⟨[.ref a, .ref J], []⟩) R s := by
  have aw : a ∉ wr := fun h => off (W.sub _ h)
  have kept : ∀ {s s' : Shared}, Moved wr G s s' → (∀ b o, base.get? b = some o → s.heap.get? b = some o) → ∀ b o, base.get? b = some o → s'.heap.get? b = some o := fun mv kp b o e =>
    mv.heap b o (fun hb => by rw [w0 b hb] at e; cases e) (kp b o e)
  have lives : ∀ {h : Heap}, (∀ b o, base.get? b = some o → h.get? b = some o) → ∀ p ∈ ks, I.knd.is h p.2 p.1 := fun kp p hp => I.stays (members p hp) fun o e => kp _ o e
  have wide : ∀ {s s' : Shared}, Moved wr G s s' → Moved (a :: wr) G s s' := fun mv => mv.mono fun b hb => List.mem_cons_of_mem _ hb
  intro k
  induction k with
  | zero =>
    rintro i s ik st kp ⟨L, es, ep, t, lay, up⟩ done
    obtain rfl : i = n := by omega
    refine codeAny_builtin F.entry_set_update_loop ?_
    rw [Around.under_plainId F.plain_set_update_loop _]
    show wpAny _ A.in1 (pyNext (.ref J) >>= _) _ _ s
    refine wpAny_bind (W.done s _ _ st fun s2 mv => ?_)
    show wpAny _ A.in1 (ret Value.none) _ _ s2
    have kp2 := kept mv kp
    exact wpAny_pure (done s2 L es ep t (wide mv) (lay.later (fun o e => mv.heap a o aw e) fun p hp => lives kp2 p (List.mem_of_mem_take (up.into p hp))) up kp2)
  | succ k again =>
    rintro i s ik st kp ⟨L, es, ep, t, lay, up⟩ done
    have lt : i < n := by omega
    refine codeAny_builtin F.entry_set_update_loop ?_
    rw [Around.under_plainId F.plain_set_update_loop _]
    show wpAny _ A.in1 (pyNext (.ref J) >>= _) _ _ s
    refine wpAny_bind (W.item i s _ _ lt st fun v s2 pv st2 mv => ?_)
    obtain ⟨x, hx, rfl⟩ := turn i v pv
    have kp2 := kept mv kp
    have lay2 : Laid I s2.heap a L es ep t := lay.later (fun o e => mv.heap a o aw e) fun p hp => lives kp2 p (List.mem_of_mem_take (up.into p hp))
    have is_x := lives kp2 x (List.mem_of_getElem? hx)
    show wpAny _ A.in1 (holding [Value.ref x.1] (setAdd a (.ref x.1)) >>= _) _ _ s2
    apply wpAny_bind
    apply wpAny_holding
    unfold setAdd
    apply wpAny_holding
    apply wpAny_bind
    refine I.knd.pyHash (I.roomy _ hu) is_x ?_
    refine Laid.add (s := { s2 with toks := s2.toks + I.knd.draws x.2 }) lay2 is_x hu (by have := up.short; omega) fun b h3 L3 es3 ep3 t3 sb lay3 c1 c2 => ?_
    have up3 := up.next hx c1 c2
    have kp3 : ∀ b o, base.get? b = some o → h3.get? b = some o := fun b o e => by
      rw [sb.2 b (fun z => by rw [z, a0] at e; cases e)]
      exact kp2 b o e
    refine wpAny_pure ⟨plainId_quiet F.plain_set_update_loop _, again (i + 1) _ (by omega) (W.frame _ s2 _ _ st2 (Nat.le_add_right _ _) fun b hb o e => ?_) kp3 ⟨L3, es3, ep3, t3, lay3, up3⟩ fun s4 L4 es4 ep4 t4 mv4 lay4 up4 kp4 => ?_⟩
    · rw [sb.2 b (fun z => off (z ▸ hb))]
      exact e
    · refine done s4 L4 es4 ep4 t4 (Moved.trans W.gtrans ((wide mv).then_heap (Nat.le_add_right _ _) fun b o hb e => ?_) mv4) lay4 up4 kp4
      rw [sb.2 b (fun z => hb (by rw [z]; exact List.mem_cons_self ..))]
      exact e
set_option maxHeartbeats 8000000 in
/-- set(t) -/
theorem setOfTuple {l : Addr} {items : Array Value} (ks : List (Addr × κ)) {Q : Value → Shared → Prop} (hh : A.handled = none) (hl : s.heap.IsTuple l items) (hit : items.toList = ks.map fun p => Value.ref p.1) (members : ∀ p ∈ ks, I.knd.is s.heap p.2 p.1)
    (few : ks.length < 64) (hu : A.units + 3 < cLine) (done : ∀ (h' : Heap) (tk : Nat) L es ep t, Laid I h' s.heap.objs.size L es ep t → Upto ks ks.length L → (∀ b o, s.heap.get? b = some o → h'.get? b = some o) → Q (.ref s.heap.objs.size) { s with heap := h', toks := tk }) :
    wpAny (model P w) A (call (.type "set") [.ref l]) Q E s := by
  have size : items.size = ks.length := by rw [← Array.length_toList, hit, List.length_map]
  obtain ⟨_, _, hmro⟩ := F.called_set.mro
  have z1 := F.called_set.made
  have z2 := F.called_set.sub
  refine wpAny_call (codeAny_of_tree ?_)
  show wpAny _ _ (callAny (.type "set") _) _ _ _
  refine wpAny_pure ⟨Code.quiet_builtin _ (by decide +kernel), codeAny_builtin F.entry_type_call ?_⟩
  rw [Around.under_plain (weight_type_call_type "set" [.ref l] []) rfl]
  have z3 := F.called_set.notType
  have z4 := F.called_set.canCreate
  have z5 := F.typeCall_set_1 (.ref l)
  repeat (any_goals (first | assumption | wp_step))
  refine codeAny_mono (code_set_led1 (.ref l) (E := E) (Q₁ := fun v s1 => v = .ref s.heap.objs.size ∧ s1 = { s with heap := s.heap.push (bareSet (!w.params.followText "set-order")) }) ⟨rfl, rfl⟩) fun r s1 hr => ?_
  cases r with
  | error e => exact hr
  | ok fl =>
  cases fl with
  | ret v =>
    obtain ⟨rfl, rfl⟩ := hr
    have newAt : (s.heap.push (bareSet (!w.params.followText "set-order"))).get? s.heap.objs.size = some (bareSet (!w.params.followText "set-order")) := Heap.get?_push_size _ rfl
    have ty : Shared.TypeIs { s with heap := s.heap.push (bareSet (!w.params.followText "set-order")) } (.ref s.heap.objs.size) "set" := ⟨_, newAt, rfl⟩
    have z6 := F.called_set.init.lookup
    have z7 := F.called_set.init.bind (.ref s.heap.objs.size)
    repeat (any_goals (first | assumption | wp_step))
    refine codeAny_mono (codeAny_call_builtin (R := wants (fun r s2 => r = .none ∧ ∃ h' tk L es ep t, s2 = { s with heap := h', toks := tk } ∧ Laid I h' s.heap.objs.size L es ep t ∧ Upto ks ks.length L ∧ ∀ b o, s.heap.get? b = some o → h'.get? b = some o) E)
      F.called_set.init.plain F.entry_set_init (check_set_init_1 ty ?_)) fun r2 s2 hr2 => ?_
    · obtain ⟨⟨c1, d1, dt, sl⟩, hol, hc, m, hd⟩ := hl
      dsimp only at hc hd
      subst hc hd
      have hol2 : (s.heap.push (bareSet (!w.params.followText "set-order"))).get? l = some { cls := .type "tuple", dict := d1, data := .seq items m, slots := sl } := Heap.get?_push_of_some _ hol
      have y1 := F.sub_tuple_set
      have y2 := F.sub_tuple_frozenset
      have y3 : (Value.type "tuple" == Value.type "dict") = false := by decide
      have src : (s.heap.push (bareSet (!w.params.followText "set-order"))).IsTuple l items := ⟨_, hol2, rfl, m, rfl⟩
      unfold Builtin.«set.__init__» noKeywords Builtin.Frozenset.updateFrom
      generalize hIter : pyIter = it
      wp_walk
      subst hIter
      refine wpAny_pyIter_tuple src ?_
      refine wpAny_bind (wpAny_runValue ?_)
      have lS : l < s.heap.objs.size := Heap.lt_size hol
      have len1 : (s.heap.push (bareSet (!w.params.followText "set-order"))).objs.size = s.heap.objs.size + 1 := Heap.size_push ..
      have lJ : l ≠ (s.heap.push (bareSet (!w.params.followText "set-order"))).objs.size := by rw [len1]; exact Nat.ne_of_lt (Nat.lt_succ_of_lt lS)
      have calm : A.in1.in1.in1.handled = none := by simp [hh]
      have absent : ∀ b, s.heap.objs.size ≤ b → s.heap.get? b = none := fun b hb => by
        cases q : s.heap.get? b with
        | none => rfl
        | some o => exact absurd (Heap.lt_size q) (Nat.not_lt_of_le hb)
      refine fillSet (I := I) ((Walks.tuple calm _ l lJ items).toS) s.heap.objs.size (by rw [len1]; simp only [List.mem_cons, List.not_mem_nil, or_false, not_or]; exact ⟨Nat.ne_of_lt (Nat.lt_succ_self _), Nat.ne_of_gt lS⟩) ks size few (fun i v hv => ?turn) s.heap members (absent _ (Nat.le_refl _))
        (fun b hb => absent b (by rw [List.mem_singleton.mp hb, len1]; exact Nat.le_succ _)) hu items.size 0 _ (Nat.zero_add _) ⟨⟨_, Heap.get?_push_size _ rfl, rfl, rfl⟩, (src.push _)⟩ (fun b o e => Heap.get?_push_of_some _ (Heap.get?_push_of_some _ e)) ?first ?last
      case turn =>
        have q : items.toList[i]? = some v := by rw [Array.getElem?_toList]; exact hv
        rw [hit, List.getElem?_map] at q
        cases hk : ks[i]? with
        | none =>
          rw [hk] at q
          cases q
        | some p =>
          rw [hk] at q
          exact ⟨p, rfl, (Option.some.inj q).symm⟩
      case first => exact ⟨[], #[], 0, _, Laid.bare (Heap.get?_push_of_some _ newAt), ⟨fun p hp => (by cases hp), fun p hp => (by simp at hp), Nat.le_refl _⟩⟩
      case last =>
        rintro ⟨h3, g3, d3, tk3, o3⟩ L es ep t mv lay up kp
        obtain rfl : g3 = s.gens := mv.gens
        obtain rfl : d3 = s.drawn := mv.drawn
        obtain rfl : o3 = s.os := mv.os
        show wpAny _ _ _ _ _ _
        refine wpAny_pure ?_
        show wpAny _ _ (ret Value.none) _ _ _
        rw [size] at up
        exact wpAny_pure ⟨rfl, h3, tk3, L, es, ep, t, rfl, lay, up, kp⟩
    · cases r2 with
      | error e => exact hr2
      | ok fl2 =>
      cases fl2 with
      | ret r =>
        obtain ⟨rfl, h3, tk3, L, es, ep, t, rfl, lay, up, kp⟩ := hr2
        repeat (any_goals (first | assumption | wp_step))
        exact done _ _ _ _ _ _ lay up kp
      | _ => exact hr2.elim
  | _ => exact hr.elim
end
end L2.My
/-! tuples of ints and texts in a set; set(t) and sorted(set) as rules -/
namespace L2.My
open PySem PySem.Spec PyProof.Rows L2
section
variable {P : Program} {w : World} {A : Around} {E : Value → Shared → Prop} {s : Shared}
theorem keyed_shape : ∀ {k : List Key} {vs : List Value}, ItemsAre (mixKind P w) k vs → ∀ v ∈ vs, (∃ i t, v = Value.int i t) ∨ ∃ z t, v = Value.str z t
  | [], _, .nil, v, hv => by cases hv
  | k :: ks, u :: us, .cons h r, v, hv => by
    rcases List.mem_cons.mp hv with rfl | hv
    · cases k with
      | inl i =>
        obtain ⟨t, e⟩ := Value.isInt_shape (show Value.isInt i v = true from h)
        exact .inl ⟨i, t, e⟩
      | inr z =>
        obtain ⟨t, e⟩ := Value.isStrOf_shape (show Value.isStrOf z v = true from h)
        exact .inr ⟨z, t, e⟩
    · exact keyed_shape r v hv
theorem plain_stmt {n : Nat} {v : Value} (h : (∃ i t, v = Value.int i t) ∨ ∃ z t, v = Value.str z t) : ofAClassStatement n v = pure false := by
  rcases h with ⟨i, t, rfl⟩ | ⟨z, t, rfl⟩ <;> cases n <;> rfl
theorem eachItem {items : Array Value} {f : Value → Sem Bool} {b : Bool} {R : Option Bool × Unit → Shared → Prop} {body : Value → Option Bool × Unit → Sem (ForInStep (Option Bool × Unit))} (hf : ∀ v ∈ items.toList, ∀ (Q' : ForInStep (Option Bool × Unit) → Shared → Prop), Q' (.yield (none, ())) s → wpAny (model P w) A (body v (none, ())) Q' E s)
    (done : R (none, ()) s) : wpAny (model P w) A (forIn items (none, ()) body) R E s := by
  rw [← Array.forIn_toList]
  refine wpAny_forIn_list _ (fun l r s1 => r = (none, ()) ∧ s1 = s ∧ ∀ v ∈ l, v ∈ items.toList) _ ?_ ?_ _ _ ⟨rfl, rfl, fun _ h => h⟩
  · rintro v l r s1 ⟨rfl, rfl, all⟩
    exact hf v (all v (List.mem_cons_self ..)) _ ⟨rfl, rfl, fun u hu => all u (List.mem_cons_of_mem _ hu)⟩
  · rintro r s1 ⟨rfl, rfl, _⟩
    exact done
theorem tuple_stmt {k : List Key} {b : Addr} {Q : Bool → Shared → Prop} (m : IsTupleKey (mixKind P w) s.heap k b) (done : Q false s) : wpAny (model P w) A (ofAClassStatement 8 (.ref b)) Q E s := by
  have ty := m.typeIs
  obtain ⟨o, items, n, ho, _, hd, hi⟩ := m
  unfold ofAClassStatement
  refine wpAny_bind (wpAny_typeOf ty ?_)
  dsimp only
  have e : (("tuple" : String) == "tuple") = true := by decide
  simp only [e, if_true, Bool.not_true, Bool.false_eq_true, if_false]
  try refine wpAny_bind (wpAny_pure ?_)
  try simp only [Bool.not_true, Bool.false_eq_true, if_false]
  show wpAny _ _ (seqItems? (.ref b) >>= _) _ _ s
  refine wpAny_bind (wpAny_seqItems ho hd ?_)
  dsimp only
  apply wpAny_bind
  show wpAny _ _ (forIn items _ _) _ _ s
  refine eachItem (f := fun _ => pure false) (b := false) (fun v hv Q' q => ?_) ?_
  · rw [plain_stmt (keyed_shape hi v hv)]
    refine wpAny_bind (wpAny_pure ?_)
    simp only [Bool.false_eq_true, if_false]
    exact wpAny_pure q
  · exact wpAny_pure done
theorem tuple_hash {k : List Key} {b : Addr} {Q : Bool → Shared → Prop} (m : IsTupleKey (mixKind P w) s.heap k b) (done : ∀ c, Q c s) : wpAny (model P w) A (hashByValue 8 (.ref b)) Q E s := by
  have ty := m.typeIs
  obtain ⟨o, items, n, ho, _, hd, hi⟩ := m
  unfold hashByValue
  refine wpAny_bind (wpAny_specialOf ty F.slot_tuple_hash.lookup ?_)
  show wpAny _ _ (seqItems? (.ref b) >>= _) _ _ s
  refine wpAny_bind (wpAny_seqItems ho hd ?_)
  apply wpAny_bind
  show wpAny _ _ (forIn items _ _) _ _ s
  rw [← Array.forIn_toList]
  refine wpAny_forIn_list _ (fun l r s1 => r = (none, ()) ∧ s1 = s ∧ ∀ v ∈ l, v ∈ items.toList) _ ?_ ?_ _ _ ⟨rfl, rfl, fun _ h => h⟩
  · rintro v l r s1 ⟨_, rfl, all⟩
    have later : ∀ u ∈ l, u ∈ items.toList := fun u hu => all u (List.mem_cons_of_mem _ hu)
    rcases keyed_shape hi v (all v (List.mem_cons_self ..)) with ⟨i, t, rfl⟩ | ⟨z, t, rfl⟩
    · rw [show hashByValue 7 (.int i t) = pure true from rfl]
      refine wpAny_bind (wpAny_pure ?_)
      simp only [Bool.not_true, Bool.false_eq_true, if_false]
      exact wpAny_pure ⟨rfl, rfl, later⟩
    · rw [show hashByValue 7 (.str z t) = pure false from rfl]
      refine wpAny_bind (wpAny_pure ?_)
      simp only [Bool.not_false, if_true]
      exact wpAny_pure (show wpAny (model P w) A (pure false) Q E s1 from wpAny_pure (done false))
  · rintro r s1 ⟨rfl, rfl, _⟩
    exact wpAny_pure (done true)
end
/-- tuples of ints and texts -/
def keyed (P : Program) (w : World) : Member P w (List Key) where
  knd := tupleKind (mixKind P w)
  roomy := fun _ h => h
  noStmt := fun m h => tuple_stmt m h
  worth := fun m h => tuple_hash m h
  stays := fun ⟨o, items, n, ho, r⟩ k => ⟨o, items, n, k o ho, r⟩
  noSet := fun ⟨o, items, n, ho, _, hd, _⟩ ho2 hd2 => by
    rw [ho] at ho2
    cases ho2
    rw [hd] at hd2
    cases hd2
section
variable {P : Program} {w : World}
/-- the set at a alone -/
def SetIs (P : Program) (w : World) (h : Heap) (a : Addr) (L : List (Addr × List Key)) : Prop := ∃ es ep t, (∃ o, h.get? a = some o ∧ o.ExactSet ∧ o.data = .set es ep t) ∧ es.toList = L.map (keyed P w).cell ∧ TabOk t ((keyed P w).hashes L) ∧ (L.map Prod.snd).Nodup ∧
  (w.params.followText "set-order" = true ∨ t.led = true) ∧ L.length * 5 < t.mask * 3 ∧ L.length < 64
theorem SetIs.of {h : Heap} {a : Addr} {L : List (Addr × List Key)} {es : Array (Int × Value)} {ep : Nat} {t : SetTable} (R : Laid (keyed P w) h a L es ep t) : SetIs P w h a L := ⟨es, ep, t, R.obj, R.cells, R.tab, R.once, R.free, R.wide, R.few⟩
theorem SetIs.laid {h : Heap} {a : Addr} {L : List (Addr × List Key)} (S : SetIs P w h a L) (m : ∀ p ∈ L, (keyed P w).knd.is h p.2 p.1) : ∃ es ep t, Laid (keyed P w) h a L es ep t := by
  obtain ⟨es, ep, t, h1, h2, h3, h4, h6, h7, h8⟩ := S
  exact ⟨es, ep, t, h1, h2, h3, h4, m, h6, h7, h8⟩
/-- the set that the abstract heap tracks -/
def SetM (P : Program) (w : World) (a : Addr) (L : List (Addr × List Key)) : HO := .ext fun h => SetIs P w h a L
theorem setM_ok {H : Hp} {h : Heap} {a : Addr} {L : List (Addr × List Key)} (S : SetIs P w h a L) : ObjOk P w H h a (SetM P w a L) := by
  have z := S
  obtain ⟨_, _, _, ⟨o, ho, _⟩, _⟩ := z
  refine ⟨S, ⟨o, ho⟩, fun h1 h2 q k => ?_⟩
  obtain ⟨es, ep, t, ⟨o2, ho2, r2⟩, r⟩ : SetIs P w h1 a L := q
  exact ⟨es, ep, t, ⟨o2, k o2 ho2, r2⟩, r⟩
def kD : Key → PyData
  | .inl i => .int i
  | .inr z => .str z
def kV : Key → V
  | .inl i => .int i
  | .inr z => .str z
def tupD (k : List Key) : PyData := .tuple (k.map kD)
theorem keyed_vals : ∀ {k : List Key} {us : List Value}, Vals (k.map kV) us → ItemsAre (mixKind P w) k us
  | [], _, .nil => .nil
  | .inl i :: k, _, .cons r t => by
    obtain ⟨tk, rfl⟩ := r
    exact .cons (mixKind_int P w i tk) (keyed_vals t)
  | .inr z :: k, _, .cons r t => by
    obtain ⟨tk, rfl⟩ := r
    exact .cons (mixKind_str P w z tk) (keyed_vals t)
theorem keyed_reads {h : Heap} : ∀ {k : List Key} {us : List Value}, ItemsAre (mixKind P w) k us → ReadsAll h us (k.map kD) []
  | [], _, .nil => .nil
  | .inl i :: k, u :: us, .cons e r => by
    obtain ⟨tk, rfl⟩ := Value.isInt_shape (show Value.isInt i u = true from e)
    exact .cons (as := []) (.int i tk) (keyed_reads r)
  | .inr z :: k, u :: us, .cons e r => by
    obtain ⟨tk, rfl⟩ := Value.isStrOf_shape (show Value.isStrOf z u = true from e)
    exact .cons (as := []) (.str z tk) (keyed_reads r)
theorem ref_vals : ∀ {ks : List (Addr × List Key)} {us : List Value}, Vals (ks.map fun p => V.ref p.1) us → us = ks.map fun p => Value.ref p.1
  | [], _, .nil => rfl
  | p :: ks, _, .cons r t => by
    cases r
    rw [ref_vals t]
    rfl
theorem perm_back {α β : Type} {f : α → β} {vs us : List β} (p : vs.Perm us) : ∀ {L : List α}, us = L.map f → ∃ L1 : List α, vs = L1.map f ∧ L1.Perm L := by
  induction p with
  | nil =>
    intro L e
    exact ⟨[], rfl, by
      cases L with
      | nil => exact .nil
      | cons x r => cases e⟩
  | cons x _ ih =>
    intro L e
    cases L with
    | nil => cases e
    | cons y r =>
      rw [List.map_cons] at e
      injection e with e1 e2
      obtain ⟨L1, f1, f2⟩ := ih e2
      exact ⟨y :: L1, by rw [List.map_cons, e1, f1], f2.cons _⟩
  | swap x y l =>
    intro L e
    match L, e with
    | a :: b :: r, e =>
      rw [List.map_cons, List.map_cons] at e
      injection e with e1 e2
      injection e2 with e2 e3
      exact ⟨b :: a :: r, by rw [List.map_cons, List.map_cons, e1, e2, e3], .swap a b r⟩
  | trans _ _ ih1 ih2 =>
    intro L e
    obtain ⟨L2, f1, f2⟩ := ih2 e
    obtain ⟨L1, g1, g2⟩ := ih1 f1
    exact ⟨L1, g1, g2.trans f2⟩
end
section
variable {X : Cx}
theorem keyed_at {pins : List (Addr × Obj)} {σ : L2.St} {H : Hp} {s : Shared} {b : Addr} {k : List Key} (I : Inv X pins σ H s) (h : SqT X.K H b (k.map kV)) : (keyed X.prog X.w).knd.is s.heap k b := by
  obtain ⟨its, r, ⟨o, ho, hc, n, hd⟩, _⟩ := I.tuple h
  exact ⟨o, its.toArray, n, ho, hc, hd, by simpa using keyed_vals r⟩
/-- set(t), t a tuple of tuples of ints and texts -/
def rSetM (K : PySem.W.Frag) (P : Program) (w : World) : List V → Hp → VK → Prop := fun xs H Q => ∃ (l : Addr) (ks : List (Addr × List Key)), xs = [V.ref l] ∧ SqT K H l (ks.map fun p => V.ref p.1) ∧ (∀ p ∈ ks, SqT K H p.1 (p.2.map kV)) ∧ ks.length < 64 ∧
  ∀ a L, H a = none → (∀ p ∈ L, p ∈ ks) → (∀ p ∈ ks, p.2 ∈ L.map Prod.snd) → (L.map Prod.snd).Nodup → L.length < 64 → Q (.ref a) (upd H a (SetM P w a L))
theorem call_setM (hc : X.calm = true) (hu : X.A.units + 64 < cLine) : CallR X (.type "set") (rSetM X.K X.prog X.w) := by
  intro pins s σ H xs us Q I r h
  obtain ⟨l, ks, rfl, hl, hk, few, q⟩ := h
  rw [Vals.ref1 r]
  obtain ⟨its, rv, pl, _⟩ := I.tuple hl
  have fresh : H s.heap.objs.size = none := I.hok.fresh (Nat.le_refl _)
  refine setOfTuple (P := X.prog) (w := X.w) (I := keyed X.prog X.w) ks (I.ok.hd hc) (show s.heap.IsTuple l its.toArray from pl) (by simpa using ref_vals rv) (fun p hp => keyed_at I (hk p hp)) few (by omega) fun h' tk L es ep t lay up kp => ?_
  refine ⟨.ref s.heap.objs.size, upd H s.heap.objs.size (SetM X.prog X.w s.heap.objs.size L), I.laid (t' := tk) kp (Nat.le_refl _) (setM_ok (.of lay)), rfl, q _ L fresh (fun p hp => List.mem_of_mem_take (up.into p hp)) (fun p hp => up.cover p ?_) lay.once lay.few⟩
  rw [List.take_length]
  exact hp
/-- sorted(s), all members alike -/
def rSortedM (K : PySem.W.Frag) (P : Program) (w : World) : List V → Hp → VK → Prop := fun vs H Q => ∃ (a : Addr) (L : List (Addr × List Key)), vs = [V.ref a] ∧ H a = some (SetM P w a L) ∧ (∀ p ∈ L, SqT K H p.1 (p.2.map kV)) ∧ (∀ p ∈ L, p.2 ≠ []) ∧ (∀ p ∈ L, ∀ q ∈ L, PySem.W.alike (tupD p.2) (tupD q.2) = true) ∧
  ∀ (L1 : List (Addr × List Key)) (b : Addr), L1.Perm L → L1.Pairwise (fun p q => PySem.W.dataLe false (fun p : Addr × List Key => tupD p.2) p q = true) → H b = none → Q (.ref b) (upd H b (.lst (L1.map fun q => V.ref q.1)))
theorem depth_tupD : ∀ k : List Key, (tupD k).depth ≤ 1 := by
  intro k
  have z : ∀ k : List Key, PyData.depthAll (k.map kD) = 0 := by
    intro k
    induction k with
    | nil => simp [PyData.depthAll]
    | cons x k ih =>
      rw [List.map_cons, PyData.depthAll, ih]
      cases x <;> simp [kD, PyData.depth]
  unfold tupD
  rw [PyData.depth, z k]
  omega
theorem vals_refs : ∀ (L : List (Addr × List Key)), Vals (L.map fun p => V.ref p.1) (L.map fun p => Value.ref p.1)
  | [] => .nil
  | _ :: L => .cons rfl (vals_refs L)
theorem each_refs {α : Type} {f : α → Value} {R : Value → α → Prop} : ∀ {L : List α}, (∀ p ∈ L, R (f p) p) → PySem.W.EachIs R (L.map f) L
  | [], _ => .nil
  | p :: L, h => .cons (h p (List.mem_cons_self ..)) (each_refs fun q hq => h q (List.mem_cons_of_mem _ hq))
theorem refs_each : ∀ {out : List Value} {L : List (Addr × List Key)}, PySem.W.EachIs (fun v (p : Addr × List Key) => v = Value.ref p.1) out L → out = L.map fun p => Value.ref p.1
  | _, _, .nil => rfl
  | _, _, .cons h t => by rw [h, refs_each t]; rfl
set_option maxHeartbeats 8000000 in
theorem call_sortedM (hc : X.calm = true) (hu : X.A.units + 64 < cLine) : CallR X (.builtin "sorted") (rSortedM X.K X.prog X.w) := by
  intro pins s σ H vs us Q I r h
  obtain ⟨a, L, rfl, ha, hk, hne, hal, q⟩ := h
  rw [Vals.ref1 r]
  have mem : ∀ p ∈ L, (keyed X.prog X.w).knd.is s.heap p.2 p.1 := fun p hp => keyed_at I (hk p hp)
  have S0 : SetIs X.prog X.w s.heap a L := (I.hok a _ ha).1
  obtain ⟨es, ep, t, R⟩ := S0.laid mem
  obtain ⟨o, ho, ex, hd⟩ := R.obj
  have n0 := R.count
  have few := R.few
  have line : sizeLine = 16777216 := by decide
  refine Calls.call_function_entry kind_sorted plain_sorted entry_sorted (args_sorted1 _) ?_
  unfold Builtin.«sorted»
  refine wpAny_bind (m := checkCount "sorted" 1 1 _) (wpAny_pure ?_)
  have hh : X.A.handled = none := I.ok.hd hc
  refine wpAny_bind (collect_set (A := X.A.in1) (by simp [hh]) ⟨o, ho, ex.1, hd⟩ R.holds (by unfold scanBound; omega) R.tab.ris R.free fun s1 out k1 sz g1 o1 pm => ?_)
  have refs : es.toList.map Prod.snd = L.map fun p => Value.ref p.1 := by
    rw [R.cells, List.map_map]
    rfl
  obtain ⟨L1, e1, p1⟩ := perm_back pm refs
  subst e1
  have n1 : (L1.map fun p => Value.ref p.1).length < 64 := by rw [List.length_map, p1.length_eq]; exact few
  refine wpAny_bind (wpAny_newList ?_ (by rw [line]; omega))
  have at1 : (s1.heap.push (seqObj "list" (L1.map fun p => Value.ref p.1).toArray 0)).get? s1.heap.objs.size = some (seqObj "list" (L1.map fun p => Value.ref p.1).toArray 0) := Heap.get?_push_size _ rfl
  have enc1 : ∀ p ∈ L1, ∃ as, Reads (s1.heap.push (seqObj "list" (L1.map fun p => Value.ref p.1).toArray 0)) (.ref p.1) (tupD p.2) as ∧ s1.heap.objs.size ∉ as := fun p hp => by
    obtain ⟨o2, items, n, ho2, hc2, hd2, hi2⟩ := mem p (p1.mem_iff.mp hp)
    have lt2 := Heap.lt_size (k1 _ _ ho2)
    refine ⟨[], .tuple (Heap.get?_push_of_some _ (k1 _ _ ho2)) hc2 hd2 (keyed_reads hi2), fun z => by cases z⟩
  refine wpAny_bind (wpAny_holding ?_)
  refine PySem.W.list_sort_data (β := Addr × List Key) (enc := fun p => tupD p.2) (R := fun v p => v = Value.ref p.1) (s := { s1 with heap := s1.heap.push (seqObj "list" (L1.map fun p => Value.ref p.1).toArray 0) }) at1 (each_refs fun p _ => rfl) (each_refs fun p hp => enc1 p hp)
    ?_ (.inl ?_) (by rw [← List.length_map (f := fun p : Addr × List Key => Value.ref p.1), line]; omega) (fun p _ => ?_) fun out2 _ er => ?_
  · intro d hd d' hd'
    obtain ⟨p, hp, rfl⟩ := List.mem_map.mp hd
    obtain ⟨p', hp', rfl⟩ := List.mem_map.mp hd'
    exact hal p (p1.mem_iff.mp hp) p' (p1.mem_iff.mp hp')
  · intro d hd
    obtain ⟨p, hp, rfl⟩ := List.mem_map.mp hd
    have ne := hne p (p1.mem_iff.mp hp)
    cases hk2 : p.2 with
    | nil => exact absurd hk2 ne
    | cons x r => exact ⟨kD x, r.map kD, rfl⟩
  · have := depth_tupD p.2
    show X.A.in1.units + 1 + (tupD p.2).depth < cLine
    have z : X.A.in1.units ≤ X.A.units + 1 := by simp [Around.in1]
    omega
  have e2 := refs_each er
  subst e2
  have pm2 : (L1.mergeSort (PySem.W.dataLe false fun p : Addr × List Key => tupD p.2)).Perm L := (List.mergeSort_perm ..).trans p1
  have tot : PySem.W.TotalLe (PySem.W.dataLe false fun p : Addr × List Key => tupD p.2) := PySem.W.sortLe_total _ false _
  have srt : (L1.mergeSort (PySem.W.dataLe false fun p : Addr × List Key => tupD p.2)).Pairwise fun p q => PySem.W.dataLe false (fun p : Addr × List Key => tupD p.2) p q = true := List.pairwise_mergeSort (fun a b c => tot.trans a b c) (fun a b => by simpa using tot.total a b) L1
  revert pm2 srt
  generalize L1.mergeSort (PySem.W.dataLe false fun p : Addr × List Key => tupD p.2) = L2
  intro pm2 srt
  obtain ⟨c, hcc⟩ := sortedHeap_at (vs := L1.map fun p => Value.ref p.1) (out := (L2.map fun p => Value.ref p.1).toArray) at1
  have fresh : H s1.heap.objs.size = none := I.hok.fresh sz
  have kp : ∀ b u, s.heap.get? b = some u → (sortedHeap (s1.heap.push (seqObj "list" (L1.map fun p => Value.ref p.1).toArray 0)) s1.heap.objs.size (L1.map fun p => Value.ref p.1) (L2.map fun p => Value.ref p.1).toArray).get? b = some u := fun b u e => by
    have lt := Heap.lt_size (k1 b u e)
    rw [sortedHeap_old (Nat.ne_of_lt lt) (by rw [size_push']; exact Nat.lt_succ_of_lt lt)]
    exact Heap.get?_push_of_some _ (k1 b u e)
  refine wpAny_pure ⟨_, rfl, ?_⟩
  have ok : ObjOk X.prog X.w (upd H s1.heap.objs.size (.lst (L2.map fun q => V.ref q.1))) (sortedHeap (s1.heap.push (seqObj "list" (L1.map fun p => Value.ref p.1).toArray 0)) s1.heap.objs.size (L1.map fun p => Value.ref p.1) (L2.map fun p => Value.ref p.1).toArray) s1.heap.objs.size (.lst (L2.map fun q => V.ref q.1)) := by
    refine ⟨?_, L2.map fun p => Value.ref p.1, c, vals_refs L2, hcc⟩
    rw [List.length_map, pm2.length_eq, line]
    omega
  have J : Inv X pins σ (upd H s1.heap.objs.size (.lst (L2.map fun q => V.ref q.1))) { s with heap := (sortedHeap (s1.heap.push (seqObj "list" (L1.map fun p => Value.ref p.1).toArray 0)) s1.heap.objs.size (L1.map fun p => Value.ref p.1) (L2.map fun p => Value.ref p.1).toArray), gens := s1.gens, drawn := s1.drawn, toks := s1.toks } :=
    I.call (ch := []) (Un.laid kp sz fresh) (I.hok.laid kp sz ok) (by rw [g1]; exact I.bare) (fun _ z => nomatch z)
  refine ⟨.ref s1.heap.objs.size, _, ?_, rfl, q L2 s1.heap.objs.size pm2 srt fresh⟩
  have e : s1 = { s with heap := s1.heap, gens := s1.gens, drawn := s1.drawn, toks := s1.toks } := by
    cases s1
    cases s
    cases o1
    rfl
  rw [e]
  exact J
end
end L2.My
/-! zip of two tuples walked; < of data; in a tuple of one-text tuples; repr of data or of an empty dict -/
namespace PySem.SeqAt
section
variable {A : Around} {s : Shared}
theorem RcAt.str_dict (b : Str) (u : Tok) {l : Addr} {es : Array DictEntry} {n : Nat} {dd : Option Addr} {sl : Array (Option Value)} (ho : s.heap.get? l = some { cls := .type "dict", dict := dd, data := .dict es n, slots := sl }) (hu : A.units < cLine) : RcAt A s (.str b u) (.ref l) false :=
  fun prog w E Q h => rc_eq_decline_or (k := false) (typeIs_str s b u) ⟨_, ho, rfl⟩ (by decide) F.sub_dict_str F.slot_str_eq_refl F.slot_dict_eq
    (fun _ hq => call_meets F.slot_str_eq_refl (typeIs_str s b u) F.entry_str_eq (F.args_str_eq_2 _ _) (str_eq_no_dict b u l es n dd sl) ⟨ho, hq⟩)
    (fun _ hq => call_meets F.slot_dict_eq ⟨_, ho, rfl⟩ F.entry_dict_eq (F.args_dict_eq_2 _ _) (dict_eq_no_str l es n dd sl b u) ⟨ho, hq⟩)
    (fun _ hq => wpAny_of_eq (rfl : isSame (.str b u) (.ref l) = pure false) hq) (.inr hu) h
theorem eqAt_back {x : Value} {z : Str} {t : Tok} {k : Bool} (ne : x ≠ .str z t) (h : SeqAt.RcAt A s (.str z t) x k) : SeqAt.EqAt A s (.str z t) x k := fun prog w E Q q => by
  unfold eqBool
  refine wpAny_holding (wpAny_ite_split (fun c => absurd (eq_of_beq c).symm ne) fun _ => ?_)
  cases x <;> exact wpAny_bind (h prog w E _ (wpAny_truthy_bool q))
end
end PySem.SeqAt
namespace L2.My
open PySem PySem.Spec PyProof.Rows L2
section
variable {K : PySem.W.Frag} {a b : Addr} {xs ys : List V}
theorem walk_zipT {n : Nat} (hn : n = min xs.length ys.length) : Walk (RZ.ItzT K a b) n (fun H => SqT K H a xs ∧ SqT K H b ys) (YPair (fun i => xs[i]?) (fun i => ys[i]?)) := by
  refine ⟨fun i H hi q => ?_, fun H q => ⟨xs, ys, q.1, q.2, by omega⟩, fun i H v H' _ q y => ?_⟩
  · obtain ⟨x, hx⟩ : ∃ x, xs[i]? = some x := ⟨_, List.getElem?_eq_getElem (by omega)⟩
    obtain ⟨y, hy⟩ : ∃ y, ys[i]? = some y := ⟨_, List.getElem?_eq_getElem (by omega)⟩
    exact ⟨xs, ys, x, y, q.1, q.2, hx, hy⟩
  · obtain ⟨T, x, z, h1, h2, h3, h4, h5⟩ := y
    exact ⟨T, x, z, h1, h2, h3, h4 xs q.1, h5 ys q.2⟩
end
section
variable {X : Cx} {pins : List (Addr × Obj)} {σ : L2.St} {H : Hp} {s : Shared}
/-- x < y, both data -/
def rLtD (K : PySem.W.Frag) : R2 := fun x y H Q => ∃ d e, Dp K H x d ∧ Dp K H y e ∧ PySem.W.alike d e = true ∧ d ≠ .none ∧ d.depth ≤ 60 ∧ Q (.bl (PySem.W.dataLt d e)) H
theorem op_ltD (hu : X.A.units + 64 < cLine) : OpR X (compareOp .Lt) (rLtD X.K) := by
  intro pins s σ H x y v u Q I rx ry h
  obtain ⟨d, e, hd, he, al, ne, dp, q⟩ := h
  obtain ⟨as, r1⟩ := Dp.reads I d x v hd rx
  obtain ⟨bs, r2⟩ := Dp.reads I e y u he ry
  exact PySem.W.lt_data r1 r2 al ne (by have := Nat.min_le_left d.depth e.depth; omega) ⟨.bl _, H, I, rfl, q⟩
/-- a text against an item -/
theorem text_item (I : Inv X pins σ H s) {v : V} {u : Value} {k : Option Str} (r : RelV v u) (t : AsText H v k) (z : Str) (tk : Tok) {A : Around} (hu : A.units < cLine) : SeqAt.EqAt A s (.str z tk) u (decide (k = some z)) := by
  cases t with
  | str z' =>
    obtain ⟨t', rfl⟩ := r
    have e : decide (some z' = some z) = (z == z') := by
      rw [some_eq]
      by_cases c : z' = z
      · subst c
        simp
      · rw [beq_eq_false_iff_ne.mpr c, beq_eq_false_iff_ne.mpr fun q => c q.symm]
    rw [e]
    exact SeqAt.EqAt.str_str z tk z' t'
  | non =>
    cases r
    exact SeqAt.eqAt_back (by intro e; cases e) (SeqAt.RcAt.str_none z tk)
  | bl b =>
    cases r
    exact SeqAt.eqAt_back (by intro e; cases e) (SeqAt.RcAt.str_bool z tk b)
  | int i =>
    obtain ⟨t', rfl⟩ := r
    exact SeqAt.eqAt_back (by intro e; cases e) (SeqAt.RcAt.str_int z tk i t')
  | @lst a xs e =>
    cases r
    obtain ⟨_, its, n, _, h1⟩ := (show ObjOk X.prog X.w H s.heap a (.lst xs) from I.hok a _ e)
    exact SeqAt.eqAt_back (by intro e; cases e) (SeqAt.RcAt.str_list z tk ⟨_, h1, rfl, n, rfl⟩ hu)
  | @tup a xs e =>
    cases r
    obtain ⟨_, its, _, o, h1, h2, n, h3⟩ := (show ObjOk X.prog X.w H s.heap a (.tup xs) from I.hok a _ e)
    exact SeqAt.eqAt_back (by intro e; cases e) (SeqAt.RcAt.str_tuple z tk ⟨_, h1, h2, n, h3⟩ hu)
  | @dic a kvs e =>
    cases r
    obtain ⟨dd, es, n, sl, h1⟩ := dict_get I e
    exact SeqAt.eqAt_back (by intro e; cases e) (SeqAt.RcAt.str_dict z tk h1 hu)
/-- t in ((z,), ..), t a tuple -/
def rInTags : R2 := fun x y H Q => ∃ a b xs ks ts zs, x = .ref a ∧ y = .ref b ∧ H a = some (.tup xs) ∧ H b = some (.tup (ts.map V.ref)) ∧ Texts H xs ks ∧ List.length ts = List.length zs ∧ (∀ p ∈ ts.zip zs, H p.1 = some (.tup [.str p.2])) ∧ Q (.bl (zs.any (isTag ks))) H
theorem tagV (I : Inv X pins σ H s) {a t : Addr} {xs : List V} {ks : List (Option Str)} {z : Str} (ea : H a = some (.tup xs)) (et : H t = some (.tup [.str z])) (tx : Texts H xs ks) {A : Around} (hu : A.units + 1 < cLine) : SeqAt.EqAt A s (.ref t) (.ref a) (isTag ks z) := by
  obtain ⟨_, its, r1, o, h1, h2, n, h3⟩ := (show ObjOk X.prog X.w H s.heap a (.tup xs) from I.hok a _ ea)
  obtain ⟨_, its2, r2, o2, g1, g2, n2, g3⟩ := (show ObjOk X.prog X.w H s.heap t (.tup [.str z]) from I.hok t _ et)
  have la : s.heap.IsTuple a its.toArray := ⟨_, h1, h2, n, h3⟩
  cases r2 with
  | @cons _ w _ ws rz rn =>
    cases rn
    obtain ⟨tk, rfl⟩ := rz
    have lb : s.heap.IsTuple t #[.str z tk] := ⟨_, g1, g2, n2, g3⟩
    by_cases same : t = a
    · subst same
      rw [ea] at et
      cases et
      cases tx with
      | cons t0 tr =>
        cases tr
        cases t0
        have z1 : isTag [some z] z = true := by simp [isTag]
        rw [z1]
        exact SeqAt.EqAt.same _
    have core : SeqAt.RcAt A s (.ref t) (.ref a) (isTag ks z) := by
      have c := SeqAt.RcAt.tuples (e := fun _ => isTag [ks.headD none] z) (A := A) lb la (Nat.lt_of_succ_lt hu) (fun j j1 j2 => ?_)
      · have e : ((List.range (min (#[Value.str z tk] : Array Value).size its.toArray.size)).all (fun _ => isTag [ks.headD none] z) && (#[Value.str z tk] : Array Value).size == its.toArray.size) = isTag ks z := by
          cases r1 with
          | nil =>
            cases tx
            simp [isTag]
          | @cons v w vs ws r t =>
            cases tx with
            | @cons _ k _ kr t0 tr =>
              cases t with
              | nil =>
                cases tr
                simp [List.range_succ]
              | cons r' t' =>
                cases tr
                simp [isTag]
        rw [e] at c
        exact c
      · have j0 : j = 0 := by
          have : j < 1 := j1
          omega
        subst j0
        cases r1 with
        | nil => exact absurd j2 (by simp)
        | @cons v w vs ws r t =>
          cases tx with
          | cons t0 tr => exact text_item I r t0 z tk hu
    exact SeqAt.EqAt.of_refs same core
theorem op_inTags (hu : X.A.units + 2 < cLine) : OpR X (compareOp .In) rInTags := by
  intro pins s σ H x y v u Q I rx ry h
  obtain ⟨a, b, xs, ks, ts, zs, rfl, rfl, ea, eb, tx, ll, et, q⟩ := h
  cases rx
  cases ry
  obtain ⟨_, its, r1, o, h1, h2, n, h3⟩ := (show ObjOk X.prog X.w H s.heap b (.tup (ts.map V.ref)) from I.hok b _ eb)
  have its_ : its = ts.map Value.ref := by
    clear eb h3 et ll
    revert r1
    generalize ts = ts
    intro r1
    induction ts generalizing its with
    | nil =>
      cases r1
      rfl
    | cons t ts ih =>
      cases r1 with
      | cons r rr =>
        cases r
        rw [ih _ rr]
        rfl
  subst its_
  have lb : s.heap.IsTuple b (ts.map Value.ref).toArray := ⟨_, h1, h2, n, h3⟩
  let e : Value → Bool := fun v => match v with
    | .ref t => (match (ts.zip zs).find? fun p => p.1 == t with
      | some p => isTag ks p.2
      | none => false)
    | _ => false
  have he : ∀ p ∈ ts.zip zs, e (.ref p.1) = isTag ks p.2 := fun p hp => by
    show (match (ts.zip zs).find? fun q => q.1 == p.1 with
      | some p => isTag ks p.2
      | none => false) = _
    cases f : (ts.zip zs).find? fun q => q.1 == p.1 with
    | none => exact absurd (List.find?_eq_none.mp f p hp) (by simp)
    | some q' =>
      have m := List.mem_of_find?_eq_some f
      have c : q'.1 = p.1 := by
        have z := List.find?_some f
        simpa using z
      have e1 := et q' m
      have e2 := et p hp
      rw [c, e2] at e1
      injection e1 with e1
      injection e1 with e1
      injection e1 with e1 _
      injection e1 with e1
      show isTag ks q'.2 = _
      rw [e1]
  refine SeqAt.in_tupleAt e lb (fun w hw => ?_) ⟨.bl _, H, I, rfl, ?_⟩
  · obtain ⟨t, ht, rfl⟩ := List.mem_map.mp (by simpa using hw : w ∈ ts.map Value.ref)
    obtain ⟨j, hj⟩ := List.mem_iff_getElem?.mp ht
    obtain ⟨z, hz⟩ : ∃ z, zs[j]? = some z := by
      obtain ⟨l, _⟩ := List.getElem?_eq_some_iff.mp hj
      exact ⟨_, List.getElem?_eq_getElem (ll ▸ l)⟩
    have hp : (t, z) ∈ ts.zip zs := List.mem_iff_getElem?.mpr ⟨j, by rw [List.getElem?_zip_eq_some]; exact ⟨hj, hz⟩⟩
    rw [he _ hp]
    exact tagV I ea (et _ hp) tx (A := X.A.in1) (by show X.A.in1.units + 1 < cLine; have z : X.A.in1.units ≤ X.A.units + 1 := by simp [Around.in1]
                                                    omega)
  · have z : (ts.map Value.ref).toArray.any e = zs.any (isTag ks) := by
      rw [List.any_toArray]
      clear eb h3 lb h1 h2 r1
      have key : ∀ (ts : List Addr) (zs : List Str), ts.length = zs.length → (∀ p ∈ ts.zip zs, e (.ref p.1) = isTag ks p.2) → (ts.map Value.ref).any e = zs.any (isTag ks) := by
        intro ts
        induction ts with
        | nil =>
          intro zs l _
          cases zs with
          | nil => rfl
          | cons _ _ => cases l
        | cons t ts ih =>
          intro zs l h
          cases zs with
          | nil => cases l
          | cons z zs =>
            rw [List.map_cons, List.any_cons, List.any_cons, h (t, z) (by simp), ih zs (Nat.succ.inj l) fun p hp => h p (by rw [List.zip_cons_cons]; exact List.mem_cons_of_mem _ hp)]
      exact key ts zs ll he
    rw [z]
    exact q
/-- repr of data, or of an empty dict -/
theorem call_reprE (gd : X.A.guards = some []) (hu : X.A.units + 70 < cLine) : CallR X (.builtin "repr") (fun xs H Q => rRepr X.K xs H Q ∨ rReprNil xs H Q) := by
  intro pins s σ H xs us Q I r h
  rcases h with h | h
  · exact call_repr gd hu pins s σ H xs us Q I r h
  · exact call_reprNil gd hu pins s σ H xs us Q I r h
end
end L2.My
/-! displays of written things and names, in one piece; data that is known to have a short repr -/
namespace L2.My
open PySem PySem.Spec PyProof.Rows L2
/-- a written display; v k: the value of slot k -/
inductive Lit where
  | s (z : Str)
  | i (n : Int)
  | b (k : Bool)
  | n
  | v (k : Nat)
  | t (xs : List Lit)
  | l (xs : List Lit)
mutual
def Lit.ok (σ : L2.St) : Lit → Prop
  | .v k => ∃ v, σ[k]? = some (some v)
  | .t xs => xs.length ≤ 1000 ∧ Lit.okA σ xs
  | .l xs => xs.length ≤ 1000 ∧ Lit.okA σ xs
  | .s _ => True
  | .i _ => True
  | .b _ => True
  | .n => True
def Lit.okA (σ : L2.St) : List Lit → Prop
  | [] => True
  | x :: xs => Lit.ok σ x ∧ Lit.okA σ xs
end
mutual
/-- v is what the display gives, all of its objects new since H0 -/
inductive LitAt (σ : L2.St) (H0 H : Hp) : V → Lit → Prop
  | s (z : Str) : LitAt σ H0 H (.str z) (.s z)
  | i (n : Int) : LitAt σ H0 H (.int n) (.i n)
  | b (k : Bool) : LitAt σ H0 H (.bl k) (.b k)
  | n : LitAt σ H0 H .non .n
  | v {k : Nat} {u : V} (e : σ[k]? = some (some u)) : LitAt σ H0 H u (.v k)
  | t {a : Addr} {vs : List V} {xs : List Lit} (n : H0 a = none) (e : H a = some (.tup vs)) (h : LitAll σ H0 H vs xs) : LitAt σ H0 H (.ref a) (.t xs)
  | l {a : Addr} {vs : List V} {xs : List Lit} (n : H0 a = none) (e : H a = some (.lst vs)) (h : LitAll σ H0 H vs xs) : LitAt σ H0 H (.ref a) (.l xs)
inductive LitAll (σ : L2.St) (H0 H : Hp) : List V → List Lit → Prop
  | nil : LitAll σ H0 H [] []
  | cons {u : V} {x : Lit} {vs : List V} {xs : List Lit} (h : LitAt σ H0 H u x) (r : LitAll σ H0 H vs xs) : LitAll σ H0 H (u :: vs) (x :: xs)
end
theorem same_none {H0 H1 : Hp} (s : Same H0 H1) {a : Addr} (n : H1 a = none) : H0 a = none := by
  cases q : H0 a with
  | none => rfl
  | some o =>
    rw [s a o q] at n
    cases n
mutual
theorem LitAt.mono {σ : L2.St} {H0 H1 H H' : Hp} (s0 : Same H0 H1) (s : Same H H') : ∀ {u : V} {x : Lit}, LitAt σ H1 H u x → LitAt σ H0 H' u x
  | _, _, .s z => .s z
  | _, _, .i n => .i n
  | _, _, .b k => .b k
  | _, _, .n => .n
  | _, _, .v e => .v e
  | _, _, .t n e h => .t (same_none s0 n) (s _ _ e) (LitAll.mono s0 s h)
  | _, _, .l n e h => .l (same_none s0 n) (s _ _ e) (LitAll.mono s0 s h)
theorem LitAll.mono {σ : L2.St} {H0 H1 H H' : Hp} (s0 : Same H0 H1) (s : Same H H') : ∀ {vs : List V} {xs : List Lit}, LitAll σ H1 H vs xs → LitAll σ H0 H' vs xs
  | _, _, .nil => .nil
  | _, _, .cons h r => .cons (LitAt.mono s0 s h) (LitAll.mono s0 s r)
end
theorem LitAll.len {σ : L2.St} {H0 H : Hp} : ∀ {vs : List V} {xs : List Lit}, LitAll σ H0 H vs xs → vs.length = xs.length
  | _, _, .nil => rfl
  | _, _, .cons _ r => by rw [List.length_cons, List.length_cons, r.len]
def tLit (x : Lit) : TE := fun σ H Q => Lit.ok σ x ∧ ∀ u H', Same H H' → LitAt σ H H' u x → Q u H'
def tLits (xs : List Lit) : TA := fun σ H Q => Lit.okA σ xs ∧ ∀ us H', Same H H' → LitAll σ H H' us xs → Q us H'
theorem PE.of {X : Cx} {e : Expr} {t t' : TE} (h : PE X e t) (i : ∀ σ H Q, t' σ H Q → t σ H Q) : PE X e t' := ⟨fun pins s σ H Q I q => h.run pins s σ H Q I (i σ H Q q)⟩
theorem PA.of {X : Cx} {es : List Expr} {t t' : TA} (h : PA X es t) (i : ∀ σ H Q, t' σ H Q → t σ H Q) : PA X es t' := ⟨fun pos pins s σ H Q I q => h.run pos pins s σ H Q I (i σ H Q q)⟩
section
variable {X : Cx}
theorem pl_int {i : Int} {j pos} : PE X (.Constant (.int i) j pos) (tLit (.i i)) := PE.of pe_int fun _ H _ q => q.2 _ H (Same.refl H) (.i _)
theorem pl_neg {i : Int} {j pos pos2} : PE X (.UnaryOp .USub (.Constant (.int i) j pos) pos2) (tLit (.i (-i))) := PE.of (pe_un un_neg pe_int) fun _ H _ q => ⟨_, rfl, q.2 _ H (Same.refl H) (.i _)⟩
theorem pl_bl {k : Bool} {j pos} : PE X (.Constant (.bool k) j pos) (tLit (.b k)) := PE.of pe_bl fun _ H _ q => q.2 _ H (Same.refl H) (.b _)
theorem pl_non {j pos} : PE X (.Constant .none j pos) (tLit .n) := PE.of pe_non fun _ H _ q => q.2 _ H (Same.refl H) .n
theorem pl_str {z : Str} {j pos} : PE X (.Constant (.str z) j pos) (tLit (.s z)) := PE.of pe_str fun _ H _ q => q.2 _ H (Same.refl H) (.s _)
theorem pl_v (k : Nat) {e : Expr} (h : PE X e (tVar k)) : PE X e (tLit (.v k)) := PE.of h fun σ H Q q => by
  obtain ⟨v, e⟩ : ∃ v, σ[k]? = some (some v) := by
    have z := q.1
    rw [Lit.ok] at z
    exact z
  exact ⟨v, e, q.2 v H (Same.refl H) (.v e)⟩
theorem pl_nil : PA X [] (tLits []) := PA.of pa_nil fun _ H _ q => q.2 [] H (Same.refl H) .nil
theorem pl_cons {e : Expr} {es : List Expr} {x : Lit} {xs : List Lit} (h : PE X e (tLit x)) (r : PA X es (tLits xs)) (hs : starEach (e :: es) X.env = (false, eval e X.env) :: starEach es X.env := by rfl) : PA X (e :: es) (tLits (x :: xs)) :=
  PA.of (pa_cons h r hs) fun σ H Q q => by
    obtain ⟨ok, k⟩ := q
    rw [Lit.okA] at ok
    exact ⟨ok.1, fun u H1 s1 a1 => ⟨ok.2, fun us H2 s2 a2 => k (u :: us) H2 (s1.trans s2) (.cons (a1.mono (Same.refl _) s2) (a2.mono s1 (Same.refl _)))⟩⟩
theorem line1000 : 1000 ≤ sizeLine := by decide
theorem pl_tup {es : List Expr} {xs : List Lit} {x1 pos} (h : PA X es (tLits xs)) : PE X (.Tuple es x1 pos) (tLit (.t xs)) := PE.of (pe_tup h) fun σ H Q q => by
  obtain ⟨ok, k⟩ := q
  rw [Lit.ok] at ok
  refine ⟨ok.2, fun us H1 s1 a1 => ⟨?_, fun p np => k _ _ (s1.trans fun b u e => ?_) (.t (same_none s1 np) upd_same (a1.mono (Same.refl _) fun b u e => ?_))⟩⟩
  · rw [a1.len]
    exact Nat.le_trans ok.1 line1000
  · rw [upd_ne (ne_of_none e np)]
    exact e
  · rw [upd_ne (ne_of_none e np)]
    exact e
theorem pl_lst {es : List Expr} {xs : List Lit} {pos} (h : PA X es (tLits xs)) : PE X (.List es pos) (tLit (.l xs)) := PE.of (pe_lst h) fun σ H Q q => by
  obtain ⟨ok, k⟩ := q
  rw [Lit.ok] at ok
  refine ⟨ok.2, fun us H1 s1 a1 => ⟨?_, fun p np => k _ _ (s1.trans fun b u e => ?_) (.l (same_none s1 np) upd_same (a1.mono (Same.refl _) fun b u e => ?_))⟩⟩
  · rw [a1.len]
    exact Nat.le_trans ok.1 line1000
  · rw [upd_ne (ne_of_none e np)]
    exact e
  · rw [upd_ne (ne_of_none e np)]
    exact e
end
/-! ### data with a bound on its repr -/
/-- none of its lists and tuples stands at p; at most N items each, n levels, a repr of at most c signs -/
inductive Dv (H : Hp) (p : Addr) (N : Nat) : Nat → Nat → V → Prop
  | non {n c : Nat} (hc : 40 ≤ c) : Dv H p N n c .non
  | bl {n c : Nat} (b : Bool) (hc : 40 ≤ c) : Dv H p N n c (.bl b)
  | int {n c : Nat} (i : Int) (h : i.natAbs < 10 ^ 39) (g : (PyData.int i).shown.length ≤ 40) (hc : 40 ≤ c) : Dv H p N n c (.int i)
  | str {n c : Nat} (z : Str) (h : z.length ≤ 100) (g : (PyData.str z).shown.length ≤ 40) (hc : 40 ≤ c) : Dv H p N n c (.str z)
  | tup {n b c : Nat} {a : Addr} {xs : List V} (e : H a = some (.tup xs)) (ap : a ≠ p) (l : xs.length ≤ N) (h : ∀ x ∈ xs, Dv H p N n b x) (hc : 4 + xs.length * (b + 2) ≤ c) : Dv H p N (n + 1) c (.ref a)
  | lst {n b c : Nat} {a : Addr} {xs : List V} (e : H a = some (.lst xs)) (ap : a ≠ p) (l : xs.length ≤ N) (h : ∀ x ∈ xs, Dv H p N n b x) (hc : 4 + xs.length * (b + 2) ≤ c) : Dv H p N (n + 1) c (.ref a)
theorem Dv.wk {H : Hp} {p : Addr} {N M n c : Nat} {v : V} (t : Dv H p N n c v) (hN : N ≤ M) : ∀ {m d : Nat}, n ≤ m → c ≤ d → Dv H p M m d v := by
  induction t with
  | non hc => exact fun _ h => .non (Nat.le_trans hc h)
  | bl b hc => exact fun _ h => .bl b (Nat.le_trans hc h)
  | int i h g hc => exact fun _ k => .int i h g (Nat.le_trans hc k)
  | str z h g hc => exact fun _ k => .str z h g (Nat.le_trans hc k)
  | tup e ap l _ hc ih =>
    intro m d hm hd
    match m, hm with
    | m + 1, hm => exact .tup e ap (Nat.le_trans l hN) (fun x hx => ih x hx (Nat.le_of_succ_le_succ hm) (Nat.le_refl _)) (Nat.le_trans hc hd)
  | lst e ap l _ hc ih =>
    intro m d hm hd
    match m, hm with
    | m + 1, hm => exact .lst e ap (Nat.le_trans l hN) (fun x hx => ih x hx (Nat.le_of_succ_le_succ hm) (Nat.le_refl _)) (Nat.le_trans hc hd)
theorem Dv.keep {H H' : Hp} {p : Addr} {N n c : Nat} {v : V} (t : Dv H p N n c v) (s : ∀ q, q ≠ p → ∀ o, H q = some o → H' q = some o) : Dv H' p N n c v := by
  induction t with
  | non hc => exact .non hc
  | bl b hc => exact .bl b hc
  | int i h g hc => exact .int i h g hc
  | str z h g hc => exact .str z h g hc
  | tup e ap l _ hc ih => exact .tup (s _ ap _ e) ap l ih hc
  | lst e ap l _ hc ih => exact .lst (s _ ap _ e) ap l ih hc
/-- the bound of n levels of at most five items each -/
def fz : Nat → Nat
  | 0 => 40
  | n + 1 => 4 + 5 * (fz n + 2)
theorem fz_up {n m : Nat} (h : n ≤ m) : fz n ≤ fz m := by
  induction h with
  | refl => exact Nat.le_refl _
  | step _ ih => exact Nat.le_trans ih (by show _ ≤ 4 + 5 * (_ + 2); omega)
theorem fz40 : ∀ n, 40 ≤ fz n
  | 0 => Nat.le_refl _
  | n + 1 => by
    have := fz40 n
    show 40 ≤ 4 + 5 * (fz n + 2)
    omega
mutual
/-- at most n levels of at most five items, short ints and texts; g k: the levels of slot k's value -/
def Lit.fit (g : Nat → Option Nat) : Nat → Lit → Bool
  | _, .s z => decide (z.length ≤ 100) && decide ((PyData.str z).shown.length ≤ 40)
  | _, .i k => decide (k.natAbs < 10 ^ 39) && decide ((PyData.int k).shown.length ≤ 40)
  | _, .b _ => true
  | _, .n => true
  | m, .v k => match g k with
    | some j => decide (j ≤ m)
    | none => false
  | 0, .t _ => false
  | 0, .l _ => false
  | m + 1, .t xs => decide (xs.length ≤ 5) && Lit.fits g m xs
  | m + 1, .l xs => decide (xs.length ≤ 5) && Lit.fits g m xs
def Lit.fits (g : Nat → Option Nat) : Nat → List Lit → Bool
  | _, [] => true
  | m, x :: xs => Lit.fit g m x && Lit.fits g m xs
end
mutual
theorem LitAt.dv {σ : L2.St} {H0 H : Hp} {p : Addr} {o : HO} (np : H0 p = some o) {g : Nat → Option Nat} (hg : ∀ k j u, g k = some j → σ[k]? = some (some u) → Dv H p 5 j (fz j) u) : ∀ {m : Nat} {u : V} {x : Lit}, LitAt σ H0 H u x → Lit.fit g m x = true → Dv H p 5 m (fz m) u
  | m, _, _, .s z, f => by
    rw [Lit.fit, Bool.and_eq_true, decide_eq_true_eq, decide_eq_true_eq] at f
    exact .str z f.1 f.2 (fz40 m)
  | m, _, _, .i n, f => by
    rw [Lit.fit, Bool.and_eq_true, decide_eq_true_eq, decide_eq_true_eq] at f
    exact .int n f.1 f.2 (fz40 m)
  | m, _, _, .b k, _ => .bl k (fz40 m)
  | m, _, _, .n, _ => .non (fz40 m)
  | m, _, _, .v (k := k) e, f => by
    rw [Lit.fit] at f
    cases q : g k with
    | none =>
      rw [q] at f
      cases f
    | some j =>
      rw [q] at f
      have jm : j ≤ m := of_decide_eq_true f
      exact (hg k j _ q e).wk (Nat.le_refl _) jm (fz_up jm)
  | 0, _, _, .t n e h, f => by
    rw [Lit.fit] at f
    cases f
  | 0, _, _, .l n e h, f => by
    rw [Lit.fit] at f
    cases f
  | m + 1, _, _, .t (vs := vs) n e h, f => by
    rw [Lit.fit, Bool.and_eq_true, decide_eq_true_eq] at f
    have l : vs.length ≤ 5 := h.len ▸ f.1
    refine .tup e (fun z => by rw [z, np] at n; cases n) l (LitAll.dv np hg h f.2) ?_
    have := Nat.mul_le_mul_right (fz m + 2) l
    show _ ≤ 4 + 5 * (fz m + 2)
    omega
  | m + 1, _, _, .l (vs := vs) n e h, f => by
    rw [Lit.fit, Bool.and_eq_true, decide_eq_true_eq] at f
    have l : vs.length ≤ 5 := h.len ▸ f.1
    refine .lst e (fun z => by rw [z, np] at n; cases n) l (LitAll.dv np hg h f.2) ?_
    have := Nat.mul_le_mul_right (fz m + 2) l
    show _ ≤ 4 + 5 * (fz m + 2)
    omega
theorem LitAll.dv {σ : L2.St} {H0 H : Hp} {p : Addr} {o : HO} (np : H0 p = some o) {g : Nat → Option Nat} (hg : ∀ k j u, g k = some j → σ[k]? = some (some u) → Dv H p 5 j (fz j) u) : ∀ {m : Nat} {vs : List V} {xs : List Lit}, LitAll σ H0 H vs xs → Lit.fits g m xs = true → ∀ u ∈ vs, Dv H p 5 m (fz m) u
  | _, _, _, .nil, _ => fun u hu => by cases hu
  | m, _, _, .cons h r, f => by
    rw [Lit.fits, Bool.and_eq_true] at f
    intro u hu
    rcases List.mem_cons.mp hu with rfl | hu
    · exact LitAt.dv np hg h f.1
    · exact LitAll.dv np hg r f.2 u hu
end
theorem textFrom_up : ∀ (ts : List Str) (k : Nat) (acc : Str), (textFrom k acc ts).length ≤ acc.length + piled ts
  | [], _, acc => Nat.le_add_right _ _
  | t :: ts, k, acc => by
    have h := textFrom_up ts (k + 1) (acc ++ (if k > 0 then ", " else "" : String) ++ t)
    have e : (acc ++ (if k > 0 then ", " else "" : String) ++ t).length ≤ acc.length + 2 + t.length := by
      rw [Str.length_append, Str.length_append]
      split
      · exact Nat.le_refl _
      · exact Nat.add_le_add_right (Nat.add_le_add_left (Nat.zero_le _) _) _
    rw [piled_cons]
    show (textFrom (k + 1) _ ts).length ≤ _
    omega
theorem listText_up (ts : List Str) : (listText ts).length ≤ 2 + piled ts := by
  have h := textFrom_up ts 0 "["
  unfold listText
  rw [Str.length_append]
  have e1 : (("[" : String) : Str).length = 1 := rfl
  have e2 : (("]" : String) : Str).length = 1 := rfl
  omega
theorem tupleText_up (ts : List Str) : (tupleText ts).length ≤ 3 + piled ts := by
  unfold tupleText
  rw [Str.length_append, Str.length_append]
  have e1 : (("(" : String) : Str).length = 1 := rfl
  have e2 : ((if ts.length == 1 then ",)" else ")" : String) : Str).length ≤ 2 := by
    split
    · exact Nat.le_refl _
    · exact Nat.le_succ _
  cases ts with
  | nil =>
    have e3 : (Str.join ", " ([] : List Str)).length = 0 := rfl
    omega
  | cons t r =>
    have := join_length_add (t :: r) (by simp)
    omega
/-- what is told of data -/
structure Told (d : PyData) (n c : Nat) : Prop where
  sh : d.showable = true
  nd : d.hasDict = false
  dp : d.depth ≤ n
  le : d.shown.length ≤ c
theorem Dv.data {K : PySem.W.Frag} {H : Hp} {p : Addr} {N n c : Nat} {v : V} (t : Dv H p N n c v) : ∃ d, Dp K H v d ∧ Told d n c := by
  induction t with
  | non hc => exact ⟨_, .non, by simp [PyData.showable], by simp [PyData.hasDict], by simp [PyData.depth], Nat.le_trans (by decide +kernel) hc⟩
  | bl b hc => exact ⟨_, .bl b, by simp [PyData.showable], by simp [PyData.hasDict], by simp [PyData.depth], Nat.le_trans (by cases b <;> decide +kernel) hc⟩
  | int i h g hc =>
    refine ⟨_, .int i, ?_, by simp [PyData.hasDict], by simp [PyData.depth], Nat.le_trans g hc⟩
    have z : i.natAbs < 2 ^ 130 := Nat.lt_trans h (by decide)
    have z2 : i.natAbs.log2 < 130 := by
      by_cases e : i.natAbs = 0
      · rw [e]
        decide
      · exact (Nat.log2_lt e).mpr z
    rw [PyData.showable]
    exact decide_eq_true (by omega)
  | str z h g hc => exact ⟨_, .str z, by simp [PyData.showable], by simp [PyData.hasDict], by simp [PyData.depth], Nat.le_trans g hc⟩
  | @tup n b c a xs e ap l h hc ih =>
    have all : ∀ ys : List V, (∀ y ∈ ys, y ∈ xs) → ∃ ds, DpAll K H ys ds ∧ PyData.showableAll ds = true ∧ PyData.hasDictAll ds = false ∧ PyData.depthAll ds ≤ n ∧ piled (PyData.shownAll ds) ≤ ys.length * (b + 2) := by
      intro ys
      induction ys with
      | nil => exact fun _ => ⟨[], .nil, by simp [PyData.showableAll], by simp [PyData.hasDictAll], by simp [PyData.depthAll], by simp [PyData.shownAll, piled]⟩
      | cons y ys ihy =>
        intro hy
        obtain ⟨d, h1, h2⟩ := ih y (hy y (List.mem_cons_self ..))
        obtain ⟨ds, g1, g2, g3, g4, g5⟩ := ihy fun z hz => hy z (List.mem_cons_of_mem _ hz)
        refine ⟨d :: ds, .cons h1 g1, by simp [PyData.showableAll, h2.sh, g2], by simp [PyData.hasDictAll, h2.nd, g3], ?_, ?_⟩
        · rw [PyData.depthAll]
          exact Nat.max_le.mpr ⟨h2.dp, g4⟩
        · rw [PyData.shownAll, piled_cons, List.length_cons, Nat.succ_mul]
          have := h2.le
          omega
    obtain ⟨ds, g1, g2, g3, g4, g5⟩ := all xs fun _ h => h
    refine ⟨.tuple ds, .tup (SqT.of e) g1, by simpa [PyData.showable] using g2, by simpa [PyData.hasDict] using g3, ?_, ?_⟩
    · rw [PyData.depth]
      omega
    · rw [PyData.shown]
      have := tupleText_up (PyData.shownAll ds)
      omega
  | @lst n b c a xs e ap l h hc ih =>
    have all : ∀ ys : List V, (∀ y ∈ ys, y ∈ xs) → ∃ ds, DpAll K H ys ds ∧ PyData.showableAll ds = true ∧ PyData.hasDictAll ds = false ∧ PyData.depthAll ds ≤ n ∧ piled (PyData.shownAll ds) ≤ ys.length * (b + 2) := by
      intro ys
      induction ys with
      | nil => exact fun _ => ⟨[], .nil, by simp [PyData.showableAll], by simp [PyData.hasDictAll], by simp [PyData.depthAll], by simp [PyData.shownAll, piled]⟩
      | cons y ys ihy =>
        intro hy
        obtain ⟨d, h1, h2⟩ := ih y (hy y (List.mem_cons_self ..))
        obtain ⟨ds, g1, g2, g3, g4, g5⟩ := ihy fun z hz => hy z (List.mem_cons_of_mem _ hz)
        refine ⟨d :: ds, .cons h1 g1, by simp [PyData.showableAll, h2.sh, g2], by simp [PyData.hasDictAll, h2.nd, g3], ?_, ?_⟩
        · rw [PyData.depthAll]
          exact Nat.max_le.mpr ⟨h2.dp, g4⟩
        · rw [PyData.shownAll, piled_cons, List.length_cons, Nat.succ_mul]
          have := h2.le
          omega
    obtain ⟨ds, g1, g2, g3, g4, g5⟩ := all xs fun _ h => h
    refine ⟨.list ds, .lst (SqL.of e) g1, by simpa [PyData.showable] using g2, by simpa [PyData.hasDict] using g3, ?_, ?_⟩
    · rw [PyData.depth]
      omega
    · rw [PyData.shown]
      have := listText_up (PyData.shownAll ds)
      omega
theorem sameT {K : PySem.W.Frag} {H H' : Hp} {a : Addr} {xs : List V} (s : Same H H') (h : SqT K H a xs) : SqT K H' a xs := by
  rcases h with h | h
  · rcases h with h | ⟨o, h⟩
    · exact .inl (.inl (s _ _ h))
    · exact .inl (.inr ⟨o, s _ _ h⟩)
  · exact .inr h
mutual
theorem Dp.on {K : PySem.W.Frag} {H H' : Hp} (s : Same H H') : ∀ {v : V} {d : PyData}, Dp K H v d → Dp K H' v d
  | _, _, .non => .non
  | _, _, .bl b => .bl b
  | _, _, .int i => .int i
  | _, _, .str x => .str x
  | _, _, .lst h r => .lst (Same.seq s h) (DpAll.on s r)
  | _, _, .tup h r => .tup (sameT s h) (DpAll.on s r)
theorem DpAll.on {K : PySem.W.Frag} {H H' : Hp} (s : Same H H') : ∀ {vs : List V} {ds : List PyData}, DpAll K H vs ds → DpAll K H' vs ds
  | _, _, .nil => .nil
  | _, _, .cons h r => .cons (Dp.on s h) (DpAll.on s r)
end
end L2.My
namespace K18
open PySem L2
open L2.My
/-! ### what the uses tell -/
def useX (H : Hp) (v : V) : Option (Str × Int) := match tupV H v with
  | some [.str z, .int i] => if nameZ z = true ∧ (0 ≤ i ∧ i ≤ 3) then some (z, i) else none
  | _ => none
def useB (H : Hp) (v : V) : Bool := (useX H v).isSome
def keyX (u : Str × Int) : List Key := [.inr u.1, .inl u.2]
def ltX (a b : Str × Int) : Bool := PySem.W.dataLt (tupD (keyX a)) (tupD (keyX b))
def ascX : List (Str × Int) → Bool
  | a :: b :: r => ltX a b && ascX (b :: r)
  | _ => true
def usesX (H : Hp) (xs : List V) : Option (List (Str × Int)) := xs.mapM (useX H)
def usesB (H : Hp) (v : V) : Bool := match tupV H v with
  | some xs => (match usesX H xs with
    | some us => ascX us
    | none => false)
  | none => false
theorem betw_iff {lo hi i : Int} : betw lo hi (.int i) = true ↔ lo ≤ i ∧ i ≤ hi := by
  show (decide (lo ≤ i) && decide (i ≤ hi)) = true ↔ _
  rw [Bool.and_eq_true, decide_eq_true_eq, decide_eq_true_eq]
theorem useX_pair {H : Hp} {a : Addr} {x y : V} (e : H a = some (.tup [x, y])) : useB H (.ref a) = (nameB x && betw 0 3 y) := by
  unfold useB useX
  rw [tupV_of e]
  cases x with
  | str z =>
    cases y with
    | int i =>
      show Option.isSome (if nameZ z = true ∧ (0 ≤ i ∧ i ≤ 3) then some (z, i) else none) = (nameZ z && betw 0 3 (.int i))
      by_cases c1 : nameZ z = true
      · by_cases c2 : 0 ≤ i ∧ i ≤ 3
        · rw [if_pos ⟨c1, c2⟩, c1, betw_iff.mpr c2]
          rfl
        · rw [if_neg fun h => c2 h.2, c1]
          cases b : betw 0 3 (.int i) with
          | true => exact absurd (betw_iff.mp b) c2
          | false => rfl
      · rw [if_neg fun h => c1 h.1]
        cases b : nameZ z with
        | true => exact absurd b c1
        | false => rfl
    | _ => simp [betw]
  | _ => rfl
theorem useX_none {H : Hp} {v : V} (h : ∀ a x y, v = .ref a → H a = some (.tup [x, y]) → False) : useX H v = none := by
  unfold useX
  cases q : tupV H v with
  | none => rfl
  | some xs =>
    cases v with
    | ref a =>
      simp only [tupV] at q
      split at q
      · rename_i ys e
        cases q
        match xs, e with
        | [x, y], e => exact (h a x y rfl e).elim
        | [], _ => rfl
        | [x], _ => cases x <;> rfl
        | x :: y :: _ :: _, _ => cases x <;> (try rfl) <;> cases y <;> rfl
      · cases q
    | _ => cases q
theorem useX_some {H : Hp} {v : V} {u : Str × Int} (h : useX H v = some u) : ∃ a, v = .ref a ∧ H a = some (.tup [.str u.1, .int u.2]) ∧ nameZ u.1 = true ∧ 0 ≤ u.2 ∧ u.2 ≤ 3 := by
  unfold useX at h
  split at h
  · rename_i z i q
    split at h
    · rename_i c
      cases h
      cases v with
      | ref a =>
        simp only [tupV] at q
        split at q
        · rename_i ys e
          cases q
          exact ⟨a, rfl, e, c.1, c.2.1, c.2.2⟩
        · cases q
      | _ => cases q
    · cases h
  · cases h
theorem useX_kp {H H' : Hp} {N n : Nat} {v : V} (t : Tv H N n v) (s : Kp H H') : useX H' v = useX H v := by
  unfold useX
  rw [tupV_kp t s]
theorem mapM_all {α β : Type} (f : α → Option β) : ∀ xs : List α, (xs.mapM f).isSome = xs.all fun x => (f x).isSome
  | [] => rfl
  | x :: xs => by
    rw [List.mapM_cons, List.all_cons, ← mapM_all f xs]
    cases f x with
    | none => rfl
    | some y =>
      cases xs.mapM f with
      | none => rfl
      | some ys => rfl
theorem mapM_at {α β : Type} {f : α → Option β} : ∀ {xs : List α} {ys : List β}, xs.mapM f = some ys → ys.length = xs.length ∧ ∀ (i : Nat) (x : α), xs[i]? = some x → ∃ y, ys[i]? = some y ∧ f x = some y
  | [], ys, h => by
    cases h
    exact ⟨rfl, fun i x e => by cases e⟩
  | x :: xs, ys, h => by
    rw [List.mapM_cons] at h
    cases q : f x with
    | none =>
      rw [q] at h
      cases h
    | some y =>
      rw [q] at h
      cases r : xs.mapM f with
      | none =>
        rw [r] at h
        cases h
      | some zs =>
        rw [r] at h
        cases h
        obtain ⟨l, g⟩ := mapM_at r
        refine ⟨by rw [List.length_cons, List.length_cons, l], fun i u e => ?_⟩
        cases i with
        | zero =>
          cases e
          exact ⟨y, rfl, q⟩
        | succ i => exact g i u e
theorem mapM_congr {α β : Type} {f g : α → Option β} : ∀ {xs : List α}, (∀ x ∈ xs, f x = g x) → xs.mapM f = xs.mapM g
  | [], _ => rfl
  | x :: xs, h => by rw [List.mapM_cons, List.mapM_cons, h x (List.mem_cons_self ..), mapM_congr fun y hy => h y (List.mem_cons_of_mem _ hy)]
theorem usesB_kp {H H' : Hp} {N n : Nat} {v : V} (t : Tv H N n v) (s : Kp H H') : usesB H' v = usesB H v := by
  unfold usesB
  rw [tupV_kp t s]
  cases t with
  | tup e l h =>
    rw [tupV_of e]
    dsimp only
    unfold usesX
    rw [mapM_congr fun x hx => useX_kp (h x hx) s]
  | lst e => simp only [tupV, e]
  | dct e => simp only [tupV, e]
  | _ => rfl
/-- each one against the next -/
theorem asc_pairs : ∀ us : List (Str × Int), ((us.zip us.tail).map fun p => ltX p.1 p.2).all id = ascX us
  | [] => rfl
  | [_] => rfl
  | a :: b :: r => by
    have h := asc_pairs (b :: r)
    show ((((a, b) :: (b :: r).zip (b :: r).tail)).map fun p => ltX p.1 p.2).all id = (ltX a b && ascX (b :: r))
    rw [List.map_cons, List.all_cons, h]
    rfl
theorem alikeX (a b : Str × Int) : PySem.W.alike (tupD (keyX a)) (tupD (keyX b)) = true := by
  show PySem.W.alike (.tuple [.str a.1, .int a.2]) (.tuple [.str b.1, .int b.2]) = true
  simp [PySem.W.alike, PySem.W.alikeAll]
theorem depthX (a : Str × Int) : (tupD (keyX a)).depth ≤ 60 := Nat.le_trans (depth_tupD _) (by decide)
theorem dpX {K : PySem.W.Frag} {H : Hp} {a : Addr} {u : Str × Int} (e : H a = some (.tup [.str u.1, .int u.2])) : Dp K H (.ref a) (tupD (keyX u)) := .tup (SqT.of e) (.cons (.str _) (.cons (.int _) .nil))
theorem ltD_at {K : PySem.W.Frag} {X : Cx} (e : X.K = K) (hu : X.A.units + 64 < cLine) : OpR X (compareOp .Lt) (rLtD K) := e ▸ op_ltD hu
section
variable {P : Program} {w : World} {K : PySem.W.Frag} {mg : Str → Option Value} {base : Heap}
theorem scUse : FnScope ["value"] ["value"] (defScope tUse) := ⟨rfl, rfl, rfl, by decide +kernel, rfl, by decide +kernel, by decide +kernel⟩
structure Dn (P : Program) (w : World) (K : PySem.W.Frag) (mg : Str → Option Value) (base : Heap) (CX : CXT) (x : Str) (ps : List Str) (k : Nat) (sp : Sp) (f : Addr) (fd : FuncData) : Prop where
  G : FnOk P w K mg base CX k f fd ps sp
  kp : PySem.W.keepIn K (.ref f) = true
  b : Binds K fd ps []
  g : mg x = some (.ref f)
theorem ok_use {N m : Nat} {f fN fB : Addr} {fd fdN fdB : FuncData} (F : Fun K "is_use" "is_use" tUse f fd) (T : Txt mg) (hO : ∃ t, mg "MAX_OFFSET" = some (.int 3 t))
    (dN : Dn P w K mg base CX0 "is_name" ["value"] 1 (spV N m nameB) fN fdN) (dB : Dn P w K mg base CX0 "is_between" ["value", "least", "most"] 3 (spBetween N m 0 3) fB fdB) :
    FnOk P w K mg base CX0 4 f fd ["value"] (spB N m useB) := by
  obtain ⟨tO, lO⟩ := hO
  refine F.ok scUse (fun vs H Q E h => ?_) (fun cdv A outer s H vs Q E hr h => ?_)
  · obtain ⟨x, rfl, _⟩ := h
    rfl
  · obtain ⟨x, rfl, tx, k⟩ := h
    have hr1 : Room 1 _ := hr.mono (by decide : 1 ≤ 3)
    refine ⟨_, pss_one (ps_ret (pe_and (pe_callB call_isi (by rfl) T.isi (by decide +kernel) (pa_cons (pv 0) (pa_cons (pe_bltn (v := .ty "tuple") (by rfl) T.tuple (by decide +kernel) rfl) pa_nil)))
      (pe_and (pe_cmpR op_eq (pe_callB call_len_seq (by rfl) T.len PySem.boot_len (pa_cons (pv 0) pa_nil)) pe_int (nomark _))
      (pe_and (pe_call dN.G hr1 rfl dN.g dN.kp dN.b .nil pass0 (pa_cons (pe_ix ix_tup (pv 0) pe_int (fun _ _ => rfl)) pa_nil))
      (pe_one (pe_call dB.G hr rfl dB.g dB.kp dB.b .nil pass0 (pa_cons (pe_ix ix_tup (pv 0) pe_int (fun _ _ => rfl)) (pa_cons pe_int (pa_cons (pe_glob (v := .int 3) rfl lO ⟨_, rfl⟩) pa_nil))))))))), ?_⟩
    rcases tx.tupcase (K := K) with ⟨a, xs, rfl, e, l, hx⟩ | ⟨nt, u, ty, kt⟩
    · refine ⟨_, rfl, _, _, _, _, _, rfl, ClsV.ty _, .base (.tup e), kit_ty (r := true) (by decide +kernel), _, rfl, iteT ?_⟩
      refine ⟨_, rfl, a, xs, rfl, .inr (SqT.of e), rfl, _, rfl, ?_⟩
      have no : xs.length ≠ 2 → useB H (.ref a) = false := fun ne => by
        unfold useB
        rw [useX_none fun b x y z q => ne (by injection z with z; rw [← z, e] at q; cases q; rfl)]
        rfl
      match xs, e, hx, no with
      | [x, y], e, hx, _ =>
        refine iteD (by rfl) ⟨_, rfl, a, _, 0, x, rfl, rfl, SqT.of e, atI_nat (j := 0) rfl, x, rfl, hx x (by simp), fun H1 s1 => ⟨_, rfl, ?_⟩⟩
        have kk := k
        rw [useX_pair e] at kk
        cases c : nameB x with
        | false =>
          rw [c, Bool.false_and] at kk
          exact iteF (kk _ s1)
        | true =>
          rw [c, Bool.true_and] at kk
          refine iteT ⟨_, rfl, a, _, 1, y, rfl, rfl, SqT.of (s1 _ _ e), atI_nat (j := 1) rfl, y, rfl, (hx y (by simp)).kp (.of s1), fun H2 s2 => kk _ (s1.trans s2)⟩
      | [], _, _, no =>
        have kk := k H (Same.refl H)
        rw [no (by decide)] at kk
        exact iteDn (by decide) kk
      | [_], _, _, no =>
        have kk := k H (Same.refl H)
        rw [no (by simp)] at kk
        exact iteDn (fun z => by cases z) kk
      | _ :: _ :: _ :: _, _, _, no =>
        have kk := k H (Same.refl H)
        rw [no (by simp)] at kk
        exact iteDn (fun z => by have := V.int.inj z; rw [List.length_cons, List.length_cons, List.length_cons] at this; omega) kk
    · have kk := k H (Same.refl H)
      have z : useB H x = false := by
        unfold useB useX
        rw [nt]
        rfl
      rw [z] at kk
      exact ⟨_, rfl, _, _, _, _, _, rfl, ClsV.ty _, ty, kt, _, rfl, iteF kk⟩
/-! ### is_uses -/
theorem scUses : FnScope ["value", "use", "one", "other"] ["value"] (defScope tUses) := ⟨rfl, rfl, rfl, by decide +kernel, rfl, by decide +kernel, by decide +kernel⟩
theorem cut_tail {xs : List V} : cutV xs (some 1) none = xs.tail := by
  cases xs with
  | nil => rfl
  | cons x xs => exact cut1
theorem ok_uses {N m : Nat} (hN : N ≤ 1000) {f fU : Addr} {fd fdU : FuncData} (F : Fun K "is_uses" "is_uses" tUses f fd) (T : Txt mg) (hzip : mg "zip" = none) (dU : Dn P w K mg base CX0 "is_use" ["value"] 4 (spB N m useB) fU fdU) :
    FnOk P w K mg base CX0 5 f fd ["value"] (spB N m usesB) := by
  refine F.ok scUses (fun vs H Q E h => ?_) (fun cdv A outer s H vs Q E hr h => ?_)
  · obtain ⟨x, rfl, _⟩ := h
    rfl
  · obtain ⟨x, rfl, tx, k⟩ := h
    have hu : (A.deeper (PyProof.Rows.envOfC "is_uses" (defScope tUses) s.heap.objs.size f cdv)).units + 64 < cLine := by
      have := hr.un
      omega
    refine ⟨_, pss_cons (ps_if (PW.pt (pw_or (pt_not (pt_val (pe_callB call_isi (by rfl) T.isi (by decide +kernel) (pa_cons (pv 0) (pa_cons (pe_bltn (v := .ty "tuple") (by rfl) T.tuple (by decide +kernel) rfl) pa_nil)))))
        (pw_or1 (pt_not (pt_val (pe_callB (cr_all (by rfl)) (by rfl) T.all (by decide +kernel) (pa_cons (pe_lc (own := [("use", 1)]) (g := gName 1) (tt := tYes) (by rfl) scUses.nd (pi_tup (pv 0)) (blkOk_by (own := [("use", 1)]) (N := ["value", "use", "one", "other"]) (sc := defScope tUses) (by decide +kernel))
          (fun _ _ _ _ _ => pg_name (i := 1) scUses.nd rfl (Or.inl rfl)) (fun _ _ _ _ _ => pts_nil) (fun _ _ _ _ _ => pe_call dU.G hr rfl dU.g dU.kp dU.b .nil pass0 (pa_cons (pv 1) pa_nil))) pa_nil)))))))
        (pss_one (ps_ret pe_bl)) pss_nil)
      (pss_one (ps_ret (pe_callB (cr_all (by rfl)) (by rfl) T.all (by decide +kernel) (pa_cons (pe_lc (own := [("one", 2), ("other", 3)]) (g := gTup K 2 (gCons (gName 2) (gCons (gName 3) gNil))) (tt := tYes) (by rfl) scUses.nd (RZ.pi_zipA rfl hzip (pa_cons (pv 0) (pa_cons (pe_slice sl_tupA (pv 0) (po_some pe_int) po_none) pa_nil)))
        (blkOk_by (own := [("one", 2), ("other", 3)]) (N := ["value", "use", "one", "other"]) (sc := defScope tUses) (by decide +kernel))
        (fun _ _ _ _ _ => pg_tup rfl (pgs_cons (pg_name (i := 2) scUses.nd rfl (.inl rfl)) (pgs_cons (pg_name (i := 3) scUses.nd rfl (.inl rfl)) pgs_nil))) (fun _ _ _ _ _ => pts_nil) (fun _ _ _ _ _ => pe_cmpR (ltD_at (K := K) rfl hu) (pv 2) (pv 3) (nomark _))) pa_nil)))), ?_⟩
    rcases tx.tupcase (K := K) with ⟨a, xs, rfl, e, l, hx⟩ | ⟨nt, u, ty, kt⟩
    · refine ⟨_, rfl, _, _, _, _, _, rfl, ClsV.ty _, .base (.tup e), kit_ty (r := true) (by decide +kernel), _, rfl, iteF ?_⟩
      have line : (1000 : Nat) < sizeLine := by decide
      refine ⟨_, rfl, a, rfl, ⟨_, SqT.of e⟩, fun D hD => lc_tup (xs := xs) (fun i H' => Acc H D (((xs.take i).map (useB H)).map V.bl) H') (Acc.start hD) (fun i H' _ q => SqT.of (q.1 _ _ e)) ?_ ?_⟩
      · intro i y H1 hy q
        have my := List.mem_of_getElem? hy
        refine ⟨rfl, _, rfl, y, rfl, (hx y my).kp (.of q.1), fun H2 s2 => ?_⟩
        have q2 := q.on s2
        refine ⟨_, q2.2.2, ?_, ?_⟩
        · rw [List.length_map, List.length_map, List.length_take]
          omega
        · rw [take_step _ hy, List.map_append]
          have z : useB H1 y = useB H y := by
            unfold useB
            rw [useX_kp (hx y my) (.of q.1)]
          rw [z]
          exact q2.put
      · intro H1 q
        rw [List.take_length] at q
        refine ⟨D, _, rfl, SqL.of q.2.2, _, rfl, ?_⟩
        rw [all_map_id]
        have eU : usesB H (.ref a) = match usesX H xs with
            | some us => ascX us
            | none => false := by
          unfold usesB
          rw [tupV_of e]
        have ea : (xs.all (useB H)) = (usesX H xs).isSome := (mapM_all _ _).symm
        cases c : usesX H xs with
        | none =>
          rw [c] at eU ea
          rw [ea]
          have kk := k _ q.1
          rw [eU] at kk
          exact iteT kk
        | some us =>
          rw [c] at eU ea
          rw [ea]
          refine iteF ?_
          obtain ⟨lu, at_⟩ := mapM_at c
          have e1 := q.1 _ _ e
          refine ⟨_, rfl, _, rfl, _, rfl, ?_⟩
          unfold tNoPart
          refine sl_go e1 fun b H2 s2 eb => ?_
          rw [cut_tail] at eb
          refine ⟨a, b, xs, xs.tail, rfl, .inr ⟨SqT.of (s2 _ _ e1), SqT.of eb, fun D2 hD2 => lc_it (walk_zipT (n := (us.zip us.tail).length) (by rw [List.length_zip, List.length_tail, List.length_tail, lu])) (fun i H' => Acc H2 D2 ((((us.zip us.tail).take i).map fun p => ltX p.1 p.2).map V.bl) H') (Acc.start hD2) (fun i H' _ q' => ⟨SqT.of (q'.1 _ _ (s2 _ _ e1)), SqT.of (q'.1 _ _ eb)⟩) ?_ ?_⟩⟩
          · rintro i v H3 H4 hi q3 ⟨T3, x, y, rfl, nT, rfl, hx3, hy3⟩
            have s4 : Same H3 (upd H3 T3 (.tup [x, y])) := grow nT
            have e4 : (upd H3 T3 (.tup [x, y])) T3 = some (.tup [x, y]) := upd_same
            revert s4 e4
            generalize upd H3 T3 (.tup [x, y]) = H4
            intro s4 e4
            obtain ⟨u1, hu1, f1⟩ := at_ i x hx3
            have hy3' : xs[i + 1]? = some y := by
              have z : xs.tail[i]? = some y := hy3
              rw [List.getElem?_tail] at z
              exact z
            obtain ⟨u2, hu2, f2⟩ := at_ (i + 1) y hy3'
            obtain ⟨a1, rfl, g1, _⟩ := useX_some f1
            obtain ⟨a2, rfl, g2, _⟩ := useX_some f2
            have s04 : Same H H4 := ((q.1.trans s2).trans q3.1).trans s4
            refine ⟨T3, _, rfl, SqT.of e4, rfl, _, _, rfl, _, _, rfl, rfl, ?_⟩
            have zp : (us.zip us.tail)[i]? = some (u1, u2) := by
              rw [List.getElem?_zip_eq_some]
              exact ⟨hu1, by rw [List.getElem?_tail]; exact hu2⟩
            refine ⟨rfl, _, rfl, _, rfl, _, _, dpX (s04 _ _ g1), dpX (s04 _ _ g2), alikeX _ _, (by intro z; cases z), depthX _, _, (q3.on s4).2.2, ?_, ?_⟩
            · rw [List.length_map, List.length_map, List.length_take, List.length_zip]
              omega
            · rw [take_step _ zp, List.map_append]
              exact (q3.on s4).put
          · intro H3 q3
            rw [List.take_length] at q3
            refine ⟨D2, _, rfl, SqL.of q3.2.2, ?_⟩
            rw [asc_pairs]
            have kk := k _ ((q.1.trans s2).trans q3.1)
            rw [eU] at kk
            exact kk
    · have kk := k H (Same.refl H)
      have z : usesB H x = false := by
        unfold usesB
        rw [nt]
      rw [z] at kk
      exact ⟨_, rfl, _, _, _, _, _, rfl, ClsV.ty _, ty, kt, _, rfl, iteT (iteT kk)⟩
end
end K18
namespace K18
open PySem L2
open L2.My
def moveB (H : Hp) (v : V) : Bool := match tupV H v with
  | some [t, u] => betw 1 4 t && usesB H u
  | _ => false
def holeB (H : Hp) (v : V) : Bool := match tupV H v with
  | some xs => isTag (xs.map strOf) "hole"
  | none => false
def pattL (H : Hp) : List V → Bool
  | [nm, sh, tk, co, us] => nameB nm && (shapeB H sh && (!holeB H sh && (betw 0 20 co && (betw 1 4 tk && usesB H us))))
  | _ => false
def pattB (H : Hp) (v : V) : Bool := match tupV H v with
  | some xs => pattL H xs
  | none => false
theorem pattL_len {H : Hp} {xs : List V} (h : xs.length ≠ 5) : pattL H xs = false := by
  match xs, h with
  | [], _ => rfl
  | [_], _ => rfl
  | [_, _], _ => rfl
  | [_, _, _], _ => rfl
  | [_, _, _, _], _ => rfl
  | [_, _, _, _, _], h => exact absurd rfl h
  | _ :: _ :: _ :: _ :: _ :: _ :: _, _ => rfl
theorem shapeB_kp {H H' : Hp} {N n : Nat} {v : V} (t : Tv H N n v) (s : Kp H H') : shapeB H' v = shapeB H v := by
  unfold shapeB
  rw [cw_kp s t]
theorem holeB_kp {H H' : Hp} {N n : Nat} {v : V} (t : Tv H N n v) (s : Kp H H') : holeB H' v = holeB H v := by
  unfold holeB
  rw [tupV_kp t s]
theorem pattB_kp {H H' : Hp} {N n : Nat} {v : V} (t : Tv H N n v) (s : Kp H H') : pattB H' v = pattB H v := by
  unfold pattB
  rw [tupV_kp t s]
  cases t with
  | @tup n a xs e l h =>
    rw [tupV_of e]
    dsimp only
    clear e l
    · match xs, h with
      | [nm, sh, tk, co, us], h =>
        simp only [pattL]
        rw [shapeB_kp (h sh (by simp)) s, holeB_kp (h sh (by simp)) s, usesB_kp (h us (by simp)) s]
      | [], _ => rfl
      | [_], _ => rfl
      | [_, _], _ => rfl
      | [_, _, _], _ => rfl
      | [_, _, _, _], _ => rfl
      | _ :: _ :: _ :: _ :: _ :: _ :: _, _ => rfl
  | lst e => simp only [tupV, e]
  | dct e => simp only [tupV, e]
  | _ => rfl
theorem shapeB_tup {H : Hp} {v : V} (h : shapeB H v = true) : ∃ a xs, v = .ref a ∧ H a = some (.tup xs) := by
  unfold shapeB at h
  simp only [cw] at h
  cases q : tupV H v with
  | none =>
    rw [q] at h
    cases h
  | some xs =>
    cases v with
    | ref a =>
      simp only [tupV] at q
      split at q
      · exact ⟨a, _, rfl, by assumption⟩
      · cases q
    | _ => cases q
theorem Tv.tup_inv {H : Hp} {N n : Nat} {b : Addr} {ys : List V} (t : Tv H N n (.ref b)) (e : H b = some (.tup ys)) : ∃ q, n = q + 1 ∧ ys.length ≤ N ∧ ∀ x ∈ ys, Tv H N q x := by
  cases t with
  | tup e' l h =>
    rw [e] at e'
    cases e'
    exact ⟨_, rfl, l, h⟩
  | lst e' =>
    rw [e] at e'
    cases e'
  | dct e' =>
    rw [e] at e'
    cases e'
section
variable {P : Program} {w : World} {K : PySem.W.Frag} {mg : Str → Option Value} {base : Heap}
theorem scMove : FnScope ["value"] ["value"] (defScope tMove) := ⟨rfl, rfl, rfl, by decide +kernel, rfl, by decide +kernel, by decide +kernel⟩
theorem ok_move {N m : Nat} {f fB fU : Addr} {fd fdB fdU : FuncData} (F : Fun K "is_move" "is_move" tMove f fd) (T : Txt mg) (hK : ∃ t, mg "MAX_TICKS" = some (.int 4 t))
    (dB : Dn P w K mg base CX0 "is_between" ["value", "least", "most"] 3 (spBetween N m 1 4) fB fdB) (dU : Dn P w K mg base CX0 "is_uses" ["value"] 5 (spB N m usesB) fU fdU) :
    FnOk P w K mg base CX0 6 f fd ["value"] (spB N m moveB) := by
  obtain ⟨tO, lO⟩ := hK
  refine F.ok scMove (fun vs H Q E h => ?_) (fun cdv A outer s H vs Q E hr h => ?_)
  · obtain ⟨x, rfl, _⟩ := h
    rfl
  · obtain ⟨x, rfl, tx, k⟩ := h
    have hr3 : Room 3 _ := hr.mono (by decide : 3 ≤ 5)
    refine ⟨_, pss_one (ps_ret (pe_and (pe_callB call_isi (by rfl) T.isi (by decide +kernel) (pa_cons (pv 0) (pa_cons (pe_bltn (v := .ty "tuple") (by rfl) T.tuple (by decide +kernel) rfl) pa_nil)))
      (pe_and (pe_cmpR op_eq (pe_callB call_len_seq (by rfl) T.len PySem.boot_len (pa_cons (pv 0) pa_nil)) pe_int (nomark _))
      (pe_and (pe_call dB.G hr3 rfl dB.g dB.kp dB.b .nil pass0 (pa_cons (pe_ix ix_tup (pv 0) pe_int (fun _ _ => rfl)) (pa_cons pe_int (pa_cons (pe_glob (v := .int 4) rfl lO ⟨_, rfl⟩) pa_nil))))
      (pe_one (pe_call dU.G hr rfl dU.g dU.kp dU.b .nil pass0 (pa_cons (pe_ix ix_tup (pv 0) pe_int (fun _ _ => rfl)) pa_nil))))))), ?_⟩
    rcases tx.tupcase (K := K) with ⟨a, xs, rfl, e, l, hx⟩ | ⟨nt, u, ty, kt⟩
    · refine ⟨_, rfl, _, _, _, _, _, rfl, ClsV.ty _, .base (.tup e), kit_ty (r := true) (by decide +kernel), _, rfl, iteT ?_⟩
      refine ⟨_, rfl, a, xs, rfl, .inr (SqT.of e), rfl, _, rfl, ?_⟩
      have eM : moveB H (.ref a) = match (some xs : Option (List V)) with
          | some [t, u] => betw 1 4 t && usesB H u
          | _ => false := by
        unfold moveB
        rw [tupV_of e]
      match xs, e, hx, eM with
      | [x, y], e, hx, eM =>
        have kk := k
        rw [eM] at kk
        dsimp only at kk
        refine iteD (by rfl) ⟨_, rfl, a, _, 0, x, rfl, rfl, SqT.of e, atI_nat (j := 0) rfl, x, rfl, hx x (by simp), fun H1 s1 => ⟨_, rfl, ?_⟩⟩
        cases c : betw 1 4 x with
        | false =>
          rw [c, Bool.false_and] at kk
          exact iteF (kk _ s1)
        | true =>
          rw [c, Bool.true_and] at kk
          refine iteT ⟨_, rfl, a, _, 1, y, rfl, rfl, SqT.of (s1 _ _ e), atI_nat (j := 1) rfl, y, rfl, (hx y (by simp)).kp (.of s1), fun H2 s2 => ?_⟩
          rw [usesB_kp (hx y (by simp)) (.of s1)]
          exact kk _ (s1.trans s2)
      | [], e, _, eM =>
        have kk := k H (Same.refl H)
        rw [eM] at kk
        exact iteDn (by decide) kk
      | [_], e, _, eM =>
        have kk := k H (Same.refl H)
        rw [eM] at kk
        exact iteDn (fun z => by cases z) kk
      | _ :: _ :: _ :: _, e, _, eM =>
        have kk := k H (Same.refl H)
        rw [eM] at kk
        exact iteDn (fun z => by have := V.int.inj z; rw [List.length_cons, List.length_cons, List.length_cons] at this; omega) kk
    · have kk := k H (Same.refl H)
      have z : moveB H x = false := by
        unfold moveB
        rw [nt]
      rw [z] at kk
      exact ⟨_, rfl, _, _, _, _, _, rfl, ClsV.ty _, ty, kt, _, rfl, iteF kk⟩
theorem scPattern : FnScope ["value", "_", "shape", "ticks", "cost", "uses"] ["value"] (defScope tPattern) := ⟨rfl, rfl, rfl, by decide +kernel, rfl, by decide +kernel, by decide +kernel⟩
theorem ok_pattern {N m : Nat} (hN : 2 ≤ N) {f fN fS fB fM : Addr} {fd fdN fdS fdB fdM : FuncData} (F : Fun K "is_pattern" "is_pattern" tPattern f fd) (T : Txt mg) (hC : ∃ t, mg "MAX_COST" = some (.int 20 t))
    (dN : Dn P w K mg base CX0 "is_name" ["value"] 1 (spV N m nameB) fN fdN) (dS : Dn P w K mg base CX0 "is_shape" ["value"] 11 (spB N m shapeB) fS fdS)
    (dB : Dn P w K mg base CX0 "is_between" ["value", "least", "most"] 3 (spBetween N m 0 20) fB fdB) (dM : Dn P w K mg base CX0 "is_move" ["value"] 6 (spB N m moveB) fM fdM) :
    FnOk P w K mg base CX0 12 f fd ["value"] (spB N m pattB) := by
  obtain ⟨tO, lO⟩ := hC
  refine F.ok scPattern (fun vs H Q E h => ?_) (fun cdv A outer s H vs Q E hr h => ?_)
  · obtain ⟨x, rfl, _⟩ := h
    rfl
  · obtain ⟨x, rfl, tx, k⟩ := h
    have hr1 : Room 1 _ := hr.mono (by decide : 1 ≤ 11)
    have hr3 : Room 3 _ := hr.mono (by decide : 3 ≤ 11)
    have hr6 : Room 6 _ := hr.mono (by decide : 6 ≤ 11)
    have hu := hu_of hr
    refine ⟨_, pss_cons (ps_if (PW.pt (pw_or (pt_not (pt_val (pe_callB call_isi (by rfl) T.isi (by decide +kernel) (pa_cons (pv 0) (pa_cons (pe_bltn (v := .ty "tuple") (by rfl) T.tuple (by decide +kernel) rfl) pa_nil)))))
          (pw_or (pt_cmpR op_ne (pe_callB call_len_seq (by rfl) T.len PySem.boot_len (pa_cons (pv 0) pa_nil)) pe_int (nomark _))
          (pw_or1 (pt_not (pt_val (pe_call dN.G hr1 rfl dN.g dN.kp dN.b .nil pass0 (pa_cons (pe_ix ix_tup (pv 0) pe_int (fun _ _ => rfl)) pa_nil))))))))
        (pss_one (ps_ret pe_bl)) pss_nil)
      (pss_cons (ps_asg (pv 0) (pg_tup rfl (pgs_cons (pg_name (i := 1) scPattern.nd rfl (.inl rfl)) (pgs_cons (pg_name (i := 2) scPattern.nd rfl (.inl rfl)) (pgs_cons (pg_name (i := 3) scPattern.nd rfl (.inl rfl)) (pgs_cons (pg_name (i := 4) scPattern.nd rfl (.inl rfl)) (pgs_cons (pg_name (i := 5) scPattern.nd rfl (.inl rfl)) pgs_nil)))))))
      (pss_cons (ps_if (PW.pt (pw_or (pt_not (pt_val (pe_call dS.G hr rfl dS.g dS.kp dS.b .nil pass0 (pa_cons (pv 2) pa_nil))))
          (pw_or (pt_cmpR (op_eqTag hu) (pv 2) (pe_tup (pa_cons pe_str pa_nil)) (nomark _))
          (pw_or1 (pt_not (pt_val (pe_call dB.G hr3 rfl dB.g dB.kp dB.b .nil pass0 (pa_cons (pv 4) (pa_cons pe_int (pa_cons (pe_glob (v := .int 20) rfl lO ⟨_, rfl⟩) pa_nil))))))))))
        (pss_one (ps_ret pe_bl)) pss_nil)
      (pss_one (ps_ret (pe_call dM.G hr6 rfl dM.g dM.kp dM.b .nil pass0 (pa_cons (pe_tup (pa_cons (pv 3) (pa_cons (pv 5) pa_nil))) pa_nil)))))), ?_⟩
    rcases tx.tupcase (K := K) with ⟨a, xs, rfl, e, l, hx⟩ | ⟨nt, u, ty, kt⟩
    · refine ⟨_, rfl, _, _, _, _, _, rfl, ClsV.ty _, .base (.tup e), kit_ty (r := true) (by decide +kernel), _, rfl, iteF ?_⟩
      refine ⟨_, rfl, a, xs, rfl, .inr (SqT.of e), rfl, _, rfl, ?_⟩
      have eP : pattB H (.ref a) = pattL H xs := by
        unfold pattB
        rw [tupV_of e]
      by_cases c5 : xs.length = 5
      · obtain ⟨q, rfl, _, hy⟩ := tx.tup_inv e
        match xs, c5, e, hx, hy, eP with
        | [nm, sh, tk, co, us], _, e, hx, hy, eP =>
          have eL : pattL H [nm, sh, tk, co, us] = (nameB nm && (shapeB H sh && (!holeB H sh && (betw 0 20 co && (betw 1 4 tk && usesB H us))))) := rfl
          rw [eL] at eP
          refine iteF ⟨_, rfl, a, _, 0, nm, rfl, rfl, SqT.of e, atI_nat (j := 0) rfl, nm, rfl, hx nm (by simp), fun H1 s1 => ⟨_, rfl, ?_⟩⟩
          have kk := k
          rw [eP] at kk
          cases cn : nameB nm with
          | false =>
            rw [cn, Bool.false_and] at kk
            exact iteT (kk _ s1)
          | true =>
            rw [cn, Bool.true_and] at kk
            refine iteF ⟨_, rfl, a, _, rfl, SqT.of (s1 _ _ e), rfl, _, _, rfl, _, _, rfl, _, _, rfl, _, _, rfl, _, _, rfl, rfl, ?_⟩
            refine ⟨_, rfl, sh, rfl, (hx sh (by simp)).kp (.of s1), fun H2 s2 => ⟨_, rfl, ?_⟩⟩
            rw [shapeB_kp (hx sh (by simp)) (.of s1)]
            have s12 := s1.trans s2
            cases cs : shapeB H sh with
            | false =>
              rw [cs, Bool.false_and] at kk
              exact iteT (iteT (kk _ s12))
            | true =>
              rw [cs, Bool.true_and] at kk
              obtain ⟨b, ys, rfl, eb⟩ := shapeB_tup cs
              obtain ⟨q2, _, _, hys⟩ := (hx (.ref b) (by simp)).tup_inv eb
              refine iteF ⟨_, rfl, (by show 1 ≤ sizeLine; decide), fun t nt => ?_⟩
              have s3 : Same H2 (upd H2 t (.tup [.str "hole"])) := grow nt
              have e3 : (upd H2 t (.tup [.str "hole"])) t = some (.tup [.str "hole"]) := upd_same
              revert s3 e3
              generalize upd H2 t (.tup [.str "hole"]) = H3
              intro s3 e3
              have s13 := s12.trans s3
              refine ⟨b, t, _, _, "hole", rfl, rfl, s13 _ _ eb, e3, texts fun y hy => (hys y hy).kp (.of s13), _, rfl, ?_⟩
              have eH : holeB H (.ref b) = isTag (ys.map strOf) "hole" := by
                unfold holeB
                rw [tupV_of eb]
              rw [eH] at kk
              cases ch : isTag (ys.map strOf) "hole" with
              | true =>
                rw [ch, Bool.not_true, Bool.false_and] at kk
                exact iteT (iteT (kk _ s13))
              | false =>
                rw [ch, Bool.not_false, Bool.true_and] at kk
                refine iteF ⟨_, rfl, co, rfl, (hx co (by simp)).kp (.of s13), fun H4 s4 => ⟨_, rfl, ?_⟩⟩
                have s14 := s13.trans s4
                cases cc : betw 0 20 co with
                | false =>
                  rw [cc, Bool.false_and] at kk
                  exact iteT (kk _ s14)
                | true =>
                  rw [cc, Bool.true_and] at kk
                  refine iteF ⟨_, rfl, _, rfl, (by show 2 ≤ sizeLine; decide), fun t5 nt5 => ?_⟩
                  have s5 : Same H4 (upd H4 t5 (.tup [tk, us])) := grow nt5
                  have e5 : (upd H4 t5 (.tup [tk, us])) t5 = some (.tup [tk, us]) := upd_same
                  revert s5 e5
                  generalize upd H4 t5 (.tup [tk, us]) = H5
                  intro s5 e5
                  have s15 := s14.trans s5
                  refine ⟨.ref t5, rfl, .tup e5 (by simpa using hN) (fun y hy2 => ?_), fun H6 s6 => ?_⟩
                  · simp only [List.mem_cons, List.not_mem_nil, or_false] at hy2
                    rcases hy2 with rfl | rfl
                    · exact (hy _ (by simp)).kp (.of s15)
                    · exact (hy _ (by simp)).kp (.of s15)
                  · have z : moveB H5 (.ref t5) = (betw 1 4 tk && usesB H us) := by
                      unfold moveB
                      rw [tupV_of e5]
                      dsimp only
                      rw [usesB_kp (hx us (by simp)) (.of s15)]
                    rw [z]
                    exact kk _ (s15.trans s6)
      · have kk := k H (Same.refl H)
        rw [eP, pattL_len c5] at kk
        have z : decide (V.int ((xs.length : Nat) : Int) = V.int 5) = false := decide_eq_false fun z => c5 (by have := V.int.inj z; omega)
        rw [z]
        exact iteT (iteT kk)
    · have kk := k H (Same.refl H)
      have z : pattB H x = false := by
        unfold pattB
        rw [nt]
      rw [z] at kk
      exact ⟨_, rfl, _, _, _, _, _, rfl, ClsV.ty _, ty, kt, _, rfl, iteT (iteT kk)⟩
/-! ### the law's own look at numbers -/
theorem scFrom : FnScope ["_law_value", "_law_low", "_law_high"] ["_law_value", "_law_low", "_law_high"] (defScope tFrom) := ⟨rfl, rfl, rfl, by decide +kernel, rfl, by decide +kernel, by decide +kernel⟩
def spFrom (N m : Nat) : Sp := fun vs H Q _ => ∃ x lo hi, vs = [x, .int lo, .int hi] ∧ Tv H N m x ∧ ∀ H', Same H H' → Q (.bl (betw lo hi x)) H'
theorem ok_from {N m : Nat} {f : Addr} {fd : FuncData} (F : Fun K "_law_is_from" "_law_is_from" tFrom f fd) (T : Txt mg) : FnOk P w K mg base CX0 1 f fd ["_law_value", "_law_low", "_law_high"] (spFrom N m) := by
  refine F.ok scFrom (fun vs H Q E h => ?_) (fun cdv A outer s H vs Q E hr h => ?_)
  · obtain ⟨x, lo, hi, rfl, _⟩ := h
    rfl
  · obtain ⟨x, lo, hi, rfl, it, k⟩ := h
    refine ⟨_, pss_one (ps_ret (pe_and (pe_callB call_isi (by rfl) T.isi (by decide +kernel) (pa_cons (pv 0) (pa_cons (pe_bltn (v := .ty "int") (by rfl) T.int (by decide +kernel) rfl) pa_nil)))
      (pe_and (pe_not (pe_callB call_isi (by rfl) T.isi (by decide +kernel) (pa_cons (pv 0) (pa_cons (pe_bltn (v := .ty "bool") (by rfl) T.bool (by decide +kernel) rfl) pa_nil))))
      (pe_one (pe_chain op_le op_le (pv 1) (pv 0) (pv 2)))))), ?_⟩
    obtain ⟨z, hz, ty, q1, q2, q3, q4⟩ := it.ty (K := K)
    have kk := k H (Same.refl H)
    by_cases c : z = "int" ∨ z = "bool"
    · rcases c with c | c
      · obtain ⟨y, rfl⟩ := q3.mp c
        refine ⟨_, rfl, _, _, _, _, _, rfl, ClsV.ty _, .base (.int _), kit_ty (r := true) (by decide +kernel), _, rfl, iteT ?_⟩
        refine ⟨_, rfl, _, _, _, _, _, rfl, ClsV.ty _, .base (.int _), kit_ty (r := false) (by decide +kernel), _, rfl, _, rfl, iteT ?_⟩
        refine ⟨_, rfl, _, rfl, _, _, rfl, rfl, _, rfl, ?_⟩
        have zz : betw lo hi (.int y) = (decide (lo ≤ y) && decide (y ≤ hi)) := rfl
        rw [zz] at kk
        by_cases d : lo ≤ y
        · rw [decide_eq_true d, Bool.true_and] at kk
          exact iteD d ⟨_, rfl, _, _, rfl, rfl, kk⟩
        · rw [decide_eq_false d, Bool.false_and] at kk
          exact iteDn d kk
      · obtain ⟨y, rfl⟩ := q4.mp c
        refine ⟨_, rfl, _, _, _, _, _, rfl, ClsV.ty _, .base (.bl _), kit_ty (r := true) (by decide +kernel), _, rfl, iteT ?_⟩
        exact ⟨_, rfl, _, _, _, _, _, rfl, ClsV.ty _, .base (.bl _), kit_ty (r := true) (by decide +kernel), _, rfl, _, rfl, iteF kk⟩
    · have nb : betw lo hi x = false := by
        cases x with
        | int y => exact absurd (.inl (q3.mpr ⟨y, rfl⟩)) c
        | _ => rfl
      refine ⟨_, rfl, _, _, _, _, _, rfl, ClsV.ty _, ty, kit_ty (r := false) (by
        simp only [List.mem_cons, List.not_mem_nil, or_false] at hz
        rcases hz with rfl | rfl | rfl | rfl | rfl | rfl | rfl <;> first | exact absurd (.inl rfl) c | exact absurd (.inr rfl) c | decide +kernel), _, rfl, iteF ?_⟩
      rw [nb] at kk
      exact kk
end
end K18
namespace K18
open PySem L2
open L2.My
/-- the law's own size of a shape, by levels -/
def szOp (f : V → Nat) (hd : V) : List V → Nat
  | [] => 99
  | nm :: rs => if isS hd "op" = true ∧ rs.length ≤ 3 ∧ nameB nm = true then 1 + (rs.map f).sum else 99
def szStore (f : V → Nat) : List V → Option Nat
  | [s] => some (1 + f s)
  | _ => none
def szIn (f : V → Nat) (top : Bool) : List V → Nat
  | [] => 99
  | hd :: tl => if isTag ((hd :: tl).map strOf) "hole" = true then 0 else if isTag ((hd :: tl).map strOf) "load" = true then 1
    else if (isS hd "store" && top) = true then (szStore f tl).getD 99 else szOp f hd tl
def sz (H : Hp) : Nat → V → Bool → Nat
  | 0, _, _ => 99
  | d + 1, v, top => match tupV H v with
    | some xs => szIn (fun u => sz H d u false) top xs
    | none => 99
def upto (q m : Nat) : Option Nat := if m ≤ q then some m else none
theorem upto_yes {q m : Nat} (h : m ≤ q) : upto q m = some m := if_pos h
theorem upto_no {q m : Nat} (h : ¬ m ≤ q) : upto q m = none := if_neg h
theorem go_sum {f : Nat → V → Option Nat} {g : V → Nat} {q : Nat} : ∀ {l : List V} {t : Nat}, 1 ≤ t → t ≤ q → (∀ t u, 1 ≤ t → t ≤ q → u ∈ l → f (q - t) u = upto (q - t) (g u)) → ctGo f q t l = upto q (t + (l.map g).sum)
  | [], t, _, h, _ => by
    rw [List.map_nil, List.sum_nil, Nat.add_zero, upto_yes h]
    rfl
  | s :: r, t, h1, h2, h => by
    simp only [ctGo]
    rw [h t s h1 h2 (List.mem_cons_self ..), List.map_cons, List.sum_cons]
    by_cases c : g s ≤ q - t
    · rw [upto_yes c]
      dsimp only
      rw [go_sum (l := r) (t := t + g s) (by omega) (by omega) fun t u a b hu => h t u a b (List.mem_cons_of_mem _ hu)]
      rw [Nat.add_assoc]
    · rw [upto_no c, upto_no (by omega)]
theorem szIn_big {f : V → Nat} {hd : V} {tl : List V} {r : Bool} (c : ¬ isTag ((hd :: tl).map strOf) "hole" = true) : 1 ≤ szIn f r (hd :: tl) := by
  simp only [szIn]
  rw [if_neg c]
  split
  · exact Nat.le_refl _
  split
  · match tl with
    | [] => exact (by decide : 1 ≤ 99)
    | [s] => exact Nat.le_add_right 1 _
    | _ :: _ :: _ => exact (by decide : 1 ≤ 99)
  · match tl with
    | [] => exact (by decide : 1 ≤ 99)
    | nm :: rs =>
      simp only [szOp]
      split
      · exact Nat.le_add_right 1 _
      · exact (by decide : 1 ≤ 99)
theorem cw_sz {H : Hp} {N : Nat} : ∀ {n q : Nat} {v : V} {r : Bool}, Tv H N n v → q ≤ 98 → cw H (q + 1) q v r = upto q (sz H (n + 1) v r) := by
  intro n
  have no99 : ∀ {q : Nat}, q ≤ 98 → (none : Option Nat) = upto q 99 := fun h => (upto_no (by omega)).symm
  induction n with
  | zero =>
    intro q v r t hq
    have nt : tupV H v = none := by
      cases t with
      | lst e => simp only [tupV, e]
      | dct e => simp only [tupV, e]
      | _ => rfl
    simp only [cw, sz, nt]
    exact no99 hq
  | succ n ih =>
    intro q v r t hq
    cases t with
    | @tup _ a xs e l h =>
      have eS : sz H (n + 1 + 1) (.ref a) r = szIn (fun u => sz H (n + 1) u false) r xs := by
        simp only [sz]
        rw [tupV_of e]
      have eC : cw H (q + 1) q (.ref a) r = cwIn (fun q' u => cw H q q' u false) q r xs := by
        simp only [cw]
        rw [tupV_of e]
      rw [eS, eC]
      have part : ∀ t u, 1 ≤ t → t ≤ q → u ∈ xs → cw H q (q - t) u false = upto (q - t) (sz H (n + 1) u false) := by
        intro t u t1 tq hu
        rw [cw_fuel (e := q - t + 1) (by omega) (Nat.le_refl _)]
        exact ih (h u hu) (by omega)
      have one : ∀ ys : List V, q ≠ 0 → (∀ y ∈ ys, y ∈ xs) → ctGo (fun q' u => cw H q q' u false) q 1 ys = upto q (1 + (ys.map fun u => sz H (n + 1) u false).sum) := fun ys q0 hy =>
        go_sum (Nat.le_refl 1) (by omega) fun t u t1 tq hu => part t u t1 tq (hy u hu)
      clear eS eC part e l h
      match xs, one with
      | [], _ => exact no99 hq
      | hd :: tl, one =>
        by_cases c1 : isTag ((hd :: tl).map strOf) "hole" = true
        · simp only [cwIn, szIn]
          rw [if_pos c1, if_pos c1, upto_yes (Nat.zero_le _)]
        by_cases q0 : q = 0
        · have big := szIn_big (f := fun u => sz H (n + 1) u false) (r := r) c1
          rw [upto_no (by omega)]
          simp only [cwIn]
          rw [if_neg c1, if_pos q0]
        simp only [cwIn, szIn]
        rw [if_neg c1, if_neg c1, if_neg q0]
        by_cases c2 : isTag ((hd :: tl).map strOf) "load" = true
        · rw [if_pos c2, if_pos c2, upto_yes (by omega)]
        rw [if_neg c2, if_neg c2]
        by_cases c3 : (isS hd "store" && r) = true
        · rw [if_pos c3, if_pos c3]
          match tl, one with
          | [], _ => exact no99 hq
          | [s], one =>
            have z := one [s] q0 (by simp)
            rw [List.map_cons, List.map_nil, List.sum_cons, List.sum_nil, Nat.add_zero] at z
            exact z
          | _ :: _ :: _, _ => exact no99 hq
        · rw [if_neg c3, if_neg c3]
          match tl, one with
          | [], _ => exact no99 hq
          | nm :: rs, one =>
            simp only [cwOp, szOp]
            by_cases c4 : isS hd "op" = true ∧ rs.length ≤ 3 ∧ nameB nm = true
            · rw [if_pos c4, if_pos c4]
              exact one rs q0 fun y hy => List.mem_cons_of_mem _ (List.mem_cons_of_mem _ hy)
            · rw [if_neg c4, if_neg c4]
              exact no99 hq
    | lst e =>
      simp only [cw, sz, tupV, e]
      exact no99 hq
    | dct e =>
      simp only [cw, sz, tupV, e]
      exact no99 hq
    | _ =>
      simp only [cw, sz, tupV]
      exact no99 hq
theorem shapeB_sz {H : Hp} {N n : Nat} {v : V} (t : Tv H N n v) : shapeB H v = decide (sz H (n + 1) v true ≤ 4) := by
  have z : shapeB H v = (cw H (4 + 1) 4 v true).isSome := rfl
  rw [z, cw_sz t (by decide)]
  by_cases c : sz H (n + 1) v true ≤ 4
  · rw [upto_yes c, decide_eq_true c]
    rfl
  · rw [upto_no c, decide_eq_false c]
    rfl
theorem sz_kp {H H' : Hp} {N : Nat} (s : Kp H H') : ∀ {d n : Nat} {v : V} {r : Bool}, Tv H N n v → sz H' d v r = sz H d v r
  | 0, _, _, _, _ => rfl
  | d + 1, n, v, r, t => by
    simp only [sz]
    rw [tupV_kp t s]
    cases t with
    | @tup _ a xs e l h =>
      rw [tupV_of e]
      dsimp only
      have eq : ∀ u ∈ xs, sz H' d u false = sz H d u false := fun u hu => sz_kp s (h u hu)
      clear e l h
      match xs, eq with
      | [], _ => rfl
      | hd :: tl, eq =>
        have e1 : szStore (fun u => sz H' d u false) tl = szStore (fun u => sz H d u false) tl := by
          match tl, eq with
          | [], _ => rfl
          | [s], eq => simp only [szStore, eq s (by simp)]
          | _ :: _ :: _, _ => rfl
        have e2 : szOp (fun u => sz H' d u false) hd tl = szOp (fun u => sz H d u false) hd tl := by
          match tl, eq with
          | [], _ => rfl
          | nm :: rs, eq => simp only [szOp, List.map_congr_left fun u hu => eq u (List.mem_cons_of_mem _ (List.mem_cons_of_mem _ hu))]
        simp only [szIn, e1, e2]
    | lst e => simp only [tupV, e]
    | dct e => simp only [tupV, e]
    | _ => rfl
section
open PySem.Spec PyProof.Rows
variable {X : Cx}
/-- t == () -/
def rEqUnit : R2 := fun x y H Q => ∃ a b xs, x = .ref a ∧ y = .ref b ∧ H a = some (.tup xs) ∧ H b = some (.tup []) ∧ Q (.bl xs.isEmpty) H
theorem op_eqUnit (hu : X.A.units < cLine) : OpR X (compareOp .Eq) rEqUnit := by
  intro pins s σ H x y v u Q I rx ry h
  obtain ⟨a, b, xs, rfl, rfl, ea, eb, q⟩ := h
  cases rx
  cases ry
  obtain ⟨_, its, r1, o, h1, h2, n, h3⟩ := (show ObjOk X.prog X.w H s.heap a (.tup xs) from I.hok a _ ea)
  obtain ⟨_, its2, r2, o2, g1, g2, n2, g3⟩ := (show ObjOk X.prog X.w H s.heap b (.tup []) from I.hok b _ eb)
  cases r2
  have la : s.heap.IsTuple a its.toArray := ⟨_, h1, h2, n, h3⟩
  have lb : s.heap.IsTuple b #[] := ⟨_, g1, g2, n2, g3⟩
  refine SeqAt.RcAt.tuples (e := fun _ => true) la lb hu (fun j _ h2 => absurd h2 (by simp)) _ _ _ _ ?_
  cases r1 with
  | nil => exact ⟨.bl true, H, I, rfl, q⟩
  | cons r t => exact ⟨.bl false, H, I, by simp [L2.RelV], q⟩
end
theorem drop2 {hd nm : V} {rs : List V} : cutV (hd :: nm :: rs) (some 2) none = rs := cut2
theorem sum_cast : ∀ xs : List Nat, (xs.map fun c : Nat => (c : Int)).sum = ((xs.sum : Nat) : Int)
  | [] => rfl
  | x :: xs => by
    rw [List.map_cons, List.sum_cons, List.sum_cons, sum_cast xs]
    omega
section
variable {P : Program} {w : World} {K : PySem.W.Frag} {mg : Str → Option Value} {base : Heap}
theorem scSize : FnScope ["_law_value", "_law_is_top", "_law_one_here"] ["_law_value", "_law_is_top"] (defScope tSize) := ⟨rfl, rfl, rfl, by decide +kernel, rfl, by decide +kernel, by decide +kernel⟩
def spSize (N n : Nat) : Sp := fun vs H Q _ => ∃ v top, vs = [v, .bl top] ∧ Tv H N n v ∧ ∀ H', Same H H' → Q (.int ((sz H (n + 1) v top : Nat) : Int)) H'
/-- the size, step by step -/
theorem step_size {N n : Nat} (hN : N ≤ 1000) {spR : Sp} {f fW : Addr} {fd fdW : FuncData} (F : Fun K "_law_size" "_law_size" tSize f fd) (T : Txt mg) (hsum : mg "sum" = none) (bF : Binds K fd ["_law_value", "_law_is_top"] []) (gF : mg "_law_size" = some (.ref f))
    (dW : Dn P w K mg base CX0 "_law_is_word" ["_law_value"] 1 (spV N n nameB) fW fdW)
    (GR : FnOk P w K mg base CX0 (1 + n) f fd ["_law_value", "_law_is_top"] spR) (hR : ∀ q, n = q + 1 → spR = spSize N q) :
    FnOk P w K mg base CX0 (1 + n + 1) f fd ["_law_value", "_law_is_top"] (spSize N n) := by
  refine F.ok scSize (fun vs H Q E h => ?_) (fun cdv A outer s H vs Q E hr h => ?_)
  · obtain ⟨v, top, rfl, _⟩ := h
    rfl
  · obtain ⟨v, top, rfl, tx, k⟩ := h
    have hr1 : Room 1 _ := hr.mono (by omega)
    have hu0 := Nat.lt_of_succ_lt (hu_of hr)
    have hu : (A.deeper (PyProof.Rows.envOfC "_law_size" (defScope tSize) s.heap.objs.size f cdv)).units + 2 < cLine := by
      have := hr.un
      omega
    refine ⟨_, pss_cons (ps_if (PW.pt (pw_or (pt_not (pt_val (pe_callB call_isi (by rfl) T.isi (by decide +kernel) (pa_cons (pv 0) (pa_cons (pe_bltn (v := .ty "tuple") (by rfl) T.tuple (by decide +kernel) rfl) pa_nil)))))
          (pw_or1 (pt_cmpR (op_eqUnit hu0) (pv 0) (pe_tup pa_nil) (nomark _)))))
        (pss_one (ps_ret pe_int)) pss_nil)
      (pss_cons (ps_if (pt_cmpR (op_inTags hu) (pv 0) (pe_tup (pa_cons (pe_tup (pa_cons pe_str pa_nil)) (pa_cons (pe_tup (pa_cons pe_str pa_nil)) pa_nil))) (by rfl))
        (pss_one (ps_ret (pe_callTy call_int1 (by rfl) T.int (by decide +kernel) (pa_cons (pe_cmpR (op_eqTag (Nat.lt_of_succ_lt hu)) (pv 0) (pe_tup (pa_cons pe_str pa_nil)) (nomark _)) pa_nil)))) pss_nil)
      (pss_cons (ps_if (PW.pt (pw_and (pt_cmpR (op_eqX hu0) (pe_ix ix_tup (pv 0) pe_int (fun _ _ => rfl)) pe_str (nomark _)) (pw_and (pt_val (pv 1)) (pw_and1 (pt_cmpR op_eq (pe_callB call_len_seq (by rfl) T.len PySem.boot_len (pa_cons (pv 0) pa_nil)) pe_int (nomark _))))))
        (pss_one (ps_ret (pe_op op_add pe_int (pe_call GR hr rfl gF F.kp bF .nil pass0 (pa_cons (pe_ix ix_tup (pv 0) pe_int (fun _ _ => rfl)) (pa_cons pe_bl pa_nil)))))) pss_nil)
      (pss_cons (ps_if (PW.pt (pw_or (pt_cmpR (op_neX hu0) (pe_ix ix_tup (pv 0) pe_int (fun _ _ => rfl)) pe_str (nomark _))
          (pw_or (pt_not (pt_chain op_le op_le pe_int (pe_callB call_len_seq (by rfl) T.len PySem.boot_len (pa_cons (pv 0) pa_nil)) pe_int))
          (pw_or1 (pt_not (pt_val (pe_call dW.G hr1 rfl dW.g dW.kp dW.b .nil pass0 (pa_cons (pe_ix ix_tup (pv 0) pe_int (fun _ _ => rfl)) pa_nil))))))))
        (pss_one (ps_ret pe_int)) pss_nil)
      (pss_one (ps_ret (pe_op op_add pe_int (pe_callB (cr_sum (by rfl)) (by rfl) hsum (by decide +kernel) (pa_cons
        (pe_lc (own := [("_law_one_here", 2)]) (g := gName 2) (tt := tYes) (by rfl) scSize.nd (pi_tup (pe_slice sl_tupA (pv 0) (po_some pe_int) po_none)) (blkOk_by (own := [("_law_one_here", 2)]) (N := ["_law_value", "_law_is_top", "_law_one_here"]) (sc := defScope tSize) (by decide +kernel))
        (fun _ _ _ _ _ => pg_name (i := 2) scSize.nd rfl (Or.inl rfl)) (fun _ _ _ _ _ => pts_nil) (fun _ _ _ _ _ => pe_call GR hr rfl gF F.kp bF .nil pass0 (pa_cons (pv 2) (pa_cons pe_bl pa_nil)))) pa_nil)))))))), ?_⟩
    have lp : ∀ n : Nat, n ≤ 10 → n ≤ sizeLine := fun n h => Nat.le_trans h (by decide)
    rcases tx.tupcase (K := K) with ⟨a, xs, rfl, e, l, hx⟩ | ⟨nt, u, ty, kt⟩
    · obtain ⟨q, rfl, _, hy⟩ := tx.tup_inv e
      have sR := hR q rfl
      subst sR
      have eS : sz H (q + 1 + 1) (.ref a) top = szIn (fun u => sz H (q + 1) u false) top xs := by
        simp only [sz]
        rw [tupV_of e]
      refine ⟨_, rfl, _, _, _, _, _, rfl, ClsV.ty _, .base (.tup e), kit_ty (r := true) (by decide +kernel), _, rfl, iteF ?_⟩
      refine ⟨_, rfl, lp 0 (by decide), fun t0 nt0 => ?_⟩
      have s0 : Same H (upd H t0 (.tup [])) := grow nt0
      have e0 : (upd H t0 (.tup [])) t0 = some (.tup []) := upd_same
      revert s0 e0
      generalize upd H t0 (.tup []) = H0
      intro s0 e0
      refine ⟨a, t0, xs, rfl, rfl, s0 _ _ e, e0, _, rfl, ?_⟩
      match xs, e, hx, hy, eS with
      | [], e, hx, hy, eS =>
        have kk := k H0 s0
        rw [eS] at kk
        exact iteT kk
      | hd :: tl, e, hx, hy, eS =>
        have lx : (hd :: tl).length ≤ N := l
        refine iteF ⟨_, rfl, lp 1 (by decide), fun t1 nt1 => ?_⟩
        have s1 : Same H0 (upd H0 t1 (.tup [.str "hole"])) := grow nt1
        have e1 : (upd H0 t1 (.tup [.str "hole"])) t1 = some (.tup [.str "hole"]) := upd_same
        revert s1 e1
        generalize upd H0 t1 (.tup [.str "hole"]) = H1
        intro s1 e1
        refine ⟨lp 1 (by decide), fun t2 nt2 => ?_⟩
        have s2 : Same H1 (upd H1 t2 (.tup [.str "load"])) := grow nt2
        have e2 : (upd H1 t2 (.tup [.str "load"])) t2 = some (.tup [.str "load"]) := upd_same
        revert s2 e2
        generalize upd H1 t2 (.tup [.str "load"]) = H2
        intro s2 e2
        refine ⟨lp 2 (by decide), fun t3 nt3 => ?_⟩
        have s3 : Same H2 (upd H2 t3 (.tup [.ref t1, .ref t2])) := grow nt3
        have e3 : (upd H2 t3 (.tup [.ref t1, .ref t2])) t3 = some (.tup [.ref t1, .ref t2]) := upd_same
        revert s3 e3
        generalize upd H2 t3 (.tup [.ref t1, .ref t2]) = H3
        intro s3 e3
        have s03 : Same H H3 := ((s0.trans s1).trans s2).trans s3
        have tx3 : Texts H3 (hd :: tl) ((hd :: tl).map strOf) := texts fun y m => (hx y m).kp (.of s03)
        have e13 : H3 t1 = some (.tup [.str "hole"]) := s3 _ _ (s2 _ _ e1)
        have e23 : H3 t2 = some (.tup [.str "load"]) := s3 _ _ e2
        refine ⟨a, t3, _, _, [t1, t2], ["hole", "load"], rfl, rfl, s03 _ _ e, e3, tx3, rfl, fun p hp => ?_, _, rfl, ?_⟩
        · simp only [List.zip_cons_cons, List.zip_nil_right, List.mem_cons, List.not_mem_nil, or_false] at hp
          rcases hp with rfl | rfl
          · exact e13
          · exact e23
        have eA : (["hole", "load"] : List Str).any (isTag ((hd :: tl).map strOf)) = (isTag ((hd :: tl).map strOf) "hole" || isTag ((hd :: tl).map strOf) "load") := by
          simp only [List.any_cons, List.any_nil, Bool.or_false]
        rw [eA]
        have eI : szIn (fun u => sz H (q + 1) u false) top (hd :: tl) = if isTag ((hd :: tl).map strOf) "hole" = true then 0 else if isTag ((hd :: tl).map strOf) "load" = true then 1
          else if (isS hd "store" && top) = true then (szStore (fun u => sz H (q + 1) u false) tl).getD 99 else szOp (fun u => sz H (q + 1) u false) hd tl := rfl
        rw [eI] at eS
        cases c1 : isTag ((hd :: tl).map strOf) "hole" with
        | true =>
          rw [c1, if_pos rfl] at eS
          have no : isTag ((hd :: tl).map strOf) "load" = false := by
            match tl, c1 with
            | [], c1 =>
              have z : strOf hd = some ("hole" : Str) := of_decide_eq_true c1
              show decide (strOf hd = some ("load" : Str)) = false
              rw [z]
              decide +kernel
            | _ :: _, c1 => cases c1
          rw [Bool.true_or]
          refine iteT ⟨_, rfl, lp 1 (by decide), fun p np => ?_⟩
          have kk := k
          rw [eS] at kk
          have s4 := grow (o := .tup [.str "load"]) np
          refine ⟨a, p, _, _, "load", rfl, rfl, s4 _ _ (s03 _ _ e), upd_same, texts fun y m => (hx y m).kp (.of (s03.trans s4)), .inr ⟨_, rfl, ?_⟩⟩
          rw [no]
          exact kk _ (s03.trans s4)
        | false =>
          rw [c1, if_neg Bool.false_ne_true] at eS
          rw [Bool.false_or]
          cases c2 : isTag ((hd :: tl).map strOf) "load" with
          | true =>
            rw [c2, if_pos rfl] at eS
            refine iteT ⟨_, rfl, lp 1 (by decide), fun p np => ?_⟩
            have kk := k
            rw [eS] at kk
            have s4 := grow (o := .tup [.str "load"]) np
            refine ⟨a, p, _, _, "load", rfl, rfl, s4 _ _ (s03 _ _ e), upd_same, texts fun y m => (hx y m).kp (.of (s03.trans s4)), .inr ⟨_, rfl, ?_⟩⟩
            rw [c2]
            exact kk _ (s03.trans s4)
          | false =>
            rw [c2, if_neg Bool.false_ne_true] at eS
            have ea := s03 _ _ e
            have hdt : AsText H3 hd (strOf hd) := ((hx hd (by simp)).kp (.of s03)).text
            refine iteF ⟨_, rfl, a, _, 0, hd, rfl, rfl, SqT.of ea, atI_nat (j := 0) rfl, strOf hd, _, rfl, hdt, _, rfl, ?_⟩
            have last : (isS hd "store" && top) = false ∨ szStore (fun u => sz H (q + 1) u false) tl = none → sz H (q + 1 + 1) (.ref a) top = if isS hd "store" = true then 99 else szOp (fun u => sz H (q + 1) u false) hd tl := fun h => by
              rw [eS]
              by_cases st : isS hd "store" = true
              · rw [if_pos st]
                by_cases tp : top = true
                · rw [st, tp]
                  rcases h with h | h
                  · rw [st, tp] at h
                    cases h
                  · rw [h]
                    rfl
                · rw [Bool.eq_false_iff.mpr tp, Bool.and_false, if_neg Bool.false_ne_true]
                  have no : isS hd "op" = false := by
                    have z : strOf hd = some ("store" : Str) := of_decide_eq_true st
                    show decide (strOf hd = some ("op" : Str)) = false
                    rw [z]
                    decide +kernel
                  match tl with
                  | [] => rfl
                  | nm :: rs => exact if_neg fun z : isS hd "op" = true ∧ rs.length ≤ 3 ∧ nameB nm = true => by rw [no] at z; cases z.1
              · rw [Bool.eq_false_iff.mpr st, Bool.false_and, if_neg Bool.false_ne_true, if_neg Bool.false_ne_true]
            by_cases cs : strOf hd = some ("store" : Str)
            · have zs : isS hd "store" = true := decide_eq_true cs
              refine iteD cs ⟨_, rfl, top, rfl, ?_⟩
              cases top with
              | true =>
                refine iteT ⟨_, rfl, a, _, rfl, .inr (SqT.of ea), rfl, _, rfl, ?_⟩
                by_cases c2' : tl.length = 1
                · match tl, c2', e, ea, hx, hy, eS with
                  | [s'], _, e, ea, hx, hy, eS =>
                    rw [zs, Bool.true_and, if_pos rfl] at eS
                    have eS : sz H (q + 1 + 1) (.ref a) true = 1 + sz H (q + 1) s' false := eS
                    refine iteD (by rfl) ⟨_, rfl, a, _, 1, s', rfl, rfl, SqT.of ea, atI_nat (j := 1) rfl, s', false, rfl, (hy s' (by simp)).kp (.of s03), fun H4 s4 => ⟨_, _, rfl, rfl, ?_⟩⟩
                    rw [sz_kp (.of s03) (hy s' (by simp))]
                    have kk := k _ (s03.trans s4)
                    rw [eS] at kk
                    have z5 : (((1 + sz H (q + 1) s' false : Nat)) : Int) = 1 + ((sz H (q + 1) s' false : Nat) : Int) := by omega
                    rw [z5] at kk
                    exact kk
                · refine iteDn (fun z => c2' (by have := V.int.inj z; rw [List.length_cons] at this; omega)) ?_
                  have eF := last (.inr (by
                    match tl, c2' with
                    | [], _ => rfl
                    | [_], c => exact absurd rfl c
                    | _ :: _ :: _, _ => rfl))
                  refine ⟨_, rfl, a, _, 0, hd, rfl, rfl, SqT.of ea, atI_nat (j := 0) rfl, strOf hd, _, rfl, hdt, _, rfl, ?_⟩
                  have kk := k
                  rw [eF] at kk
                  by_cases co : strOf hd = some ("op" : Str)
                  · have so : isS hd "store" = false := by
                      show decide (strOf hd = some ("store" : Str)) = false
                      rw [co]
                      decide +kernel
                    have oo : isS hd "op" = true := decide_eq_true co
                    rw [so, if_neg Bool.false_ne_true] at kk
                    refine iteNS co ⟨_, rfl, a, _, rfl, .inr (SqT.of ea), _, _, rfl, rfl, _, rfl, ?_⟩
                    clear last eF eS eI eA tx3 c1 c2
                    match tl, e, ea, hx, hy, lx, kk with
                    | [], e, ea, hx, hy, lx, kk => exact iteDn (by show ¬ ((2 : Int) ≤ 1); decide) ⟨_, rfl, iteT (iteT (kk _ s03))⟩
                    | nm :: rs, e, ea, hx, hy, lx, kk =>
                      have eO : szOp (fun u => sz H (q + 1) u false) hd (nm :: rs) = if isS hd "op" = true ∧ rs.length ≤ 3 ∧ nameB nm = true then 1 + (rs.map fun u => sz H (q + 1) u false).sum else 99 := rfl
                      rw [eO] at kk
                      refine iteD (by rw [List.length_cons, List.length_cons]; omega) ⟨_, _, rfl, rfl, _, rfl, ?_⟩
                      by_cases l3 : rs.length ≤ 3
                      · rw [decide_eq_true (show (((hd :: nm :: rs).length : Nat) : Int) ≤ 5 by rw [List.length_cons, List.length_cons]; omega)]
                        refine iteF ⟨_, rfl, a, _, 1, nm, rfl, rfl, SqT.of ea, atI_nat (j := 1) rfl, nm, rfl, (hx nm (by simp)).kp (.of s03), fun H4 s4 => ⟨_, rfl, ?_⟩⟩
                        have s04 := s03.trans s4
                        cases cn : nameB nm with
                        | false =>
                          rw [if_neg (fun z => by have := z.2.2; rw [cn] at this; cases this)] at kk
                          exact iteT (kk _ s04)
                        | true =>
                          rw [if_pos ⟨oo, l3, cn⟩] at kk
                          refine iteF ⟨_, rfl, _, rfl, ?_⟩
                          unfold tNoPart
                          refine sl_go (s4 _ _ ea) fun b H5 s5 eb => ?_
                          rw [drop2] at eb
                          have s05 := s04.trans s5
                          have hrs : ∀ y ∈ rs, Tv H N q y := fun y m => hy y (List.mem_cons_of_mem _ (List.mem_cons_of_mem _ m))
                          refine ⟨b, rfl, ⟨_, SqT.of eb⟩, fun D hD => lc_tup (xs := rs) (fun i H' => Acc H5 D (((rs.take i).map fun u => sz H (q + 1) u false).map fun c : Nat => V.int c) H') (Acc.start hD) (fun i H' _ g => SqT.of (g.1 _ _ eb)) ?_ ?_⟩
                          · intro i y H6 hi g
                            have my := List.mem_of_getElem? hi
                            have s06 := s05.trans g.1
                            refine ⟨rfl, _, rfl, y, false, rfl, (hrs y my).kp (.of s06), fun H7 s7 => ?_⟩
                            rw [sz_kp (.of s06) (hrs y my)]
                            have g7 := g.on s7
                            refine ⟨_, g7.2.2, ?_, ?_⟩
                            · rw [List.length_map, List.length_map, List.length_take]
                              have : (3 : Nat) < sizeLine := by decide
                              omega
                            · rw [take_step (fun u => sz H (q + 1) u false) hi, List.map_append]
                              exact g7.put
                          · intro H6 g
                            rw [List.take_length] at g
                            refine ⟨D, ((rs.map fun u => sz H (q + 1) u false).map fun c : Nat => (c : Int)), rfl, ?_, ?_⟩
                            · refine SqL.of ?_
                              rw [g.2.2]
                              simp
                            · refine ⟨_, _, rfl, rfl, ?_⟩
                              have z := kk _ (s05.trans g.1)
                              have z5 : (((1 + (rs.map fun u => sz H (q + 1) u false).sum : Nat)) : Int) = 1 + ((rs.map fun u => sz H (q + 1) u false).map fun c : Nat => (c : Int)).sum := by
                                rw [sum_cast]
                                omega
                              rw [z5] at z
                              exact z
                      · rw [decide_eq_false (show ¬ (((hd :: nm :: rs).length : Nat) : Int) ≤ 5 by rw [List.length_cons, List.length_cons]; omega)]
                        rw [if_neg (fun z => l3 z.2.1)] at kk
                        exact iteT (iteT (kk _ s03))
                  · have no : (if isS hd "store" = true then 99 else szOp (fun u => sz H (q + 1) u false) hd tl) = 99 := by
                      by_cases st : isS hd "store" = true
                      · rw [if_pos st]
                      · rw [if_neg st]
                        match tl with
                        | [] => rfl
                        | nm :: rs => exact if_neg fun z : isS hd "op" = true ∧ rs.length ≤ 3 ∧ nameB nm = true => co (of_decide_eq_true z.1)
                    rw [no] at kk
                    rw [decide_eq_false co]
                    exact iteT (iteT (kk _ s03))
              | false =>
                refine iteF ?_
                have eF := last (.inl (Bool.and_false _))
                refine ⟨_, rfl, a, _, 0, hd, rfl, rfl, SqT.of ea, atI_nat (j := 0) rfl, strOf hd, _, rfl, hdt, _, rfl, ?_⟩
                have kk := k
                rw [eF] at kk
                by_cases co : strOf hd = some ("op" : Str)
                · have so : isS hd "store" = false := by
                    show decide (strOf hd = some ("store" : Str)) = false
                    rw [co]
                    decide +kernel
                  have oo : isS hd "op" = true := decide_eq_true co
                  rw [so, if_neg Bool.false_ne_true] at kk
                  refine iteNS co ⟨_, rfl, a, _, rfl, .inr (SqT.of ea), _, _, rfl, rfl, _, rfl, ?_⟩
                  clear last eF eS eI eA tx3 c1 c2
                  match tl, e, ea, hx, hy, lx, kk with
                  | [], e, ea, hx, hy, lx, kk => exact iteDn (by show ¬ ((2 : Int) ≤ 1); decide) ⟨_, rfl, iteT (iteT (kk _ s03))⟩
                  | nm :: rs, e, ea, hx, hy, lx, kk =>
                    have eO : szOp (fun u => sz H (q + 1) u false) hd (nm :: rs) = if isS hd "op" = true ∧ rs.length ≤ 3 ∧ nameB nm = true then 1 + (rs.map fun u => sz H (q + 1) u false).sum else 99 := rfl
                    rw [eO] at kk
                    refine iteD (by rw [List.length_cons, List.length_cons]; omega) ⟨_, _, rfl, rfl, _, rfl, ?_⟩
                    by_cases l3 : rs.length ≤ 3
                    · rw [decide_eq_true (show (((hd :: nm :: rs).length : Nat) : Int) ≤ 5 by rw [List.length_cons, List.length_cons]; omega)]
                      refine iteF ⟨_, rfl, a, _, 1, nm, rfl, rfl, SqT.of ea, atI_nat (j := 1) rfl, nm, rfl, (hx nm (by simp)).kp (.of s03), fun H4 s4 => ⟨_, rfl, ?_⟩⟩
                      have s04 := s03.trans s4
                      cases cn : nameB nm with
                      | false =>
                        rw [if_neg (fun z => by have := z.2.2; rw [cn] at this; cases this)] at kk
                        exact iteT (kk _ s04)
                      | true =>
                        rw [if_pos ⟨oo, l3, cn⟩] at kk
                        refine iteF ⟨_, rfl, _, rfl, ?_⟩
                        unfold tNoPart
                        refine sl_go (s4 _ _ ea) fun b H5 s5 eb => ?_
                        rw [drop2] at eb
                        have s05 := s04.trans s5
                        have hrs : ∀ y ∈ rs, Tv H N q y := fun y m => hy y (List.mem_cons_of_mem _ (List.mem_cons_of_mem _ m))
                        refine ⟨b, rfl, ⟨_, SqT.of eb⟩, fun D hD => lc_tup (xs := rs) (fun i H' => Acc H5 D (((rs.take i).map fun u => sz H (q + 1) u false).map fun c : Nat => V.int c) H') (Acc.start hD) (fun i H' _ g => SqT.of (g.1 _ _ eb)) ?_ ?_⟩
                        · intro i y H6 hi g
                          have my := List.mem_of_getElem? hi
                          have s06 := s05.trans g.1
                          refine ⟨rfl, _, rfl, y, false, rfl, (hrs y my).kp (.of s06), fun H7 s7 => ?_⟩
                          rw [sz_kp (.of s06) (hrs y my)]
                          have g7 := g.on s7
                          refine ⟨_, g7.2.2, ?_, ?_⟩
                          · rw [List.length_map, List.length_map, List.length_take]
                            have : (3 : Nat) < sizeLine := by decide
                            omega
                          · rw [take_step (fun u => sz H (q + 1) u false) hi, List.map_append]
                            exact g7.put
                        · intro H6 g
                          rw [List.take_length] at g
                          refine ⟨D, ((rs.map fun u => sz H (q + 1) u false).map fun c : Nat => (c : Int)), rfl, ?_, ?_⟩
                          · refine SqL.of ?_
                            rw [g.2.2]
                            simp
                          · refine ⟨_, _, rfl, rfl, ?_⟩
                            have z := kk _ (s05.trans g.1)
                            have z5 : (((1 + (rs.map fun u => sz H (q + 1) u false).sum : Nat)) : Int) = 1 + ((rs.map fun u => sz H (q + 1) u false).map fun c : Nat => (c : Int)).sum := by
                              rw [sum_cast]
                              omega
                            rw [z5] at z
                            exact z
                    · rw [decide_eq_false (show ¬ (((hd :: nm :: rs).length : Nat) : Int) ≤ 5 by rw [List.length_cons, List.length_cons]; omega)]
                      rw [if_neg (fun z => l3 z.2.1)] at kk
                      exact iteT (iteT (kk _ s03))
                · have no : (if isS hd "store" = true then 99 else szOp (fun u => sz H (q + 1) u false) hd tl) = 99 := by
                    by_cases st : isS hd "store" = true
                    · rw [if_pos st]
                    · rw [if_neg st]
                      match tl with
                      | [] => rfl
                      | nm :: rs => exact if_neg fun z : isS hd "op" = true ∧ rs.length ≤ 3 ∧ nameB nm = true => co (of_decide_eq_true z.1)
                  rw [no] at kk
                  rw [decide_eq_false co]
                  exact iteT (iteT (kk _ s03))
            · have zs : isS hd "store" = false := decide_eq_false cs
              refine iteDn cs ?_
              have eF := last (.inl (by rw [zs]; rfl))
              refine ⟨_, rfl, a, _, 0, hd, rfl, rfl, SqT.of ea, atI_nat (j := 0) rfl, strOf hd, _, rfl, hdt, _, rfl, ?_⟩
              have kk := k
              rw [eF] at kk
              by_cases co : strOf hd = some ("op" : Str)
              · have so : isS hd "store" = false := by
                  show decide (strOf hd = some ("store" : Str)) = false
                  rw [co]
                  decide +kernel
                have oo : isS hd "op" = true := decide_eq_true co
                rw [so, if_neg Bool.false_ne_true] at kk
                refine iteNS co ⟨_, rfl, a, _, rfl, .inr (SqT.of ea), _, _, rfl, rfl, _, rfl, ?_⟩
                clear last eF eS eI eA tx3 c1 c2
                match tl, e, ea, hx, hy, lx, kk with
                | [], e, ea, hx, hy, lx, kk => exact iteDn (by show ¬ ((2 : Int) ≤ 1); decide) ⟨_, rfl, iteT (iteT (kk _ s03))⟩
                | nm :: rs, e, ea, hx, hy, lx, kk =>
                  have eO : szOp (fun u => sz H (q + 1) u false) hd (nm :: rs) = if isS hd "op" = true ∧ rs.length ≤ 3 ∧ nameB nm = true then 1 + (rs.map fun u => sz H (q + 1) u false).sum else 99 := rfl
                  rw [eO] at kk
                  refine iteD (by rw [List.length_cons, List.length_cons]; omega) ⟨_, _, rfl, rfl, _, rfl, ?_⟩
                  by_cases l3 : rs.length ≤ 3
                  · rw [decide_eq_true (show (((hd :: nm :: rs).length : Nat) : Int) ≤ 5 by rw [List.length_cons, List.length_cons]; omega)]
                    refine iteF ⟨_, rfl, a, _, 1, nm, rfl, rfl, SqT.of ea, atI_nat (j := 1) rfl, nm, rfl, (hx nm (by simp)).kp (.of s03), fun H4 s4 => ⟨_, rfl, ?_⟩⟩
                    have s04 := s03.trans s4
                    cases cn : nameB nm with
                    | false =>
                      rw [if_neg (fun z => by have := z.2.2; rw [cn] at this; cases this)] at kk
                      exact iteT (kk _ s04)
                    | true =>
                      rw [if_pos ⟨oo, l3, cn⟩] at kk
                      refine iteF ⟨_, rfl, _, rfl, ?_⟩
                      unfold tNoPart
                      refine sl_go (s4 _ _ ea) fun b H5 s5 eb => ?_
                      rw [drop2] at eb
                      have s05 := s04.trans s5
                      have hrs : ∀ y ∈ rs, Tv H N q y := fun y m => hy y (List.mem_cons_of_mem _ (List.mem_cons_of_mem _ m))
                      refine ⟨b, rfl, ⟨_, SqT.of eb⟩, fun D hD => lc_tup (xs := rs) (fun i H' => Acc H5 D (((rs.take i).map fun u => sz H (q + 1) u false).map fun c : Nat => V.int c) H') (Acc.start hD) (fun i H' _ g => SqT.of (g.1 _ _ eb)) ?_ ?_⟩
                      · intro i y H6 hi g
                        have my := List.mem_of_getElem? hi
                        have s06 := s05.trans g.1
                        refine ⟨rfl, _, rfl, y, false, rfl, (hrs y my).kp (.of s06), fun H7 s7 => ?_⟩
                        rw [sz_kp (.of s06) (hrs y my)]
                        have g7 := g.on s7
                        refine ⟨_, g7.2.2, ?_, ?_⟩
                        · rw [List.length_map, List.length_map, List.length_take]
                          have : (3 : Nat) < sizeLine := by decide
                          omega
                        · rw [take_step (fun u => sz H (q + 1) u false) hi, List.map_append]
                          exact g7.put
                      · intro H6 g
                        rw [List.take_length] at g
                        refine ⟨D, ((rs.map fun u => sz H (q + 1) u false).map fun c : Nat => (c : Int)), rfl, ?_, ?_⟩
                        · refine SqL.of ?_
                          rw [g.2.2]
                          simp
                        · refine ⟨_, _, rfl, rfl, ?_⟩
                          have z := kk _ (s05.trans g.1)
                          have z5 : (((1 + (rs.map fun u => sz H (q + 1) u false).sum : Nat)) : Int) = 1 + ((rs.map fun u => sz H (q + 1) u false).map fun c : Nat => (c : Int)).sum := by
                            rw [sum_cast]
                            omega
                          rw [z5] at z
                          exact z
                  · rw [decide_eq_false (show ¬ (((hd :: nm :: rs).length : Nat) : Int) ≤ 5 by rw [List.length_cons, List.length_cons]; omega)]
                    rw [if_neg (fun z => l3 z.2.1)] at kk
                    exact iteT (iteT (kk _ s03))
              · have no : (if isS hd "store" = true then 99 else szOp (fun u => sz H (q + 1) u false) hd tl) = 99 := by
                  by_cases st : isS hd "store" = true
                  · rw [if_pos st]
                  · rw [if_neg st]
                    match tl with
                    | [] => rfl
                    | nm :: rs => exact if_neg fun z : isS hd "op" = true ∧ rs.length ≤ 3 ∧ nameB nm = true => co (of_decide_eq_true z.1)
                rw [no] at kk
                rw [decide_eq_false co]
                exact iteT (iteT (kk _ s03))
    · have kk := k H (Same.refl H)
      have z : sz H (n + 1) v top = 99 := by
        simp only [sz]
        rw [nt]
      rw [z] at kk
      exact ⟨_, rfl, _, _, _, _, _, rfl, ClsV.ty _, ty, kt, _, rfl, iteT (iteT kk)⟩
theorem ok_size {N : Nat} (hN : N ≤ 1000) {f fW : Addr} {fd fdW : FuncData} (F : Fun K "_law_size" "_law_size" tSize f fd) (T : Txt mg) (hsum : mg "sum" = none) (bF : Binds K fd ["_law_value", "_law_is_top"] []) (gF : mg "_law_size" = some (.ref f))
    (dW : ∀ n, Dn P w K mg base CX0 "_law_is_word" ["_law_value"] 1 (spV N n nameB) fW fdW) : ∀ n, FnOk P w K mg base CX0 (1 + n + 1) f fd ["_law_value", "_law_is_top"] (spSize N n)
  | 0 => step_size hN F T hsum bF gF (dW 0) (fnok_false (j := 1 + 0)) fun q h => absurd h.symm (Nat.succ_ne_zero q)
  | n + 1 => step_size hN F T hsum bF gF (dW (n + 1)) (ok_size hN F T hsum bF gF dW n) fun q h => by
      obtain rfl : n = q := Nat.succ.inj h
      rfl
end
end K18
namespace K18
open PySem L2
open L2.My
/-! ### the order of uses -/
abbrev dX (u : Str × Int) : PyData := tupD (keyX u)
theorem toksX (u : Str × Int) : PySem.W.keyToks (dX u) = [.inl 1, .inr u.1.cps.toList, .inl 1, .inl u.2, .inl 0] := by
  show PySem.W.keyToks (.tuple [.str u.1, .int u.2]) = _
  simp [PySem.W.keyToks, PySem.W.keyToksAll]
theorem ltX_irr (a : Str × Int) : ltX a a = false := PyProof.Rows.lex_irrefl (O := PyProof.Rows.itemOrd) _
theorem ltX_trans {a b c : Str × Int} (h1 : ltX a b = true) (h2 : ltX b c = true) : ltX a c = true := PyProof.Rows.lex_trans (O := PyProof.Rows.itemOrd) _ _ _ h1 h2
theorem ltX_total {a b : Str × Int} (h1 : ltX a b = false) (h2 : ltX b a = false) : a = b := by
  have z : PySem.W.keyToks (dX a) = PySem.W.keyToks (dX b) := PyProof.Rows.lex_total (O := PyProof.Rows.itemOrd) _ _ h1 h2
  rw [toksX, toksX] at z
  injection z with _ z
  injection z with z1 z
  injection z with _ z
  injection z with z2 _
  injection z1 with z1
  injection z2 with z2
  obtain ⟨⟨x⟩, i⟩ := a
  obtain ⟨⟨y⟩, j⟩ := b
  have e1 : x = y := Array.toList_inj.mp z1
  have e2 : i = j := z2
  rw [e1, e2]
theorem ascX_iff : ∀ us : List (Str × Int), ascX us = true ↔ us.Pairwise fun a b => ltX a b = true
  | [] => ⟨fun _ => .nil, fun _ => rfl⟩
  | [a] => ⟨fun _ => List.pairwise_singleton _ _, fun _ => rfl⟩
  | a :: b :: r => by
    have ih := ascX_iff (b :: r)
    show (ltX a b && ascX (b :: r)) = true ↔ _
    rw [Bool.and_eq_true, ih, List.pairwise_cons (a := a)]
    constructor
    · rintro ⟨h1, h2⟩
      refine ⟨fun c hc => ?_, h2⟩
      rcases List.mem_cons.mp hc with rfl | hc
      · exact h1
      · exact ltX_trans h1 ((List.pairwise_cons.mp h2).1 c hc)
    · rintro ⟨h1, h2⟩
      exact ⟨h1 b (List.mem_cons_self ..), h2⟩
/-- two ascending rows of the same members are one -/
theorem asc_same : ∀ {us vs : List (Str × Int)}, us.Pairwise (fun a b => ltX a b = true) → vs.Pairwise (fun a b => ltX a b = true) → (∀ x, x ∈ us ↔ x ∈ vs) → us = vs
  | [], [], _, _, _ => rfl
  | [], v :: vs, _, _, h => absurd ((h v).mpr (List.mem_cons_self ..)) (by simp)
  | u :: us, [], _, _, h => absurd ((h u).mp (List.mem_cons_self ..)) (by simp)
  | u :: us, v :: vs, hu, hv, h => by
    obtain ⟨hu1, hu2⟩ := List.pairwise_cons.mp hu
    obtain ⟨hv1, hv2⟩ := List.pairwise_cons.mp hv
    have e : u = v := by
      rcases List.mem_cons.mp ((h u).mp (List.mem_cons_self ..)) with e | m
      · exact e
      · rcases List.mem_cons.mp ((h v).mpr (List.mem_cons_self ..)) with e | m2
        · exact e.symm
        · have z := ltX_trans (hv1 u m) (hu1 v m2)
          rw [ltX_irr] at z
          cases z
    subst e
    rw [asc_same hu2 hv2 fun x => ⟨fun m => ?_, fun m => ?_⟩]
    · rcases List.mem_cons.mp ((h x).mp (List.mem_cons_of_mem _ m)) with e | m2
      · rw [e] at m
        have z := hu1 u m
        rw [ltX_irr] at z
        cases z
      · exact m2
    · rcases List.mem_cons.mp ((h x).mpr (List.mem_cons_of_mem _ m)) with e | m2
      · rw [e] at m
        have z := hv1 u m
        rw [ltX_irr] at z
        cases z
      · exact m2
theorem eqvX (a b : Str × Int) : PyData.eqv (dX a) (dX b) = decide (a = b) := by
  show PyData.eqv (.tuple [.str a.1, .int a.2]) (.tuple [.str b.1, .int b.2]) = _
  simp only [PyData.eqv, PyData.eqvAll, Bool.and_true]
  apply Bool.eq_iff_iff.mpr
  rw [Bool.and_eq_true, beq_iff_eq, beq_iff_eq, decide_eq_true_eq]
  exact ⟨fun h => Prod.ext h.1 h.2, fun h => by rw [h]; exact ⟨rfl, rfl⟩⟩
theorem eqvAllX : ∀ us vs : List (Str × Int), PyData.eqvAll (us.map dX) (vs.map dX) = decide (us = vs)
  | [], [] => by simp [PyData.eqvAll]
  | [], v :: vs => by simp [PyData.eqvAll]
  | u :: us, [] => by simp [PyData.eqvAll]
  | u :: us, v :: vs => by
    rw [List.map_cons, List.map_cons, PyData.eqvAll, eqvX, eqvAllX us vs]
    apply Bool.eq_iff_iff.mpr
    rw [Bool.and_eq_true, decide_eq_true_eq, decide_eq_true_eq, decide_eq_true_eq]
    exact ⟨fun h => by rw [h.1, h.2], fun h => by injection h with h1 h2; exact ⟨h1, h2⟩⟩
theorem keyX_inj {a b : Str × Int} (h : keyX a = keyX b) : a = b := by
  injection h with h1 h2
  injection h2 with h2 _
  injection h1 with h1
  injection h2 with h2
  exact Prod.ext h1 h2
theorem keys_back : ∀ {L : List (Addr × List Key)} {us : List (Str × Int)}, (∀ p ∈ L, p.2 ∈ us.map keyX) → ∃ vs : List (Str × Int), L.map Prod.snd = vs.map keyX ∧ ∀ v ∈ vs, v ∈ us
  | [], _, _ => ⟨[], rfl, fun v hv => by cases hv⟩
  | p :: L, us, h => by
    obtain ⟨u, hu, e⟩ := List.mem_map.mp (h p (List.mem_cons_self ..))
    obtain ⟨vs, e2, hs⟩ := keys_back (L := L) (us := us) fun q hq => h q (List.mem_cons_of_mem _ hq)
    refine ⟨u :: vs, by rw [List.map_cons, List.map_cons, e, e2], fun v hv => ?_⟩
    rcases List.mem_cons.mp hv with rfl | hv
    · exact hu
    · exact hs v hv
/-- sorted(set(us)) == us says that us ascends -/
theorem sorted_says {us : List (Str × Int)} {L L1 : List (Addr × List Key)} (sub : ∀ p ∈ L, p.2 ∈ us.map keyX) (cov : ∀ u ∈ us, keyX u ∈ L.map Prod.snd) (nd : (L.map Prod.snd).Nodup) (pm : L1.Perm L)
    (srt : L1.Pairwise fun p q => PySem.W.dataLe false (fun p : Addr × List Key => tupD p.2) p q = true) : PyData.eqv (.list (L1.map fun p => tupD p.2)) (.list (us.map dX)) = ascX us := by
  obtain ⟨vs, ev, hv⟩ := keys_back (L := L1) (us := us) fun p hp => sub p (pm.mem_iff.mp hp)
  have nd1 : (vs.map keyX).Nodup := by
    rw [← ev]
    exact (pm.map Prod.snd).nodup_iff.mpr nd
  have ed : (L1.map fun p => tupD p.2) = vs.map dX := by
    have z : (L1.map fun p => tupD p.2) = (L1.map Prod.snd).map tupD := by rw [List.map_map]; rfl
    rw [z, ev, List.map_map]
    rfl
  have asc : vs.Pairwise fun a b => ltX a b = true := by
    have s1 : (L1.map Prod.snd).Pairwise fun k k' => (!PySem.W.dataLt (tupD k') (tupD k)) = true := List.pairwise_map.mpr srt
    rw [ev] at s1
    have s2 := List.pairwise_map.mp s1
    have s3 := List.pairwise_map.mp nd1
    refine (List.Pairwise.and s2 s3).imp fun {a b} h => ?_
    have h1 : ltX b a = false := by simpa [ltX] using h.1
    cases q : ltX a b with
    | true => rfl
    | false => exact absurd (by rw [ltX_total q h1]) h.2
  have cv : ∀ u ∈ us, u ∈ vs := fun u hu => by
    have m := cov u hu
    rw [← (pm.map Prod.snd).mem_iff, ev] at m
    obtain ⟨v, hv2, e⟩ := List.mem_map.mp m
    rw [← keyX_inj e]
    exact hv2
  rw [PyData.eqv, ed, eqvAllX]
  cases q : ascX us with
  | true =>
    have z := asc_same asc ((ascX_iff us).mp q) fun x => ⟨hv x, cv x⟩
    exact decide_eq_true z
  | false =>
    refine decide_eq_false fun z => ?_
    have z2 := (ascX_iff vs).mpr asc
    rw [z, q] at z2
    cases z2
theorem strOk_name {z : Str} (h : nameZ z = true) : PyData.strOk z = true := by
  unfold nameZ at h
  rw [Bool.and_eq_true, Bool.and_eq_true, decide_eq_true_eq, decide_eq_true_eq, List.all_eq_true] at h
  show z.cps.all (fun c => decide (c < 0x110000)) = true
  rw [← Array.all_toList, List.all_eq_true]
  intro c hc
  have q := h.2 c hc
  rw [Bool.and_eq_true, decide_eq_true_eq, decide_eq_true_eq] at q
  exact decide_eq_true (by omega)
theorem shapedX {us : List (Str × Int)} (h : ∀ u ∈ us, nameZ u.1 = true) : SeqAt.shaped (.list (us.map dX)) = true := by
  have all : PyData.canLayAll0 (us.map dX) = true ∧ PyData.depthAll (us.map dX) ≤ 1 := by
    induction us with
    | nil => exact ⟨by simp [PyData.canLayAll0], by simp [PyData.depthAll]⟩
    | cons u us ih =>
      have one : PyData.canLay0 (dX u) = true := by
        show PyData.canLay0 (.tuple [.str u.1, .int u.2]) = true
        simp [PyData.canLay0, PyData.canLayAll0, strOk_name (h u (List.mem_cons_self ..))]
      have ih := ih fun v hv => h v (List.mem_cons_of_mem _ hv)
      rw [List.map_cons, PyData.canLayAll0, PyData.depthAll, one, ih.1]
      exact ⟨rfl, Nat.max_le.mpr ⟨depth_tupD _, ih.2⟩⟩
  unfold SeqAt.shaped
  rw [PyData.canLay0, PyData.depth, all.1, Bool.true_and]
  exact decide_eq_true (by have := all.2; omega)
theorem uses_rows {H : Hp} : ∀ {xs : List V} {us : List (Str × Int)}, usesX H xs = some us → ∃ ks : List (Addr × List Key), xs = ks.map (fun p => V.ref p.1) ∧ ks.map Prod.snd = us.map keyX ∧ ∀ p ∈ ks, H p.1 = some (.tup (p.2.map L2.My.kV))
  | [], us, h => by
    cases h
    exact ⟨[], rfl, rfl, fun p hp => by cases hp⟩
  | x :: xs, us, h => by
    unfold usesX at h
    rw [List.mapM_cons] at h
    cases q : useX H x with
    | none =>
      rw [q] at h
      cases h
    | some u =>
      rw [q] at h
      cases r : xs.mapM (useX H) with
      | none =>
        rw [r] at h
        cases h
      | some vs =>
        rw [r] at h
        cases h
        obtain ⟨ks, e1, e2, e3⟩ := uses_rows (us := vs) r
        obtain ⟨a, rfl, g, _⟩ := useX_some q
        refine ⟨(a, keyX u) :: ks, by rw [List.map_cons, e1], by rw [List.map_cons, List.map_cons, e2], fun p hp => ?_⟩
        rcases List.mem_cons.mp hp with rfl | hp
        · exact g
        · exact e3 p hp
theorem dpRows {K : PySem.W.Frag} {H : Hp} : ∀ {ks : List (Addr × List Key)}, (∀ p ∈ ks, H p.1 = some (.tup (p.2.map L2.My.kV))) → DpAll K H (ks.map fun p => V.ref p.1) (ks.map fun p => tupD p.2)
  | [], _ => .nil
  | p :: ks, h => by
    refine .cons (.tup (SqT.of (h p (List.mem_cons_self ..))) ?_) (dpRows fun q hq => h q (List.mem_cons_of_mem _ hq))
    have z : ∀ k : List Key, DpAll K H (k.map L2.My.kV) (k.map kD) := by
      intro k
      induction k with
      | nil => exact .nil
      | cons x k ih => cases x with
        | inl i => exact .cons (.int i) ih
        | inr z => exact .cons (.str z) ih
    exact z p.2
section
variable {P : Program} {w : World} {K : PySem.W.Frag} {mg : Str → Option Value} {base : Heap}
theorem scAre : FnScope ["_law_value", "_law_one_here"] ["_law_value"] (defScope tAreUses) := ⟨rfl, rfl, rfl, by decide +kernel, rfl, by decide +kernel, by decide +kernel⟩
theorem usesB_none {H : Hp} {a : Addr} {xs : List V} {x : V} (e : H a = some (.tup xs)) (m : x ∈ xs) (n : useX H x = none) : usesB H (.ref a) = false := by
  unfold usesB
  rw [tupV_of e]
  have z := mapM_all (useX H) xs
  have z2 : (xs.all fun x => (useX H x).isSome) = false := by
    rw [List.all_eq_false]
    exact ⟨x, m, by rw [n]; exact Bool.false_ne_true⟩
  rw [z2] at z
  cases q : usesX H xs with
  | none =>
    dsimp only
    rw [q]
  | some us =>
    unfold usesX at q
    rw [q] at z
    cases z
theorem take_all {H : Hp} {xs : List V} (h : ∀ x ∈ xs, useB H x = true) : ∃ us, usesX H xs = some us := by
  have z := mapM_all (useX H) xs
  have z2 : (xs.all fun x => (useX H x).isSome) = true := List.all_eq_true.mpr h
  rw [z2] at z
  exact Option.isSome_iff_exists.mp z
theorem ok_are {N m : Nat} (hN : N ≤ 60) {f fW fF : Addr} {fd fdW fdF : FuncData} (F : Fun K "_law_are_uses" "_law_are_uses" tAreUses f fd) (T : Txt mg) (hset : mg "set" = none) (hsorted : mg "sorted" = none)
    (dW : Dn P w K mg base CX0 "_law_is_word" ["_law_value"] 1 (spV N m nameB) fW fdW) (dF : Dn P w K mg base CX0 "_law_is_from" ["_law_value", "_law_low", "_law_high"] 1 (spFrom N m) fF fdF) :
    FnOk P w K mg base CX0 2 f fd ["_law_value"] (spB N m usesB) := by
  refine F.ok scAre (fun vs H Q E h => ?_) (fun cdv A outer s H vs Q E hr h => ?_)
  · obtain ⟨x, rfl, _⟩ := h
    rfl
  · obtain ⟨x, rfl, tx, k⟩ := h
    have hu : (A.deeper (PyProof.Rows.envOfC "_law_are_uses" (defScope tAreUses) s.heap.objs.size f cdv)).units + 64 < cLine := by
      have := hr.un
      omega
    refine ⟨_, pss_cons (ps_if (pt_not (pt_val (pe_callB call_isi (by rfl) T.isi (by decide +kernel) (pa_cons (pv 0) (pa_cons (pe_bltn (v := .ty "tuple") (by rfl) T.tuple (by decide +kernel) rfl) pa_nil))))) (pss_one (ps_ret pe_bl)) pss_nil)
      (pss_cons (ps_for PassesOwn.never rfl (pi_tup (pv 0)) (pg_name (i := 1) scAre.nd rfl (.inl rfl))
        (pss_one (ps_if (PW.pt (pw_or (pt_not (pt_val (pe_callB call_isi (by rfl) T.isi (by decide +kernel) (pa_cons (pv 1) (pa_cons (pe_bltn (v := .ty "tuple") (by rfl) T.tuple (by decide +kernel) rfl) pa_nil)))))
            (pw_or (pt_cmpR op_ne (pe_callB call_len_seq (by rfl) T.len PySem.boot_len (pa_cons (pv 1) pa_nil)) pe_int (nomark _))
            (pw_or (pt_not (pt_val (pe_call dW.G hr rfl dW.g dW.kp dW.b .nil pass0 (pa_cons (pe_ix ix_tup (pv 1) pe_int (fun _ _ => rfl)) pa_nil))))
            (pw_or1 (pt_not (pt_val (pe_call dF.G hr rfl dF.g dF.kp dF.b .nil pass0 (pa_cons (pe_ix ix_tup (pv 1) pe_int (fun _ _ => rfl)) (pa_cons pe_int (pa_cons pe_int pa_nil)))))))))))
          (pss_one (ps_ret pe_bl)) pss_nil)))
      (pss_one (ps_ret (pe_cmpR (op_eqD hu) (pe_callB (call_sortedM rfl hu) (by rfl) hsorted (by decide +kernel) (pa_cons (pe_callTy (call_setM rfl hu) (by rfl) hset (by decide +kernel) (pa_cons (pv 0) pa_nil)) pa_nil))
        (pe_callTy call_list_of (by rfl) T.list (by decide +kernel) (pa_cons (pv 0) pa_nil)) (nomark _))))), ?_⟩
    rcases tx.tupcase (K := K) with ⟨a, xs, rfl, e, l, hx⟩ | ⟨nt, u, ty, kt⟩
    · refine ⟨_, rfl, _, _, _, _, _, rfl, ClsV.ty _, .base (.tup e), kit_ty (r := true) (by decide +kernel), _, rfl, iteF ?_⟩
      refine ⟨_, rfl, a, rfl, ⟨_, SqT.of e⟩, for_tup (xs := xs) (fun i σ H' => ∃ o, σ = [some (.ref a), o] ∧ Same H H' ∧ ∀ x ∈ xs.take i, useB H x = true) ⟨none, rfl, Same.refl H, fun x hx => by cases hx⟩ (fun i σ H' _ ⟨_, _, s, _⟩ => SqT.of (s _ _ e)) ?_ ?_⟩
      · rintro i y σ H1 hy ⟨o, rfl, s1, all⟩
        have my := List.mem_of_getElem? hy
        have ty := (hx y my).kp (.of s1)
        have bad : useB H y = false → ∀ H', Same H H' → Q (.bl false) H' := fun c H' s' => by
          have kk := k _ s'
          have n : useX H y = none := by
            unfold useB at c
            cases q : useX H y with
            | none => rfl
            | some u =>
              rw [q] at c
              cases c
          rw [usesB_none e my n] at kk
          exact kk
        rcases ty.tupcase (K := K) with ⟨b, ys, rfl, eb, lb, hb⟩ | ⟨nt, u, ty, kt⟩
        · refine ⟨_, rfl, _, _, _, _, _, rfl, ClsV.ty _, .base (.tup eb), kit_ty (r := true) (by decide +kernel), _, rfl, iteF ?_⟩
          refine ⟨_, rfl, b, ys, rfl, .inr (SqT.of eb), rfl, _, rfl, ?_⟩
          have e0 : H b = some (.tup ys) := by
            cases hx (.ref b) my with
            | tup e' _ _ =>
              have := s1 _ _ e'
              rw [eb] at this
              rw [← this] at e'
              exact e'
            | lst e' =>
              rw [s1 _ _ e'] at eb
              cases eb
            | dct e' =>
              rw [s1 _ _ e'] at eb
              cases eb
          by_cases c2 : ys.length = 2
          · match ys, c2, eb, hb, e0 with
            | [p, q], _, eb, hb, e0 =>
              have eU := useX_pair e0
              refine iteF ⟨_, rfl, b, _, 0, p, rfl, rfl, SqT.of eb, atI_nat (j := 0) rfl, p, rfl, hb p (by simp), fun H2 s2 => ⟨_, rfl, ?_⟩⟩
              have s12 := s1.trans s2
              cases cp : nameB p with
              | false => exact iteT (iteT (bad (by rw [eU, cp]; rfl) _ s12))
              | true =>
                refine iteF ⟨_, rfl, b, _, 1, q, rfl, rfl, SqT.of (s2 _ _ eb), atI_nat (j := 1) rfl, q, 0, 3, rfl, (hb q (by simp)).kp (.of s2), fun H3 s3 => ⟨_, rfl, ?_⟩⟩
                have s13 := s12.trans s3
                cases cq : betw 0 3 q with
                | false => exact iteT (bad (by rw [eU, cq, Bool.and_false]) _ s13)
                | true =>
                  refine iteF ⟨_, rfl, s13, fun x hx2 => ?_⟩
                  obtain ⟨hi, hxe⟩ := List.getElem?_eq_some_iff.mp hy
                  rw [List.take_succ_eq_append_getElem hi, hxe] at hx2
                  rcases List.mem_append.mp hx2 with hx2 | hx2
                  · exact all x hx2
                  · rw [List.mem_singleton.mp hx2, eU, cp, cq]
                    rfl
          · have z : decide (V.int ((ys.length : Nat) : Int) = V.int 2) = false := decide_eq_false fun z => c2 (by have := V.int.inj z; omega)
            rw [z]
            refine iteT (iteT (bad ?_ _ s1))
            unfold useB
            rw [useX_none fun b' x y q e' => c2 (by injection q with q; rw [← q, e0] at e'; cases e'; rfl)]
            rfl
        · refine ⟨_, rfl, _, _, _, _, _, rfl, ClsV.ty _, ty, kt, _, rfl, iteT (iteT (bad ?_ _ s1))⟩
          unfold useB useX
          rw [← tupV_kp (hx y my) (.of s1), nt]
          rfl
      · rintro σ H1 ⟨o, rfl, s1, all⟩
        rw [List.take_length] at all
        obtain ⟨us, hus⟩ := take_all all
        obtain ⟨ks, e1, e2, e3⟩ := uses_rows hus
        have names : ∀ u ∈ us, nameZ u.1 = true := fun u hu => by
          obtain ⟨i, hi⟩ := List.mem_iff_getElem?.mp hu
          obtain ⟨lu, at_⟩ := mapM_at hus
          obtain ⟨l1, _⟩ := List.getElem?_eq_some_iff.mp hi
          obtain ⟨u', hu', f⟩ := at_ i _ (List.getElem?_eq_getElem (lu ▸ l1))
          rw [hi] at hu'
          cases hu'
          obtain ⟨_, _, _, n, _⟩ := useX_some f
          exact n
        have lk : ks.length = xs.length := by rw [e1, List.length_map]
        refine ⟨_, rfl, a, ks, rfl, ?_, fun p hp => SqT.of (s1 _ _ (e3 p hp)), by omega, fun p L np sub cov nd few => ?_⟩
        · rw [← e1]
          exact SqT.of (s1 _ _ e)
        generalize hG : upd H1 p _ = H2
        have s2 : Same H1 H2 := by
          rw [← hG]
          exact grow np
        have e4 : H2 p = some (SetM P w p L) := by
          rw [← hG]
          exact upd_same
        have s12 := s1.trans s2
        have subk : ∀ p ∈ L, p.2 ∈ us.map keyX := fun p hp => by
          rw [← e2]
          exact List.mem_map.mpr ⟨p, sub p hp, rfl⟩
        have covk : ∀ u ∈ us, keyX u ∈ L.map Prod.snd := fun u hu => by
          have m : keyX u ∈ ks.map Prod.snd := by
            rw [e2]
            exact List.mem_map.mpr ⟨u, hu, rfl⟩
          obtain ⟨p, hp, z⟩ := List.mem_map.mp m
          rw [← z]
          exact cov p hp
        refine ⟨p, L, rfl, e4, fun q hq => SqT.of (s12 _ _ (e3 q (sub q hq))), fun q hq => ?_, fun q hq q' hq' => ?_, fun L1 b pm srt nb => ?_⟩
        · obtain ⟨u, _, z⟩ := List.mem_map.mp (subk q hq)
          rw [← z]
          intro z2
          cases z2
        · obtain ⟨u, _, z⟩ := List.mem_map.mp (subk q hq)
          obtain ⟨u', _, z'⟩ := List.mem_map.mp (subk q' hq')
          rw [← z, ← z']
          exact alikeX u u'
        have s3 : Same H2 (upd H2 b (.lst (L1.map fun q => V.ref q.1))) := grow nb
        have e5 : (upd H2 b (.lst (L1.map fun q => V.ref q.1))) b = some (.lst (L1.map fun q => V.ref q.1)) := upd_same
        revert s3 e5
        generalize upd H2 b (.lst (L1.map fun q => V.ref q.1)) = H3
        intro s3 e5
        have s13 := s12.trans s3
        refine ⟨_, rfl, a, xs, rfl, .inr (SqT.of (s13 _ _ e)), fun l2 nl2 => ?_⟩
        have s4 : Same H3 (upd H3 l2 (.lst xs)) := grow nl2
        have e6 : (upd H3 l2 (.lst xs)) l2 = some (.lst xs) := upd_same
        revert s4 e6
        generalize upd H3 l2 (.lst xs) = H4
        intro s4 e6
        have s14 := s13.trans s4
        have ed : us.map dX = ks.map fun p => tupD p.2 := by
          have z : (ks.map fun p => tupD p.2) = (ks.map Prod.snd).map tupD := by rw [List.map_map]; rfl
          rw [z, e2, List.map_map]
          rfl
        have sh1 : SeqAt.shaped (.list (L1.map fun p => tupD p.2)) = true := by
          obtain ⟨vs, ev, hv⟩ := keys_back (L := L1) (us := us) fun p hp => subk p (pm.mem_iff.mp hp)
          have z : (L1.map fun p => tupD p.2) = vs.map dX := by
            have z : (L1.map fun p => tupD p.2) = (L1.map Prod.snd).map tupD := by rw [List.map_map]; rfl
            rw [z, ev, List.map_map]
            rfl
          rw [z]
          exact shapedX fun v hv2 => names v (hv v hv2)
        refine ⟨.list (L1.map fun p => tupD p.2), .list (us.map dX), .lst (SqL.of (s4 _ _ e5)) (dpRows fun q hq => s14 _ _ (e3 q (sub q (pm.mem_iff.mp hq)))), ?_, sh1, shapedX names, ?_⟩
        · rw [ed]
          have z := dpRows (K := K) (H := H4) (ks := ks) fun q hq => s14 _ _ (e3 q hq)
          rw [← e1] at z
          exact .lst (SqL.of e6) z
        · rw [sorted_says subk covk nd pm srt]
          have kk := k _ s14
          have z : usesB H (.ref a) = ascX us := by
            unfold usesB
            rw [tupV_of e]
            dsimp only
            rw [hus]
          rw [z] at kk
          exact kk
    · have kk := k H (Same.refl H)
      have z : usesB H x = false := by
        unfold usesB
        rw [nt]
      rw [z] at kk
      exact ⟨_, rfl, _, _, _, _, _, rfl, ClsV.ty _, ty, kt, _, rfl, iteT kk⟩
end
end K18
namespace K18
open PySem L2
open L2.My
section
variable {P : Program} {w : World} {K : PySem.W.Frag} {mg : Str → Option Value} {base : Heap}
theorem scRule : FnScope ["_law_value"] ["_law_value"] (defScope tRule) := ⟨rfl, rfl, rfl, by decide +kernel, rfl, by decide +kernel, by decide +kernel⟩
theorem ok_rule {N m : Nat} {f fW fZ fF fU : Addr} {fd fdW fdZ fdF fdU : FuncData} (F : Fun K "_law_is_rule" "_law_is_rule" tRule f fd) (T : Txt mg)
    (dW : Dn P w K mg base CX0 "_law_is_word" ["_law_value"] 1 (spV N m nameB) fW fdW) (dZ : Dn P w K mg base CX0 "_law_size" ["_law_value", "_law_is_top"] (1 + m + 1) (spSize N m) fZ fdZ)
    (dF : Dn P w K mg base CX0 "_law_is_from" ["_law_value", "_law_low", "_law_high"] 1 (spFrom N m) fF fdF) (dU : Dn P w K mg base CX0 "_law_are_uses" ["_law_value"] 2 (spB N m usesB) fU fdU) :
    FnOk P w K mg base CX0 (m + 3) f fd ["_law_value"] (spB N m pattB) := by
  refine F.ok scRule (fun vs H Q E h => ?_) (fun cdv A outer s H vs Q E hr h => ?_)
  · obtain ⟨x, rfl, _⟩ := h
    rfl
  · obtain ⟨x, rfl, tx, k⟩ := h
    have hr1 : Room 1 _ := hr.mono (by omega : 1 ≤ m + 2)
    have hr2 : Room 2 _ := hr.mono (by omega : 2 ≤ m + 2)
    have hrZ : Room (1 + m + 1) _ := hr.mono (by omega : 1 + m + 1 ≤ m + 2)
    have hu := hu_of hr
    refine ⟨_, pss_cons (ps_if (PW.pt (pw_or (pt_not (pt_val (pe_callB call_isi (by rfl) T.isi (by decide +kernel) (pa_cons (pv 0) (pa_cons (pe_bltn (v := .ty "tuple") (by rfl) T.tuple (by decide +kernel) rfl) pa_nil)))))
          (pw_or (pt_cmpR op_ne (pe_callB call_len_seq (by rfl) T.len PySem.boot_len (pa_cons (pv 0) pa_nil)) pe_int (nomark _))
          (pw_or1 (pt_not (pt_val (pe_call dW.G hr1 rfl dW.g dW.kp dW.b .nil pass0 (pa_cons (pe_ix ix_tup (pv 0) pe_int (fun _ _ => rfl)) pa_nil))))))))
        (pss_one (ps_ret pe_bl)) pss_nil)
      (pss_cons (ps_if (PW.pt (pw_or (pt_cmpR op_gt (pe_call dZ.G hrZ rfl dZ.g dZ.kp dZ.b .nil pass0 (pa_cons (pe_ix ix_tup (pv 0) pe_int (fun _ _ => rfl)) (pa_cons pe_bl pa_nil))) pe_int (nomark _))
          (pw_or1 (pt_cmpR (op_eqTag hu) (pe_ix ix_tup (pv 0) pe_int (fun _ _ => rfl)) (pe_tup (pa_cons pe_str pa_nil)) (nomark _)))))
        (pss_one (ps_ret pe_bl)) pss_nil)
      (pss_one (ps_ret (pe_and (pe_call dF.G hr1 rfl dF.g dF.kp dF.b .nil pass0 (pa_cons (pe_ix ix_tup (pv 0) pe_int (fun _ _ => rfl)) (pa_cons pe_int (pa_cons pe_int pa_nil))))
        (pe_and (pe_call dF.G hr1 rfl dF.g dF.kp dF.b .nil pass0 (pa_cons (pe_ix ix_tup (pv 0) pe_int (fun _ _ => rfl)) (pa_cons pe_int (pa_cons pe_int pa_nil))))
        (pe_one (pe_call dU.G hr2 rfl dU.g dU.kp dU.b .nil pass0 (pa_cons (pe_ix ix_tup (pv 0) pe_int (fun _ _ => rfl)) pa_nil)))))))), ?_⟩
    rcases tx.tupcase (K := K) with ⟨a, xs, rfl, e, l, hx⟩ | ⟨nt, u, ty, kt⟩
    · refine ⟨_, rfl, _, _, _, _, _, rfl, ClsV.ty _, .base (.tup e), kit_ty (r := true) (by decide +kernel), _, rfl, iteF ?_⟩
      refine ⟨_, rfl, a, xs, rfl, .inr (SqT.of e), rfl, _, rfl, ?_⟩
      have eP : pattB H (.ref a) = pattL H xs := by
        unfold pattB
        rw [tupV_of e]
      by_cases c5 : xs.length = 5
      · match xs, c5, e, hx, eP with
        | [nm, sh, tk, co, us], _, e, hx, eP =>
          have eL : pattL H [nm, sh, tk, co, us] = (nameB nm && (shapeB H sh && (!holeB H sh && (betw 0 20 co && (betw 1 4 tk && usesB H us))))) := rfl
          rw [eL] at eP
          refine iteF ⟨_, rfl, a, _, 0, nm, rfl, rfl, SqT.of e, atI_nat (j := 0) rfl, nm, rfl, hx nm (by simp), fun H1 s1 => ⟨_, rfl, ?_⟩⟩
          have kk := k
          rw [eP] at kk
          cases cn : nameB nm with
          | false =>
            rw [cn, Bool.false_and] at kk
            exact iteT (kk _ s1)
          | true =>
            rw [cn, Bool.true_and] at kk
            refine iteF ?_
            refine ⟨_, rfl, a, _, 1, sh, rfl, rfl, SqT.of (s1 _ _ e), atI_nat (j := 1) rfl, sh, true, rfl, (hx sh (by simp)).kp (.of s1), fun H2 s2 => ⟨_, _, rfl, rfl, _, rfl, ?_⟩⟩
            have s12 := s1.trans s2
            rw [sz_kp (.of s1) (hx sh (by simp))]
            rw [shapeB_sz (hx sh (by simp))] at kk
            by_cases cs : sz H (m + 1) sh true ≤ 4
            · have cs2 : shapeB H sh = true := by
                rw [shapeB_sz (hx sh (by simp))]
                exact decide_eq_true cs
              rw [decide_eq_true cs, Bool.true_and] at kk
              obtain ⟨b, ys, rfl, eb⟩ := shapeB_tup cs2
              obtain ⟨q2, _, _, hys⟩ := (hx (.ref b) (by simp)).tup_inv eb
              refine iteDn (by omega) ?_
              refine ⟨_, rfl, a, _, 1, .ref b, rfl, rfl, SqT.of (s12 _ _ e), atI_nat (j := 1) rfl, (by show 1 ≤ sizeLine; decide), fun t nt => ?_⟩
              have s3 : Same H2 (upd H2 t (.tup [.str "hole"])) := grow nt
              have e3 : (upd H2 t (.tup [.str "hole"])) t = some (.tup [.str "hole"]) := upd_same
              revert s3 e3
              generalize upd H2 t (.tup [.str "hole"]) = H3
              intro s3 e3
              have s13 := s12.trans s3
              refine ⟨b, t, _, _, "hole", rfl, rfl, s13 _ _ eb, e3, texts fun y hy => (hys y hy).kp (.of s13), _, rfl, ?_⟩
              have eH : holeB H (.ref b) = isTag (ys.map strOf) "hole" := by
                unfold holeB
                rw [tupV_of eb]
              rw [eH] at kk
              cases ch : isTag (ys.map strOf) "hole" with
              | true =>
                rw [ch, Bool.not_true, Bool.false_and] at kk
                exact iteT (kk _ s13)
              | false =>
                rw [ch, Bool.not_false, Bool.true_and] at kk
                refine iteF ?_
                refine ⟨_, rfl, a, _, 2, tk, rfl, rfl, SqT.of (s13 _ _ e), atI_nat (j := 2) rfl, tk, 1, 4, rfl, (hx tk (by simp)).kp (.of s13), fun H4 s4 => ⟨_, rfl, ?_⟩⟩
                have s14 := s13.trans s4
                cases ct : betw 1 4 tk with
                | false =>
                  rw [ct, Bool.false_and, Bool.and_false] at kk
                  exact iteF (kk _ s14)
                | true =>
                  rw [ct, Bool.true_and] at kk
                  refine iteT ?_
                  refine ⟨_, rfl, a, _, 3, co, rfl, rfl, SqT.of (s14 _ _ e), atI_nat (j := 3) rfl, co, 0, 20, rfl, (hx co (by simp)).kp (.of s14), fun H5 s5 => ⟨_, rfl, ?_⟩⟩
                  have s15 := s14.trans s5
                  cases cc : betw 0 20 co with
                  | false =>
                    rw [cc, Bool.false_and] at kk
                    exact iteF (kk _ s15)
                  | true =>
                    rw [cc, Bool.true_and] at kk
                    refine iteT ?_
                    refine ⟨_, rfl, a, _, 4, us, rfl, rfl, SqT.of (s15 _ _ e), atI_nat (j := 4) rfl, us, rfl, (hx us (by simp)).kp (.of s15), fun H6 s6 => ?_⟩
                    rw [usesB_kp (hx us (by simp)) (.of s15)]
                    exact kk _ (s15.trans s6)
            · rw [decide_eq_false cs, Bool.false_and] at kk
              exact iteD (by omega) (iteT (kk _ s12))
      · have kk := k H (Same.refl H)
        rw [eP, pattL_len c5] at kk
        have z : decide (V.int ((xs.length : Nat) : Int) = V.int 5) = false := decide_eq_false fun z => c5 (by have := V.int.inj z; omega)
        rw [z]
        exact iteT (iteT kk)
    · have kk := k H (Same.refl H)
      have z : pattB H x = false := by
        unfold pattB
        rw [nt]
      rw [z] at kk
      exact ⟨_, rfl, _, _, _, _, _, rfl, ClsV.ty _, ty, kt, _, rfl, iteT (iteT kk)⟩
end
end K18
namespace K18
open PySem L2
open L2.My
/-- the urn at p: three ints -/
def Urn (H : Hp) (p : Addr) : Prop := ∃ a b c : Int, H p = some (.lst [.int a, .int b, .int c]) ∧ 0 ≤ a
theorem Urn.isL {H : Hp} {p : Addr} (l : Urn H p) : IsL H p := by
  obtain ⟨a, b, c, e, _⟩ := l
  exact ⟨_, e⟩
theorem Urn.some {H : Hp} {p : Addr} (l : Urn H p) : ∃ o, H p = some o := by
  obtain ⟨a, b, c, e, _⟩ := l
  exact ⟨_, e⟩
theorem Urn.kp {H H' : Hp} {p : Addr} (l : Urn H p) (l' : Urn H' p) (s : But p H H') : Kp H H' := s.kp l.isL l'.isL
theorem Urn.same {H H' : Hp} {p : Addr} (l : Urn H p) (s : Same H H') : Urn H' p := by
  obtain ⟨a, b, c, e, r⟩ := l
  exact ⟨a, b, c, s _ _ e, r⟩
theorem Urn.ne {H : Hp} {p a : Addr} (l : Urn H p) (n : H a = none) : a ≠ p := by
  obtain ⟨x, y, z, e, _⟩ := l
  exact (ne_of_none e n).symm
theorem upd_but {H : Hp} {p : Addr} {o : HO} : But p H (upd H p o) := fun q hq _ e => by rw [upd_ne hq]; exact e
structure Bl (mg : Str → Option Value) : Prop where
  int : mg "int" = none
  abs : mg "abs" = none
  max : mg "max" = none
  min : mg "min" = none
  range : mg "range" = none
  len : mg "len" = none
  tuple : mg "tuple" = none
  list : mg "list" = none
  isi : mg "isinstance" = none
theorem ten60 : (((10 : Int) ^ (60 : Int).toNat)).natAbs < 2 ^ 200 := by decide +kernel
theorem pos59 : (0 : Int) < (10 : Int) ^ (59 : Int).toNat := by decide +kernel
theorem pos120 : (0 : Int) < (10 : Int) ^ (60 : Int).toNat * (10 : Int) ^ (60 : Int).toNat := by decide +kernel
section
variable {P : Program} {w : World} {K : PySem.W.Frag} {mg : Str → Option Value} {base : Heap}
def spUrn (K : PySem.W.Frag) : Sp := fun vs H Q _ => ∃ (a : Addr) (ns : List Int) (i : Nat), vs = [.ref a, .int i] ∧ SqL K H a (ns.map V.int) ∧ i < 100 ∧ ∀ p H', H p = none → Same H H' → Urn H' p → Q (.ref p) H'
theorem scUrn : FnScope ["_law_script", "_law_at", "_law_cell", "_law_great", "_law_left"] ["_law_script", "_law_at"] (defScope tUrn) := ⟨rfl, rfl, rfl, by decide +kernel, rfl, by decide +kernel, by decide +kernel⟩
theorem ok_urn {f : Addr} {fd : FuncData} (F : Fun K "_law_urn" "_law_urn" tUrn f fd) (T : Bl mg) : FnOk P w K mg base CX0 1 f fd ["_law_script", "_law_at"] (spUrn K) := by
  refine F.ok scUrn (fun vs H Q E h => ?_) (fun cdv A outer s H vs Q E hr h => ?_)
  · obtain ⟨a, ns, i, rfl, _⟩ := h
    rfl
  · obtain ⟨a, ns, i, rfl, hS, hi, k⟩ := h
    refine ⟨_, pss_cons (ps_set (i := 2) scUrn.nd rfl (.inl rfl) (pe_ifExp (pt_cmpR op_lt (pv 1) (pe_callB call_len_seq (by rfl) T.len PySem.boot_len (pa_cons (pv 0) pa_nil)) (nomark _)) (pe_callTy call_int1 (by rfl) T.int (by decide +kernel) (pa_cons (pe_ix ix_list (pv 0) (pv 1) (fun _ _ => rfl)) pa_nil)) (pe_op op_add (pe_op op_mul pe_int (pv 1)) pe_int)))
      (pss_cons (ps_set (i := 3) scUrn.nd rfl (.inl rfl) (pe_op op_mod (pe_callB call_abs (by rfl) T.abs (by decide +kernel) (pa_cons (pv 2) pa_nil)) (pe_op op_pow pe_int pe_int)))
      (pss_cons (ps_set (i := 4) scUrn.nd rfl (.inl rfl) (pe_callB (call_max2 rfl) (by rfl) T.max (by decide +kernel) (pa_cons pe_int (pa_cons (pe_op op_sub (pe_callB call_abs (by rfl) T.abs (by decide +kernel) (pa_cons (pv 2) pa_nil)) (pe_op op_pow pe_int pe_int)) pa_nil))))
      (pss_one (ps_ret (pe_lst (pa_cons (pe_op op_mod (pv 4) (pe_op op_mulW (pe_op op_pow pe_int pe_int) (pe_op op_pow pe_int pe_int)))
        (pa_cons (pe_op op_add (pe_op op_add (pe_op op_add (pe_op op_mul (pe_op op_mod (pv 3) pe_int) pe_int) (pe_op op_mul pe_int (pv 1))) (pe_op op_mul pe_int (pe_callTy call_int1 (by rfl) T.int (by decide +kernel) (pa_cons (pe_cmpR op_lt (pv 2) pe_int (nomark _)) pa_nil)))) pe_int) (pa_cons pe_int pa_nil)))))))), ?_⟩
    refine ⟨_, rfl, _, rfl, a, _, rfl, .inl hS, _, _, rfl, rfl, _, rfl, ?_⟩
    refine ite2 (fun c => ?_) (fun c => ?_)
    · obtain ⟨cell, hcell⟩ : ∃ cell : Int, (ns.map V.int)[i]? = some (.int cell) := by
        have c2 := of_decide_eq_true c
        rw [List.length_map] at c2
        have c3 : i < ns.length := by omega
        exact ⟨ns[i], by simp [c3]⟩
      refine ⟨_, rfl, _, rfl, a, _, i, _, rfl, rfl, hS, atI_nat (j := i) hcell, .inl ⟨_, rfl, ?_⟩⟩
      refine ⟨_, rfl, _, rfl, _, _, rfl, rfl, ⟨by decide, by decide, by decide⟩, _, _, rfl, rfl, pos59, ?_⟩
      refine ⟨_, rfl, _, rfl, _, _, rfl, rfl, ⟨by decide, by decide, by decide⟩, _, _, rfl, rfl, _, _, rfl, ?_⟩
      refine ⟨_, rfl, _, _, rfl, rfl, ⟨by decide, by decide, by decide⟩, _, _, rfl, rfl, ⟨by decide, by decide, by decide⟩, _, _, rfl, rfl, wide_mul ten60 ten60 (by decide) (by decide) (by decide), _, _, rfl, rfl, pos120, ?_⟩
      refine ⟨_, rfl, _, _, rfl, rfl, (by show (0 : Int) < 2147483629; decide), _, _, rfl, rfl, .inr ⟨by decide, by decide⟩, _, rfl, _, _, rfl, rfl, .inl ⟨by decide, by decide⟩, _, _, rfl, rfl, ?_⟩
      refine ⟨_, rfl, _, _, rfl, rfl, .inr ⟨_, rfl, _, _, rfl, rfl, .inl ⟨by decide, by decide⟩, _, _, rfl, rfl, _, _, rfl, rfl, ?_⟩⟩
      refine ⟨(by show 3 ≤ sizeLine; decide), fun p hp => k p _ hp (grow hp) ⟨_, _, _, upd_same, Int.emod_nonneg _ (Int.ne_of_gt pos120)⟩⟩
    · refine ⟨_, rfl, _, _, rfl, rfl, .inl ⟨by decide, by decide⟩, _, _, rfl, rfl, ?_⟩
      generalize (61 * (i : Int) + 5 : Int) = cell
      refine ⟨_, rfl, _, rfl, _, _, rfl, rfl, ⟨by decide, by decide, by decide⟩, _, _, rfl, rfl, pos59, ?_⟩
      refine ⟨_, rfl, _, rfl, _, _, rfl, rfl, ⟨by decide, by decide, by decide⟩, _, _, rfl, rfl, _, _, rfl, ?_⟩
      refine ⟨_, rfl, _, _, rfl, rfl, ⟨by decide, by decide, by decide⟩, _, _, rfl, rfl, ⟨by decide, by decide, by decide⟩, _, _, rfl, rfl, wide_mul ten60 ten60 (by decide) (by decide) (by decide), _, _, rfl, rfl, pos120, ?_⟩
      refine ⟨_, rfl, _, _, rfl, rfl, (by show (0 : Int) < 2147483629; decide), _, _, rfl, rfl, .inr ⟨by decide, by decide⟩, _, rfl, _, _, rfl, rfl, .inl ⟨by decide, by decide⟩, _, _, rfl, rfl, ?_⟩
      refine ⟨_, rfl, _, _, rfl, rfl, .inr ⟨_, rfl, _, _, rfl, rfl, .inl ⟨by decide, by decide⟩, _, _, rfl, rfl, _, _, rfl, rfl, ?_⟩⟩
      refine ⟨(by show 3 ≤ sizeLine; decide), fun p hp => k p _ hp (grow hp) ⟨_, _, _, upd_same, Int.emod_nonneg _ (Int.ne_of_gt pos120)⟩⟩
/-! ### _law_pull -/
def spPull : Sp := fun vs H Q _ => ∃ (p : Addr) (m : Int), vs = [.ref p, .int m] ∧ 0 < m ∧ m < 1073741824 ∧ Urn H p ∧ ∀ r H', 0 ≤ r → r < m → Urn H' p → But p H H' → Q (.int r) H'
theorem scPull : FnScope ["_law_urn_here", "_law_total", "_law_found", "_law_one_here", "_law_two"] ["_law_urn_here", "_law_total"] (defScope tPull) := ⟨rfl, rfl, rfl, by decide +kernel, rfl, by decide +kernel, by decide +kernel⟩
theorem ok_pull {f : Addr} {fd : FuncData} (F : Fun K "_law_pull" "_law_pull" tPull f fd) (T : Bl mg) : FnOk P w K mg base CX0 1 f fd ["_law_urn_here", "_law_total"] spPull := by
  refine F.ok scPull (fun vs H Q E h => ?_) (fun cdv A outer s H vs Q E hr h => ?_)
  · obtain ⟨p, m, rfl, _⟩ := h
    rfl
  · obtain ⟨p, m, rfl, m0, m1, ⟨a, b, c, e, a0⟩, k⟩ := h
    have m2 : m ≠ 0 := by omega
    refine ⟨_, pss_cons (ps_if (pt_cmpR op_gt (pe_ix ix_list (pv 0) pe_int (fun _ _ => rfl)) pe_int (nomark _))
        (pss_cons (ps_set (i := 2) scPull.nd rfl (.inl rfl) (pe_op op_modN (pe_callTy call_int1 (by rfl) T.int (by decide +kernel) (pa_cons (pe_ix ix_list (pv 0) pe_int (fun _ _ => rfl)) pa_nil)) (pv 1)))
        (pss_cons (ps_asg (pe_op op_fdivN (pe_ix ix_list (pv 0) pe_int (fun _ _ => rfl)) (pv 1)) (pg_sub (pv 0) pe_int set_list))
        (pss_one (ps_ret (pv 2))))) pss_nil)
      (pss_cons (ps_asg (pe_op op_add (pe_ix ix_list (pv 0) pe_int (fun _ _ => rfl)) pe_int) (pg_sub (pv 0) pe_int set_list))
      (pss_cons (ps_set (i := 3) scPull.nd rfl (.inl rfl) (pe_op op_mod (pe_callTy call_int1 (by rfl) T.int (by decide +kernel) (pa_cons (pe_op op_add (pe_ix ix_list (pv 0) pe_int (fun _ _ => rfl)) (pe_op op_mul pe_int (pe_ix ix_list (pv 0) pe_int (fun _ _ => rfl)))) pa_nil)) pe_int))
      (pss_cons (ps_set (i := 4) scPull.nd rfl (.inl rfl) (pe_op op_mod (pe_callTy call_int1 (by rfl) T.int (by decide +kernel) (pa_cons (pe_op op_add (pe_op op_mul (pv 3) (pv 3)) (pe_op op_mul pe_int (pe_ix ix_list (pv 0) pe_int (fun _ _ => rfl)))) pa_nil)) pe_int))
      (pss_one (ps_ret (pe_op op_modN (pe_callTy call_int1 (by rfl) T.int (by decide +kernel) (pa_cons (pe_op op_fdiv (pe_callTy call_int1 (by rfl) T.int (by decide +kernel) (pa_cons (pe_op op_add (pe_op op_mul (pv 4) pe_int) (pv 3)) pa_nil)) pe_int) pa_nil)) (pv 1))))))), ?_⟩
    refine ⟨_, rfl, p, _, 0, _, rfl, rfl, SqL.of e, atI_nat (j := 0) rfl, _, _, rfl, rfl, _, rfl, ite2 (fun c0 => ?_) (fun c0 => ?_)⟩
    · refine ⟨_, rfl, p, _, 0, _, rfl, rfl, SqL.of e, atI_nat (j := 0) rfl, .inl ⟨_, rfl, _, rfl, _, _, rfl, rfl, m2, ?_⟩⟩
      refine ⟨_, rfl, p, _, 0, _, rfl, rfl, SqL.of e, atI_nat (j := 0) rfl, _, rfl, _, _, rfl, rfl, ⟨m2, by omega⟩, _, rfl, p, _, _, 0, rfl, rfl, e, rfl, ?_⟩
      refine ⟨_, rfl, k _ _ (Int.fmod_nonneg_of_pos _ m0) (Int.fmod_lt_of_pos _ m0) ⟨_, b, c, upd_same, Int.fdiv_nonneg a0 (by omega)⟩ upd_but⟩
    · refine ⟨_, rfl, p, _, 2, _, rfl, rfl, SqL.of e, atI_nat (j := 2) rfl, _, _, rfl, rfl, _, rfl, p, _, _, 2, rfl, rfl, e, rfl, ?_⟩
      have e2 : (upd H p (.lst [.int a, .int b, .int (c + 1)])) p = some (.lst [.int a, .int b, .int (c + 1)]) := upd_same
      refine ⟨_, rfl, p, _, 1, _, rfl, rfl, SqL.of e2, atI_nat (j := 1) rfl, ?_⟩
      refine ⟨_, rfl, p, _, 2, _, rfl, rfl, SqL.of e2, atI_nat (j := 2) rfl, _, _, rfl, rfl, .inl ⟨by decide, by decide⟩, _, _, rfl, rfl, .inl ⟨_, rfl, _, _, rfl, rfl, (by show (0 : Int) < 2305843009213693951; decide), ?_⟩⟩
      have x0 : 0 ≤ (b + 6101 * (c + 1)) % 2305843009213693951 := Int.emod_nonneg _ (by decide)
      have x1 : (b + 6101 * (c + 1)) % 2305843009213693951 < 2305843009213693951 := Int.emod_lt_of_pos _ (by decide)
      revert x0 x1
      generalize (b + 6101 * (c + 1)) % 2305843009213693951 = one
      intro x0 x1
      refine ⟨_, rfl, _, rfl, _, _, rfl, rfl, .inl ⟨by omega, by omega⟩, ?_⟩
      refine ⟨_, rfl, p, _, 2, _, rfl, rfl, SqL.of e2, atI_nat (j := 2) rfl, _, _, rfl, rfl, .inl ⟨by decide, by decide⟩, _, _, rfl, rfl, .inl ⟨_, rfl, _, _, rfl, rfl, (by show (0 : Int) < 2305843009213693921; decide), ?_⟩⟩
      refine ⟨_, rfl, _, _, rfl, rfl, .inr ⟨by decide, by decide⟩, _, rfl, _, _, rfl, rfl, .inl ⟨_, rfl, _, _, rfl, rfl, ⟨by decide, by decide⟩, .inl ⟨_, rfl, _, rfl, _, _, rfl, rfl, m2, ?_⟩⟩⟩
      exact k _ _ (Int.fmod_nonneg_of_pos _ m0) (Int.fmod_lt_of_pos _ m0) ⟨a, b, _, e2, a0⟩ upd_but
/-! ### _law_one -/
def spOne : Sp := fun vs H Q _ => ∃ (p a : Addr) (xs : List V), vs = [.ref p, .ref a] ∧ H a = some (.lst xs) ∧ xs ≠ [] ∧ xs.length ≤ 1000 ∧ a ≠ p ∧ Urn H p ∧ ∀ x ∈ xs, ∀ H', Urn H' p → But p H H' → Q x H'
theorem scOne : FnScope ["_law_urn_here", "_law_items"] ["_law_urn_here", "_law_items"] (defScope tOne) := ⟨rfl, rfl, rfl, by decide +kernel, rfl, by decide +kernel, by decide +kernel⟩
theorem ok_one {f fT : Addr} {fd fdT : FuncData} (F : Fun K "_law_one" "_law_one" tOne f fd) (T : Bl mg) (dT : Dn P w K mg base CX0 "_law_pull" ["_law_urn_here", "_law_total"] 1 spPull fT fdT) :
    FnOk P w K mg base CX0 2 f fd ["_law_urn_here", "_law_items"] spOne := by
  refine F.ok scOne (fun vs H Q E h => ?_) (fun cdv A outer s H vs Q E hr h => ?_)
  · obtain ⟨p, a, xs, rfl, _⟩ := h
    rfl
  · obtain ⟨p, a, xs, rfl, e, ne, l, hp, lo, k⟩ := h
    refine ⟨_, pss_one (ps_ret (pe_ix ix_list (pv 1) (pe_call dT.G hr rfl dT.g dT.kp dT.b .nil pass0 (pa_cons (pv 0) (pa_cons (pe_callB call_len_seq (by rfl) T.len PySem.boot_len (pa_cons (pv 1) pa_nil)) pa_nil))) (fun _ _ => rfl))), ?_⟩
    have l0 : 0 < xs.length := List.length_pos_iff.mpr ne
    refine ⟨_, rfl, _, rfl, _, rfl, a, xs, rfl, .inl (SqL.of e), p, (xs.length : Int), rfl, by omega, by omega, lo, fun r H1 r0 r1 lo1 u1 => ?_⟩
    have e1 := u1 a hp _ e
    obtain ⟨j, rfl⟩ := Int.eq_ofNat_of_zero_le r0
    have hj : j < xs.length := by omega
    exact ⟨a, xs, j, xs[j], rfl, rfl, SqL.of e1, atI_nat (j := j) (List.getElem?_eq_getElem hj), k _ (List.getElem_mem hj) H1 lo1 u1⟩
end
end K18
namespace K18
open PySem L2
open L2.My
section
variable {P : Program} {w : World} {K : PySem.W.Frag} {mg : Str → Option Value} {base : Heap}
def spSome : Sp := fun vs H Q _ => ∃ (p a : Addr) (xs : List V) (n : Int), vs = [.ref p, .ref a, .int n] ∧ H a = some (.lst xs) ∧ xs.length ≤ 1000 ∧ 0 ≤ n ∧ Urn H p ∧
  ∀ l ys H', H l = none → H' l = some (.lst ys) → (ys.length : Int) = (if (xs.length : Int) < n then (xs.length : Int) else n) → (∀ y ∈ ys, y ∈ xs) → Urn H' p → But p H H' → Q (.ref l) H'
theorem scSome : FnScope ["_law_urn_here", "_law_items", "_law_many", "_law_left", "_law_found", "_law_turn"] ["_law_urn_here", "_law_items", "_law_many"] (defScope tSome) := ⟨rfl, rfl, rfl, by decide +kernel, rfl, by decide +kernel, by decide +kernel⟩
theorem ok_some {f fT : Addr} {fd fdT : FuncData} (F : Fun K "_law_some" "_law_some" tSome f fd) (T : Bl mg) (dT : Dn P w K mg base CX0 "_law_pull" ["_law_urn_here", "_law_total"] 1 spPull fT fdT) :
    FnOk P w K mg base CX0 2 f fd ["_law_urn_here", "_law_items", "_law_many"] spSome := by
  refine F.ok scSome (fun vs H Q E h => ?_) (fun cdv A outer s H vs Q E hr h => ?_)
  · obtain ⟨p, a, xs, n, rfl, _⟩ := h
    rfl
  · obtain ⟨p, a, xs, n, rfl, e, l, n0, lo, k⟩ := h
    refine ⟨_, pss_cons (ps_par (i := 3) (j := 4) rfl scSome.nd rfl rfl (by decide) rfl rfl (pa_cons (pe_callTy call_list_of (by rfl) T.list (by decide +kernel) (pa_cons (pv 1) pa_nil)) (pa_cons (pe_lst pa_nil) pa_nil)) (by rfl))
      (pss_cons (ps_for PassesOwn.never rfl (pi_range1 rfl T.range (pa_cons (pe_callB (call_min2 rfl) (by rfl) T.min (by decide +kernel) (pa_cons (pv 2) (pa_cons (pe_callB call_len_seq (by rfl) T.len PySem.boot_len (pa_cons (pv 3) pa_nil)) pa_nil))) pa_nil)) (pg_name (i := 5) scSome.nd rfl (.inl rfl))
        (pss_one (ps_expr (pe_bm PySem.F.plainAttrs_list PySem.F.slot_list_append PySem.F.type_list_append mt_append (pv 4) (pa_cons (pe_bm PySem.F.plainAttrs_list PySem.F.slot_list_pop PySem.F.type_list_pop mt_popAt (pv 3) (pa_cons (pe_call dT.G hr rfl dT.g dT.kp dT.b .nil pass0 (pa_cons (pv 0) (pa_cons (pe_callB call_len_seq (by rfl) T.len PySem.boot_len (pa_cons (pv 3) pa_nil)) pa_nil))) pa_nil)) pa_nil)))))
      (pss_one (ps_ret (pv 4)))), ?_⟩
    refine ⟨_, rfl, a, xs, rfl, .inl (SqL.of e), fun lf nl => ?_⟩
    have lp0 := lo.ne nl
    have s1 : Same H (upd H lf (.lst xs)) := grow nl
    have e1 : (upd H lf (.lst xs)) lf = some (.lst xs) := upd_same
    revert s1 e1
    generalize upd H lf (.lst xs) = H1
    intro s1 e1
    refine ⟨by show 0 ≤ sizeLine; decide, fun fd nf => ⟨_, _, rfl, ?_⟩⟩
    have fp0 := (lo.same s1).ne nf
    have nf0 : H fd = none := same_none s1 nf
    have lf_fd : lf ≠ fd := ne_of_none e1 nf
    have s2 : Same H1 (upd H1 fd (.lst [])) := grow nf
    have e2 : (upd H1 fd (.lst [])) fd = some (.lst []) := upd_same
    revert s2 e2
    generalize upd H1 fd (.lst []) = H2
    intro s2 e2
    have s02 := s1.trans s2
    have e1 := s2 _ _ e1
    have big : (1000 : Nat) < sizeLine := by decide
    refine ⟨_, rfl, _, rfl, lf, xs, rfl, .inl (SqL.of e1), _, _, rfl, _, rfl, ?_, ?_, for_it walk_range (fun i σ H' => ∃ o ls fs, σ = [some (.ref p), some (.ref a), some (.int n), some (.ref lf), some (.ref fd), o] ∧ But p H H' ∧ Urn H' p ∧ H' lf = some (.lst ls) ∧ H' fd = some (.lst fs) ∧ ls.length + i = xs.length ∧ fs.length = i ∧ (∀ y ∈ ls, y ∈ xs) ∧ (∀ y ∈ fs, y ∈ xs))
      ⟨none, xs, [], rfl, .of s02, lo.same s02, e1, e2, by omega, rfl, fun y hy => hy, fun y hy => by cases hy⟩ (fun _ _ _ _ _ => trivial) ?_ ?_⟩
    · split <;> omega
    · split <;> omega
    · rintro i x σ K0 K1 hi ⟨o, ls, fs, rfl, b, u, el, ef, l1, l2, m1, m2⟩ ⟨rfl, rfl⟩
      have i8 : i < xs.length := by
        revert hi
        split <;> omega
      refine ⟨_, rfl, .inl ⟨rfl, _, SqL.of ef⟩, ?_⟩
      refine ⟨_, rfl, .inl ⟨rfl, _, SqL.of el⟩, ?_⟩
      refine ⟨_, rfl, _, rfl, lf, ls, rfl, .inl (SqL.of el), p, (ls.length : Int), rfl, by omega, by omega, u, fun r H3 r0 r1 u3 b3 => ?_⟩
      obtain ⟨j, rfl⟩ := Int.eq_ofNat_of_zero_le r0
      have hj : j < ls.length := by omega
      have el3 := b3 lf lp0 _ el
      have ef3 := b3 fd fp0 _ ef
      refine ⟨lf, ls, j, j, ls[j], rfl, rfl, el3, by omega, by omega, ?_, List.getElem?_eq_getElem hj, ?_⟩
      · unfold seqIndex?
        have x1 : ¬ (j : Int) < 0 := by omega
        have x2 : (j : Int) < (ls.length : Int) := by omega
        simp [x1, x2, hj]
      · have ef4 : (upd H3 lf (.lst (ls.eraseIdx j))) fd = some (.lst fs) := by
          rw [upd_ne lf_fd.symm]
          exact ef3
        refine ⟨fd, fs, _, rfl, rfl, ef4, by omega, _, ls.eraseIdx j, _, rfl, ?_, ?_, ?_, upd_same, ?_, ?_, ?_, ?_⟩
        · intro q hq o2 eq
          rw [upd_ne (ne_of_none eq nf0), upd_ne (ne_of_none eq nl)]
          exact b3 q hq _ (b q hq _ eq)
        · obtain ⟨x1, x2, x3, ex, r⟩ := u3
          exact ⟨x1, x2, x3, by rw [upd_ne fp0.symm, upd_ne lp0.symm]; exact ex, r⟩
        · rw [upd_ne lf_fd]
          exact upd_same
        · rw [List.length_eraseIdx_of_lt hj]
          omega
        · rw [List.length_append, List.length_singleton, l2]
        · exact fun y hy => m1 y (List.mem_of_mem_eraseIdx hy)
        · intro y hy
          rcases List.mem_append.mp hy with hy | hy
          · exact m2 y hy
          · rw [List.mem_singleton.mp hy]
            exact m1 _ (List.getElem_mem hj)
    · rintro σ K0 ⟨o, ls, fs, rfl, b, u, el, ef, l1, l2, m1, m2⟩
      refine ⟨_, rfl, k fd fs K0 nf0 ef ?_ m2 u b⟩
      rw [l2]
      split <;> omega
end
end K18
namespace K18
open PySem L2
open L2.My
/-- data of tuples, ints and texts alone: at most N items each, n levels, a repr of at most c signs -/
inductive Dt (H : Hp) (N : Nat) : Nat → Nat → V → Prop
  | non {n c : Nat} (hc : 40 ≤ c) : Dt H N n c .non
  | bl {n c : Nat} (b : Bool) (hc : 40 ≤ c) : Dt H N n c (.bl b)
  | int {n c : Nat} (i : Int) (h : i.natAbs < 10 ^ 39) (g : (PyData.int i).shown.length ≤ 40) (hc : 40 ≤ c) : Dt H N n c (.int i)
  | str {n c : Nat} (z : Str) (h : z.length ≤ 100) (g : (PyData.str z).shown.length ≤ 40) (hc : 40 ≤ c) : Dt H N n c (.str z)
  | tup {n b c : Nat} {a : Addr} {xs : List V} (e : H a = some (.tup xs)) (l : xs.length ≤ N) (h : ∀ x ∈ xs, Dt H N n b x) (hc : 4 + xs.length * (b + 2) ≤ c) : Dt H N (n + 1) c (.ref a)
theorem Dt.wk {H : Hp} {N n c : Nat} {v : V} (t : Dt H N n c v) : ∀ {m d : Nat}, n ≤ m → c ≤ d → Dt H N m d v := by
  induction t with
  | non hc => exact fun _ h => .non (Nat.le_trans hc h)
  | bl b hc => exact fun _ h => .bl b (Nat.le_trans hc h)
  | int i h g hc => exact fun _ k => .int i h g (Nat.le_trans hc k)
  | str z h g hc => exact fun _ k => .str z h g (Nat.le_trans hc k)
  | tup e l _ hc ih =>
    intro m d hm hd
    match m, hm with
    | m + 1, hm => exact .tup e l (fun x hx => ih x hx (Nat.le_of_succ_le_succ hm) (Nat.le_refl _)) (Nat.le_trans hc hd)
theorem Dt.kp {H H' : Hp} {N n c : Nat} {v : V} (t : Dt H N n c v) (s : Kp H H') : Dt H' N n c v := by
  induction t with
  | non hc => exact .non hc
  | bl b hc => exact .bl b hc
  | int i h g hc => exact .int i h g hc
  | str z h g hc => exact .str z h g hc
  | tup e l _ hc ih => exact .tup (s.tup _ _ e) l ih hc
theorem Dt.dv {H : Hp} {N n c : Nat} {v : V} {p : Addr} (hp : IsL H p) (t : Dt H N n c v) : Dv H p N n c v := by
  induction t with
  | non hc => exact .non hc
  | bl b hc => exact .bl b hc
  | int i h g hc => exact .int i h g hc
  | str z h g hc => exact .str z h g hc
  | tup e l _ hc ih =>
    refine .tup e (fun z => ?_) l ih hc
    obtain ⟨ys, e2⟩ := hp
    rw [z, e2] at e
    cases e
mutual
def Lit.fitT (g : Nat → Option Nat) : Nat → Lit → Bool
  | _, .s z => decide (z.length ≤ 100) && decide ((PyData.str z).shown.length ≤ 40)
  | _, .i k => decide (k.natAbs < 10 ^ 39) && decide ((PyData.int k).shown.length ≤ 40)
  | _, .b _ => true
  | _, .n => true
  | m, .v k => match g k with
    | some j => decide (j ≤ m)
    | none => false
  | 0, .t _ => false
  | _, .l _ => false
  | m + 1, .t xs => decide (xs.length ≤ 5) && Lit.fitsT g m xs
def Lit.fitsT (g : Nat → Option Nat) : Nat → List Lit → Bool
  | _, [] => true
  | m, x :: xs => Lit.fitT g m x && Lit.fitsT g m xs
end
mutual
theorem LitAt.dt {σ : L2.St} {H0 H : Hp} {g : Nat → Option Nat} (hg : ∀ k j u, g k = some j → σ[k]? = some (some u) → Dt H 5 j (fz j) u) : ∀ {m : Nat} {u : V} {x : Lit}, LitAt σ H0 H u x → Lit.fitT g m x = true → Dt H 5 m (fz m) u
  | m, _, _, .s z, f => by
    rw [Lit.fitT, Bool.and_eq_true, decide_eq_true_eq, decide_eq_true_eq] at f
    exact .str z f.1 f.2 (fz40 m)
  | m, _, _, .i n, f => by
    rw [Lit.fitT, Bool.and_eq_true, decide_eq_true_eq, decide_eq_true_eq] at f
    exact .int n f.1 f.2 (fz40 m)
  | m, _, _, .b k, _ => .bl k (fz40 m)
  | m, _, _, .n, _ => .non (fz40 m)
  | m, _, _, .v (k := k) e, f => by
    rw [Lit.fitT] at f
    cases q : g k with
    | none =>
      rw [q] at f
      cases f
    | some j =>
      rw [q] at f
      have jm : j ≤ m := of_decide_eq_true f
      exact (hg k j _ q e).wk jm (fz_up jm)
  | 0, _, _, .t n e h, f => by
    rw [Lit.fitT] at f
    cases f
  | 0, _, _, .l n e h, f => by
    rw [Lit.fitT] at f
    cases f
  | m + 1, _, _, .t (vs := vs) n e h, f => by
    rw [Lit.fitT, Bool.and_eq_true, decide_eq_true_eq] at f
    have l : vs.length ≤ 5 := h.len ▸ f.1
    refine .tup e l (LitAll.dt hg h f.2) ?_
    have := Nat.mul_le_mul_right (fz m + 2) l
    show _ ≤ 4 + 5 * (fz m + 2)
    omega
  | m + 1, _, _, .l (vs := vs) n e h, f => by
    rw [Lit.fitT] at f
    cases f
theorem LitAll.dt {σ : L2.St} {H0 H : Hp} {g : Nat → Option Nat} (hg : ∀ k j u, g k = some j → σ[k]? = some (some u) → Dt H 5 j (fz j) u) : ∀ {m : Nat} {vs : List V} {xs : List Lit}, LitAll σ H0 H vs xs → Lit.fitsT g m xs = true → ∀ u ∈ vs, Dt H 5 m (fz m) u
  | _, _, _, .nil, _ => fun u hu => by cases hu
  | m, _, _, .cons h r, f => by
    rw [Lit.fitsT, Bool.and_eq_true] at f
    intro u hu
    rcases List.mem_cons.mp hu with rfl | hu
    · exact LitAt.dt hg h f.1
    · exact LitAll.dt hg r f.2 u hu
end
/-- a tuple of at most five items, each of q levels -/
def Tu (H : Hp) (q : Nat) (v : V) : Prop := ∃ a xs, v = .ref a ∧ H a = some (.tup xs) ∧ xs.length ≤ 5 ∧ ∀ x ∈ xs, Dt H 5 q (fz q) x
theorem Tu.dt {H : Hp} {q : Nat} {v : V} (t : Tu H q v) : Dt H 5 (q + 1) (fz (q + 1)) v := by
  obtain ⟨a, xs, rfl, e, l, h⟩ := t
  refine .tup e l h ?_
  have := Nat.mul_le_mul_right (fz q + 2) l
  show _ ≤ 4 + 5 * (fz q + 2)
  omega
theorem Tu.up {H : Hp} {q m : Nat} {v : V} (t : Tu H q v) (h : q ≤ m) : Tu H m v := by
  obtain ⟨a, xs, rfl, e, l, hx⟩ := t
  exact ⟨a, xs, rfl, e, l, fun x hm => (hx x hm).wk h (fz_up h)⟩
theorem Tu.kp {H H' : Hp} {q : Nat} {v : V} (t : Tu H q v) (s : Kp H H') : Tu H' q v := by
  obtain ⟨a, xs, rfl, e, l, hx⟩ := t
  exact ⟨a, xs, rfl, s.tup _ _ e, l, fun x hm => (hx x hm).kp s⟩
/-- a row of tuples, or of slots that hold tuples -/
def Lit.tups (g : Nat → Option Nat) (tv : Nat → Bool) (m : Nat) : List Lit → Bool
  | [] => true
  | .t ys :: r => decide (ys.length ≤ 5) && Lit.fitsT g m ys && Lit.tups g tv m r
  | .v k :: r => tv k && Lit.tups g tv m r
  | _ :: _ => false
theorem LitAll.tu {σ : L2.St} {H0 H : Hp} {g : Nat → Option Nat} {tv : Nat → Bool} {m : Nat} (hg : ∀ k j u, g k = some j → σ[k]? = some (some u) → Dt H 5 j (fz j) u)
    (ht : ∀ k u, tv k = true → σ[k]? = some (some u) → Tu H m u) : ∀ {vs : List V} {xs : List Lit}, LitAll σ H0 H vs xs → Lit.tups g tv m xs = true → ∀ u ∈ vs, Tu H m u
  | _, [], h, _ => by
    cases h
    exact fun u hu => by cases hu
  | _, x :: xs, h, f => by
    cases h with
    | @cons w _ _ _ h r =>
    have z : Tu H m w ∧ Lit.tups g tv m xs = true := by
      cases h with
      | t n e hh =>
        rw [Lit.tups, Bool.and_eq_true, Bool.and_eq_true, decide_eq_true_eq] at f
        exact ⟨⟨_, _, rfl, e, hh.len ▸ f.1.1, LitAll.dt hg hh f.1.2⟩, f.2⟩
      | v e =>
        rw [Lit.tups, Bool.and_eq_true] at f
        exact ⟨ht _ _ f.1 e, f.2⟩
      | _ => cases f
    intro u hu
    rcases List.mem_cons.mp hu with rfl | hu
    · exact z.1
    · exact LitAll.tu hg ht r z.2 u hu
theorem cat_lit {σ : L2.St} {H : Hp} {l1 : Addr} {xs1 : List V} {ys : List Lit} {Q : VK} {g : Nat → Option Nat} {tv : Nat → Bool} {m : Nat} (e1 : H l1 = some (.lst xs1)) (ok : Lit.ok σ (.l ys)) (t1 : ∀ x ∈ xs1, Tu H m x)
    (hg : ∀ k j u, g k = some j → σ[k]? = some (some u) → Dt H 5 j (fz j) u) (ht : ∀ k u, tv k = true → σ[k]? = some (some u) → Tu H m u) (fit : Lit.tups g tv m ys = true) (len : xs1.length + ys.length ≤ 1000)
    (k : ∀ l xs2 H', Same H H' → H l = none → H' l = some (.lst xs2) → xs2.length = xs1.length + ys.length → (∀ x ∈ xs2, Tu H' m x) → Q (.ref l) H') : tLit (.l ys) σ H fun u H' => rCat (.ref l1) u H' Q := by
  refine ⟨ok, fun u H1 s1 a => ?_⟩
  cases a with
  | @l b ws _ n e h =>
    have ly := h.len
    refine ⟨l1, b, xs1, ws, rfl, rfl, s1 _ _ e1, e, ?_, fun l nl => ?_⟩
    · have := line1000
      omega
    · have s2 : Same H1 (upd H1 l (.lst (xs1 ++ ws))) := grow nl
      refine k l _ _ (s1.trans s2) (same_none s1 nl) upd_same (by rw [List.length_append, ly]) fun x hx => ?_
      rcases List.mem_append.mp hx with hx | hx
      · exact (t1 x hx).kp (.of (s1.trans s2))
      · refine Tu.kp ?_ (.of s2)
        exact LitAll.tu (fun k j u a b => (hg k j u a b).kp (.of s1)) (fun k u a b => (ht k u a b).kp (.of s1)) h fit x hx
def gM : Nat → Option Nat
  | 0 => some 1
  | 1 => some 1
  | _ => none
def tM : Nat → Bool
  | 0 => true
  | 1 => true
  | _ => false
theorem hgM {H : Hp} {a b : V} {r : L2.St} (ha : Tu H 0 a) (hb : Tu H 0 b) : ∀ k j u, gM k = some j → (some a :: some b :: r)[k]? = some (some u) → Dt H 5 j (fz j) u
  | 0, j, u, h1, h2 => by
    cases h1
    cases h2
    exact ha.dt
  | 1, j, u, h1, h2 => by
    cases h1
    cases h2
    exact hb.dt
  | _ + 2, _, _, h1, _ => by cases h1
theorem htM {H : Hp} {a b : V} {r : L2.St} (ha : Tu H 0 a) (hb : Tu H 0 b) : ∀ k u, tM k = true → (some a :: some b :: r)[k]? = some (some u) → Tu H 2 u
  | 0, u, h1, h2 => by
    cases h2
    exact ha.up (by decide)
  | 1, u, h1, h2 => by
    cases h2
    exact hb.up (by decide)
  | _ + 2, _, h1, _ => by cases h1
section
variable {P : Program} {w : World} {K : PySem.W.Frag} {mg : Str → Option Value} {base : Heap}
def spMenu : Sp := fun vs H Q _ => vs = [] ∧ ∀ l xs H', Same H H' → H l = none → H' l = some (.lst xs) → xs.length = 18 → (∀ x ∈ xs, Tu H' 2 x) → Q (.ref l) H'
theorem scMenu : FnScope ["_law_hole", "_law_load", "_law_found"] [] (defScope tMenu) := ⟨rfl, rfl, rfl, by decide +kernel, rfl, by decide +kernel, by decide +kernel⟩
theorem ok_menu {f : Addr} {fd : FuncData} (F : Fun K "_law_menu" "_law_menu" tMenu f fd) : FnOk P w K mg base CX0 1 f fd [] spMenu := by
  refine F.ok scMenu (fun vs H Q E h => ?_) (fun cdv A outer s H vs Q E hr h => ?_)
  · obtain ⟨rfl, _⟩ := h
    rfl
  · obtain ⟨rfl, k⟩ := h
    have lv0 := fun {X : Cx} {i : Nat} {e : Expr} (h : PE X e (tVar i)) => pl_v i h
    refine ⟨_, pss_cons (ps_asg (pl_tup (pl_cons (pl_tup (pl_cons pl_str pl_nil)) (pl_cons (pl_tup (pl_cons pl_str pl_nil)) pl_nil))) (pg_tup rfl (pgs_cons (pg_name (i := 0) scMenu.nd rfl (.inl rfl)) (pgs_cons (pg_name (i := 1) scMenu.nd rfl (.inl rfl)) pgs_nil))))
      (pss_cons (ps_set (i := 2) scMenu.nd rfl (.inl rfl) (pl_lst (pl_cons (pl_tup (pl_cons pl_str (pl_cons pl_str (pl_cons (lv0 (pv 0)) (pl_cons (lv0 (pv 0)) pl_nil))))) (pl_cons (pl_tup (pl_cons pl_str (pl_cons pl_str (pl_cons (lv0 (pv 0)) (pl_cons (lv0 (pv 0)) pl_nil)))))
          (pl_cons (lv0 (pv 1)) (pl_cons (pl_tup (pl_cons pl_str (pl_cons (lv0 (pv 0)) pl_nil))) (pl_cons (pl_tup (pl_cons pl_str (pl_cons pl_str (pl_cons (lv0 (pv 0)) pl_nil)))) pl_nil)))))))
      (pss_cons (ps_set (i := 2) scMenu.nd rfl (.inl rfl) (pe_op op_cat (pv 2) (pl_lst (pl_cons (pl_tup (pl_cons pl_str (pl_cons pl_str pl_nil))) (pl_cons (pl_tup (pl_cons pl_str (pl_cons pl_str (pl_cons (pl_tup (pl_cons pl_str (pl_cons pl_str (pl_cons (lv0 (pv 0)) (pl_cons (lv0 (pv 0)) pl_nil))))) (pl_cons (lv0 (pv 0)) pl_nil)))))
          (pl_cons (pl_tup (pl_cons pl_str (pl_cons pl_str (pl_cons (lv0 (pv 1)) (pl_cons (lv0 (pv 0)) pl_nil))))) pl_nil))))))
      (pss_cons (ps_set (i := 2) scMenu.nd rfl (.inl rfl) (pe_op op_cat (pv 2) (pl_lst (pl_cons (pl_tup (pl_cons pl_str (pl_cons pl_str (pl_cons (lv0 (pv 0)) (pl_cons (lv0 (pv 1)) pl_nil))))) (pl_cons (pl_tup (pl_cons pl_str (pl_cons (pl_tup (pl_cons pl_str (pl_cons pl_str (pl_cons (lv0 (pv 0)) (pl_cons (lv0 (pv 0)) pl_nil))))) pl_nil)))
          (pl_cons (pl_tup (pl_cons pl_str (pl_cons (lv0 (pv 1)) pl_nil))) pl_nil))))))
      (pss_cons (ps_set (i := 2) scMenu.nd rfl (.inl rfl) (pe_op op_cat (pv 2) (pl_lst (pl_cons (pl_tup (pl_cons pl_str (pl_cons pl_str (pl_cons (pl_tup (pl_cons pl_str (pl_cons pl_str (pl_cons (lv0 (pv 0)) pl_nil)))) pl_nil)))) (pl_cons (pl_tup (pl_cons pl_str (pl_cons pl_str (pl_cons (lv0 (pv 1)) (pl_cons (lv0 (pv 1)) pl_nil)))))
          (pl_cons (pl_tup (pl_cons pl_str (pl_cons (pl_tup (pl_cons pl_str (pl_cons pl_str (pl_cons (lv0 (pv 0)) pl_nil)))) pl_nil))) pl_nil))))))
      (pss_cons (ps_set (i := 2) scMenu.nd rfl (.inl rfl) (pe_op op_cat (pv 2) (pl_lst (pl_cons (pl_tup (pl_cons pl_str (pl_cons pl_str (pl_cons (pl_tup (pl_cons pl_str (pl_cons pl_str pl_nil))) (pl_cons (lv0 (pv 0)) pl_nil)))))
          (pl_cons (pl_tup (pl_cons pl_str (pl_cons pl_str (pl_cons (lv0 (pv 0)) (pl_cons (pl_tup (pl_cons pl_str (pl_cons pl_str (pl_cons (lv0 (pv 0)) (pl_cons (lv0 (pv 0)) pl_nil))))) pl_nil))))) pl_nil)))))
      (pss_one (ps_ret (pe_op op_cat (pv 2) (pl_lst (pl_cons (pl_tup (pl_cons pl_str (pl_cons pl_str (pl_cons (lv0 (pv 1)) pl_nil)))) (pl_cons (pl_tup (pl_cons pl_str (pl_cons pl_str (pl_cons (lv0 (pv 0)) (pl_cons (lv0 (pv 0)) pl_nil))))) pl_nil))))))))))), ?_⟩
    refine ⟨by simp [Lit.ok, Lit.okA, L2.start], fun u0 H1 s1 a0 => ?_⟩
    cases a0 with
    | @t b0 us _ n0 e0 a1 =>
    have tt := LitAll.tu (g := gM) (tv := tM) (m := 0) (fun k j u _ h => ?_) (fun k u _ h => ?_) a1 (by decide +kernel)
    rotate_left
    · match k, h with
      | 0, h => cases h
      | 1, h => cases h
      | 2, h => cases h
    · match k, h with
      | 0, h => cases h
      | 1, h => cases h
      | 2, h => cases h
    match us, a1, tt, e0 with
    | [ho, ld], _, tt, e0 =>
    refine ⟨b0, _, rfl, SqT.of e0, rfl, ho, _, rfl, ld, _, rfl, rfl, ?_⟩
    have th := tt ho (by simp)
    have tl := tt ld (by simp)
    clear tt
    refine ⟨by simp [Lit.ok, Lit.okA, L2.start], fun u H2 s2 a2 => ?_⟩
    cases a2 with
    | l n2 e2 h2 =>
    have t2 := LitAll.tu (g := gM) (tv := tM) (m := 2) (fun k j u a b => (hgM th tl k j u a b).kp (.of s2)) (fun k u a b => (htM th tl k u a b).kp (.of s2)) h2 (by decide +kernel)
    have l2 := h2.len
    clear h2
    have th := th.kp (.of s2)
    have tl := tl.kp (.of s2)
    have s02 := s1.trans s2
    refine ⟨_, rfl, cat_lit e2 (by simp [Lit.ok, Lit.okA, L2.start]) t2 (hgM th tl) (htM th tl) (by decide +kernel) (by rw [l2]; decide) fun l3 xs3 H3 s3 n3 e3 k3 t3 => ?_⟩
    have th := th.kp (.of s3)
    have tl := tl.kp (.of s3)
    refine ⟨_, rfl, cat_lit e3 (by simp [Lit.ok, Lit.okA, L2.start]) t3 (hgM th tl) (htM th tl) (by decide +kernel) (by rw [k3, l2]; decide) fun l4 xs4 H4 s4 n4 e4 k4 t4 => ?_⟩
    have th := th.kp (.of s4)
    have tl := tl.kp (.of s4)
    refine ⟨_, rfl, cat_lit e4 (by simp [Lit.ok, Lit.okA, L2.start]) t4 (hgM th tl) (htM th tl) (by decide +kernel) (by rw [k4, k3, l2]; decide) fun l5 xs5 H5 s5 n5 e5 k5 t5 => ?_⟩
    have th := th.kp (.of s5)
    have tl := tl.kp (.of s5)
    refine ⟨_, rfl, cat_lit e5 (by simp [Lit.ok, Lit.okA, L2.start]) t5 (hgM th tl) (htM th tl) (by decide +kernel) (by rw [k5, k4, k3, l2]; decide) fun l6 xs6 H6 s6 n6 e6 k6 t6 => ?_⟩
    have th := th.kp (.of s6)
    have tl := tl.kp (.of s6)
    have s06 := (((s02.trans s3).trans s4).trans s5).trans s6
    refine ⟨_, rfl, cat_lit e6 (by simp [Lit.ok, Lit.okA, L2.start]) t6 (hgM th tl) (htM th tl) (by decide +kernel) (by rw [k6, k5, k4, k3, l2]; decide) fun l7 xs7 H7 s7 n7 e7 k7 t7 => ?_⟩
    exact k l7 xs7 H7 (s06.trans s7) (same_none s06 n7) e7 (by rw [k7, k6, k5, k4, k3, l2]; rfl) t7
end
end K18
namespace K18
open PySem L2
open L2.My
theorem mem_cut {xs : List V} {lo hi : Option Int} {x : V} (h : x ∈ cutV xs lo hi) : x ∈ xs := List.mem_of_mem_drop (List.mem_of_mem_take h)
theorem cut6 {xs : List V} (h : xs.length = 18) : (cutV xs none (some 6)).length = 6 := by
  unfold cutV
  simp [HT.sIx, h]
theorem cut12 {xs : List V} (h : xs.length = 18) : (cutV xs (some 6) none).length = 12 := by
  unfold cutV
  simp [HT.sIx, h]
/-- a pattern, as it is drawn -/
def Rule (H : Hp) (v : V) : Prop := ∃ a nm sh t c us, v = .ref a ∧ H a = some (.tup [nm, sh, .int t, .int c, us]) ∧ Dt H 5 0 (fz 0) nm ∧ Tu H 2 sh ∧ 1 ≤ t ∧ t ≤ 4 ∧ 0 ≤ c ∧ c ≤ 4 ∧ Tu H 1 us
theorem Rule.kp {H H' : Hp} {v : V} (r : Rule H v) (s : Kp H H') : Rule H' v := by
  obtain ⟨a, nm, sh, t, c, us, rfl, e, h1, h2, h3, h4, h5, h6, h7⟩ := r
  exact ⟨a, nm, sh, t, c, us, rfl, s.tup _ _ e, h1.kp s, h2.kp s, h3, h4, h5, h6, h7.kp s⟩
theorem dt_small {H : Hp} {n : Nat} {i : Int} (h0 : 0 ≤ i) (h1 : i ≤ 4) : Dt H 5 n (fz n) (.int i) := by
  have : i = 0 ∨ i = 1 ∨ i = 2 ∨ i = 3 ∨ i = 4 := by omega
  refine .int i ?_ ?_ (fz40 n)
  · have e40 : (10 ^ 39 : Nat) = 1000000000000000000000000000000000000000 := by decide
    rw [e40]
    omega
  · rcases this with rfl | rfl | rfl | rfl | rfl <;> decide +kernel
theorem Rule.tu {H : Hp} {v : V} (r : Rule H v) : Tu H 3 v := by
  obtain ⟨a, nm, sh, t, c, us, rfl, e, h1, h2, h3, h4, h5, h6, h7⟩ := r
  refine ⟨a, _, rfl, e, Nat.le_refl _, fun x hx => ?_⟩
  simp only [List.mem_cons, List.not_mem_nil, or_false] at hx
  rcases hx with rfl | rfl | rfl | rfl | rfl
  · exact h1.wk (by decide) (fz_up (by decide))
  · exact h2.dt
  · exact dt_small (by omega) h4
  · exact dt_small h5 h6
  · exact h7.dt.wk (by decide) (fz_up (by decide))
def gN : Nat → Option Nat := fun _ => none
def tN : Nat → Bool := fun _ => false
theorem hgN {σ : L2.St} {H : Hp} : ∀ k j u, gN k = some j → σ[k]? = some (some u) → Dt H 5 j (fz j) u := fun _ _ _ h _ => by cases h
theorem htN {σ : L2.St} {H : Hp} {m : Nat} : ∀ k u, tN k = true → σ[k]? = some (some u) → Tu H m u := fun _ _ h _ => by cases h
section
variable {P : Program} {w : World} {K : PySem.W.Frag} {mg : Str → Option Value} {base : Heap}
def tSh : TE := fun σ H Q => ∃ p mn ms r, σ = some (.ref p) :: some (.ref mn) :: r ∧ Urn H p ∧ mn ≠ p ∧ H mn = some (.lst ms) ∧ ms.length = 18 ∧ (∀ m ∈ ms, Tu H 2 m) ∧
  ∀ l ss H', H l = none → H' l = some (.lst ss) → (ss.length = 6 ∨ ss.length = 4) → (∀ s ∈ ss, Tu H' 2 s) → Urn H' p → But p H H' → Q (.ref l) H'
def spPatts : Sp := fun vs H Q _ => ∃ p, vs = [.ref p] ∧ Urn H p ∧ ∀ l xs H', H l = none → H' l = some (.lst xs) → xs ≠ [] → xs.length ≤ 1000 → (∀ x ∈ xs, Rule H' x) → Urn H' p → But p H H' → Q (.ref l) H'
theorem scPatts : FnScope ["_law_urn_here", "_law_menu_here", "_law_shapes", "_law_names", "_law_found", "_law_name", "_law_shape", "_law_uses"] ["_law_urn_here"] (defScope tPatterns) := ⟨rfl, rfl, rfl, by decide +kernel, rfl, by decide +kernel, by decide +kernel⟩
theorem ok_patts {f fT fO fS fM : Addr} {fd fdT fdO fdS fdM : FuncData} (F : Fun K "_law_patterns" "_law_patterns" tPatterns f fd) (T : Bl mg) (hzip : mg "zip" = none)
    (dT : Dn P w K mg base CX0 "_law_pull" ["_law_urn_here", "_law_total"] 1 spPull fT fdT) (dO : Dn P w K mg base CX0 "_law_one" ["_law_urn_here", "_law_items"] 2 spOne fO fdO)
    (dS : Dn P w K mg base CX0 "_law_some" ["_law_urn_here", "_law_items", "_law_many"] 2 spSome fS fdS) (dM : Dn P w K mg base CX0 "_law_menu" [] 1 spMenu fM fdM) :
    FnOk P w K mg base CX0 3 f fd ["_law_urn_here"] spPatts := by
  refine F.ok scPatts (fun vs H Q E h => ?_) (fun cdv A outer s H vs Q E hr h => ?_)
  · obtain ⟨p, rfl, _⟩ := h
    rfl
  · obtain ⟨p, rfl, lo, k⟩ := h
    have hr1 : Room 1 _ := hr.mono (by decide : 1 ≤ 2)
    refine ⟨_, pss_cons (ps_set (i := 1) scPatts.nd rfl (.inl rfl) (pe_call0 dM.G hr1 rfl dM.g dM.kp dM.b .nil pass0))
      (pss_cons (ps_set (i := 2) scPatts.nd rfl (.inl rfl) (PE.of (t' := tSh) (pe_ifExp (pt_cmpR op_gt (pe_call dT.G hr1 rfl dT.g dT.kp dT.b .nil pass0 (pa_cons (pv 0) (pa_cons pe_int pa_nil))) pe_int (nomark _)) (pe_slice sl_list (pv 1) po_none (po_some pe_int))
          (pe_call dS.G hr rfl dS.g dS.kp dS.b .nil pass0 (pa_cons (pv 0) (pa_cons (pe_slice sl_list (pv 1) po_none (po_some pe_int)) (pa_cons pe_int pa_nil))))) ?_))
      (pss_cons (ps_set (i := 2) scPatts.nd rfl (.inl rfl) (pe_call dS.G hr rfl dS.g dS.kp dS.b .nil pass0 (pa_cons (pv 0) (pa_cons (pe_op op_cat (pv 2) (pe_call dS.G hr rfl dS.g dS.kp dS.b .nil pass0 (pa_cons (pv 0) (pa_cons (pe_slice sl_list (pv 1) (po_some pe_int) po_none)
          (pa_cons (pe_op op_sub pe_int (pe_callB call_len_seq (by rfl) T.len PySem.boot_len (pa_cons (pv 2) pa_nil))) pa_nil))))) (pa_cons pe_int pa_nil)))))
      (pss_cons (ps_set (i := 3) scPatts.nd rfl (.inl rfl) (pe_call dS.G hr rfl dS.g dS.kp dS.b .nil pass0 (pa_cons (pv 0) (pa_cons (pl_lst (pl_cons pl_str (pl_cons pl_str (pl_cons pl_str (pl_cons pl_str (pl_cons pl_str (pl_cons pl_str (pl_cons pl_str (pl_cons pl_str pl_nil)))))))))
          (pa_cons (pe_callB call_len_seq (by rfl) T.len PySem.boot_len (pa_cons (pv 2) pa_nil)) pa_nil)))))
      (pss_cons (ps_set (i := 4) scPatts.nd rfl (.inl rfl) (pe_lst pa_nil))
      (pss_cons (ps_for PassesOwn.never rfl (pi_zip rfl hzip (pa_cons (pv 3) (pa_cons (pv 2) pa_nil))) (pg_tup rfl (pgs_cons (pg_name (i := 5) scPatts.nd rfl (.inl rfl)) (pgs_cons (pg_name (i := 6) scPatts.nd rfl (.inl rfl)) pgs_nil)))
        (pss_cons (ps_set (i := 7) scPatts.nd rfl (.inl rfl) (pe_call dO.G hr rfl dO.g dO.kp dO.b .nil pass0 (pa_cons (pv 0) (pa_cons (pl_lst (pl_cons (pl_tup pl_nil) (pl_cons (pl_tup (pl_cons (pl_tup (pl_cons pl_str (pl_cons pl_int pl_nil))) pl_nil))
            (pl_cons (pl_tup (pl_cons (pl_tup (pl_cons pl_str (pl_cons pl_int pl_nil))) (pl_cons (pl_tup (pl_cons pl_str (pl_cons pl_int pl_nil))) pl_nil))) (pl_cons (pl_tup (pl_cons (pl_tup (pl_cons pl_str (pl_cons pl_int pl_nil))) pl_nil)) pl_nil))))) pa_nil))))
        (pss_one (ps_expr (pe_bm PySem.F.plainAttrs_list PySem.F.slot_list_append PySem.F.type_list_append mt_append (pv 4) (pa_cons (pe_tup (pa_cons (pv 5) (pa_cons (pv 6) (pa_cons (pe_op op_add pe_int (pe_call dT.G hr1 rfl dT.g dT.kp dT.b .nil pass0 (pa_cons (pv 0) (pa_cons pe_int pa_nil))))
          (pa_cons (pe_call dT.G hr1 rfl dT.g dT.kp dT.b .nil pass0 (pa_cons (pv 0) (pa_cons pe_int pa_nil))) (pa_cons (pv 7) pa_nil)))))) pa_nil))))))
      (pss_one (ps_ret (pv 4)))))))), ?_⟩
    · rintro σ H Q ⟨p, mn, ms, r, rfl, lo, mp, e, l, tm, k⟩
      refine ⟨_, rfl, p, 5, rfl, by decide, by decide, lo, fun r1 H1 r0 r1 lo1 u1 => ?_⟩
      have kp1 := lo.kp lo1 u1
      have e1 := u1 mn mp _ e
      refine ⟨_, _, rfl, rfl, _, rfl, ite2 (fun _ => ?_) (fun _ => ?_)⟩
      · refine ⟨_, rfl, _, rfl, mn, ms, rfl, SqL.of e1, fun l2 nl => ?_⟩
        have g := grow (o := .lst (cutV ms none (some 6))) nl
        refine k l2 _ _ ?_ upd_same (.inl (cut6 l)) (fun s hs => ((tm s (mem_cut hs)).kp kp1).kp (.of g)) (lo1.same g) (u1.trans (.of g))
        cases q : H l2 with
        | none => rfl
        | some o =>
          rw [u1 l2 (lo1.ne nl) o q] at nl
          cases nl
      · refine ⟨_, rfl, _, rfl, _, rfl, mn, ms, rfl, SqL.of e1, fun l2 nl => ?_⟩
        have g := grow (o := .lst (cutV ms none (some 6))) nl
        refine ⟨p, l2, _, 4, rfl, upd_same, by rw [cut6 l]; decide, by decide, lo1.same g, fun l3 ys H' n3 e3 l3' m3 lo3 u3 => ?_⟩
        have kp3 := (lo1.same g).kp lo3 u3
        refine k l3 ys H' ?_ e3 (.inr ?_) (fun s hs => (((tm s (mem_cut (m3 s hs))).kp kp1).kp (.of g)).kp kp3) lo3 ((u1.trans (.of g)).trans u3)
        · have n3 := same_none g n3
          cases q : H l3 with
          | none => rfl
          | some o =>
            rw [u1 l3 (lo1.ne n3) o q] at n3
            cases n3
        · rw [cut6 l] at l3'
          have : ((6 : Nat) : Int) < 4 ↔ False := by decide
          rw [if_neg (by decide)] at l3'
          omega
    · refine ⟨rfl, fun mn ms H1 s1 n1 e1 l1 t1 => ?_⟩
      have mp := lo.ne n1
      refine ⟨p, mn, ms, _, rfl, lo.same s1, mp, e1, l1, t1, fun sh ss H2 n2 e2 l2 t2 lo2 u2 => ?_⟩
      have u02 : But p H H2 := (But.of s1).trans u2
      have e1' := u2 mn mp _ e1
      have t1' := fun m hm => (t1 m hm).kp ((lo.same s1).kp lo2 u2)
      refine ⟨_, rfl, _, rfl, _, rfl, _, rfl, _, rfl, ?_⟩
      unfold tNoPart
      refine ⟨mn, ms, rfl, SqL.of e1', fun l3 n3 => ?_⟩
      have g3 : Same H2 (upd H2 l3 (.lst (cutV ms (some 6) none))) := grow n3
      have e3 : (upd H2 l3 (.lst (cutV ms (some 6) none))) l3 = some (.lst (cutV ms (some 6) none)) := upd_same
      revert g3 e3
      generalize upd H2 l3 (.lst (cutV ms (some 6) none)) = H3
      intro g3 e3
      have lo3 := lo2.same g3
      have n3p := lo2.ne n3
      refine ⟨_, rfl, sh, ss, rfl, .inl (SqL.of (g3 _ _ e2)), _, _, rfl, rfl, p, l3, _, _, rfl, e3, by rw [cut12 l1]; decide, by omega, lo3, fun l4 ys H4 n4 e4 y4 m4 lo4 u4 => ?_⟩
      have u04 : But p H H4 := (u02.trans (.of g3)).trans u4
      have shp : sh ≠ p := (lo.same s1).ne n2
      have k4 : Kp H3 H4 := lo3.kp lo4 u4
      have e2' := u4 sh shp _ (g3 _ _ e2)
      have ly : ss.length + ys.length = 8 := by
        rw [cut12 l1] at y4
        rcases l2 with l2 | l2 <;> rw [l2] at y4 ⊢ <;> rw [if_neg (by decide)] at y4 <;> omega
      have t4 : ∀ x ∈ ss ++ ys, Tu H4 2 x := fun x hx => by
        rcases List.mem_append.mp hx with hx | hx
        · exact ((t2 x hx).kp (.of g3)).kp k4
        · exact ((t1' x (mem_cut (m4 x hx))).kp (.of g3)).kp k4
      refine ⟨sh, l4, ss, ys, rfl, rfl, e2', e4, by rw [ly]; decide, fun l5 n5 => ?_⟩
      have g5 : Same H4 (upd H4 l5 (.lst (ss ++ ys))) := grow n5
      have e5 : (upd H4 l5 (.lst (ss ++ ys))) l5 = some (.lst (ss ++ ys)) := upd_same
      revert g5 e5
      generalize upd H4 l5 (.lst (ss ++ ys)) = H5
      intro g5 e5
      have lo5 := lo4.same g5
      have l8 : (ss ++ ys).length = 8 := by rw [List.length_append, ly]
      refine ⟨p, l5, _, 8, rfl, e5, by rw [l8]; decide, by decide, lo5, fun sp sx H6 n6 e6 y6 m6 lo6 u6 => ?_⟩
      have u06 : But p H H6 := (u04.trans (.of g5)).trans u6
      have sp0 : sp ≠ p := lo5.ne n6
      have t6 : ∀ x ∈ sx, Tu H6 2 x := fun x hx => ((t4 x (m6 x hx)).kp (.of g5)).kp (lo5.kp lo6 u6)
      have l6 : sx.length = 8 := by
        rw [l8, if_neg (by decide)] at y6
        omega
      -- the names
      refine ⟨_, rfl, by simp [Lit.ok, Lit.okA], fun nu H7 s7 a7 => ?_⟩
      cases a7 with
      | @l nl7 nv _ n7 e7 h7 =>
      have d7 := LitAll.dt (g := gN) (m := 0) hgN h7 (by decide +kernel)
      have ln7 : nv.length = 8 := h7.len
      have lo7 := lo6.same s7
      have e6 := s7 _ _ e6
      refine ⟨_, rfl, sp, sx, rfl, .inl (SqL.of e6), p, nl7, nv, _, rfl, e7, by rw [ln7]; decide, by omega, lo7, fun np nx H8 n8 e8 y8 m8 lo8 u8 => ?_⟩
      have u08 : But p H H8 := (u06.trans (.of s7)).trans u8
      have k68 : Kp H6 H8 := (Kp.of s7).trans (lo7.kp lo8 u8)
      have np0 : np ≠ p := lo7.ne n8
      have d8 : ∀ x ∈ nx, Dt H8 5 0 (fz 0) x := fun x hx => (d7 x (m8 x hx)).kp (lo7.kp lo8 u8)
      have l8' : nx.length = 8 := by
        rw [ln7, l6, if_neg (by decide)] at y8
        omega
      have e6 := u8 sp sp0 _ e6
      have t8 : ∀ x ∈ sx, Tu H8 2 x := fun x hx => (t6 x hx).kp k68
      refine ⟨by show 0 ≤ sizeLine; decide, fun fd nf => ?_⟩
      have fd0 : fd ≠ p := lo8.ne nf
      have sp_fd : sp ≠ fd := ne_of_none e6 nf
      have np_fd : np ≠ fd := ne_of_none e8 nf
      have nf0 : H fd = none := by
        cases q : H fd with
        | none => rfl
        | some o =>
          rw [u08 fd fd0 o q] at nf
          cases nf
      have g9 : Same H8 (upd H8 fd (.lst [])) := grow nf
      have e9 : (upd H8 fd (.lst [])) fd = some (.lst []) := upd_same
      revert g9 e9
      generalize upd H8 fd (.lst []) = H9
      intro g9 e9
      have line : (1000 : Nat) < sizeLine := by decide
      refine ⟨_, rfl, _, rfl, np, sp, nx, sx, rfl, SqL.of (g9 _ _ e8), SqL.of (g9 _ _ e6), for_it (walk_zip (n := 8) (by rw [l8', l6]; rfl)) (fun i σ H' => ∃ o5 o6 o7 rs, σ = [some (.ref p), some (.ref mn), some (.ref sp), some (.ref np), some (.ref fd), o5, o6, o7] ∧ But p H H' ∧ Urn H' p ∧ H' sp = some (.lst sx) ∧ H' np = some (.lst nx) ∧ H' fd = some (.lst rs) ∧ rs.length = i ∧
          (∀ x ∈ rs, Rule H' x) ∧ (∀ x ∈ sx, Tu H' 2 x) ∧ (∀ x ∈ nx, Dt H' 5 0 (fz 0) x))
        ⟨none, none, none, [], rfl, u08.trans (.of g9), lo8.same g9, g9 _ _ e6, g9 _ _ e8, e9, rfl, (fun x hx => by cases hx), (fun x hx => (t8 x hx).kp (.of g9)), (fun x hx => (d8 x hx).kp (.of g9))⟩
        (fun i σ H' _ ⟨_, _, _, _, _, _, _, es, en, _⟩ => ⟨SqL.of en, SqL.of es⟩) ?_ ?_⟩
      · rintro i v σ K0 K1 hi ⟨o5, o6, o7, rs, rfl, b0, lo0, es, en, ef, lr, tr, ts, tn⟩ ⟨T3, x, y, rfl, nT, rfl, hx, hy⟩
        have g1 : Same K0 (upd K0 T3 (.tup [x, y])) := grow nT
        have eT : (upd K0 T3 (.tup [x, y])) T3 = some (.tup [x, y]) := upd_same
        revert g1 eT
        generalize upd K0 T3 (.tup [x, y]) = K1
        intro g1 eT
        refine ⟨T3, _, rfl, SqT.of eT, rfl, _, _, rfl, _, _, rfl, rfl, ?_⟩
        refine ⟨_, rfl, by simp [Lit.ok, Lit.okA], fun uu K2 s2 a2 => ?_⟩
        cases a2 with
        | @l ul uv _ n2' e2' h2 =>
        have tu2 := LitAll.tu (g := gN) (tv := tN) (m := 1) hgN htN h2 (by decide +kernel)
        have g02 := g1.trans s2
        have loK := lo0.same g02
        have lnu : uv.length = 4 := h2.len
        refine ⟨p, ul, uv, rfl, e2', (by intro z; rw [z] at lnu; cases lnu), by rw [lnu]; decide, (lo0.same g1).ne n2', loK, fun us us_in K3 lo3' u3' => ?_⟩
        have b3 : But p K0 K3 := (But.of g02).trans u3'
        have kp3 : Kp K0 K3 := lo0.kp lo3' b3
        have tus : Tu K3 1 us := (tu2 us us_in).kp (loK.kp lo3' u3')
        refine ⟨_, rfl, .inl ⟨rfl, _, SqL.of (b3 fd fd0 _ ef)⟩, ?_⟩
        refine ⟨_, rfl, _, rfl, _, rfl, p, 4, rfl, by decide, by decide, lo3', fun tk K4 k0 k1 lo4' u4' => ?_⟩
        refine ⟨_, _, rfl, rfl, _, rfl, p, 5, rfl, by decide, by decide, lo4', fun co K5 c0 c1 lo5' u5' => ?_⟩
        have b5 : But p K0 K5 := (b3.trans u4').trans u5'
        have kp5 : Kp K0 K5 := lo0.kp lo5' b5
        have kp35 : Kp K3 K5 := lo3'.kp lo5' (u4'.trans u5')
        refine ⟨_, rfl, by show 5 ≤ sizeLine; decide, fun rl nr => ?_⟩
        have g6 : Same K5 (upd K5 rl (.tup [x, y, .int (1 + tk), .int co, us])) := grow nr
        have e6' : (upd K5 rl (.tup [x, y, .int (1 + tk), .int co, us])) rl = some (.tup [x, y, .int (1 + tk), .int co, us]) := upd_same
        revert g6 e6'
        generalize upd K5 rl (.tup [x, y, .int (1 + tk), .int co, us]) = K6
        intro g6 e6'
        have ef6 := g6 _ _ (b5 fd fd0 _ ef)
        have kp6 : Kp K0 K6 := kp5.trans (.of g6)
        have ru : Rule K6 (.ref rl) := ⟨rl, x, y, 1 + tk, co, us, rfl, e6', ((tn x (List.mem_of_getElem? hx)).kp kp6), ((ts y (List.mem_of_getElem? hy)).kp kp6), by omega, by omega, c0, by omega, (tus.kp kp35).kp (.of g6)⟩
        have kp7 : Kp K6 (upd K6 fd (.lst (rs ++ [.ref rl]))) := Kp.upd ef6
        refine ⟨fd, rs, _, rfl, rfl, ef6, by omega, _, _, _, _, rfl, ?_, ?_, ?_, ?_, upd_same, ?_, ?_, ?_, ?_⟩
        · intro q hq o eq
          rw [upd_ne (ne_of_none eq nf0)]
          exact g6 _ _ (b5 q hq _ (b0 q hq _ eq))
        · obtain ⟨x1, x2, x3, ex, r⟩ := lo5'.same g6
          exact ⟨x1, x2, x3, by rw [upd_ne fd0.symm]; exact ex, r⟩
        · rw [upd_ne sp_fd]
          exact g6 _ _ (b5 sp sp0 _ es)
        · rw [upd_ne np_fd]
          exact g6 _ _ (b5 np np0 _ en)
        · rw [List.length_append, List.length_singleton, lr]
        · intro z hz
          rcases List.mem_append.mp hz with hz | hz
          · exact ((tr z hz).kp kp6).kp kp7
          · rw [List.mem_singleton.mp hz]
            exact ru.kp kp7
        · exact fun z hz => ((ts z hz).kp kp6).kp kp7
        · exact fun z hz => ((tn z hz).kp kp6).kp kp7
      · rintro σ K0 ⟨o5, o6, o7, rs, rfl, b0, lo0, es, en, ef, lr, tr, ts, tn⟩
        exact ⟨_, rfl, k fd rs K0 nf0 ef (by intro z; rw [z] at lr; cases lr) (by omega) tr lo0 b0⟩
end
end K18
namespace K18
open PySem L2
open L2.My
theorem sl_go2 {K : PySem.W.Frag} {H : Hp} {a : Addr} {xs : List V} {lo hi : Option Int} {Q : VK} (e : H a = some (.tup xs)) (k : ∀ b H', Same H H' → H' b = some (.tup (cutV xs lo hi)) → Q (.ref b) H') : rSlA K (.ref a) lo hi H Q := by
  refine ⟨a, xs, rfl, SqT.of e, fun z => k a H (Same.refl H) ?_, fun _ p np => k p _ (grow np) upd_same⟩
  have c : cutV xs lo hi = xs := by
    unfold cutV
    rw [z.1, z.2]
    simp
  rw [c]
  exact e
theorem cat_go {K : PySem.W.Frag} {H : Hp} {a b : Addr} {xs ys : List V} {Q : VK} (e : H a = some (.tup xs)) (e2 : H b = some (.tup ys)) (l : xs.length + ys.length ≤ sizeLine) (k : ∀ c H', Same H H' → H' c = some (.tup (xs ++ ys)) → Q (.ref c) H') : rCatA K (.ref a) (.ref b) H Q := by
  refine ⟨a, b, xs, ys, rfl, rfl, SqT.of e, SqT.of e2, l, fun z => k b H (Same.refl H) ?_, fun _ z => k a H (Same.refl H) ?_, fun _ _ p np => k p _ (grow np) upd_same⟩
  · rw [z]
    exact e2
  · rw [z, List.append_nil]
    exact e
theorem cutHi {xs : List V} {k : Nat} (h : k ≤ xs.length) : (cutV xs none (some (k : Int))).length = k := by
  unfold cutV
  rw [HT.sIx_none, HT.sIx_nat, List.length_take, List.length_drop]
  omega
theorem cutLo {xs : List V} {k : Nat} (h : k ≤ xs.length) : (cutV xs (some (k : Int)) none).length = xs.length - k := by
  unfold cutV
  rw [HT.sIx_none, HT.sIx_nat, List.length_take, List.length_drop]
  omega
theorem Dt.tv {H : Hp} {N M n c : Nat} {v : V} (t : Dt H N n c v) (h : N ≤ M) : Tv H M n v := by
  have e40 : (10 ^ 39 : Nat) < 10 ^ 40 := by decide
  induction t with
  | non hc => exact .non
  | bl b hc => exact .bl b
  | int i h g hc => exact .int i (Nat.lt_trans h e40)
  | str z h g hc => exact .str z h
  | tup e l _ hc ih => exact .tup e (Nat.le_trans l h) ih
theorem Dv_tv {H : Hp} {p : Addr} {N M n c : Nat} {v : V} (t : Dv H p N n c v) (h : N ≤ M) : Tv H M n v := by
  have e40 : (10 ^ 39 : Nat) < 10 ^ 40 := by decide
  induction t with
  | non hc => exact .non
  | bl b hc => exact .bl b
  | int i h g hc => exact .int i (Nat.lt_trans h e40)
  | str z h g hc => exact .str z h
  | tup e ap l _ hc ih => exact .tup e (Nat.le_trans l h) ih
  | lst e ap l _ hc ih => exact .lst e
abbrev CB : Nat := 5434
theorem fz3 : fz 3 = CB := by decide
def RB : Nat → Nat
  | 0 => 26 + 11 * CB
  | n + 1 => 26 + 11 * CB + 5 * RB n
def RI : Nat → Nat
  | 0 => CB
  | n + 1 => RB n
theorem RB_big : ∀ n, 26 + 11 * CB ≤ RB n
  | 0 => Nat.le_refl _
  | n + 1 => Nat.le_add_right _ _
theorem RI_big : ∀ n, CB ≤ RI n
  | 0 => Nat.le_refl _
  | n + 1 => Nat.le_trans (by decide) (RB_big n)
theorem RI_RB : ∀ n, 14 + 5 * RI n ≤ RB n
  | 0 => by decide
  | n + 1 => by
    show 14 + 5 * RB n ≤ 26 + 11 * CB + 5 * RB n
    omega
/-- a tuple of at most five items of n levels -/
def Tc (H : Hp) (n : Nat) (v : V) : Prop := ∃ a xs, v = .ref a ∧ H a = some (.tup xs) ∧ xs.length ≤ 5 ∧ ∀ x ∈ xs, Dt H 5 n CB x
theorem Tc.kp {H H' : Hp} {q : Nat} {v : V} (t : Tc H q v) (s : Kp H H') : Tc H' q v := by
  obtain ⟨a, xs, rfl, e, l, hx⟩ := t
  exact ⟨a, xs, rfl, s.tup _ _ e, l, fun x hm => (hx x hm).kp s⟩
theorem Tu.tc {H : Hp} {q n : Nat} {v : V} (t : Tu H q v) (h : q ≤ n) (h3 : q ≤ 3) : Tc H n v := by
  obtain ⟨a, xs, rfl, e, l, hx⟩ := t
  exact ⟨a, xs, rfl, e, l, fun x hm => (hx x hm).wk h (fz3 ▸ fz_up h3)⟩
theorem mkD {H : Hp} {p b : Addr} {n m M : Nat} {ys : List V} (hp : IsL H p) (e : H b = some (.tup ys)) (l : ys.length ≤ 11) (h : ∀ y ∈ ys, Dv H p 11 (n + 2) m y) (hc : 4 + ys.length * (m + 2) ≤ M) : Dv H p 11 (n + 3) M (.ref b) := by
  refine .tup e (fun z => ?_) l h hc
  obtain ⟨zs, e2⟩ := hp
  rw [z, e2] at e
  cases e
theorem mk11 {H : Hp} {p b : Addr} {n : Nat} {ys : List V} (hp : IsL H p) (e : H b = some (.tup ys)) (l : ys.length ≤ 11) (h : ∀ y ∈ ys, Dv H p 11 (n + 2) CB y) : Dv H p 11 (n + 3) (RB n) (.ref b) := by
  refine mkD hp e l h ?_
  have := RB_big n
  have := Nat.mul_le_mul_right (CB + 2) l
  omega
theorem mk5 {H : Hp} {p b : Addr} {n : Nat} {ys : List V} (hp : IsL H p) (e : H b = some (.tup ys)) (l : ys.length ≤ 5) (h : ∀ y ∈ ys, Dv H p 11 (n + 2) (RI n) y) : Dv H p 11 (n + 3) (RB n) (.ref b) := by
  refine mkD hp e (by omega) h ?_
  have := RI_RB n
  have := Nat.mul_le_mul_right (RI n + 2) l
  omega
theorem dtW {H : Hp} {p : Addr} {n : Nat} {x : V} (hp : IsL H p) (t : Dt H 5 n CB x) : Dv H p 11 (n + 2) CB x := (t.dv hp).wk (by decide) (by omega) (Nat.le_refl _)
section
variable {X : Cx}
theorem pl_rep2 {e : Expr} {x : Lit} {j pos pos2} (h : PE X e (tLit (.t [x]))) : PE X (.BinOp e .Mult (.Constant (.int 2) j pos) pos2) (tLit (.t [x, x])) := PE.of (pe_op op_repT h pe_int) fun σ H Q q => by
  obtain ⟨ok, k⟩ := q
  have ok2 : Lit.ok σ x := by
    rw [Lit.ok, Lit.okA] at ok
    exact ok.2.1
  refine ⟨?_, fun u H1 s1 a1 => ?_⟩
  · rw [Lit.ok, Lit.okA, Lit.okA]
    exact ⟨by simp, ok2, trivial⟩
  · cases a1 with
    | t n e h =>
      cases h with
      | cons h r =>
        cases r
        refine ⟨_, 2, _, rfl, rfl, SqT.of e, by simp, by decide, by decide, by simp, fun p np => k _ _ (s1.trans (grow np)) (.t (same_none s1 np) upd_same ?_)⟩
        exact .cons (h.mono (Same.refl _) (grow np)) (.cons (h.mono (Same.refl _) (grow np)) .nil)
end
end K18
namespace K18
open PySem L2
open L2.My
section
variable {P : Program} {w : World} {K : PySem.W.Frag} {mg : Str → Option Value} {base : Heap}
/-- what the inner value is made of -/
def tIn (n : Nat) : TE := fun σ H Q => ∃ p a xs at_ o os r, σ = some (.ref p) :: some (.ref a) :: some (.int ((at_ : Nat) : Int)) :: some (.ref o) :: r ∧ Urn H p ∧ H a = some (.tup xs) ∧ xs.length ≤ 5 ∧ at_ < xs.length ∧ (∀ x ∈ xs, Dt H 5 n CB x) ∧ H o = some (.lst os) ∧ o ≠ p ∧ os ≠ [] ∧ os.length ≤ 1000 ∧
  (∀ x ∈ os, Dv H p 5 2 (fz 2) x) ∧ ∀ x H', Dv H' p 11 (n + 2) (RI n) x → Urn H' p → But p H H' → Q x H'
/-- what is picked at the end -/
def tFin (n : Nat) : TE := fun σ H Q => ∃ p a xs sl zs o2 o3 r, σ = some (.ref p) :: some (.ref a) :: o2 :: o3 :: some (.ref sl) :: r ∧ Urn H p ∧ H a = some (.tup xs) ∧ xs.length ≤ 5 ∧ (∀ x ∈ xs, Dt H 5 n CB x) ∧ H sl = some (.lst zs) ∧ zs.length ≤ 900 ∧ (∀ x ∈ zs, Dv H p 11 (n + 3) (RB n) x) ∧
  ∀ x H', Dv H' p 11 (n + 3) (RB n) x → Urn H' p → But p H H' → Q x H'
theorem hgV {σ : L2.St} {H : Hp} {p : Addr} : ∀ k j u, gN k = some j → σ[k]? = some (some u) → Dv H p 5 j (fz j) u := fun _ _ _ h _ => by cases h
def spBent (n : Nat) : Sp := fun vs H Q _ => ∃ p v, vs = [.ref p, v] ∧ Urn H p ∧ Tc H n v ∧ ∀ x H', Dv H' p 11 (n + 3) (RB n) x → Urn H' p → But p H H' → Q x H'
theorem scBent : FnScope ["_law_urn_here", "_law_value", "_law_at", "_law_odd", "_law_some_here", "_law_inner"] ["_law_urn_here", "_law_value"] (defScope tBent) := ⟨rfl, rfl, rfl, by decide +kernel, rfl, by decide +kernel, by decide +kernel⟩
theorem dv11 {H : Hp} {p : Addr} {n : Nat} {x : V} (h : Dv H p 5 2 (fz 2) x) : Dv H p 11 (n + 2) CB x := h.wk (by decide) (by omega) (by decide)
theorem one_of {H : Hp} {p l : Addr} {xs : List V} {Q : VK} (e : H l = some (.lst xs)) (ne : xs ≠ []) (le : xs.length ≤ 1000) (lp : l ≠ p) (lo : Urn H p) (k : ∀ x ∈ xs, ∀ H', Urn H' p → But p H H' → Q x H') : spOne [.ref p, .ref l] H Q E0 :=
  ⟨p, l, xs, rfl, e, ne, le, lp, lo, k⟩
theorem step_bent {n : Nat} {spR : Sp} {f fT fO : Addr} {fd fdT fdO : FuncData} (F : Fun K "_law_bent" "_law_bent" tBent f fd) (T : Bl mg) (bF : Binds K fd ["_law_urn_here", "_law_value"] []) (gF : mg "_law_bent" = some (.ref f))
    (dT : Dn P w K mg base CX0 "_law_pull" ["_law_urn_here", "_law_total"] 1 spPull fT fdT) (dO : Dn P w K mg base CX0 "_law_one" ["_law_urn_here", "_law_items"] 2 spOne fO fdO)
    (GR : FnOk P w K mg base CX0 (2 + n) f fd ["_law_urn_here", "_law_value"] spR) (hR : ∀ q, n = q + 1 → spR = spBent q) :
    FnOk P w K mg base CX0 (2 + n + 1) f fd ["_law_urn_here", "_law_value"] (spBent n) := by
  refine F.ok scBent (fun vs H Q E h => ?_) (fun cdv A outer s H vs Q E hr h => ?_)
  · obtain ⟨p, v, rfl, _⟩ := h
    rfl
  · obtain ⟨p, v, rfl, lo, tv, k⟩ := h
    have hr1 : Room 1 _ := hr.mono (by omega)
    have hr2 : Room 2 _ := hr.mono (by omega)
    have hu := Nat.lt_of_succ_lt (hu_of hr)
    refine ⟨_, pss_cons (ps_par (i := 2) (j := 3) rfl scBent.nd rfl rfl (by decide) rfl rfl (pa_cons (pe_call dT.G hr1 rfl dT.g dT.kp dT.b .nil pass0 (pa_cons (pv 0) (pa_cons (pe_op op_add (pe_callB call_len_seq (by rfl) T.len PySem.boot_len (pa_cons (pv 1) pa_nil)) pe_int) pa_nil)))
          (pa_cons (pl_lst (pl_cons pl_non (pl_cons pl_int (pl_cons pl_bl (pl_cons pl_str (pl_cons pl_str (pl_cons pl_str (pl_cons (pl_tup pl_nil) (pl_cons (pl_tup (pl_cons pl_str pl_nil)) (pl_cons (pl_tup (pl_cons pl_str pl_nil)) (pl_cons (pl_lst pl_nil) (pl_cons pl_neg (pl_cons pl_int (pl_cons pl_int (pl_cons pl_str pl_nil))))))))))))))) pa_nil)) (by rfl))
      (pss_cons (ps_set (i := 3) scBent.nd rfl (.inl rfl) (pe_op op_cat (pv 3) (pl_lst (pl_cons (pl_tup (pl_cons (pl_tup (pl_cons pl_str (pl_cons pl_int pl_nil))) (pl_cons (pl_tup (pl_cons pl_str (pl_cons pl_int pl_nil))) pl_nil))) (pl_cons (pl_tup (pl_cons (pl_tup (pl_cons pl_str (pl_cons pl_int pl_nil))) pl_nil))
          (pl_cons (pl_rep2 (pl_tup (pl_cons (pl_tup (pl_cons pl_str (pl_cons pl_int pl_nil))) pl_nil))) (pl_cons (pl_tup (pl_cons pl_str (pl_cons (pl_tup (pl_cons pl_str pl_nil)) pl_nil))) (pl_cons (pl_tup (pl_cons pl_str (pl_cons pl_str (pl_cons (pl_tup (pl_cons pl_str pl_nil)) pl_nil)))) pl_nil))))))))
      (pss_cons (ps_set (i := 4) scBent.nd rfl (.inl rfl) (pe_lst (pa_cons (pe_op op_catA (pe_slice sl_tupA (pv 1) po_none (po_some (pv 2))) (pe_slice sl_tupA (pv 1) (po_some (pe_op op_add (pv 2) pe_int)) po_none))
          (pa_cons (pe_op op_catA (pe_op op_catA (pe_slice sl_tupA (pv 1) po_none (po_some (pv 2))) (pe_tup (pa_cons (pe_call dO.G hr2 rfl dO.g dO.kp dO.b .nil pass0 (pa_cons (pv 0) (pa_cons (pv 3) pa_nil))) pa_nil))) (pe_slice sl_tupA (pv 1) (po_some (pv 2)) po_none))
          (pa_cons (pe_op op_catA (pv 1) (pv 1)) (pa_cons (pe_callTy call_list_of (by rfl) T.list (by decide +kernel) (pa_cons (pv 1) pa_nil)) pa_nil))))))
      (pss_cons (ps_if (pt_cmpR op_lt (pv 2) (pe_callB call_len_seq (by rfl) T.len PySem.boot_len (pa_cons (pv 1) pa_nil)) (nomark _))
          (pss_cons (ps_set (i := 5) scBent.nd rfl (.inl rfl) (PE.of (t' := tIn n) (pe_ifExp (PW.pt (pw_and (pt_val (pe_callB call_isi (by rfl) T.isi (by decide +kernel) (pa_cons (pe_ix ix_tup (pv 1) (pv 2) (fun _ _ => rfl)) (pa_cons (pe_bltn (v := .ty "tuple") (by rfl) T.tuple (by decide +kernel) rfl) pa_nil))))
              (pw_and1 (pt_cmpR (op_neUnit hu) (pe_ix ix_tup (pv 1) (pv 2) (fun _ _ => rfl)) (pe_tup pa_nil) (nomark _)))))
              (pe_call GR hr rfl gF F.kp bF .nil pass0 (pa_cons (pv 0) (pa_cons (pe_ix ix_tup (pv 1) (pv 2) (fun _ _ => rfl)) pa_nil))) (pe_call dO.G hr2 rfl dO.g dO.kp dO.b .nil pass0 (pa_cons (pv 0) (pa_cons (pv 3) pa_nil)))) ?_))
          (pss_one (ps_set (i := 4) scBent.nd rfl (.inl rfl) (pe_op op_cat (pv 4) (pe_op op_rep (pe_lst (pa_cons (pe_op op_catA (pe_op op_catA (pe_slice sl_tupA (pv 1) po_none (po_some (pv 2))) (pe_tup (pa_cons (pv 5) pa_nil))) (pe_slice sl_tupA (pv 1) (po_some (pe_op op_add (pv 2) pe_int)) po_none)) pa_nil)) pe_int))))) pss_nil)
      (pss_one (ps_ret (PE.of (t' := tFin n) (pe_call dO.G hr2 rfl dO.g dO.kp dO.b .nil pass0 (pa_cons (pv 0) (pa_cons (pe_op op_cat (pv 4) (pe_lst (pa_cons (pv 1) pa_nil))) pa_nil))) ?_)))))), ?_⟩
    · rintro σ H Q ⟨p, a, xs, at_, o, os, r, rfl, lo, e, lx, hat, hx, eo, op, one, ole, dos, k⟩
      have hy := hx _ (List.getElem_mem hat)
      have gy : xs[at_]? = some xs[at_] := List.getElem?_eq_getElem hat
      revert hy gy
      generalize xs[at_] = y
      intro hy gy
      have pick : ∀ H', Same H H' → spOne [.ref p, .ref o] H' Q E0 := fun H' s' => one_of (s' _ _ eo) one ole op (lo.same s') fun x hx H2 lo2 u2 =>
        k x H2 (((dv11 (dos x hx)).keep ((But.of (p := p) s').trans u2)).wk (Nat.le_refl _) (Nat.le_refl _) (RI_big n)) lo2 ((But.of s').trans u2)
      rcases (hy.tv (Nat.le_refl 5)).tupcase (K := K) with ⟨b, ys, rfl, eb, lb, hb⟩ | ⟨nt, u, tyx, kt⟩
      · refine ⟨_, rfl, _, rfl, a, xs, at_, _, rfl, rfl, SqT.of e, atI_nat (j := at_) gy, _, _, _, _, _, rfl, ClsV.ty _, .base (.tup eb), kit_ty (r := true) (by decide +kernel), _, rfl, iteT ?_⟩
        refine ⟨_, rfl, _, rfl, a, xs, at_, _, rfl, rfl, SqT.of e, atI_nat (j := at_) gy, by show 0 ≤ sizeLine; decide, fun t5 nt5 => ?_⟩
        have s0 : Same H (upd H t5 (.tup [])) := grow nt5
        have e6 : (upd H t5 (.tup [])) t5 = some (.tup []) := upd_same
        revert s0 e6
        generalize upd H t5 (.tup []) = K0
        intro s0 e6
        refine ⟨b, t5, ys, rfl, rfl, s0 _ _ eb, e6, _, rfl, ?_⟩
        cases hy with
        | @tup q b' _ _ ys' eb' ly hys hc =>
          rw [eb] at eb'
          cases eb'
          cases ys with
          | nil => exact iteF ⟨_, rfl, _, rfl, pick K0 s0⟩
          | cons y0 yr =>
            refine iteT ?_
            have sR := hR q rfl
            subst sR
            refine ⟨_, rfl, _, rfl, _, rfl, a, xs, at_, _, rfl, rfl, SqT.of (s0 _ _ e), atI_nat (j := at_) gy, p, .ref b, rfl, lo.same s0, ⟨b, _, rfl, s0 _ _ eb, ly, fun x hm => ((hys x hm).kp (.of s0)).wk (Nat.le_refl _) ?_⟩, fun x K2 tx lo5 u5 => ?_⟩
            · have z : (y0 :: yr).length = yr.length + 1 := rfl
              rw [z, Nat.succ_mul] at hc
              omega
            · exact k x K2 tx lo5 ((But.of s0).trans u5)
      · exact ⟨_, rfl, _, rfl, a, xs, at_, _, rfl, rfl, SqT.of e, atI_nat (j := at_) gy, _, _, _, _, _, rfl, ClsV.ty _, tyx, kt, _, rfl, iteF ⟨_, rfl, _, rfl, pick H (Same.refl H)⟩⟩
    · rintro σ H Q ⟨p, a, xs, sl, zs, o2, o3, r, rfl, lo, e, lx, hx, es, lz, tz, k⟩
      have line : (1000 : Nat) < sizeLine := by decide
      refine ⟨_, rfl, _, rfl, _, rfl, by show 1 ≤ sizeLine; decide, fun l1 n1 => ?_⟩
      have g1 := grow (o := .lst [.ref a]) n1
      refine ⟨sl, l1, zs, [.ref a], rfl, rfl, g1 _ _ es, upd_same, by rw [List.length_singleton]; omega, fun l2 n2 => ?_⟩
      have g2 := grow (o := .lst (zs ++ [.ref a])) n2
      have g12 := g1.trans g2
      refine one_of upd_same (by simp) (by rw [List.length_append, List.length_singleton]; omega) ((lo.same g1).ne n2) (lo.same g12) fun x hx2 H2 lo2 u2 => ?_
      have b2 : But p H H2 := (But.of g12).trans u2
      rcases List.mem_append.mp hx2 with hx2 | hx2
      · exact k x H2 ((tz x hx2).keep b2) lo2 b2
      · rw [List.mem_singleton.mp hx2]
        refine k _ H2 ((mk11 lo.isL e (by omega) fun y hy => dtW lo.isL (hx y hy)).keep b2) lo2 b2
    · obtain ⟨a, xs, rfl, e, lx, hx⟩ := tv
      have line : (1000 : Nat) < sizeLine := by decide
      refine ⟨_, rfl, _, rfl, a, xs, rfl, .inr (SqT.of e), _, _, rfl, rfl, p, (xs.length : Int) + 1, rfl, by omega, by omega, lo, fun r H1 r0 r1 lo1 u1 => ?_⟩
      obtain ⟨at_, rfl⟩ := Int.eq_ofNat_of_zero_le r0
      have hat : at_ ≤ xs.length := by omega
      refine ⟨by simp [Lit.ok, Lit.okA], fun lu H2 s2 a2 => ⟨_, _, rfl, ?_⟩⟩
      cases a2 with
      | @l l2 os1 _ n2 e2 h2 =>
      obtain ⟨o1, ho1⟩ := lo1.some
      have ln1 : os1.length = 14 := h2.len
      have d2 := LitAll.dv (g := gN) (p := p) (m := 2) ho1 hgV h2 (by decide +kernel)
      refine ⟨_, rfl, by simp [Lit.ok, Lit.okA], fun lu2 H3 s3 a3 => ?_⟩
      cases a3 with
      | @l l3 os2 _ n3 e3 h3 =>
      have ln2 : os2.length = 5 := h3.len
      have d3 := LitAll.dv (g := gN) (p := p) (m := 2) (s2 _ _ ho1) hgV h3 (by decide +kernel)
      refine ⟨l2, l3, os1, os2, rfl, rfl, s3 _ _ e2, e3, by omega, fun l4 n4 => ?_⟩
      have g4 : Same H3 (upd H3 l4 (.lst (os1 ++ os2))) := grow n4
      have e4 : (upd H3 l4 (.lst (os1 ++ os2))) l4 = some (.lst (os1 ++ os2)) := upd_same
      revert g4 e4
      generalize upd H3 l4 (.lst (os1 ++ os2)) = H4
      intro g4 e4
      have dos : ∀ x ∈ os1 ++ os2, Dv H4 p 5 2 (fz 2) x := fun x hx => by
        rcases List.mem_append.mp hx with hx | hx
        · exact (d2 x hx).keep (But.of (p := p) (s3.trans g4))
        · exact (d3 x hx).keep (But.of (p := p) g4)
      have lno : (os1 ++ os2).length = 19 := by rw [List.length_append, ln1, ln2]
      have l4p : l4 ≠ p := (lo1.same (s2.trans s3)).ne n4
      clear d2 d3 h2 h3 e2 e3
      revert dos lno e4
      generalize os1 ++ os2 = os
      intro e4 dos lno
      have one : os ≠ [] := by
        intro z
        rw [z] at lno
        cases lno
      have s14 : Same H1 H4 := (s2.trans s3).trans g4
      have lo4 := lo1.same s14
      have u4 : But p H H4 := u1.trans (.of s14)
      have kp4 := lo.kp lo4 u4
      have ea := kp4.tup _ _ e
      have hx4 : ∀ x ∈ xs, Dt H4 5 n CB x := fun x hm => (hx x hm).kp kp4
      have lc : ∀ lo hi, (cutV xs lo hi).length ≤ 5 := fun lo hi => Nat.le_trans (cutV_length xs lo hi) lx
      -- the first
      refine ⟨_, rfl, _, rfl, _, rfl, sl_go2 ea fun b1 K1 q1 eb1 => ?_⟩
      refine ⟨_, rfl, _, rfl, _, _, rfl, rfl, _, rfl, ?_⟩
      unfold tNoPart
      refine sl_go2 (q1 _ _ ea) fun b2 K2 q2 eb2 => ?_
      refine cat_go (q2 _ _ eb1) eb2 (by have := lc none (some (at_ : Int)); have := lc (some ((at_ : Int) + 1)) none; omega) fun c1 K3 q3 ec1 => ?_
      have q13 := (q1.trans q2).trans q3
      have m1 : Dv K3 p 11 (n + 3) (RB n) (.ref c1) := mk11 (lo4.same q13).isL ec1 (by rw [List.length_append]; have := lc none (some (at_ : Int)); have := lc (some ((at_ : Int) + 1)) none; omega) fun y hy => by
        refine (dtW lo4.isL (hx4 y ?_)).keep (But.of (p := p) q13)
        rcases List.mem_append.mp hy with hy | hy <;> exact mem_cut hy
      -- the second
      refine ⟨_, rfl, _, rfl, _, rfl, sl_go2 (q13 _ _ ea) fun b4 K4 q4 eb4 => ?_⟩
      have q14 := q13.trans q4
      refine ⟨_, rfl, _, rfl, one_of (q14 _ _ e4) one (by omega) l4p (lo4.same q14) fun od hod K5 lo5 u5 => ?_⟩
      have kp5 : Kp K4 K5 := (lo4.same q14).kp lo5 u5
      have b5 : But p H4 K5 := (But.of q14).trans u5
      have kp45 : Kp H4 K5 := lo4.kp lo5 b5
      refine ⟨by show 1 ≤ sizeLine; decide, fun t6 n6 => ?_⟩
      have g6 : Same K5 (upd K5 t6 (.tup [od])) := grow n6
      refine cat_go (g6 _ _ (kp5.tup _ _ eb4)) upd_same (by have := lc none (some (at_ : Int)); rw [List.length_singleton]; omega) fun b7 K7 q7 eb7 => ?_
      have q57 := g6.trans q7
      refine ⟨_, rfl, _, rfl, _, rfl, ?_⟩
      refine sl_go2 (q57 _ _ (kp45.tup _ _ ea)) fun b8 K8 q8 eb8 => ?_
      refine cat_go (q8 _ _ eb7) eb8 (by have := lc none (some (at_ : Int)); have := lc (some (at_ : Int)) none; rw [List.length_append, List.length_singleton]; omega) fun c2 K9 q9 ec2 => ?_
      have q59 := (q57.trans q8).trans q9
      have b9 : But p H4 K9 := b5.trans (.of q59)
      have lo9 := lo5.same q59
      have m2 : Dv K9 p 11 (n + 3) (RB n) (.ref c2) := mk11 lo9.isL ec2 (by rw [List.length_append, List.length_append, List.length_singleton]; have := lc none (some (at_ : Int)); have := lc (some (at_ : Int)) none; omega) fun y hy => by
        rcases List.mem_append.mp hy with hy | hy
        · rcases List.mem_append.mp hy with hy | hy
          · exact (dtW lo4.isL (hx4 y (mem_cut hy))).keep b9
          · rw [List.mem_singleton.mp hy]
            exact (dv11 (dos od hod)).keep b9
        · exact (dtW lo4.isL (hx4 y (mem_cut hy))).keep b9
      have m1 := m1.keep ((But.of (p := p) q4).trans (u5.trans (.of q59)))
      have kp9 : Kp H4 K9 := lo4.kp lo9 b9
      have ea9 := kp9.tup _ _ ea
      -- the third
      refine ⟨_, rfl, _, rfl, cat_go ea9 ea9 (by omega) fun c3 K10 q10 ec3 => ?_⟩
      have lo10 := lo9.same q10
      have m3 : Dv K10 p 11 (n + 3) (RB n) (.ref c3) := mk11 lo10.isL ec3 (by rw [List.length_append]; omega) fun y hy => by
        refine (dtW lo4.isL (hx4 y ?_)).keep (b9.trans (.of q10))
        rcases List.mem_append.mp hy with hy | hy <;> exact hy
      -- the fourth
      refine ⟨_, rfl, a, xs, rfl, .inr (SqT.of (q10 _ _ ea9)), fun c4 n11 => ?_⟩
      have g11 : Same K10 (upd K10 c4 (.lst xs)) := grow n11
      have e11 : (upd K10 c4 (.lst xs)) c4 = some (.lst xs) := upd_same
      revert g11 e11
      generalize upd K10 c4 (.lst xs) = K11
      intro g11 e11
      have q911 := q10.trans g11
      have b11 : But p H4 K11 := b9.trans (.of q911)
      have lo11 := lo9.same q911
      have m4 : Dv K11 p 11 (n + 3) (RB n) (.ref c4) := by
        refine .lst e11 (lo10.ne n11) (by omega) (fun y hy => (dtW lo4.isL (hx4 y hy)).keep b11) ?_
        have := RB_big n
        have := Nat.mul_le_mul_right (CB + 2) lx
        omega
      refine ⟨by show 4 ≤ sizeLine; decide, fun sl nsl => ?_⟩
      have g12 : Same K11 (upd K11 sl (.lst [.ref c1, .ref c2, .ref c3, .ref c4])) := grow nsl
      have e12 : (upd K11 sl (.lst [.ref c1, .ref c2, .ref c3, .ref c4])) sl = some (.lst [.ref c1, .ref c2, .ref c3, .ref c4]) := upd_same
      revert g12 e12
      generalize hzs : ([.ref c1, .ref c2, .ref c3, .ref c4] : List V) = zs
      generalize upd K11 sl (.lst zs) = K12
      intro g12 e12
      have q912 := q911.trans g12
      have lo12 := lo9.same q912
      have b12 : But p H4 K12 := b9.trans (.of q912)
      have kp12 : Kp H4 K12 := lo4.kp lo12 b12
      have ea12 := kp12.tup _ _ ea
      have hx12 : ∀ x ∈ xs, Dt K12 5 n CB x := fun x hm => (hx4 x hm).kp kp12
      have slp : sl ≠ p := lo11.ne nsl
      have lzs : zs.length = 4 := by rw [← hzs]; rfl
      have dz : ∀ x ∈ zs, Dv K12 p 11 (n + 3) (RB n) x := fun x hx => by
        rw [← hzs] at hx
        simp only [List.mem_cons, List.not_mem_nil, or_false] at hx
        rcases hx with rfl | rfl | rfl | rfl
        · exact m1.keep (But.of (p := p) q912)
        · exact m2.keep (But.of (p := p) q912)
        · exact m3.keep (But.of (p := p) (g11.trans g12))
        · exact m4.keep (But.of (p := p) g12)
      have b012 : But p H K12 := u4.trans b12
      refine ⟨_, rfl, _, rfl, a, xs, rfl, .inr (SqT.of ea12), _, _, rfl, rfl, _, rfl, ?_⟩
      refine ite2 (fun c => ?_) (fun c => ?_)
      · have hlt : at_ < xs.length := by
          have := of_decide_eq_true c
          omega
        have l4e := b12 l4 l4p _ e4
        refine ⟨p, a, xs, at_, l4, os, _, rfl, lo12, ea12, lx, hlt, hx12, l4e, l4p, one, by omega, fun x hx => (dos x hx).keep b12, fun inn K13 dinn lo13 u13 => ?_⟩
        have kp13 : Kp K12 K13 := lo12.kp lo13 u13
        have ea13 := kp13.tup _ _ ea12
        refine ⟨_, rfl, _, rfl, _, rfl, _, rfl, sl_go2 ea13 fun b14 K14 q14' eb14 => ?_⟩
        refine ⟨_, rfl, by show 1 ≤ sizeLine; decide, fun t15 n15 => ?_⟩
        have g15 : Same K14 (upd K14 t15 (.tup [inn])) := grow n15
        refine cat_go (g15 _ _ eb14) upd_same (by have := lc none (some (at_ : Int)); rw [List.length_singleton]; omega) fun b16 K16 q16 eb16 => ?_
        have q1316 := (q14'.trans g15).trans q16
        refine ⟨_, rfl, _, rfl, _, _, rfl, rfl, _, rfl, ?_⟩
        refine sl_go2 (q1316 _ _ ea13) fun b17 K17 q17 eb17 => ?_
        refine cat_go (q17 _ _ eb16) eb17 (by have := lc none (some (at_ : Int)); have := lc (some ((at_ : Int) + 1)) none; rw [List.length_append, List.length_singleton]; omega) fun c5 K18 q18 ec5 => ?_
        have q1318 := (q1316.trans q17).trans q18
        have lo18 := lo13.same q1318
        have b18 : But p H4 K18 := (b12.trans u13).trans (.of q1318)
        have ci : ((at_ : Int) + 1) = ((at_ + 1 : Nat) : Int) := by omega
        have m5 : Dv K18 p 11 (n + 3) (RB n) (.ref c5) := by
          refine mk5 lo18.isL ec5 ?_ fun y hy => ?_
          · rw [List.length_append, List.length_append, List.length_singleton, cutHi hat, ci, cutLo (by omega)]
            omega
          · have part : ∀ y ∈ xs, Dv K18 p 11 (n + 2) (RI n) y := fun y hy => ((dtW lo4.isL (hx4 y hy)).keep b18).wk (Nat.le_refl _) (Nat.le_refl _) (RI_big n)
            rcases List.mem_append.mp hy with hy | hy
            · rcases List.mem_append.mp hy with hy | hy
              · exact part y (mem_cut hy)
              · rw [List.mem_singleton.mp hy]
                exact dinn.keep (But.of (p := p) q1318)
            · exact part y (mem_cut hy)
        refine ⟨by show 1 ≤ sizeLine; decide, fun l19 n19 => ?_⟩
        have g19 : Same K18 (upd K18 l19 (.lst [.ref c5])) := grow n19
        refine ⟨l19, 3, _, rfl, rfl, upd_same, by decide, by decide, by show 1 * 3 ≤ sizeLine; decide, fun l20 n20 => ?_⟩
        have g20 := g19.trans (grow (o := .lst (List.replicate (3 : Int).toNat [V.ref c5]).flatten) n20)
        have e20 : (upd (upd K18 l19 (.lst [.ref c5])) l20 (.lst (List.replicate (3 : Int).toNat [V.ref c5]).flatten)) l20 = some (.lst (List.replicate (3 : Int).toNat [V.ref c5]).flatten) := upd_same
        revert g20 e20
        generalize upd (upd K18 l19 (.lst [.ref c5])) l20 (.lst (List.replicate (3 : Int).toNat [V.ref c5]).flatten) = K20
        intro g20 e20
        have q1320 := q1318.trans g20
        have b1220 : But p K12 K20 := u13.trans (.of q1320)
        have e21 := b1220 sl slp _ e12
        have rep : (List.replicate (3 : Int).toNat [V.ref c5]).flatten = [.ref c5, .ref c5, .ref c5] := rfl
        rw [rep] at e20
        refine ⟨sl, l20, zs, _, rfl, rfl, e21, e20, by rw [lzs]; show 7 ≤ sizeLine; decide, fun l22 n22 => ?_⟩
        have g22 : Same K20 (upd K20 l22 (.lst (zs ++ [.ref c5, .ref c5, .ref c5]))) := grow n22
        have b1222 := b1220.trans (But.of (p := p) g22)
        have lo22 := lo13.same (q1320.trans g22)
        have kp22 : Kp K12 _ := lo12.kp lo22 b1222
        refine ⟨p, a, xs, l22, _, _, _, _, rfl, lo22, kp22.tup _ _ ea12, lx, fun x hm => (hx12 x hm).kp kp22, upd_same, by rw [List.length_append, lzs]; show 7 ≤ 900; decide, fun x hx => ?_, fun x H' dx lo' u' => k x H' dx lo' ((b012.trans b1222).trans u')⟩
        rcases List.mem_append.mp hx with hx | hx
        · exact (dz x hx).keep b1222
        · have z : x = .ref c5 := by
            simp only [List.mem_cons, List.not_mem_nil, or_false] at hx
            rcases hx with rfl | rfl | rfl <;> rfl
          rw [z]
          exact m5.keep (But.of (p := p) (g20.trans g22))
      · exact ⟨p, a, xs, sl, zs, _, _, _, rfl, lo12, ea12, lx, hx12, e12, by omega, dz, fun x H' dx lo' u' => k x H' dx lo' (b012.trans u')⟩
theorem ok_bent {f fT fO : Addr} {fd fdT fdO : FuncData} (F : Fun K "_law_bent" "_law_bent" tBent f fd) (T : Bl mg) (bF : Binds K fd ["_law_urn_here", "_law_value"] []) (gF : mg "_law_bent" = some (.ref f))
    (dT : Dn P w K mg base CX0 "_law_pull" ["_law_urn_here", "_law_total"] 1 spPull fT fdT) (dO : Dn P w K mg base CX0 "_law_one" ["_law_urn_here", "_law_items"] 2 spOne fO fdO) :
    ∀ n, FnOk P w K mg base CX0 (2 + n + 1) f fd ["_law_urn_here", "_law_value"] (spBent n)
  | 0 => step_bent F T bF gF dT dO (fnok_false (j := 2 + 0)) fun q h => absurd h.symm (Nat.succ_ne_zero q)
  | n + 1 => step_bent F T bF gF dT dO (ok_bent F T bF gF dT dO n) fun q h => by
      obtain rfl : n = q := Nat.succ.inj h
      rfl
end
end K18
namespace K18
open PySem L2
open L2.My
/-- what the checks are asked of: data with a short repr, or {} -/
def Rv (K : PySem.W.Frag) (H : Hp) (v : V) : Prop := Tv H 11 6 v ∧ ((∃ d, Dp K H v d ∧ Told d 64 sizeLine) ∨ ∃ a, v = .ref a ∧ H a = some (.dK []))
theorem Rv.on {K : PySem.W.Frag} {H H' : Hp} {v : V} (r : Rv K H v) (s : Same H H') : Rv K H' v := by
  obtain ⟨t, h⟩ := r
  refine ⟨t.kp (.of s), ?_⟩
  rcases h with ⟨d, h, td⟩ | ⟨a, rfl, e⟩
  · exact .inl ⟨d, L2.My.Dp.on s h, td⟩
  · exact .inr ⟨a, rfl, s _ _ e⟩
theorem Rv.of {K : PySem.W.Frag} {H : Hp} {p : Addr} {N n c : Nat} {v : V} (t : Dv H p N n c v) (hN : N ≤ 11) (hn : n ≤ 6) (hc : c ≤ sizeLine) : Rv K H v := by
  refine ⟨(Dv_tv t hN).upN hn, .inl ?_⟩
  obtain ⟨d, h, td⟩ := t.data (K := K)
  exact ⟨d, h, td.sh, td.nd, by have := td.dp; omega, Nat.le_trans td.le hc⟩
/-- repr of such a thing: one text, and the same one wherever it still stands -/
theorem Rv.text {K : PySem.W.Frag} {H : Hp} {v : V} (r : Rv K H v) : ∃ t : Str, ∀ (H' : Hp) (Q : VK), Same H H' → Q (.str t) H' → rRepr K [v] H' Q ∨ rReprNil [v] H' Q := by
  obtain ⟨_, h⟩ := r
  rcases h with ⟨d, h, td⟩ | ⟨a, rfl, e⟩
  · exact ⟨d.shown, fun H' Q s q => .inl ⟨v, d, rfl, L2.My.Dp.on s h, td.sh, td.nd, td.dp, td.le, q⟩⟩
  · exact ⟨"{}", fun H' Q s q => .inr ⟨a, rfl, s _ _ e, q⟩⟩
theorem two_told (b c : Bool) : Told (.list [.bool b, .bool c]) 64 sizeLine := by
  refine ⟨by simp [PyData.showable, PyData.showableAll], by simp [PyData.hasDict, PyData.hasDictAll], by simp [PyData.depth, PyData.depthAll], ?_⟩
  have z : (PyData.list [.bool b, .bool c]).shown.length ≤ 100 := by cases b <;> cases c <;> decide +kernel
  exact Nat.le_trans z (by decide)
theorem two_dp {K : PySem.W.Frag} {H : Hp} {a : Addr} {b c : Bool} (e : H a = some (.lst [.bl b, .bl c])) : Dp K H (.ref a) (.list [.bool b, .bool c]) := .lst (SqL.of e) (.cons (.bl b) (.cons (.bl c) .nil))
section
variable {P : Program} {w : World} {K : PySem.W.Frag} {mg : Str → Option Value} {base : Heap}
def spRight (K : PySem.W.Frag) : Sp := fun vs H Q _ => ∃ v, vs = [v] ∧ Rv K H v ∧ ∀ H', Same H H' → Q (.bl true) H'
theorem scRight : FnScope ["_law_value", "_law_text", "_law_due", "_law_turn"] ["_law_value"] (defScope tRight) := ⟨rfl, rfl, rfl, by decide +kernel, rfl, by decide +kernel, by decide +kernel⟩
theorem ok_right {f fZ fR fS fP : Addr} {fd fdZ fdR fdS fdP : FuncData} (F : Fun K "_law_right" "_law_right" tRight f fd) (T : Bl mg) (hrp : mg "repr" = none)
    (dZ : Dn P w K mg base CX0 "_law_size" ["_law_value", "_law_is_top"] 8 (spSize 11 6) fZ fdZ) (dR : Dn P w K mg base CX0 "_law_is_rule" ["_law_value"] 9 (spB 11 6 pattB) fR fdR)
    (dS : Dn P w K mg base CX0 "is_shape" ["value"] 11 (spB 11 6 shapeB) fS fdS) (dP : Dn P w K mg base CX0 "is_pattern" ["value"] 12 (spB 11 6 pattB) fP fdP) :
    FnG P w K mg base 13 f fd ["_law_value"] (spRight K) := by
  refine L2.My.Fun.okG F scRight (fun vs H Q E h => ?_) (fun cdv A outer s H vs Q E _ hr gd h => ?_)
  · obtain ⟨v, rfl, _⟩ := h
    rfl
  · obtain ⟨v, rfl, rv, k⟩ := h
    have hr8 : Room 8 _ := hr.mono (by decide : 8 ≤ 12)
    have hr9 : Room 9 _ := hr.mono (by decide : 9 ≤ 12)
    have hr11 : Room 11 _ := hr.mono (by decide : 11 ≤ 12)
    have hu : (A.deeper (PyProof.Rows.envOfC "_law_right" (defScope tRight) s.heap.objs.size f cdv)).units + 70 < cLine := by
      have := hr.un
      omega
    refine ⟨_, pss_cons (ps_par (i := 1) (j := 2) rfl scRight.nd rfl rfl (by decide) rfl rfl (pa_cons (pe_callB (call_reprE gd hu) (by rfl) hrp (by decide +kernel) (pa_cons (pv 0) pa_nil))
          (pa_cons (pe_lst (pa_cons (pe_cmpR op_le (pe_call dZ.G hr8 rfl dZ.g dZ.kp dZ.b .nil pass0 (pa_cons (pv 0) (pa_cons pe_bl pa_nil))) pe_int (nomark _)) (pa_cons (pe_call dR.G hr9 rfl dR.g dR.kp dR.b .nil pass0 (pa_cons (pv 0) pa_nil)) pa_nil))) pa_nil)) (by rfl))
      (pss_cons (ps_for PassesOwn.never rfl (pi_range1 rfl T.range (pa_cons pe_int pa_nil)) (pg_name (i := 3) scRight.nd rfl (.inl rfl))
        (pss_one (ps_if (PW.pt (pw_or (pt_cmpR op_ne (pe_callB (call_reprE gd hu) (by rfl) hrp (by decide +kernel) (pa_cons (pe_lst (pa_cons (pe_call dS.G hr11 rfl dS.g dS.kp dS.b .nil pass0 (pa_cons (pv 0) pa_nil)) (pa_cons (pe_call dP.G hr rfl dP.g dP.kp dP.b .nil pass0 (pa_cons (pv 0) pa_nil)) pa_nil))) pa_nil))
              (pe_callB (call_reprE gd hu) (by rfl) hrp (by decide +kernel) (pa_cons (pv 2) pa_nil)) (nomark _))
            (pw_or1 (pt_cmpR op_ne (pe_callB (call_reprE gd hu) (by rfl) hrp (by decide +kernel) (pa_cons (pv 0) pa_nil)) (pv 1) (nomark _)))))
          (pss_one (ps_ret pe_bl)) pss_nil)))
      (pss_one (ps_ret pe_bl))), ?_⟩
    have tx := rv.1
    obtain ⟨t, ht⟩ := rv.text
    refine ⟨_, rfl, ht H _ (Same.refl H) ?_⟩
    refine ⟨_, rfl, v, true, rfl, tx, fun H1 s1 => ⟨_, _, rfl, rfl, ?_⟩⟩
    refine ⟨_, rfl, v, rfl, tx.kp (.of s1), fun H2 s2 => ?_⟩
    have s12 := s1.trans s2
    rw [pattB_kp tx (.of s1)]
    have eS : decide (((sz H (6 + 1) v true : Nat) : Int) ≤ 4) = shapeB H v := by
      rw [shapeB_sz tx]
      exact decide_eq_decide.mpr (by omega)
    refine ⟨by show 2 ≤ sizeLine; decide, fun du nd => ⟨_, _, rfl, ?_⟩⟩
    generalize hG : upd H2 du _ = H3
    have s3 : Same H2 H3 := by
      rw [← hG]
      exact grow nd
    have e3 : H3 du = some (.lst [.bl (shapeB H v), .bl (pattB H v)]) := by
      rw [← hG, ← eS]
      exact upd_same
    clear hG
    have s13 := s12.trans s3
    refine ⟨2, rfl, by decide, by decide, for_it walk_range (fun i σ H' => ∃ o, σ = [some v, some (.str t), some (.ref du), o] ∧ Same H3 H') ⟨none, rfl, Same.refl _⟩ (fun _ _ _ _ _ => trivial) ?_ ?_⟩
    · rintro i x σ K0 K1 hi ⟨o, rfl, sK⟩ ⟨rfl, rfl⟩
      have s0 := s13.trans sK
      refine ⟨_, rfl, v, rfl, tx.kp (.of s0), fun K2 q2 => ?_⟩
      refine ⟨_, rfl, v, rfl, tx.kp (.of (s0.trans q2)), fun K3 q3 => ?_⟩
      rw [shapeB_kp tx (.of s0), pattB_kp tx (.of (s0.trans q2))]
      refine ⟨by show 2 ≤ sizeLine; decide, fun l4 n4 => ?_⟩
      have q4 : Same K3 (upd K3 l4 (.lst [.bl (shapeB H v), .bl (pattB H v)])) := grow n4
      have e4 : (upd K3 l4 (.lst [.bl (shapeB H v), .bl (pattB H v)])) l4 = some (.lst [.bl (shapeB H v), .bl (pattB H v)]) := upd_same
      revert q4 e4
      generalize upd K3 l4 (.lst [.bl (shapeB H v), .bl (pattB H v)]) = K4
      intro q4 e4
      have td := two_told (shapeB H v) (pattB H v)
      have q24 := (q2.trans q3).trans q4
      have sK4 := sK.trans q24
      refine .inl ⟨_, _, rfl, two_dp e4, td.sh, td.nd, td.dp, td.le, ?_⟩
      refine ⟨_, rfl, .inl ⟨_, _, rfl, two_dp (sK4 _ _ e3), td.sh, td.nd, td.dp, td.le, rfl, ?_⟩⟩
      rw [decide_eq_true rfl]
      refine ⟨_, rfl, iteF ⟨_, rfl, ht _ _ (s13.trans sK4) ⟨_, rfl, rfl, ?_⟩⟩⟩
      rw [decide_eq_true rfl]
      exact ⟨_, rfl, iteF ⟨_, rfl, sK4⟩⟩
    · rintro σ K0 ⟨o, rfl, sK⟩
      exact k _ (s13.trans sK)
end
end K18
namespace K18
open PySem L2
open L2.My
theorem nameF : nameB (.str "f") = true := by decide +kernel
theorem sz_f {H : Hp} {a : Addr} {x : V} {d : Nat} {top : Bool} (e : H a = some (.tup [.str "op", .str "f", x])) : sz H (d + 1) (.ref a) top = 1 + sz H d x false := by
  have e1 : isS (.str "op") "store" = false := by decide +kernel
  have e2 : isS (.str "op") "op" = true := by decide +kernel
  simp only [sz]
  rw [tupV_of e]
  simp only [szIn, szOp, e1, e2, nameF, Bool.false_and]
  rw [if_neg (by simp [isTag]), if_neg (by simp [isTag]), if_neg Bool.false_ne_true, if_pos ⟨trivial, by simp, trivial⟩]
  simp
theorem sz_hole {H : Hp} {a : Addr} {d : Nat} {top : Bool} (e : H a = some (.tup [.str "hole"])) : sz H (d + 1) (.ref a) top = 0 := by
  simp only [sz]
  rw [tupV_of e]
  simp only [szIn]
  rw [if_pos (by decide +kernel)]
theorem sz_store {H : Hp} {a : Addr} {x : V} {d : Nat} (e : H a = some (.tup [.str "store", x])) : sz H (d + 1) (.ref a) true = 1 + sz H d x false := by
  have e1 : isS (.str "store") "store" = true := by decide +kernel
  simp only [sz]
  rw [tupV_of e]
  simp only [szIn, szStore, e1, Bool.true_and]
  rw [if_neg (by simp [isTag]), if_neg (by simp [isTag]), if_pos trivial]
  simp
theorem tv_tup {H : Hp} {a : Addr} {n : Nat} {xs : List V} (e : H a = some (.tup xs)) (l : xs.length ≤ 11) (h : ∀ x ∈ xs, Tv H 11 n x) : Tv H 11 (n + 1) (.ref a) := .tup e l h
theorem fc {p : V → Prop} {x : V} {xs : List V} (h : p x) (t : ∀ y ∈ xs, p y) : ∀ y ∈ x :: xs, p y := fun y hy => by
  rcases List.mem_cons.mp hy with rfl | hy
  · exact h
  · exact t y hy
theorem fn {p : V → Prop} : ∀ y ∈ ([] : List V), p y := fun y hy => by cases hy
theorem tv_s {H : Hp} {n : Nat} {z : String} (h : (z : Str).length ≤ 100) : Tv H 11 n (.str z) := .str _ h
section
variable {K : PySem.W.Frag} {H : Hp}
theorem rv_non : Rv K H .non := ⟨.non, .inl ⟨_, .non, by simp [PyData.showable], by simp [PyData.hasDict], by simp [PyData.depth], by decide +kernel⟩⟩
theorem rv_bl {b : Bool} : Rv K H (.bl b) := ⟨.bl b, .inl ⟨_, .bl b, by simp [PyData.showable], by simp [PyData.hasDict], by simp [PyData.depth], by cases b <;> decide +kernel⟩⟩
theorem rv_zero : Rv K H (.int 0) := ⟨.int 0 (by decide), .inl ⟨_, .int 0, by decide +kernel, by simp [PyData.hasDict], by simp [PyData.depth], by decide +kernel⟩⟩
theorem rv_great : Rv K H (.int ((10 : Int) ^ (31 : Int).toNat)) := ⟨.int _ (by decide +kernel), .inl ⟨_, .int _, by decide +kernel, by simp [PyData.hasDict], by simp [PyData.depth], by decide +kernel⟩⟩
theorem rv_str {z : String} (h : (z : Str).length ≤ 100) (g : (PyData.str z).shown.length ≤ 40) : Rv K H (.str z) := ⟨.str _ h, .inl ⟨_, .str _, by simp [PyData.showable], by simp [PyData.hasDict], by simp [PyData.depth], Nat.le_trans g (by decide)⟩⟩
theorem rv_unit {a : Addr} (e : H a = some (.tup [])) : Rv K H (.ref a) :=
  ⟨(Tv.tup (n := 5) e (by decide) fun y hy => by cases hy), .inl ⟨.tuple [], .tup (SqT.of e) .nil, by simp [PyData.showable, PyData.showableAll], by simp [PyData.hasDict, PyData.hasDictAll], by simp [PyData.depth, PyData.depthAll], by decide +kernel⟩⟩
theorem rv_tag {a : Addr} {z : String} (e : H a = some (.tup [.str z])) (h : (z : Str).length ≤ 100) (g : (PyData.tuple [.str z]).shown.length ≤ 40) : Rv K H (.ref a) :=
  ⟨(Tv.tup (n := 5) e (by simp) (fc (tv_s h) fn)), .inl ⟨.tuple [.str z], .tup (SqT.of e) (.cons (.str _) .nil), by simp [PyData.showable, PyData.showableAll], by simp [PyData.hasDict, PyData.hasDictAll], by simp [PyData.depth, PyData.depthAll], Nat.le_trans g (by decide)⟩⟩
theorem rv_list {a : Addr} {z : String} (e : H a = some (.lst [.str z])) (g : (PyData.list [.str z]).shown.length ≤ 40) : Rv K H (.ref a) :=
  ⟨.lst e, .inl ⟨.list [.str z], .lst (SqL.of e) (.cons (.str _) .nil), by simp [PyData.showable, PyData.showableAll], by simp [PyData.hasDict, PyData.hasDictAll], by simp [PyData.depth, PyData.depthAll], Nat.le_trans g (by decide)⟩⟩
theorem rv_dict {a : Addr} (e : H a = some (.dK [])) : Rv K H (.ref a) := ⟨.dct e, .inr ⟨a, rfl, e⟩⟩
end
theorem RB3 : RB 3 ≤ sizeLine := by decide
theorem fz4 : fz 4 ≤ sizeLine := by decide
theorem rv_tu {K : PySem.W.Frag} {H : Hp} {p : Addr} {v : V} (hp : IsL H p) (t : Tu H 3 v) : Rv K H v := Rv.of (p := p) (t.dt.dv hp) (by decide) (by decide) fz4
end K18
namespace K18
open PySem L2
open L2.My
section
variable {P : Program} {w : World} {K : PySem.W.Frag} {mg : Str → Option Value} {base : Heap}
def spLaw (K : PySem.W.Frag) : Sp := fun vs H Q _ => ∃ (a : Addr) (ns : List Int), vs = [.ref a] ∧ SqL K H a (ns.map V.int) ∧ ∀ H', Q (.bl true) H'
theorem scLaw : FnScope ["_law_script", "_law_at", "_law_urn_here", "_law_turn", "_law_rule", "_law_wide", "_law_value", "_law_deep", "_law_told"] ["_law_script"] (defScope tLaw) := ⟨rfl, rfl, rfl, by decide +kernel, rfl, by decide +kernel, by decide +kernel⟩
theorem ok_law {f : Addr} {fd : FuncData} (F : Fun K "law" "law" tLaw f fd) (T : Bl mg) (hS4 : ∃ t, mg "MAX_SHAPE" = some (.int 4 t)) (hC20 : ∃ t, mg "MAX_COST" = some (.int 20 t))
    {fU fO fP fM fB fR fS : Addr} {fdU fdO fdP fdM fdB fdR fdS : FuncData}
    (dU : Dn P w K mg base CX0 "_law_urn" ["_law_script", "_law_at"] 1 (spUrn K) fU fdU) (dO : Dn P w K mg base CX0 "_law_one" ["_law_urn_here", "_law_items"] 2 spOne fO fdO)
    (dP : Dn P w K mg base CX0 "_law_patterns" ["_law_urn_here"] 3 spPatts fP fdP) (dM : Dn P w K mg base CX0 "_law_menu" [] 1 spMenu fM fdM)
    (dB : Dn P w K mg base CX0 "_law_bent" ["_law_urn_here", "_law_value"] 6 (spBent 3) fB fdB)
    (GR : FnG P w K mg base 13 fR fdR ["_law_value"] (spRight K)) (kR : PySem.W.keepIn K (.ref fR) = true) (bR : Binds K fdR ["_law_value"] []) (gR : mg "_law_right" = some (.ref fR))
    (dS : Dn P w K mg base CX0 "is_shape" ["value"] 11 (spB 11 6 shapeB) fS fdS) :
    FnG P w K mg base 14 f fd ["_law_script"] (spLaw K) := by
  obtain ⟨t4, h4⟩ := hS4
  obtain ⟨t20, h20⟩ := hC20
  refine L2.My.Fun.okG F scLaw (fun vs H Q E h => ?_) (fun cdv A outer s H vs Q E _ hr gd h => ?_)
  · obtain ⟨a, ns, rfl, _⟩ := h
    rfl
  · obtain ⟨a, ns, rfl, hS, k⟩ := h
    have hr1 : Room 1 _ := hr.mono (by decide : 1 ≤ 13)
    have hr2 : Room 2 _ := hr.mono (by decide : 2 ≤ 13)
    have hr3 : Room 3 _ := hr.mono (by decide : 3 ≤ 13)
    have hr6 : Room 6 _ := hr.mono (by decide : 6 ≤ 13)
    have hr11 : Room 11 _ := hr.mono (by decide : 11 ≤ 13)
    have hu : (A.deeper (PyProof.Rows.envOfC "law" (defScope tLaw) s.heap.objs.size f cdv)).units + 64 < cLine := by
      have := hr.un
      omega
    have lp : ∀ n : Nat, n ≤ 20 → n ≤ sizeLine := fun n h => Nat.le_trans h (by decide)
    refine ⟨_, pss_cons (ps_for PassesOwn.never rfl (pi_range1 rfl T.range (pa_cons (pe_callB (call_max2 rfl) (by rfl) T.max (by decide +kernel) (pa_cons pe_int (pa_cons (pe_callB (call_min2 rfl) (by rfl) T.min (by decide +kernel) (pa_cons pe_int (pa_cons (pe_callB call_len_seq (by rfl) T.len PySem.boot_len (pa_cons (pv 0) pa_nil)) pa_nil))) pa_nil))) pa_nil)) (pg_name (i := 1) scLaw.nd rfl (.inl rfl))
      (pss_cons (ps_set (i := 2) scLaw.nd rfl (.inl rfl) (pe_call dU.G hr1 rfl dU.g dU.kp dU.b .nil pass0 (pa_cons (pv 0) (pa_cons (pv 1) pa_nil))))
      (pss_cons (ps_for PassesOwn.never rfl (pi_range1 rfl T.range (pa_cons pe_int pa_nil)) (pg_name (i := 3) scLaw.nd rfl (.inl rfl))
        (pss_cons (ps_set (i := 4) scLaw.nd rfl (.inl rfl) (pe_call dO.G hr2 rfl dO.g dO.kp dO.b .nil pass0 (pa_cons (pv 2) (pa_cons (pe_call dP.G hr3 rfl dP.g dP.kp dP.b .nil pass0 (pa_cons (pv 2) pa_nil)) pa_nil))))
        (pss_cons (ps_set (i := 5) scLaw.nd rfl (.inl rfl) (pe_tup (pa_cons pe_str (pa_cons pe_str (pa_cons (pe_ix ix_tup (pv 4) pe_int (fun _ _ => rfl)) (pa_cons (pe_call dO.G hr2 rfl dO.g dO.kp dO.b .nil pass0 (pa_cons (pv 2) (pa_cons (pe_call0 dM.G hr1 rfl dM.g dM.kp dM.b .nil pass0) pa_nil))) pa_nil))))))
        (pss_one (ps_for PassesOwn.never rfl (pi_tup (pe_tup (pa_cons (pv 4) (pa_cons (pe_ix ix_tup (pv 4) pe_int (fun _ _ => rfl)) (pa_cons (pv 5) (pa_cons (pe_call dB.G hr6 rfl dB.g dB.kp dB.b .nil pass0 (pa_cons (pv 2) (pa_cons (pv 4) pa_nil))) (pa_cons (pe_call dB.G hr6 rfl dB.g dB.kp dB.b .nil pass0 (pa_cons (pv 2) (pa_cons (pe_ix ix_tup (pv 4) pe_int (fun _ _ => rfl)) pa_nil))) (pa_cons (pe_call dB.G hr6 rfl dB.g dB.kp dB.b .nil pass0 (pa_cons (pv 2) (pa_cons (pv 5) pa_nil))) pa_nil)))))))) (pg_name (i := 6) scLaw.nd rfl (.inl rfl)) (pss_one (ps_if (pt_not (pt_val (pe_callG GR hr gd rfl gR kR bR (pa_cons (pv 6) pa_nil)))) (pss_one (ps_ret pe_bl)) pss_nil)))))))
      (pss_one (ps_for PassesOwn.never rfl (pi_tup (pe_tup (pa_cons pe_non (pa_cons pe_int (pa_cons pe_str (pa_cons pe_str (pa_cons (pe_lst (pa_cons pe_str pa_nil)) (pa_cons pe_dnewK (pa_cons pe_bl (pa_cons (pe_tup pa_nil) (pa_cons (pe_tup (pa_cons pe_str pa_nil)) (pa_cons (pe_tup (pa_cons pe_str pa_nil)) (pa_cons (pe_tup (pa_cons pe_str pa_nil)) (pa_cons (pe_tup (pa_cons pe_str pa_nil)) (pa_cons (pe_op op_pow pe_int pe_int) pa_nil))))))))))))))) (pg_name (i := 6) scLaw.nd rfl (.inl rfl)) (pss_one (ps_if (pt_not (pt_val (pe_callG GR hr gd rfl gR kR bR (pa_cons (pv 6) pa_nil)))) (pss_one (ps_ret pe_bl)) pss_nil)))))))
      (pss_cons (ps_set (i := 7) scLaw.nd rfl (.inl rfl) (pe_tup (pa_cons pe_str (pa_cons pe_str (pa_cons (pe_tup (pa_cons pe_str (pa_cons pe_str (pa_cons (pe_tup (pa_cons pe_str (pa_cons pe_str (pa_cons (pe_tup (pa_cons pe_str (pa_cons pe_str (pa_cons (pe_tup (pa_cons pe_str pa_nil)) pa_nil)))) pa_nil)))) pa_nil)))) pa_nil)))))
      (pss_cons (ps_set (i := 8) scLaw.nd rfl (.inl rfl) (pe_lst (pa_cons (pe_call dS.G hr11 rfl dS.g dS.kp dS.b .nil pass0 (pa_cons (pv 7) pa_nil)) (pa_cons (pe_call dS.G hr11 rfl dS.g dS.kp dS.b .nil pass0 (pa_cons (pe_tup (pa_cons pe_str (pa_cons pe_str (pa_cons (pv 7) pa_nil)))) pa_nil)) (pa_cons (pe_call dS.G hr11 rfl dS.g dS.kp dS.b .nil pass0 (pa_cons (pe_tup (pa_cons pe_str (pa_cons (pv 7) pa_nil))) pa_nil)) (pa_cons (pe_call dS.G hr11 rfl dS.g dS.kp dS.b .nil pass0 (pa_cons (pe_tup (pa_cons pe_str (pa_cons (pe_ix ix_tup (pv 7) pe_int (fun _ _ => rfl)) pa_nil))) pa_nil)) pa_nil))))))
      (pss_one (ps_ret (pe_and (pe_cmpR (op_eqD hu) (pv 8) (pe_lst (pa_cons pe_bl (pa_cons pe_bl (pa_cons pe_bl (pa_cons pe_bl pa_nil))))) (nomark _)) (pe_one (pe_cmpR (op_eqD hu) (pe_tup (pa_cons (pe_glob (v := .int 4) rfl h4 ⟨_, rfl⟩) (pa_cons (pe_glob (v := .int 20) rfl h20 ⟨_, rfl⟩) pa_nil))) (pe_tup (pa_cons pe_int (pa_cons pe_int pa_nil))) (nomark _)))))))), ?_⟩
    refine ⟨_, rfl, a, _, rfl, .inl hS, _, _, rfl, _, _, rfl, _, rfl, ?_, ?_, for_it walk_range (fun i σ H' => ∃ o1 o2 o3 o4 o5 o6, σ = [some (.ref a), o1, o2, o3, o4, o5, o6, none, none] ∧ Same H H')
      ⟨none, none, none, none, none, none, rfl, Same.refl H⟩ (fun _ _ _ _ _ => trivial) ?_ ?_⟩
    · split <;> split <;> omega
    · split <;> split <;> omega
    · rintro i x σ K0 K1 hi ⟨o1, o2, o3, o4, o5, o6, rfl, s01⟩ ⟨rfl, rfl⟩
      have i8 : i < 100 := by
        revert hi
        split <;> split <;> omega
      refine ⟨_, rfl, _, rfl, a, ns, i, ?_, Same.seq s01 hS, i8, fun p K2 np s02 lo => ?_⟩
      · have z : (0 : Int) + (i : Int) = (i : Int) := by omega
        show [V.ref a, V.int (0 + (i : Int))] = _
        rw [z]
      refine ⟨6, rfl, by decide, by decide, for_it walk_range (fun j σ H' => ∃ o3 o4 o5 o6, σ = [some (.ref a), some (.int (0 + (i : Int))), some (.ref p), o3, o4, o5, o6, none, none] ∧ Urn H' p ∧ But p K1 H')
        ⟨o3, o4, o5, o6, rfl, lo, .of s02⟩ (fun _ _ _ _ _ => trivial) ?_ ?_⟩
      · rintro j x σ K3 K4 hj ⟨o3, o4, o5, o6, rfl, lo3, b3⟩ ⟨rfl, rfl⟩
        refine ⟨_, rfl, _, rfl, p, rfl, lo3, fun l xs H4 n4 e4 ne4 len4 ru4 lo4 u4 => one_of e4 ne4 len4 (lo3.ne n4) lo4 fun r hx H5 lo5 u5 => ?_⟩
        have ru := (ru4 r hx).kp (lo4.kp lo5 u5)
        have tr := ru.tu
        obtain ⟨ra, nm, sh, tk, co, us, rfl, er, _, tsh, _⟩ := ru
        refine ⟨_, rfl, ra, _, 1, sh, rfl, rfl, SqT.of er, atI_nat (j := 1) rfl, _, rfl, rfl, fun l6 xs6 H6 s6 n6 e6 l6' t6 => ?_⟩
        have lo6 := lo5.same s6
        refine one_of e6 (by intro z; rw [z] at l6'; cases l6') (by omega) (lo5.ne n6) lo6 fun y hy H7 lo7 u7 => ?_
        have kp57 : Kp H5 H7 := (Kp.of s6).trans (lo6.kp lo7 u7)
        have ty := (t6 y hy).kp (lo6.kp lo7 u7)
        have tsh7 := tsh.kp kp57
        refine ⟨lp 4 (by decide), fun wt nw => ?_⟩
        have g8 : Same H7 (upd H7 wt (.tup [.str "op", .str "add", sh, y])) := grow nw
        have e8 : (upd H7 wt (.tup [.str "op", .str "add", sh, y])) wt = some (.tup [.str "op", .str "add", sh, y]) := upd_same
        revert g8 e8
        generalize upd H7 wt (.tup [.str "op", .str "add", sh, y]) = H8
        intro g8 e8
        have lo8 := lo7.same g8
        have kp58 := kp57.trans (.of g8)
        have tw : Tu H8 3 (.ref wt) := by
          refine ⟨wt, _, rfl, e8, by simp, fc ?_ (fc ?_ (fc ?_ (fc ?_ fn)))⟩
          · exact .str _ (by decide +kernel) (by decide +kernel) (fz40 3)
          · exact .str _ (by decide +kernel) (by decide +kernel) (fz40 3)
          · exact (tsh7.kp (.of g8)).dt
          · exact (ty.kp (.of g8)).dt
        have tr8 := tr.kp kp58
        have er8 := kp58.tup _ _ er
        have tsh8 := (tsh.kp kp58).up (by decide : 2 ≤ 3)
        refine ⟨_, rfl, _, rfl, ra, _, 1, sh, rfl, rfl, SqT.of er8, atI_nat (j := 1) rfl, _, rfl, _, rfl, _, rfl, p, .ref ra, rfl, lo8, tr8.tc (by decide) (by decide), fun v1 H9 d1 lo9 u9 => ?_⟩
        have kp9 := lo8.kp lo9 u9
        refine ⟨_, rfl, _, rfl, ra, _, 1, sh, rfl, rfl, SqT.of (kp9.tup _ _ er8), atI_nat (j := 1) rfl, p, sh, rfl, lo9, (tsh8.kp kp9).tc (by decide) (by decide), fun v2 H10 d2 lo10 u10 => ?_⟩
        have kp10 := lo9.kp lo10 u10
        have kp810 := kp9.trans kp10
        refine ⟨_, rfl, _, rfl, p, .ref wt, rfl, lo10, (tw.kp kp810).tc (by decide) (by decide), fun v3 H11 d3 lo11 u11 => ?_⟩
        have kp811 := kp810.trans (lo10.kp lo11 u11)
        have rvs : ∀ v ∈ [V.ref ra, sh, .ref wt, v1, v2, v3], Rv K H11 v := fc (rv_tu lo11.isL (tr8.kp kp811)) (fc (rv_tu lo11.isL (tsh8.kp kp811)) (fc (rv_tu lo11.isL (tw.kp kp811))
          (fc (Rv.of (d1.keep (u10.trans u11)) (by decide) (by decide) RB3) (fc (Rv.of (d2.keep u11) (by decide) (by decide) RB3) (fc (Rv.of d3 (by decide) (by decide) RB3) fn)))))
        have b11 : But p K1 H11 := ((((((b3.trans u4).trans u5).trans (.of s6)).trans u7).trans (.of g8)).trans u9).trans (u10.trans u11)
        refine ⟨lp 6 (by decide), fun tt nt => ?_⟩
        have g12 : Same H11 (upd H11 tt (.tup [.ref ra, sh, .ref wt, v1, v2, v3])) := grow nt
        have e12 : (upd H11 tt (.tup [.ref ra, sh, .ref wt, v1, v2, v3])) tt = some (.tup [.ref ra, sh, .ref wt, v1, v2, v3]) := upd_same
        revert g12 e12 rvs
        generalize ([V.ref ra, sh, .ref wt, v1, v2, v3] : List V) = vals
        generalize upd H11 tt (.tup vals) = H12
        intro rvs g12 e12
        refine ⟨tt, rfl, ⟨_, SqT.of e12⟩, for_tup (xs := vals) (fun m σ H' => ∃ o6, σ = [some (.ref a), some (.int (0 + (i : Int))), some (.ref p), some (.int (0 + (j : Int))), some (.ref ra), some (.ref wt), o6, none, none] ∧ Same H12 H')
          ⟨o6, rfl, Same.refl _⟩ (fun m σ H' _ ⟨_, _, s⟩ => SqT.of (s _ _ e12)) ?_ ?_⟩
        · rintro m v σ K5 hv ⟨o6, rfl, s5⟩
          exact ⟨_, rfl, v, rfl, (rvs v (List.mem_of_getElem? hv)).on (g12.trans s5), fun K6 s6' => ⟨_, rfl, iteF ⟨_, rfl, s5.trans s6'⟩⟩⟩
        · rintro σ K5 ⟨o6, rfl, s5⟩
          exact ⟨_, _, _, _, rfl, lo11.same (g12.trans s5), b11.trans (.of (g12.trans s5))⟩
      · rintro σ G0 ⟨o3, o4, o5, o6, rfl, lo0, b0⟩
        have s1g : Same K1 G0 := b0.fresh np
        refine ⟨lp 1 (by decide), fun l1 nl1 => ?_⟩
        have sl1 : Same G0 (upd G0 l1 (.lst [.str "load"])) := grow nl1
        have el1 : (upd G0 l1 (.lst [.str "load"])) l1 = some (.lst [.str "load"]) := upd_same
        revert sl1 el1
        generalize upd G0 l1 (.lst [.str "load"]) = G1
        intro sl1 el1
        intro d2 nd2
        have sd2 : Same G1 (upd G1 d2 (.dK [])) := grow nd2
        have ed2 : (upd G1 d2 (.dK [])) d2 = some (.dK []) := upd_same
        revert sd2 ed2
        generalize upd G1 d2 (.dK []) = G2
        intro sd2 ed2
        have el1 := sd2 _ _ el1
        refine ⟨lp 0 (by decide), fun t3 nt3 => ?_⟩
        have st3 : Same G2 (upd G2 t3 (.tup [])) := grow nt3
        have et3 : (upd G2 t3 (.tup [])) t3 = some (.tup []) := upd_same
        revert st3 et3
        generalize upd G2 t3 (.tup []) = G3
        intro st3 et3
        have el1 := st3 _ _ el1
        have ed2 := st3 _ _ ed2
        refine ⟨lp 1 (by decide), fun t4 nt4 => ?_⟩
        have st4 : Same G3 (upd G3 t4 (.tup [.str "hole"])) := grow nt4
        have et4 : (upd G3 t4 (.tup [.str "hole"])) t4 = some (.tup [.str "hole"]) := upd_same
        revert st4 et4
        generalize upd G3 t4 (.tup [.str "hole"]) = G4
        intro st4 et4
        have el1 := st4 _ _ el1
        have ed2 := st4 _ _ ed2
        have et3 := st4 _ _ et3
        refine ⟨lp 1 (by decide), fun t5 nt5 => ?_⟩
        have st5 : Same G4 (upd G4 t5 (.tup [.str "load"])) := grow nt5
        have et5 : (upd G4 t5 (.tup [.str "load"])) t5 = some (.tup [.str "load"]) := upd_same
        revert st5 et5
        generalize upd G4 t5 (.tup [.str "load"]) = G5
        intro st5 et5
        have el1 := st5 _ _ el1
        have ed2 := st5 _ _ ed2
        have et3 := st5 _ _ et3
        have et4 := st5 _ _ et4
        refine ⟨lp 1 (by decide), fun t6 nt6 => ?_⟩
        have st6 : Same G5 (upd G5 t6 (.tup [.str "store"])) := grow nt6
        have et6 : (upd G5 t6 (.tup [.str "store"])) t6 = some (.tup [.str "store"]) := upd_same
        revert st6 et6
        generalize upd G5 t6 (.tup [.str "store"]) = G6
        intro st6 et6
        have el1 := st6 _ _ el1
        have ed2 := st6 _ _ ed2
        have et3 := st6 _ _ et3
        have et4 := st6 _ _ et4
        have et5 := st6 _ _ et5
        refine ⟨lp 1 (by decide), fun t7 nt7 => ?_⟩
        have st7 : Same G6 (upd G6 t7 (.tup [.str "op"])) := grow nt7
        have et7 : (upd G6 t7 (.tup [.str "op"])) t7 = some (.tup [.str "op"]) := upd_same
        revert st7 et7
        generalize upd G6 t7 (.tup [.str "op"]) = G7
        intro st7 et7
        have el1 := st7 _ _ el1
        have ed2 := st7 _ _ ed2
        have et3 := st7 _ _ et3
        have et4 := st7 _ _ et4
        have et5 := st7 _ _ et5
        have et6 := st7 _ _ et6
        refine ⟨_, _, rfl, rfl, ⟨by decide, by decide, by decide⟩, lp 13 (by decide), fun tt nt => ?_⟩
        have sG : Same K1 G7 := ((((((s1g.trans sl1).trans sd2).trans st3).trans st4).trans st5).trans st6).trans st7
        have rvs : ∀ v ∈ [V.non, .int 0, .str "", .str "hole", .ref l1, .ref d2, .bl true, .ref t3, .ref t4, .ref t5, .ref t6, .ref t7, .int ((10 : Int) ^ (31 : Int).toNat)], Rv K G7 v :=
          fc rv_non (fc rv_zero (fc (rv_str (by decide +kernel) (by decide +kernel)) (fc (rv_str (by decide +kernel) (by decide +kernel)) (fc (rv_list el1 (by decide +kernel)) (fc (rv_dict ed2) (fc rv_bl (fc (rv_unit et3)
            (fc (rv_tag et4 (by decide +kernel) (by decide +kernel)) (fc (rv_tag et5 (by decide +kernel) (by decide +kernel)) (fc (rv_tag et6 (by decide +kernel) (by decide +kernel)) (fc (rv_tag et7 (by decide +kernel) (by decide +kernel)) (fc rv_great fn))))))))))))
        have g12 : Same G7 (upd G7 tt (.tup [V.non, .int 0, .str "", .str "hole", .ref l1, .ref d2, .bl true, .ref t3, .ref t4, .ref t5, .ref t6, .ref t7, .int ((10 : Int) ^ (31 : Int).toNat)])) := grow nt
        have e12 : (upd G7 tt (.tup [V.non, .int 0, .str "", .str "hole", .ref l1, .ref d2, .bl true, .ref t3, .ref t4, .ref t5, .ref t6, .ref t7, .int ((10 : Int) ^ (31 : Int).toNat)])) tt = some (.tup [V.non, .int 0, .str "", .str "hole", .ref l1, .ref d2, .bl true, .ref t3, .ref t4, .ref t5, .ref t6, .ref t7, .int ((10 : Int) ^ (31 : Int).toNat)]) := upd_same
        revert g12 e12 rvs
        generalize ([V.non, .int 0, .str "", .str "hole", .ref l1, .ref d2, .bl true, .ref t3, .ref t4, .ref t5, .ref t6, .ref t7, .int ((10 : Int) ^ (31 : Int).toNat)] : List V) = vals
        generalize upd G7 tt (.tup vals) = G8
        intro rvs g12 e12
        refine ⟨tt, rfl, ⟨_, SqT.of e12⟩, for_tup (xs := vals) (fun m σ H' => ∃ o3 o4 o5 o6, σ = [some (.ref a), some (.int (0 + (i : Int))), some (.ref p), o3, o4, o5, o6, none, none] ∧ Same G8 H')
          ⟨o3, o4, o5, o6, rfl, Same.refl _⟩ (fun m σ H' _ ⟨_, _, _, _, _, s⟩ => SqT.of (s _ _ e12)) ?_ ?_⟩
        · rintro m v σ K5 hv ⟨o3, o4, o5, o6, rfl, s5⟩
          exact ⟨_, rfl, v, rfl, (rvs v (List.mem_of_getElem? hv)).on (g12.trans s5), fun K6 s6' => ⟨_, rfl, iteF ⟨_, _, _, _, rfl, s5.trans s6'⟩⟩⟩
        · rintro σ K5 ⟨o3, o4, o5, o6, rfl, s5⟩
          exact ⟨_, _, _, _, _, _, rfl, ((s01.trans sG).trans g12).trans s5⟩
    · rintro σ G0 ⟨o1, o2, o3, o4, o5, o6, rfl, s0⟩
      refine ⟨lp 1 (by decide), fun t1 nt1 => ?_⟩
      have st1 : Same G0 (upd G0 t1 (.tup [.str "hole"])) := grow nt1
      have et1 : (upd G0 t1 (.tup [.str "hole"])) t1 = some (.tup [.str "hole"]) := upd_same
      revert st1 et1
      generalize upd G0 t1 (.tup [.str "hole"]) = G1
      intro st1 et1
      refine ⟨lp 3 (by decide), fun t2 nt2 => ?_⟩
      have st2 : Same G1 (upd G1 t2 (.tup [.str "op", .str "f", .ref t1])) := grow nt2
      have et2 : (upd G1 t2 (.tup [.str "op", .str "f", .ref t1])) t2 = some (.tup [.str "op", .str "f", .ref t1]) := upd_same
      revert st2 et2
      generalize upd G1 t2 (.tup [.str "op", .str "f", .ref t1]) = G2
      intro st2 et2
      have et1 := st2 _ _ et1
      refine ⟨lp 3 (by decide), fun t3 nt3 => ?_⟩
      have st3 : Same G2 (upd G2 t3 (.tup [.str "op", .str "f", .ref t2])) := grow nt3
      have et3 : (upd G2 t3 (.tup [.str "op", .str "f", .ref t2])) t3 = some (.tup [.str "op", .str "f", .ref t2]) := upd_same
      revert st3 et3
      generalize upd G2 t3 (.tup [.str "op", .str "f", .ref t2]) = G3
      intro st3 et3
      have et1 := st3 _ _ et1
      have et2 := st3 _ _ et2
      refine ⟨lp 3 (by decide), fun t4 nt4 => ?_⟩
      have st4 : Same G3 (upd G3 t4 (.tup [.str "op", .str "f", .ref t3])) := grow nt4
      have et4 : (upd G3 t4 (.tup [.str "op", .str "f", .ref t3])) t4 = some (.tup [.str "op", .str "f", .ref t3]) := upd_same
      revert st4 et4
      generalize upd G3 t4 (.tup [.str "op", .str "f", .ref t3]) = G4
      intro st4 et4
      have et1 := st4 _ _ et1
      have et2 := st4 _ _ et2
      have et3 := st4 _ _ et3
      refine ⟨lp 3 (by decide), fun t5 nt5 => ?_⟩
      have st5 : Same G4 (upd G4 t5 (.tup [.str "op", .str "f", .ref t4])) := grow nt5
      have et5 : (upd G4 t5 (.tup [.str "op", .str "f", .ref t4])) t5 = some (.tup [.str "op", .str "f", .ref t4]) := upd_same
      revert st5 et5
      generalize upd G4 t5 (.tup [.str "op", .str "f", .ref t4]) = G5
      intro st5 et5
      have et1 := st5 _ _ et1
      have et2 := st5 _ _ et2
      have et3 := st5 _ _ et3
      have et4 := st5 _ _ et4
      obtain ⟨dp, hdp⟩ : ∃ dp, dp = t5 := ⟨_, rfl⟩
      rw [← hdp]
      rw [← hdp] at et5
      have zs : ∀ {Hh : Hp} {top : Bool}, Same G5 Hh → ∀ d, sz Hh (d + 5) (.ref dp) top = 4 := fun s d => by
        rw [sz_f (s _ _ et5), sz_f (s _ _ et4), sz_f (s _ _ et3), sz_f (s _ _ et2), sz_hole (s _ _ et1)]
      have zs3 : ∀ {Hh : Hp} {top : Bool}, Same G5 Hh → ∀ d, sz Hh (d + 4) (.ref t4) top = 3 := fun s d => by
        rw [sz_f (s _ _ et4), sz_f (s _ _ et3), sz_f (s _ _ et2), sz_hole (s _ _ et1)]
      have hf : ∀ z : String, (z : Str).length ≤ 100 → ∀ {Hh : Hp} {m : Nat}, Tv Hh 11 m (.str z) := fun z h _ _ => .str _ h
      have tv4 : ∀ {Hh : Hp}, Same G5 Hh → Tv Hh 11 4 (.ref t4) := fun s =>
        tv_tup (s _ _ et4) (by simp) (fc (hf "op" (by decide +kernel)) (fc (hf "f" (by decide +kernel)) (fc (tv_tup (s _ _ et3) (by simp) (fc (hf "op" (by decide +kernel)) (fc (hf "f" (by decide +kernel)) (fc (tv_tup (s _ _ et2) (by simp) (fc (hf "op" (by decide +kernel)) (fc (hf "f" (by decide +kernel)) (fc (tv_tup (n := 0) (s _ _ et1) (by simp) (fc (hf "hole" (by decide +kernel)) fn)) fn)))) fn)))) fn)))
      have tv5 : ∀ {Hh : Hp}, Same G5 Hh → Tv Hh 11 5 (.ref dp) := fun s => tv_tup (s _ _ et5) (by simp) (fc (hf "op" (by decide +kernel)) (fc (hf "f" (by decide +kernel)) (fc (tv4 s) fn)))
      refine ⟨_, rfl, .ref dp, rfl, (tv5 (Same.refl _)).up, fun J1 j1 => ?_⟩
      have v1 : shapeB G5 (.ref dp) = true := by
        rw [shapeB_sz (tv5 (Same.refl _)), zs (Same.refl _) 1]
        rfl
      rw [v1]
      refine ⟨_, rfl, lp 3 (by decide), fun t6 n6 => ?_⟩
      have g6 : Same J1 (upd J1 t6 (.tup [.str "op", .str "f", .ref dp])) := grow n6
      have e6 : (upd J1 t6 (.tup [.str "op", .str "f", .ref dp])) t6 = some (.tup [.str "op", .str "f", .ref dp]) := upd_same
      revert g6 e6
      generalize upd J1 t6 (.tup [.str "op", .str "f", .ref dp]) = J2
      intro g6 e6
      have j2 := j1.trans g6
      have tv6 : Tv J2 11 6 (.ref t6) := tv_tup e6 (by simp) (fc (hf "op" (by decide +kernel)) (fc (hf "f" (by decide +kernel)) (fc (tv5 j2) fn)))
      refine ⟨.ref t6, rfl, tv6, fun J3 q3 => ?_⟩
      have v2 : shapeB J2 (.ref t6) = false := by
        rw [shapeB_sz tv6, sz_f e6, zs j2 1]
        rfl
      rw [v2]
      refine ⟨_, rfl, lp 2 (by decide), fun t7 n7 => ?_⟩
      have g7 : Same J3 (upd J3 t7 (.tup [.str "store", .ref dp])) := grow n7
      have e7 : (upd J3 t7 (.tup [.str "store", .ref dp])) t7 = some (.tup [.str "store", .ref dp]) := upd_same
      revert g7 e7
      generalize upd J3 t7 (.tup [.str "store", .ref dp]) = J4
      intro g7 e7
      have j4 := (j2.trans q3).trans g7
      have tv7 : Tv J4 11 6 (.ref t7) := tv_tup e7 (by simp) (fc (hf "store" (by decide +kernel)) (fc (tv5 j4) fn))
      refine ⟨.ref t7, rfl, tv7, fun J5 q5 => ?_⟩
      have v3 : shapeB J4 (.ref t7) = false := by
        rw [shapeB_sz tv7, sz_store e7, zs j4 1]
        rfl
      rw [v3]
      refine ⟨_, rfl, dp, _, 2, .ref t4, rfl, rfl, SqT.of ((j4.trans q5) _ _ et5), atI_nat (j := 2) rfl, lp 2 (by decide), fun t8 n8 => ?_⟩
      have g8 : Same J5 (upd J5 t8 (.tup [.str "store", .ref t4])) := grow n8
      have e8 : (upd J5 t8 (.tup [.str "store", .ref t4])) t8 = some (.tup [.str "store", .ref t4]) := upd_same
      revert g8 e8
      generalize upd J5 t8 (.tup [.str "store", .ref t4]) = J6
      intro g8 e8
      have j6 := (j4.trans q5).trans g8
      have tv8 : Tv J6 11 5 (.ref t8) := tv_tup e8 (by simp) (fc (hf "store" (by decide +kernel)) (fc (tv4 j6) fn))
      refine ⟨.ref t8, rfl, tv8.up, fun J7 q7 => ?_⟩
      have v4 : shapeB J6 (.ref t8) = true := by
        rw [shapeB_sz tv8, sz_store e8, zs3 j6 1]
        rfl
      rw [v4]
      refine ⟨lp 4 (by decide), fun l9 n9 => ?_⟩
      have e9 : (upd J7 l9 (.lst [.bl true, .bl false, .bl false, .bl true])) l9 = some (.lst [.bl true, .bl false, .bl false, .bl true]) := upd_same
      revert e9
      generalize upd J7 l9 (.lst [.bl true, .bl false, .bl false, .bl true]) = J8
      intro e9
      refine ⟨_, rfl, lp 4 (by decide), fun l10 n10 => ?_⟩
      have g10 := grow (o := .lst [.bl true, .bl false, .bl false, .bl true]) n10
      refine ⟨.list [.bool true, .bool false, .bool false, .bool true], .list [.bool true, .bool false, .bool false, .bool true], .lst (SqL.of (g10 _ _ e9)) (.cons (.bl _) (.cons (.bl _) (.cons (.bl _) (.cons (.bl _) .nil)))), .lst (SqL.of upd_same) (.cons (.bl _) (.cons (.bl _) (.cons (.bl _) (.cons (.bl _) .nil)))), by decide +kernel, by decide +kernel, ?_⟩
      refine ⟨_, rfl, ?_⟩
      have q1 : PyData.eqv (.list [.bool true, .bool false, .bool false, .bool true]) (.list [.bool true, .bool false, .bool false, .bool true]) = true := by decide +kernel
      rw [q1]
      refine iteT ?_
      refine ⟨lp 2 (by decide), fun t11 n11 => ?_⟩
      refine ⟨lp 2 (by decide), fun t12 n12 => ?_⟩
      refine ⟨.tuple [.int 4, .int 20], .tuple [.int 4, .int 20], .tup (SqT.of ((grow n12) _ _ upd_same)) (.cons (.int _) (.cons (.int _) .nil)), .tup (SqT.of upd_same) (.cons (.int _) (.cons (.int _) .nil)), by decide +kernel, by decide +kernel, ?_⟩
      have q2 : PyData.eqv (.tuple [.int 4, .int 20]) (.tuple [.int 4, .int 20]) = true := by decide +kernel
      rw [q2]
      exact k _
end
end K18
namespace K18
open PySem L2
open L2.My
structure AtTop (K : PySem.W.Frag) (x : Str) (st : Stmt) (f : Addr) (fd : FuncData) : Prop where
  ns : PySem.W.nsIn K mainGlobals x = some (some (.ref f))
  fn : Fun K x x st f fd
theorem atTop {K : PySem.W.Frag} {x : Str} {st : Stmt} {f : Addr} {oc : Value} {od an : Option Addr} {sl : Array (Option Value)} {kV dc pm cd ct : Value} (a : PySem.W.nsIn K mainGlobals x = some (some (.ref f)))
    (l : K.lookup f = some ⟨oc, od, .func (PySem.W.fnOf x x (defArgs st) (defBody st) (defScope st) .none kV dc pm an cd ct), sl⟩) (c : PySem.W.codeIn K cd x = true) (k : PySem.W.keepIn K (.ref f) = true) :
    AtTop K x st f (PySem.W.fnOf x x (defArgs st) (defBody st) (defScope st) .none kV dc pm an cd ct) := ⟨a, fun_mk (st := st) l c k⟩
structure Consts (K : PySem.W.Frag) : Prop where
  long : ∃ t, PySem.W.nsIn K mainGlobals "LONG" = some (some (.int (10 ^ 30) t))
  l8 : ∃ t, PySem.W.nsIn K mainGlobals "MAX_LETTERS" = some (some (.int 8 t))
  ls : ∃ t, PySem.W.nsIn K mainGlobals "LETTERS" = some (some (.str "abcdefghijklmnopqrstuvwxyz" t))
  ti : ∃ t, PySem.W.nsIn K mainGlobals "MAX_TICKS" = some (some (.int 4 t))
  s4 : ∃ t, PySem.W.nsIn K mainGlobals "MAX_SHAPE" = some (some (.int 4 t))
  s3 : ∃ t, PySem.W.nsIn K mainGlobals "MAX_SHAPES" = some (some (.int 3 t))
  co : ∃ t, PySem.W.nsIn K mainGlobals "MAX_COST" = some (some (.int 20 t))
  of : ∃ t, PySem.W.nsIn K mainGlobals "MAX_OFFSET" = some (some (.int 3 t))
theorem consts {K : PySem.W.Frag} {t0 t1 t2 t3 t4 t5 t6 t7 : Tok} (c0 : PySem.W.nsIn K mainGlobals "LONG" = some (some (.int (10 ^ 30) t0))) (c1 : PySem.W.nsIn K mainGlobals "MAX_LETTERS" = some (some (.int 8 t1))) (c2 : PySem.W.nsIn K mainGlobals "LETTERS" = some (some (.str "abcdefghijklmnopqrstuvwxyz" t2))) (c3 : PySem.W.nsIn K mainGlobals "MAX_TICKS" = some (some (.int 4 t3))) (c4 : PySem.W.nsIn K mainGlobals "MAX_SHAPE" = some (some (.int 4 t4))) (c5 : PySem.W.nsIn K mainGlobals "MAX_SHAPES" = some (some (.int 3 t5))) (c6 : PySem.W.nsIn K mainGlobals "MAX_COST" = some (some (.int 20 t6))) (c7 : PySem.W.nsIn K mainGlobals "MAX_OFFSET" = some (some (.int 3 t7))) : Consts K := ⟨⟨_, c0⟩, ⟨_, c1⟩, ⟨_, c2⟩, ⟨_, c3⟩, ⟨_, c4⟩, ⟨_, c5⟩, ⟨_, c6⟩, ⟨_, c7⟩⟩
theorem all_mk {l : PySem.W.OpenLaw} {w : World} {K : PySem.W.Frag} {h : Heap} {mg : Str → Option Value} {fa : Addr} (X : K.In h) (G : h.Ns mainGlobals mg) (hfa : mg "law" = some (.ref fa)) (cs : Consts K)
    {f_nm f_wh f_ig f_bt f_sh f_cw f_ct f_us f_uu f_mv f_pa f_ur f_pu f_on f_so f_me f_pt f_wd f_sz f_fr f_ar f_ru f_be f_ri f_la : Addr} {d_nm d_wh d_ig d_bt d_sh d_cw d_ct d_us d_uu d_mv d_pa d_ur d_pu d_on d_so d_me d_pt d_wd d_sz d_fr d_ar d_ru d_be d_ri d_la : FuncData}
    (Dnm : AtTop K "is_name" tName f_nm d_nm) (Dwh : AtTop K "is_whole" tWhole f_wh d_wh) (Dig : AtTop K "is_integer" tInteger f_ig d_ig) (Dbt : AtTop K "is_between" tBetween f_bt d_bt) (Dsh : AtTop K "is_shape" tShape f_sh d_sh) (Dcw : AtTop K "count_working" tWorking f_cw d_cw) (Dct : AtTop K "count_together" tTogether f_ct d_ct) (Dus : AtTop K "is_use" tUse f_us d_us) (Duu : AtTop K "is_uses" tUses f_uu d_uu) (Dmv : AtTop K "is_move" tMove f_mv d_mv) (Dpa : AtTop K "is_pattern" tPattern f_pa d_pa) (Dur : AtTop K "_law_urn" tUrn f_ur d_ur) (Dpu : AtTop K "_law_pull" tPull f_pu d_pu) (Don : AtTop K "_law_one" tOne f_on d_on) (Dso : AtTop K "_law_some" tSome f_so d_so) (Dme : AtTop K "_law_menu" tMenu f_me d_me) (Dpt : AtTop K "_law_patterns" tPatterns f_pt d_pt) (Dwd : AtTop K "_law_is_word" tWord f_wd d_wd) (Dsz : AtTop K "_law_size" tSize f_sz d_sz) (Dfr : AtTop K "_law_is_from" tFrom f_fr d_fr) (Dar : AtTop K "_law_are_uses" tAreUses f_ar d_ar) (Dru : AtTop K "_law_is_rule" tRule f_ru d_ru) (Dbe : AtTop K "_law_bent" tBent f_be d_be) (Dri : AtTop K "_law_right" tRight f_ri d_ri) (Dla : AtTop K "law" tLaw f_la d_la)
    (z0 : PySem.W.nsIn K mainGlobals "isinstance" = some none) (z1 : PySem.W.nsIn K mainGlobals "int" = some none) (z2 : PySem.W.nsIn K mainGlobals "bool" = some none) (z3 : PySem.W.nsIn K mainGlobals "str" = some none) (z4 : PySem.W.nsIn K mainGlobals "tuple" = some none) (z5 : PySem.W.nsIn K mainGlobals "list" = some none) (z6 : PySem.W.nsIn K mainGlobals "len" = some none) (z7 : PySem.W.nsIn K mainGlobals "all" = some none) (z8 : PySem.W.nsIn K mainGlobals "abs" = some none) (z9 : PySem.W.nsIn K mainGlobals "sum" = some none) (z10 : PySem.W.nsIn K mainGlobals "max" = some none) (z11 : PySem.W.nsIn K mainGlobals "min" = some none) (z12 : PySem.W.nsIn K mainGlobals "range" = some none) (z13 : PySem.W.nsIn K mainGlobals "repr" = some none) (z14 : PySem.W.nsIn K mainGlobals "zip" = some none) (z15 : PySem.W.nsIn K mainGlobals "set" = some none) (z16 : PySem.W.nsIn K mainGlobals "sorted" = some none)
    (hb : ∀ (s : Shared) (v : Value), BindsTo s d_la ⟨[v], []⟩ [("_law_script", v)]) :
    LawG l w K 14 63 "_law_script" mg fa h := by
  have e := hfa.symm.trans (PySem.W.mg_of X G Dla.ns)
  have e2 : f_la = fa := by
    cases e
    rfl
  subst e2
  refine ⟨d_la, [], spLaw K, (fun p hp => by cases hp), (fun p hp => by cases hp), (fun p hp => by cases hp), hb, fun H a ns _ _ _ hS => ⟨a, ns, rfl, hS, fun _ => rfl⟩, fun base _ _ _ => ?_⟩
  obtain ⟨⟨t0, c0⟩, ⟨t1, c1⟩, ⟨t2, c2⟩, ⟨t3, c3⟩, ⟨t4, c4⟩, ⟨t5, c5⟩, ⟨t6, c6⟩, ⟨t7, c7⟩⟩ := cs
  have C_long : ∃ t, mg "LONG" = some (.int (10 ^ 30) t) := ⟨t0, PySem.W.mg_of X G c0⟩
  have C_l8 : ∃ t, mg "MAX_LETTERS" = some (.int 8 t) := ⟨t1, PySem.W.mg_of X G c1⟩
  have C_ls : ∃ t, mg "LETTERS" = some (.str "abcdefghijklmnopqrstuvwxyz" t) := ⟨t2, PySem.W.mg_of X G c2⟩
  have C_ti : ∃ t, mg "MAX_TICKS" = some (.int 4 t) := ⟨t3, PySem.W.mg_of X G c3⟩
  have C_s4 : ∃ t, mg "MAX_SHAPE" = some (.int 4 t) := ⟨t4, PySem.W.mg_of X G c4⟩
  have C_s3 : ∃ t, mg "MAX_SHAPES" = some (.int 3 t) := ⟨t5, PySem.W.mg_of X G c5⟩
  have C_co : ∃ t, mg "MAX_COST" = some (.int 20 t) := ⟨t6, PySem.W.mg_of X G c6⟩
  have C_of : ∃ t, mg "MAX_OFFSET" = some (.int 3 t) := ⟨t7, PySem.W.mg_of X G c7⟩
  have T1 : Txt mg := ⟨(PySem.W.mg_none_of X G z0), (PySem.W.mg_none_of X G z1), (PySem.W.mg_none_of X G z2), (PySem.W.mg_none_of X G z3), (PySem.W.mg_none_of X G z4), (PySem.W.mg_none_of X G z5), (PySem.W.mg_none_of X G z6), (PySem.W.mg_none_of X G z7), (PySem.W.mg_none_of X G z8), C_long, C_l8, C_ls⟩
  have TBl : Bl mg := ⟨(PySem.W.mg_none_of X G z1), (PySem.W.mg_none_of X G z8), (PySem.W.mg_none_of X G z10), (PySem.W.mg_none_of X G z11), (PySem.W.mg_none_of X G z12), (PySem.W.mg_none_of X G z6), (PySem.W.mg_none_of X G z4), (PySem.W.mg_none_of X G z5), (PySem.W.mg_none_of X G z0)⟩
  have g_nm : mg "is_name" = some (.ref f_nm) := PySem.W.mg_of X G Dnm.ns
  have b_nm := Dnm.fn.binds (ps := ["value"]) fun _ _ _ _ _ _ us hl => match us, hl with | [_], _ => rfl
  have k_nm := Dnm.fn.kp
  have g_wh : mg "is_whole" = some (.ref f_wh) := PySem.W.mg_of X G Dwh.ns
  have b_wh := Dwh.fn.binds (ps := ["value"]) fun _ _ _ _ _ _ us hl => match us, hl with | [_], _ => rfl
  have k_wh := Dwh.fn.kp
  have g_ig : mg "is_integer" = some (.ref f_ig) := PySem.W.mg_of X G Dig.ns
  have b_ig := Dig.fn.binds (ps := ["value"]) fun _ _ _ _ _ _ us hl => match us, hl with | [_], _ => rfl
  have k_ig := Dig.fn.kp
  have g_bt : mg "is_between" = some (.ref f_bt) := PySem.W.mg_of X G Dbt.ns
  have b_bt := Dbt.fn.binds (ps := ["value", "least", "most"]) fun _ _ _ _ _ _ us hl => match us, hl with | [_, _, _], _ => rfl
  have k_bt := Dbt.fn.kp
  have g_sh : mg "is_shape" = some (.ref f_sh) := PySem.W.mg_of X G Dsh.ns
  have b_sh := Dsh.fn.binds (ps := ["value"]) fun _ _ _ _ _ _ us hl => match us, hl with | [_], _ => rfl
  have k_sh := Dsh.fn.kp
  have g_cw : mg "count_working" = some (.ref f_cw) := PySem.W.mg_of X G Dcw.ns
  have b_cw := Dcw.fn.binds (ps := ["value", "most", "is_root"]) fun _ _ _ _ _ _ us hl => match us, hl with | [_, _, _], _ => rfl
  have k_cw := Dcw.fn.kp
  have g_ct : mg "count_together" = some (.ref f_ct) := PySem.W.mg_of X G Dct.ns
  have b_ct := Dct.fn.binds (ps := ["shapes", "most"]) fun _ _ _ _ _ _ us hl => match us, hl with | [_, _], _ => rfl
  have k_ct := Dct.fn.kp
  have g_us : mg "is_use" = some (.ref f_us) := PySem.W.mg_of X G Dus.ns
  have b_us := Dus.fn.binds (ps := ["value"]) fun _ _ _ _ _ _ us hl => match us, hl with | [_], _ => rfl
  have k_us := Dus.fn.kp
  have g_uu : mg "is_uses" = some (.ref f_uu) := PySem.W.mg_of X G Duu.ns
  have b_uu := Duu.fn.binds (ps := ["value"]) fun _ _ _ _ _ _ us hl => match us, hl with | [_], _ => rfl
  have k_uu := Duu.fn.kp
  have g_mv : mg "is_move" = some (.ref f_mv) := PySem.W.mg_of X G Dmv.ns
  have b_mv := Dmv.fn.binds (ps := ["value"]) fun _ _ _ _ _ _ us hl => match us, hl with | [_], _ => rfl
  have k_mv := Dmv.fn.kp
  have g_pa : mg "is_pattern" = some (.ref f_pa) := PySem.W.mg_of X G Dpa.ns
  have b_pa := Dpa.fn.binds (ps := ["value"]) fun _ _ _ _ _ _ us hl => match us, hl with | [_], _ => rfl
  have k_pa := Dpa.fn.kp
  have g_ur : mg "_law_urn" = some (.ref f_ur) := PySem.W.mg_of X G Dur.ns
  have b_ur := Dur.fn.binds (ps := ["_law_script", "_law_at"]) fun _ _ _ _ _ _ us hl => match us, hl with | [_, _], _ => rfl
  have k_ur := Dur.fn.kp
  have g_pu : mg "_law_pull" = some (.ref f_pu) := PySem.W.mg_of X G Dpu.ns
  have b_pu := Dpu.fn.binds (ps := ["_law_urn_here", "_law_total"]) fun _ _ _ _ _ _ us hl => match us, hl with | [_, _], _ => rfl
  have k_pu := Dpu.fn.kp
  have g_on : mg "_law_one" = some (.ref f_on) := PySem.W.mg_of X G Don.ns
  have b_on := Don.fn.binds (ps := ["_law_urn_here", "_law_items"]) fun _ _ _ _ _ _ us hl => match us, hl with | [_, _], _ => rfl
  have k_on := Don.fn.kp
  have g_so : mg "_law_some" = some (.ref f_so) := PySem.W.mg_of X G Dso.ns
  have b_so := Dso.fn.binds (ps := ["_law_urn_here", "_law_items", "_law_many"]) fun _ _ _ _ _ _ us hl => match us, hl with | [_, _, _], _ => rfl
  have k_so := Dso.fn.kp
  have g_me : mg "_law_menu" = some (.ref f_me) := PySem.W.mg_of X G Dme.ns
  have b_me := Dme.fn.binds (ps := []) fun _ _ _ _ _ _ us hl => match us, hl with | [], _ => rfl
  have k_me := Dme.fn.kp
  have g_pt : mg "_law_patterns" = some (.ref f_pt) := PySem.W.mg_of X G Dpt.ns
  have b_pt := Dpt.fn.binds (ps := ["_law_urn_here"]) fun _ _ _ _ _ _ us hl => match us, hl with | [_], _ => rfl
  have k_pt := Dpt.fn.kp
  have g_wd : mg "_law_is_word" = some (.ref f_wd) := PySem.W.mg_of X G Dwd.ns
  have b_wd := Dwd.fn.binds (ps := ["_law_value"]) fun _ _ _ _ _ _ us hl => match us, hl with | [_], _ => rfl
  have k_wd := Dwd.fn.kp
  have g_sz : mg "_law_size" = some (.ref f_sz) := PySem.W.mg_of X G Dsz.ns
  have b_sz := Dsz.fn.binds (ps := ["_law_value", "_law_is_top"]) fun _ _ _ _ _ _ us hl => match us, hl with | [_, _], _ => rfl
  have k_sz := Dsz.fn.kp
  have g_fr : mg "_law_is_from" = some (.ref f_fr) := PySem.W.mg_of X G Dfr.ns
  have b_fr := Dfr.fn.binds (ps := ["_law_value", "_law_low", "_law_high"]) fun _ _ _ _ _ _ us hl => match us, hl with | [_, _, _], _ => rfl
  have k_fr := Dfr.fn.kp
  have g_ar : mg "_law_are_uses" = some (.ref f_ar) := PySem.W.mg_of X G Dar.ns
  have b_ar := Dar.fn.binds (ps := ["_law_value"]) fun _ _ _ _ _ _ us hl => match us, hl with | [_], _ => rfl
  have k_ar := Dar.fn.kp
  have g_ru : mg "_law_is_rule" = some (.ref f_ru) := PySem.W.mg_of X G Dru.ns
  have b_ru := Dru.fn.binds (ps := ["_law_value"]) fun _ _ _ _ _ _ us hl => match us, hl with | [_], _ => rfl
  have k_ru := Dru.fn.kp
  have g_be : mg "_law_bent" = some (.ref f_be) := PySem.W.mg_of X G Dbe.ns
  have b_be := Dbe.fn.binds (ps := ["_law_urn_here", "_law_value"]) fun _ _ _ _ _ _ us hl => match us, hl with | [_, _], _ => rfl
  have k_be := Dbe.fn.kp
  have g_ri : mg "_law_right" = some (.ref f_ri) := PySem.W.mg_of X G Dri.ns
  have b_ri := Dri.fn.binds (ps := ["_law_value"]) fun _ _ _ _ _ _ us hl => match us, hl with | [_], _ => rfl
  have k_ri := Dri.fn.kp
  have g_la : mg "law" = some (.ref f_la) := PySem.W.mg_of X G Dla.ns
  have b_la := Dla.fn.binds (ps := ["_law_script"]) fun _ _ _ _ _ _ us hl => match us, hl with | [_], _ => rfl
  have k_la := Dla.fn.kp
  have Gnm : FnOk l.prog w K mg base CX0 1 f_nm d_nm ["value"] (spV 11 6 nameB) := ok_name Dnm.fn T1
  have Gig : FnOk l.prog w K mg base CX0 2 f_ig d_ig ["value"] (spV 11 6 integB) := ok_integer Dig.fn T1 Dwh.fn b_wh g_wh
  have Gbt : ∀ lo hi : Int, -(10 ^ 30) < lo → hi < 10 ^ 30 → FnOk l.prog w K mg base CX0 3 f_bt d_bt ["value", "least", "most"] (spBetween 11 6 lo hi) := fun lo hi h0 h1 => ok_between h0 h1 Dbt.fn Gig k_ig b_ig g_ig
  have Gcw : FnOk l.prog w K mg base CX0 10 f_cw d_cw ["value", "most", "is_root"] (spWorking 11 6 4) := ok_working (by decide) Dcw.fn Dct.fn T1 C_s3 b_cw g_cw Gnm k_nm b_nm g_nm k_ct b_ct g_ct 4 (by decide)
  have Gsh : FnOk l.prog w K mg base CX0 11 f_sh d_sh ["value"] (spB 11 6 shapeB) := ok_shape Dsh.fn C_s4 Gcw k_cw b_cw g_cw
  have Gus : FnOk l.prog w K mg base CX0 4 f_us d_us ["value"] (spB 11 6 useB) := ok_use Dus.fn T1 C_of ⟨Gnm, k_nm, b_nm, g_nm⟩ ⟨Gbt 0 3 (by decide) (by decide), k_bt, b_bt, g_bt⟩
  have Guu : FnOk l.prog w K mg base CX0 5 f_uu d_uu ["value"] (spB 11 6 usesB) := ok_uses (by decide) Duu.fn T1 (PySem.W.mg_none_of X G z14) ⟨Gus, k_us, b_us, g_us⟩
  have Gmv : FnOk l.prog w K mg base CX0 6 f_mv d_mv ["value"] (spB 11 6 moveB) := ok_move Dmv.fn T1 C_ti ⟨Gbt 1 4 (by decide) (by decide), k_bt, b_bt, g_bt⟩ ⟨Guu, k_uu, b_uu, g_uu⟩
  have Gpa : FnOk l.prog w K mg base CX0 12 f_pa d_pa ["value"] (spB 11 6 pattB) := ok_pattern (by decide) Dpa.fn T1 C_co ⟨Gnm, k_nm, b_nm, g_nm⟩ ⟨Gsh, k_sh, b_sh, g_sh⟩ ⟨Gbt 0 20 (by decide) (by decide), k_bt, b_bt, g_bt⟩ ⟨Gmv, k_mv, b_mv, g_mv⟩
  have Gwd : ∀ n, FnOk l.prog w K mg base CX0 1 f_wd d_wd ["_law_value"] (spV 11 n nameB) := fun n => ok_word Dwd.fn T1
  have Gfr : FnOk l.prog w K mg base CX0 1 f_fr d_fr ["_law_value", "_law_low", "_law_high"] (spFrom 11 6) := ok_from Dfr.fn T1
  have Gsz : FnOk l.prog w K mg base CX0 8 f_sz d_sz ["_law_value", "_law_is_top"] (spSize 11 6) := ok_size (by decide) Dsz.fn T1 (PySem.W.mg_none_of X G z9) b_sz g_sz (fun n => ⟨Gwd n, k_wd, b_wd, g_wd⟩) 6
  have Gar : FnOk l.prog w K mg base CX0 2 f_ar d_ar ["_law_value"] (spB 11 6 usesB) := ok_are (by decide) Dar.fn T1 (PySem.W.mg_none_of X G z15) (PySem.W.mg_none_of X G z16) ⟨Gwd 6, k_wd, b_wd, g_wd⟩ ⟨Gfr, k_fr, b_fr, g_fr⟩
  have Gru : FnOk l.prog w K mg base CX0 9 f_ru d_ru ["_law_value"] (spB 11 6 pattB) := ok_rule Dru.fn T1 ⟨Gwd 6, k_wd, b_wd, g_wd⟩ ⟨Gsz, k_sz, b_sz, g_sz⟩ ⟨Gfr, k_fr, b_fr, g_fr⟩ ⟨Gar, k_ar, b_ar, g_ar⟩
  have Gur : FnOk l.prog w K mg base CX0 1 f_ur d_ur ["_law_script", "_law_at"] (spUrn K) := ok_urn Dur.fn TBl
  have Gpu : FnOk l.prog w K mg base CX0 1 f_pu d_pu ["_law_urn_here", "_law_total"] spPull := ok_pull Dpu.fn TBl
  have Gon : FnOk l.prog w K mg base CX0 2 f_on d_on ["_law_urn_here", "_law_items"] spOne := ok_one Don.fn TBl ⟨Gpu, k_pu, b_pu, g_pu⟩
  have Gso : FnOk l.prog w K mg base CX0 2 f_so d_so ["_law_urn_here", "_law_items", "_law_many"] spSome := ok_some Dso.fn TBl ⟨Gpu, k_pu, b_pu, g_pu⟩
  have Gme : FnOk l.prog w K mg base CX0 1 f_me d_me [] spMenu := ok_menu Dme.fn
  have Gpt : FnOk l.prog w K mg base CX0 3 f_pt d_pt ["_law_urn_here"] spPatts := ok_patts Dpt.fn TBl (PySem.W.mg_none_of X G z14) ⟨Gpu, k_pu, b_pu, g_pu⟩ ⟨Gon, k_on, b_on, g_on⟩ ⟨Gso, k_so, b_so, g_so⟩ ⟨Gme, k_me, b_me, g_me⟩
  have Gbe : FnOk l.prog w K mg base CX0 6 f_be d_be ["_law_urn_here", "_law_value"] (spBent 3) := ok_bent Dbe.fn TBl b_be g_be ⟨Gpu, k_pu, b_pu, g_pu⟩ ⟨Gon, k_on, b_on, g_on⟩ 3
  have Gri : FnG l.prog w K mg base 13 f_ri d_ri ["_law_value"] (spRight K) := ok_right Dri.fn TBl (PySem.W.mg_none_of X G z13) ⟨Gsz, k_sz, b_sz, g_sz⟩ ⟨Gru, k_ru, b_ru, g_ru⟩ ⟨Gsh, k_sh, b_sh, g_sh⟩ ⟨Gpa, k_pa, b_pa, g_pa⟩
  exact ok_law Dla.fn TBl C_s4 C_co ⟨Gur, k_ur, b_ur, g_ur⟩ ⟨Gon, k_on, b_on, g_on⟩ ⟨Gpt, k_pt, b_pt, g_pt⟩ ⟨Gme, k_me, b_me, g_me⟩ ⟨Gbe, k_be, b_be, g_be⟩ Gri k_ri b_ri g_ri ⟨Gsh, k_sh, b_sh, g_sh⟩
end K18
open PySem PySem.W PyProof.Rows
set_option maxRecDepth 100000 in
set_option maxHeartbeats 0 in
theorem PySem.Challenge.cw_loopfoundry_k18_shapes_and_patterns_judg_holds : PySem.Challenge.rw_loopfoundry_k18_shapes_and_patterns_judg.Holds := by
  w_on; o_law; k_head; (case hw => w_witness2)
  k_fill
  refine L2.My.walkG (l := PySem.Challenge.rw_loopfoundry_k18_shapes_and_patterns_judg) (n := 63) (k := 14) (x := "_law_script") rfl (by decide) rfl ⟨rfl, by decide, by decide⟩ (fun w h Y => PySem.W.kIn_of Y) ?F
  case F =>
    intro w mg fa h Y KX G hmg
    refine' K18.all_mk KX G hmg (K18.consts ?q0 ?q1 ?q2 ?q3 ?q4 ?q5 ?q6 ?q7) (K18.atTop ?anm ?lnm ?cnm ?knm) (K18.atTop ?awh ?lwh ?cwh ?kwh) (K18.atTop ?aig ?lig ?cig ?kig) (K18.atTop ?abt ?lbt ?cbt ?kbt) (K18.atTop ?ash ?lsh ?csh ?ksh) (K18.atTop ?acw ?lcw ?ccw ?kcw) (K18.atTop ?act ?lct ?cct ?kct) (K18.atTop ?aus ?lus ?cus ?kus) (K18.atTop ?auu ?luu ?cuu ?kuu) (K18.atTop ?amv ?lmv ?cmv ?kmv) (K18.atTop ?apa ?lpa ?cpa ?kpa) (K18.atTop ?aur ?lur ?cur ?kur) (K18.atTop ?apu ?lpu ?cpu ?kpu) (K18.atTop ?aon ?lon ?con ?kon) (K18.atTop ?aso ?lso ?cso ?kso) (K18.atTop ?ame ?lme ?cme ?kme) (K18.atTop ?apt ?lpt ?cpt ?kpt) (K18.atTop ?awd ?lwd ?cwd ?kwd) (K18.atTop ?asz ?lsz ?csz ?ksz) (K18.atTop ?afr ?lfr ?cfr ?kfr) (K18.atTop ?aar ?lar ?car ?kar) (K18.atTop ?aru ?lru ?cru ?kru) (K18.atTop ?abe ?lbe ?cbe ?kbe) (K18.atTop ?ari ?lri ?cri ?kri) (K18.atTop ?ala ?lla ?cla ?kla) ?z0 ?z1 ?z2 ?z3 ?z4 ?z5 ?z6 ?z7 ?z8 ?z9 ?z10 ?z11 ?z12 ?z13 ?z14 ?z15 ?z16 ?hb
    (case q0 => k_is); (case q1 => k_is); (case q2 => k_is); (case q3 => k_is); (case q4 => k_is); (case q5 => k_is); (case q6 => k_is); (case q7 => k_is)
    (case anm => k_is); (case lnm => k_is); (case cnm => k_is); (case knm => k_is)
    (case awh => k_is); (case lwh => k_is); (case cwh => k_is); (case kwh => k_is)
    (case aig => k_is); (case lig => k_is); (case cig => k_is); (case kig => k_is)
    (case abt => k_is); (case lbt => k_is); (case cbt => k_is); (case kbt => k_is)
    (case ash => k_is); (case lsh => k_is); (case csh => k_is); (case ksh => k_is)
    (case acw => k_is); (case lcw => k_is); (case ccw => k_is); (case kcw => k_is)
    (case act => k_is); (case lct => k_is); (case cct => k_is); (case kct => k_is)
    (case aus => k_is); (case lus => k_is); (case cus => k_is); (case kus => k_is)
    (case auu => k_is); (case luu => k_is); (case cuu => k_is); (case kuu => k_is)
    (case amv => k_is); (case lmv => k_is); (case cmv => k_is); (case kmv => k_is)
    (case apa => k_is); (case lpa => k_is); (case cpa => k_is); (case kpa => k_is)
    (case aur => k_is); (case lur => k_is); (case cur => k_is); (case kur => k_is)
    (case apu => k_is); (case lpu => k_is); (case cpu => k_is); (case kpu => k_is)
    (case aon => k_is); (case lon => k_is); (case con => k_is); (case kon => k_is)
    (case aso => k_is); (case lso => k_is); (case cso => k_is); (case kso => k_is)
    (case ame => k_is); (case lme => k_is); (case cme => k_is); (case kme => k_is)
    (case apt => k_is); (case lpt => k_is); (case cpt => k_is); (case kpt => k_is)
    (case awd => k_is); (case lwd => k_is); (case cwd => k_is); (case kwd => k_is)
    (case asz => k_is); (case lsz => k_is); (case csz => k_is); (case ksz => k_is)
    (case afr => k_is); (case lfr => k_is); (case cfr => k_is); (case kfr => k_is)
    (case aar => k_is); (case lar => k_is); (case car => k_is); (case kar => k_is)
    (case aru => k_is); (case lru => k_is); (case cru => k_is); (case kru => k_is)
    (case abe => k_is); (case lbe => k_is); (case cbe => k_is); (case kbe => k_is)
    (case ari => k_is); (case lri => k_is); (case cri => k_is); (case kri => k_is)
    (case ala => k_is); (case lla => k_is); (case cla => k_is); (case kla => k_is)
    (case z0 => k_is); (case z1 => k_is); (case z2 => k_is); (case z3 => k_is); (case z4 => k_is); (case z5 => k_is); (case z6 => k_is); (case z7 => k_is); (case z8 => k_is); (case z9 => k_is); (case z10 => k_is); (case z11 => k_is); (case z12 => k_is); (case z13 => k_is); (case z14 => k_is); (case z15 => k_is); (case z16 => k_is)
    (case hb => exact fun s v => .of_eq rfl)
