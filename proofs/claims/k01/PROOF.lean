import PyProof.Rows.All
import Wide.All
import OpenK.AllK
import Wide.FinOn
import PyProof.ReprRoads
import PyProof.CallFns
import HandS.ForMost
import HandS.ForExc
import HandS.Lambda
import HandS.EndBits
import HandS.EndTab
import PyProof.NeKinds
import PyProof.NeData
import PyProof.FactsAll.dict_1
import PyProof.FactsAll.dict_2
import PyProof.FactsAll.subtypes
import KE.GoesEnum
import HandS.Walk
import HandS.Comp
import HandS.Dict
import HandS.Ends
import HandS.Words
import HandS.WordsList
import HandS.WordsDict
import HandS.Exc
import HandS.ExcOwn
import HandS.Wide
import HandS.IsInst
import HandS.ExcIs
import HandS.TupLe
import HandS.TupAny
import HandS.TupMul
import HandS.Text
import PyProof.Fits
import KE.KNest
import PySem.Challenge.RW_loopfoundry_k01_trees_and_statements_jud
set_option Elab.async false
set_option linter.all false
set_option maxRecDepth 100000
set_option maxHeartbeats 4000000
/-! defs that are told that no repr is under way around them; repr of data; the end of a law for them -/
namespace L2.My
open PySem PySem.Spec PyProof.Rows
/-- as FnOk, where the guards around are none -/
structure FnG (P : Program) (w : World) (K : PySem.W.Frag) (mg : Str → Option Value) (base : Heap) (k : Nat) (f : Addr) (fd : FuncData) (ps : List Str) (sp : Sp) : Prop where
  len : ∀ vs H Q E, sp vs H Q E → vs.length = ps.length
  run : ∀ (A : Around) (outer : List Env) (s : Shared) (H : Hp) (args : Args) (us : List Value) (vs : List V) (Q : VK) (E : XK), Room k A → A.guards = some [] → Env0 P w K mg base A outer s H →
    BindsTo s fd args (ps.zip us) → Vals vs us → sp vs H Q E → codeAny (model P w) A (.call (.ref f) args) (CR CX0 outer P w H s Q E) s
theorem guards_deeper {A : Around} {env : Env} (h : A.guards = some []) : (A.deeper env).guards = some [] := h
section
variable {P : Program} {w : World} {K : PySem.W.Frag} {mg : Str → Option Value} {base : Heap}
theorem Fun.okG {x qual : Str} {st : Stmt} {f : Addr} {fd : FuncData} {N ps : List Str} {k : Nat} {sp : Sp} (F : Fun K x qual st f fd) (S : FnScope N ps (defScope st)) (len : ∀ vs H Q E, sp vs H Q E → vs.length = ps.length)
    (hbody : ∀ (cdv : Value) (A : Around) (outer : List Env) (s : Shared) (H : Hp) (vs : List V) (Q : VK) (E : XK), PySem.W.codeIn K cdv qual = true → Room k (A.deeper (envOfC qual (defScope st) s.heap.objs.size f cdv)) → A.guards = some [] → sp vs H Q E →
      ∃ t, PSs (cxOf CX0 P w K mg base N qual (defScope st) f cdv A outer s H E).nox (defBody st) t ∧ t { nx := fun _ H' => Q .non H', rt := Q } (start N vs) H) : FnG P w K mg base (k + 1) f fd ps sp := by
  obtain ⟨oc, od, kV, doc, pm, an, cdv, ct, osl, rfl, lk, hcd⟩ := F.ex
  refine ⟨len, fun A outer s H args us vs Q E hr hg e0 hb r h => ?_⟩
  refine LamX.run_ofS lk hcd S hr e0 hb r (len _ _ _ _ h) fun hr' => ?_
  obtain ⟨t, ht, q⟩ := hbody cdv A outer s H vs Q E hcd hr' hg h
  exact ⟨t, ht.nox, q⟩
end
section
variable {X : Cx}
/-- f(e, ..), f such a def -/
theorem pe_callG {k : Nat} {f : Addr} {fd : FuncData} {ps : List Str} {sp : Sp} {x : Str} {p pos : Pos} {e : Expr} {es : List Expr} {t : TA} (F : FnG X.prog X.w X.K X.mg X.base k f fd ps sp) (hr : Room k X.A) (gd : X.A.guards = some []) (hg : Gl X x) (hm : X.mg x = some (.ref f))
    (hk : PySem.W.keepIn X.K (.ref f) = true) (hb : Binds X.K fd ps []) (ha : PA X (e :: es) t) (hdb : (x == ("__debug__" : Str)) = false := by decide)
    (he : starEach (e :: es) X.env = (false, eval e X.env) :: starEach es X.env := by rfl) (hpl : (backTo pos (starEach es X.env)).any (·.1) = false := by rfl) :
    PE X (.Call (.Name x p) (e :: es) [] pos) (tCall sp [] E0 t) := by
  refine ⟨fun pins s σ H Q I h => wpAny_Call_Name_kw (ld_glob I hg hm (PySem.W.callWith_K (h₀ := X.base) I.ok.mod.kin hk (thn (ha.run pos pins s σ H _ I h) fun us s1 hh => ?_) he hpl) hdb)⟩
  obtain ⟨vs, H1, I1, r, q⟩ := hh
  rw [List.append_nil] at q
  have hl : us.length = ps.length := by rw [← r.length]; exact F.len _ _ _ _ q
  have hb2 := hb s1 us I1.kIn (by rw [List.append_nil]; exact hl)
  rw [List.append_nil] at hb2
  refine ⟨I1.kIn, wpAny_call (codeAny_mono (F.run X.A X.stack s1 H1 ⟨us, []⟩ us vs Q E0 hr gd I1.env0 hb2 r q) fun r2 s2 hq => ?_)⟩
  match r2, hq with
  | .error e, hq => exact (show False from hq).elim
  | .ok (.ret u), hq => exact I1.after hq
  | .ok .next, hq => exact False.elim hq
  | .ok .brk, hq => exact False.elim hq
  | .ok .cont, hq => exact False.elim hq
/-- repr(v) of data without dicts -/
def rRepr (K : PySem.W.Frag) : List V → Hp → VK → Prop := fun xs H Q => ∃ v d, xs = [v] ∧ Dp K H v d ∧ d.showable = true ∧ d.hasDict = false ∧ d.depth ≤ 64 ∧ d.shown.length ≤ sizeLine ∧ Q (.str d.shown) H
theorem call_repr (gd : X.A.guards = some []) (hu : X.A.units + 70 < cLine) : CallR X (.builtin "repr") (rRepr X.K) := by
  intro pins s σ H xs us Q I r h
  obtain ⟨v, d, rfl, dp, sh, nd, dd, sz, q⟩ := h
  obtain ⟨u, rfl, ru⟩ : ∃ u, us = [u] ∧ RelV v u := by
    cases r with
    | cons ra rn =>
      cases rn
      exact ⟨_, rfl, ra⟩
  have done : ∀ t tk, EP X pins σ Q (.str d.shown t) { s with toks := tk } := fun t tk => ⟨.str d.shown, H, I.tok tk, ⟨t, rfl⟩, q⟩
  obtain ⟨as, rd⟩ := Dp.reads I d v u dp ru
  cases rd with
  | none => exact PySem.P.repr_of_none (done _ _)
  | bool b => exact PySem.P.repr_of_bool (done _ _)
  | int i t => exact PySem.P.repr_of_int (by simpa [PyData.showable] using sh) (done _ _)
  | str x t => exact PySem.P.repr_of_str (done _ _) sz
  | list e1 e2 e3 ra =>
    refine repr_of_reads' (.list e1 e2 e3 ra) sh (PyData.noDict_hsm nd) gd (by omega) (fun _ _ e => e) (fun h' t tk hk => ?_) sz
    exact ⟨.str _, H, I.kept (t' := tk) hk, ⟨t, rfl⟩, q⟩
  | tuple e1 e2 e3 ra =>
    refine repr_of_reads' (.tuple e1 e2 e3 ra) sh (PyData.noDict_hsm nd) gd (by omega) (fun _ _ e => e) (fun h' t tk hk => ?_) sz
    exact ⟨.str _, H, I.kept (t' := tk) hk, ⟨t, rfl⟩, q⟩
  | dict => cases nd
end
end L2.My
/-! the end of a law for such defs, with tables of code objects -/
namespace L2.My
open PySem PySem.Spec PyProof.Rows
abbrev scrO (vs : List Value) : Obj := { cls := .type "list", data := .seq vs.toArray }
abbrev tabO : Obj := { cls := .none, data := .fields #[] }
/-- the abstract heap at the law's entry: the tables, and the script if it is no object of the module -/
structure Begin (K : PySem.W.Frag) (a : Addr) (vs : List Value) (ns : List Int) (ts : List Addr) (H : Hp) : Prop where
  tab : ∀ b ∈ ts, H b = some (.tbl #[])
  cas : ∀ b u, H b = some u → (b ∈ ts ∧ u = .tbl #[]) ∨ (b = a ∧ K.lookup a = none ∧ u = .frz (scrO vs) (.lst (ns.map V.int)))
  scr : SqL K H a (ns.map V.int)
theorem begin_ex {K : PySem.W.Frag} {h : Heap} {a : Addr} {vs : List Value} {ns : List Int} {ts : List Addr} (KX : K.In h) (ha : h.get? a = some (scrO vs)) (hi : IntsAre vs ns) (hl : ns.length ≤ sizeLine) (na : a ∉ ts) : ∃ H, Begin K a vs ns ts H := by
  cases hk : K.lookup a with
  | some o =>
    have e := (KX a o hk).symm.trans ha
    cases e
    have sz : vs.toArray.size ≤ sizeLine := by rw [List.size_toArray, hi.length]; exact hl
    refine ⟨fun b => if b ∈ ts then some (.tbl #[]) else none, fun b hb => if_pos hb, fun b u e => ?_, .inr ⟨_, vs.toArray, _, hk, rfl, rfl, rfl, sz, by simpa using vals_ints hi⟩⟩
    by_cases hb : b ∈ ts
    · exact .inl ⟨hb, (Option.some.inj ((if_pos hb).symm.trans e)).symm⟩
    · cases (if_neg hb).symm.trans e
  | none =>
    refine ⟨fun b => if b ∈ ts then some (.tbl #[]) else if b = a then some (.frz (scrO vs) (.lst (ns.map V.int))) else none, fun b hb => if_pos hb, fun b u e => ?_, .inl (.inr ⟨scrO vs, (if_neg na).trans (if_pos rfl)⟩)⟩
    by_cases hb : b ∈ ts
    · exact .inl ⟨hb, (Option.some.inj ((if_pos hb).symm.trans e)).symm⟩
    · have e2 := (if_neg hb).symm.trans e
      by_cases h2 : b = a
      · exact .inr ⟨h2, hk, (Option.some.inj ((if_pos h2).symm.trans e2)).symm⟩
      · cases (if_neg h2).symm.trans e2
section
variable {P : Program} {w : World} {K : PySem.W.Frag} {h : Heap} {a : Addr} {vs : List Value} {ns : List Int} {ts : List Addr} {H : Hp}
theorem Begin.holds (B : Begin K a vs ns ts H) (ha : h.get? a = some (scrO vs)) (hi : IntsAre vs ns) (hl : ns.length ≤ sizeLine) (hT : ∀ b ∈ ts, h.get? b = some tabO) : HOk P w H h := by
  intro b u e
  rcases B.cas b u e with ⟨hb, rfl⟩ | ⟨rfl, _, rfl⟩
  · exact hT b hb
  · exact ⟨ha, by rw [List.length_map]; exact hl, vs, _, vals_ints hi, ha⟩
/-- an object that is neither a table nor the script's list is not tracked -/
theorem Begin.off (B : Begin K a vs ns ts H) (ha : h.get? a = some (scrO vs)) (hT : ∀ b ∈ ts, h.get? b = some tabO) {b : Addr} {o : Obj} (e : h.get? b = some o) (h1 : o ≠ tabO) (h2 : o ≠ scrO vs) : H b = none := by
  cases q : H b with
  | none => rfl
  | some u =>
    rcases B.cas b u q with ⟨hb, _⟩ | ⟨rfl, _, _⟩
    · exact absurd (Option.some.inj (e.symm.trans (hT b hb))) h1
    · exact absurd (Option.some.inj (e.symm.trans ha)) h2
theorem Begin.kin (B : Begin K a vs ns ts H) (KX : K.In h) (nT : ∀ b ∈ ts, K.lookup b = none) : K.In (hidT h H) := by
  intro b o e
  refine hidT_get (KX b o e) ?_
  cases q : H b with
  | none => rfl
  | some u =>
    rcases B.cas b u q with ⟨hb, _⟩ | ⟨rfl, hk, _⟩
    · rw [nT b hb] at e
      cases e
    · rw [hk] at e
      cases e
theorem Begin.nsAt (B : Begin K a vs ns ts H) (ha : h.get? a = some (scrO vs)) (hT : ∀ b ∈ ts, h.get? b = some tabO) {b : Addr} {m : Str → Option Value} (n : h.Ns b m) : (hidT h H).Ns b m := by
  obtain ⟨o, es, ep, e, d, r⟩ := n
  refine ⟨o, es, ep, hidT_get e (B.off ha hT e ?_ ?_), d, r⟩
  · rintro rfl
    cases d
  · rintro rfl
    cases d
end
/-- what is known of the law's promise behind the top -/
def LawG (l : PySem.W.OpenLaw) (w : World) (K : PySem.W.Frag) (k n : Nat) (x : Str) (mg : Str → Option Value) (fa : Addr) (h : Heap) : Prop :=
  ∃ (fd : FuncData) (cs : List (Addr × Addr)) (sp : Sp), (∀ p ∈ cs, h.get? p.2 = some tabO) ∧ (∀ p ∈ cs, K.lookup p.2 = none) ∧ (∀ p ∈ cs, PySem.W.CodeHd h p.1 p.2) ∧ (∀ (s : Shared) (u : Value), BindsTo s fd ⟨[u], []⟩ [(x, u)]) ∧
    (∀ (H : Hp) (a : Addr) (ns : List Int), ns.length ≤ n → (∀ z ∈ ns, Builtin.Int.intBits z ≤ 1048576) → (∀ p ∈ cs, H p.2 = some (.tbl #[])) → SqL K H a (ns.map V.int) → sp [.ref a] H (fun v _ => v = .bl true) E0) ∧
    ∀ base : Heap, K.In base → base.Ns mainGlobals mg → (∀ p ∈ cs, LamX.TabB base mg p.1 p.2) → FnG l.prog w K mg base k fa fd [x] sp
theorem walkG {l : PySem.W.OpenLaw} {n k : Nat} {q : Program} {loose : List Str} {XP : (Str → Option Value) → Heap → Prop} {YP : World → Heap → Prop} {d : DefRec} {K : Params → PySem.W.Frag} {x : Str}
    (hn : l.most = some n) (hn2 : n ≤ sizeLine) (hdf : d.params.defaults = []) (hr : Room k callerA) (hY : ∀ (w : World) (h : Heap), YP w h → (K w.params).In h)
    (F : ∀ (w : World) (mg : Str → Option Value) (fa : Addr) (h : Heap), YP w h → (K w.params).In h → h.Ns mainGlobals mg → mg d.name = some (.ref fa) → LawG l w (K w.params) k n x mg fa h) :
    PySem.W.WalkO q loose XP YP l.row.toRowW d [] (fun f vs => PySem.call f vs) := by
  refine Att.attach_callB hn hdf fun w s0 s1 mg mb fa o pm cd doc a vs ns G Y ho hd hcd hmg ha hi hlen hbits hg => ?_
  have KX := hY w _ Y
  obtain ⟨fd, cs, sp, hT, nT, hC, hb, hsp, hF⟩ := F w mg fa _ Y KX G.T.g hmg
  have hl : ns.length ≤ sizeLine := Nat.le_trans hlen hn2
  have hTs : ∀ b ∈ cs.map (·.2), s1.heap.get? b = some tabO := by
    intro b hb
    obtain ⟨p, hp, rfl⟩ := List.mem_map.mp hb
    exact hT p hp
  have nTs : ∀ b ∈ cs.map (·.2), (K w.params).lookup b = none := by
    intro b hb
    obtain ⟨p, hp, rfl⟩ := List.mem_map.mp hb
    exact nT p hp
  have na : a ∉ cs.map (·.2) := by
    intro z
    cases ha.symm.trans (hTs a z)
  obtain ⟨H, B⟩ := begin_ex KX ha hi hl na
  have hok : HOk l.prog w H s1.heap := B.holds ha hi hl hTs
  have kin := B.kin KX nTs
  have gns := B.nsAt ha hTs G.T.g
  have tabs : ∀ p ∈ cs, H p.2 = some (.tbl #[]) := fun p hp => B.tab _ (List.mem_map.mpr ⟨p, hp, rfl⟩)
  have hM : Mod (K w.params) mg (hidT s1.heap H) := ⟨kin, gns, ⟨mb, B.nsAt ha hTs G.T.b, G.T.builtins⟩, let ⟨mc, h1, h2⟩ := G.T.nolimit; ⟨mc, B.nsAt ha hTs h1, h2⟩⟩
  have TB : ∀ p ∈ cs, LamX.TabB (hidT s1.heap H) mg p.1 p.2 := by
    intro p hp
    obtain ⟨oc, us, file, tf, flags, tg, inF, text, tt, e1, r1, r2, r3, r4, r5, r6, r7, r8, hne⟩ := hC p hp
    obtain ⟨bm, ob, b1, b2, b3, b4, b5, b6⟩ := G.T.bmain
    obtain ⟨og, es, ep, eg, dg, _⟩ := G.T.g
    refine ⟨⟨oc, us, file, tf, flags, tg, inF, text, tt, hidT_get e1 (B.off ha hTs e1 ?_ ?_), r1, r2, r3, r4, r5, r6, r7, r8, hne⟩, ⟨bm, ob, b1, b2, ?_, ?_, hidT_get b3 (B.off ha hTs b3 ?_ ?_), b4, b5, b6⟩, ?_⟩
    · rintro rfl
      cases r2
      simp at r3
    · rintro rfl
      cases r2
    · rintro rfl
      cases b3.symm.trans eg
      rw [b6] at dg
      cases dg
    · rintro rfl
      cases b3.symm.trans (hT p hp)
      cases b6
    · rintro rfl
      cases b6
    · rintro rfl
      cases b6
    · intro z
      rw [z] at eg
      cases eg.symm.trans (hT p hp)
      cases dg
  have e0 : Env0 l.prog w (K w.params) mg (hidT s1.heap H) callerA [] s1 H :=
    ⟨rfl, hM, fun b o e => of_hidT e, Nat.le_of_eq (hidT_size _ _), trivial, fun b hb => absurd (show b ∈ ([] : List Addr) from hb) (by simp), hok, .of_eq hg⟩
  refine codeAny_mono ((hF _ kin gns TB).run callerA [] s1 H ⟨[.ref a], []⟩ [.ref a] [.ref a] _ _ hr rfl e0 (hb s1 (.ref a)) (.cons rfl .nil) (hsp H a ns hlen hbits tabs B.scr)) fun r s2 hq => ?_
  match r, hq with
  | .error e, hq => exact (show False from hq).elim
  | .ok .next, hq => exact False.elim hq
  | .ok .brk, hq => exact False.elim hq
  | .ok .cont, hq => exact False.elim hq
  | .ok (.ret u), hq =>
    obtain ⟨v, H2, os, bare, un, hok2, rv, ev⟩ := hq
    obtain rfl : v = .bl true := ev
    obtain rfl : u = Value.bool true := rv
    have grown : ∀ b ∈ cs.map (·.2), ∃ more : Array Value, s2.heap.get? b = some { cls := .none, data := .fields more } := by
      intro b hb
      obtain ⟨more, z⟩ := un.tbls b #[] (B.tab b hb)
      exact ⟨_, hok2 b _ z⟩
    have same : ∀ b o, b ∉ cs.map (·.2) → s1.heap.get? b = some o → s2.heap.get? b = some o := by
      intro b o nb e
      cases qh : H b with
      | none => exact un.keep b o e qh (by intro z; exact absurd (show b ∈ ([] : List Addr) from z) (by simp)) (by simp)
      | some u =>
        rcases B.cas b u qh with ⟨hb, _⟩ | ⟨rfl, _, rfl⟩
        · exact absurd hb nb
        · have z2 := un.frzs b _ _ qh
          obtain ⟨e2, _⟩ := hok2 b _ z2
          cases e.symm.trans ha
          exact e2
    refine ⟨rfl, ⟨fun b o e => ?_, fun b o e => ?_⟩, os, bare⟩
    · by_cases hb : b ∈ cs.map (·.2)
      · obtain ⟨more, hm⟩ := grown b hb
        obtain ⟨p, hp, rfl⟩ := List.mem_map.mp hb
        cases e.symm.trans (hT p hp)
        exact .inr (.inl ⟨((hC p hp).tab (hT p hp)).isCodeTable, rfl, #[], more, rfl, by rw [Array.empty_append]; exact hm⟩)
      · exact .inl (same b o hb e)
    · by_cases hb : b ∈ cs.map (·.2)
      · obtain ⟨more, hm⟩ := grown b hb
        exact ⟨_, hm⟩
      · exact ⟨o, same b o hb e⟩
end L2.My
/-! == and != of a text with data of any kind; of lists with the empty one; great powers -/
namespace PySem.SeqAt
open MeetsSeq
open AutoSeq1 (wpAny_loadPart')
theorem dict_eq_no_str (l : Addr) (es : Array DictEntry) (n : Nat) (dd : Option Addr) (sl : Array (Option Value)) (b : Str) (u : Tok) :
    Meets (Builtin.«dict.__eq__» ⟨[.ref l, .str b u], []⟩) (fun _ R s => s.heap.get? l = some { cls := .type "dict", dict := dd, data := .dict es n, slots := sl } ∧ R (.ok (.ret .notImplemented)) s) :=
  .of_wp fun prog w A R s h => by
    obtain ⟨hp, g, d, tk, os⟩ := s
    obtain ⟨hl, h⟩ := h
    have f1 := F.sub_str_dict
    wp_walk using wpAny_loadPart' hl
    exact ⟨_, rfl, h⟩
theorem dict_ne_no_str (l : Addr) (es : Array DictEntry) (n : Nat) (dd : Option Addr) (sl : Array (Option Value)) (b : Str) (u : Tok) :
    Meets (Builtin.«dict.__ne__» ⟨[.ref l, .str b u], []⟩) (fun _ R s => s.heap.get? l = some { cls := .type "dict", dict := dd, data := .dict es n, slots := sl } ∧ R (.ok (.ret .notImplemented)) s) :=
  .of_wp fun prog w A R s h => by
    obtain ⟨hp, g, d, tk, os⟩ := s
    obtain ⟨hl, h⟩ := h
    have f1 := F.sub_str_dict
    wp_walk using wpAny_loadPart' hl
    exact ⟨_, rfl, h⟩
theorem str_eq_no_dict (b : Str) (u : Tok) (l : Addr) (es : Array DictEntry) (n : Nat) (dd : Option Addr) (sl : Array (Option Value)) :
    Meets (Builtin.«str.__eq__» ⟨[.str b u, .ref l], []⟩) (fun _ R s => s.heap.get? l = some { cls := .type "dict", dict := dd, data := .dict es n, slots := sl } ∧ R (.ok (.ret .notImplemented)) s) :=
  .of_wp fun prog w A R s h => by
    obtain ⟨hp, g, d, tk, os⟩ := s
    obtain ⟨hl, h⟩ := h
    wp_walk using wpAny_loadPart' hl, wpAny_load hl
    exact ⟨_, rfl, h⟩
theorem str_ne_no_dict (b : Str) (u : Tok) (l : Addr) (es : Array DictEntry) (n : Nat) (dd : Option Addr) (sl : Array (Option Value)) :
    Meets (Builtin.«str.__ne__» ⟨[.str b u, .ref l], []⟩) (fun _ R s => s.heap.get? l = some { cls := .type "dict", dict := dd, data := .dict es n, slots := sl } ∧ R (.ok (.ret .notImplemented)) s) :=
  .of_wp fun prog w A R s h => by
    obtain ⟨hp, g, d, tk, os⟩ := s
    obtain ⟨hl, h⟩ := h
    wp_walk using wpAny_loadPart' hl, wpAny_load hl
    exact ⟨_, rfl, h⟩
section
variable {A : Around} {s : Shared}
theorem RcAt.dict_str {l : Addr} {es : Array DictEntry} {n : Nat} {dd : Option Addr} {sl : Array (Option Value)} (b : Str) (u : Tok) (ho : s.heap.get? l = some { cls := .type "dict", dict := dd, data := .dict es n, slots := sl }) (hu : A.units < cLine) : RcAt A s (.ref l) (.str b u) false :=
  fun prog w E Q h => rc_eq_decline_or (k := false) ⟨_, ho, rfl⟩ (typeIs_str s b u) (by decide) F.sub_str_dict F.slot_dict_eq F.slot_str_eq_refl
    (fun _ hq => call_meets F.slot_dict_eq ⟨_, ho, rfl⟩ F.entry_dict_eq (F.args_dict_eq_2 _ _) (dict_eq_no_str l es n dd sl b u) ⟨ho, hq⟩)
    (fun _ hq => call_meets F.slot_str_eq_refl (typeIs_str s b u) F.entry_str_eq (F.args_str_eq_2 _ _) (str_eq_no_dict b u l es n dd sl) ⟨ho, hq⟩)
    (fun _ hq => wpAny_of_eq (rfl : isSame (.ref l) (.str b u) = pure false) hq) (.inr hu) h
theorem RcNeAt.dict_str {l : Addr} {es : Array DictEntry} {n : Nat} {dd : Option Addr} {sl : Array (Option Value)} (b : Str) (u : Tok) (ho : s.heap.get? l = some { cls := .type "dict", dict := dd, data := .dict es n, slots := sl }) (hu : A.units < cLine) : RcNeAt A s (.ref l) (.str b u) true :=
  fun prog w E Q h => rc_ne_decline_or (k := false) ⟨_, ho, rfl⟩ (typeIs_str s b u) (by decide) F.sub_str_dict F.slot_dict_ne F.slot_str_ne_refl
    (fun _ hq => call_meets F.slot_dict_ne ⟨_, ho, rfl⟩ F.entry_dict_ne (F.args_dict_ne_2 _ _) (dict_ne_no_str l es n dd sl b u) ⟨ho, hq⟩)
    (fun _ hq => call_meets F.slot_str_ne_refl (typeIs_str s b u) F.entry_str_ne (F.args_str_ne_2 _ _) (str_ne_no_dict b u l es n dd sl) ⟨ho, hq⟩)
    (fun _ hq => wpAny_of_eq (rfl : isSame (.ref l) (.str b u) = pure false) hq) (.inr hu) h
end
end PySem.SeqAt
namespace L2.My
open PySem PySem.Spec PyProof.Rows
/-- a value as a text sees it: the text that it is, or none -/
inductive AsText (H : Hp) : V → Option Str → Prop
  | str (z : Str) : AsText H (.str z) (some z)
  | non : AsText H .non none
  | bl (b : Bool) : AsText H (.bl b) none
  | int (i : Int) : AsText H (.int i) none
  | lst {a : Addr} {xs : List V} (e : H a = some (.lst xs)) : AsText H (.ref a) none
  | tup {a : Addr} {xs : List V} (e : H a = some (.tup xs)) : AsText H (.ref a) none
  | dic {a : Addr} {kvs : List (Key × V)} (e : H a = some (.dK kvs)) : AsText H (.ref a) none
section
variable {X : Cx} {pins : List (Addr × Obj)} {σ : L2.St} {H : Hp} {s : Shared}
theorem dict_get (I : Inv X pins σ H s) {a : Addr} {kvs : List (Key × V)} (e : H a = some (.dK kvs)) : ∃ dd es n sl, s.heap.get? a = some { cls := .type "dict", dict := dd, data := .dict es n, slots := sl } := by
  obtain ⟨_, _, vs, _, o, es, ep, h1, h2, h3, _⟩ := (show ObjOk X.prog X.w H s.heap a (.dK kvs) from I.hok a _ e)
  obtain ⟨oc, od, dt, sl⟩ := o
  obtain ⟨c1, _⟩ := h2
  simp only at c1 h3
  subst c1 h3
  exact ⟨od, es, ep, sl, h1⟩
def rEqX : R2 := fun x y H Q => ∃ k z, y = .str z ∧ AsText H x k ∧ Q (.bl (decide (k = some z))) H
def rNeX : R2 := fun x y H Q => ∃ k z, y = .str z ∧ AsText H x k ∧ Q (.bl (!decide (k = some z))) H
theorem some_eq (a b : Str) : decide ((some a : Option Str) = some b) = (a == b) := by
  by_cases e : a = b
  · subst e
    simp
  · simp [e]
theorem op_eqX (hu : X.A.units < cLine) : OpR X (compareOp .Eq) rEqX := by
  intro pins s σ H x y v u Q I rx ry h
  obtain ⟨k, z, rfl, tx, q⟩ := h
  obtain ⟨t, rfl⟩ := ry
  have done : ∀ b : Bool, decide (k = some z) = b → EP X pins σ Q (.bool b) s := fun b e => ⟨.bl b, H, I, rfl, e ▸ q⟩
  cases tx with
  | str z' =>
    obtain ⟨t', rfl⟩ := rx
    exact SeqAt.RcAt.str_str z' t' z t _ _ _ _ (done _ (some_eq z' z))
  | non =>
    cases rx
    exact SeqAt.RcAt.none_str z t _ _ _ _ (done _ (by simp))
  | bl b =>
    cases rx
    exact SeqAt.RcAt.bool_str b z t _ _ _ _ (done _ (by simp))
  | int i =>
    obtain ⟨t', rfl⟩ := rx
    exact SeqAt.RcAt.int_str i t' z t _ _ _ _ (done _ (by simp))
  | @lst a xs e =>
    cases rx
    obtain ⟨_, its, n, _, h1⟩ := (show ObjOk X.prog X.w H s.heap a (.lst xs) from I.hok a _ e)
    exact SeqAt.RcAt.list_str z t ⟨_, h1, rfl, n, rfl⟩ hu _ _ _ _ (done _ (by simp))
  | @tup a xs e =>
    cases rx
    obtain ⟨_, its, _, o, h1, h2, n, h3⟩ := (show ObjOk X.prog X.w H s.heap a (.tup xs) from I.hok a _ e)
    exact SeqAt.RcAt.tuple_str z t ⟨_, h1, h2, n, h3⟩ hu _ _ _ _ (done _ (by simp))
  | @dic a kvs e =>
    cases rx
    obtain ⟨dd, es, n, sl, h1⟩ := dict_get I e
    exact SeqAt.RcAt.dict_str z t h1 hu _ _ _ _ (done _ (by simp))
theorem op_neX (hu : X.A.units < cLine) : OpR X (compareOp .NotEq) rNeX := by
  intro pins s σ H x y v u Q I rx ry h
  obtain ⟨k, z, rfl, tx, q⟩ := h
  obtain ⟨t, rfl⟩ := ry
  have done : ∀ b : Bool, (!decide (k = some z)) = b → EP X pins σ Q (.bool b) s := fun b e => ⟨.bl b, H, I, rfl, e ▸ q⟩
  cases tx with
  | str z' =>
    obtain ⟨t', rfl⟩ := rx
    exact SeqAt.RcNeAt.str_str z' t' z t _ _ _ _ (done _ (by rw [some_eq z' z]))
  | non =>
    cases rx
    exact SeqAt.RcNeAt.none_str z t _ _ _ _ (done _ (by simp))
  | bl b =>
    cases rx
    exact SeqAt.RcNeAt.bool_str b z t _ _ _ _ (done _ (by simp))
  | int i =>
    obtain ⟨t', rfl⟩ := rx
    exact SeqAt.RcNeAt.int_str i t' z t _ _ _ _ (done _ (by simp))
  | @lst a xs e =>
    cases rx
    obtain ⟨_, its, n, _, h1⟩ := (show ObjOk X.prog X.w H s.heap a (.lst xs) from I.hok a _ e)
    exact SeqAt.RcNeAt.list_str z t ⟨_, h1, rfl, n, rfl⟩ hu _ _ _ _ (done _ (by simp))
  | @tup a xs e =>
    cases rx
    obtain ⟨_, its, _, o, h1, h2, n, h3⟩ := (show ObjOk X.prog X.w H s.heap a (.tup xs) from I.hok a _ e)
    exact SeqAt.RcNeAt.tuple_str z t ⟨_, h1, h2, n, h3⟩ hu _ _ _ _ (done _ (by simp))
  | @dic a kvs e =>
    cases rx
    obtain ⟨dd, es, n, sl, h1⟩ := dict_get I e
    exact SeqAt.RcNeAt.dict_str z t h1 hu _ _ _ _ (done _ (by simp))
/-- xs == [] -/
def rEqNil : R2 := fun x y H Q => ∃ a b xs, x = .ref a ∧ y = .ref b ∧ H a = some (.lst xs) ∧ H b = some (.lst []) ∧ Q (.bl xs.isEmpty) H
theorem op_eqNil (hu : X.A.units < cLine) : OpR X (compareOp .Eq) rEqNil := by
  intro pins s σ H x y v u Q I rx ry h
  obtain ⟨a, b, xs, rfl, rfl, ea, eb, q⟩ := h
  cases rx
  cases ry
  obtain ⟨_, its, n, r1, h1⟩ := (show ObjOk X.prog X.w H s.heap a (.lst xs) from I.hok a _ ea)
  obtain ⟨_, its2, n2, r2, h2⟩ := (show ObjOk X.prog X.w H s.heap b (.lst []) from I.hok b _ eb)
  cases r2
  have la : s.heap.IsList a its.toArray := ⟨_, h1, rfl, n, rfl⟩
  have lb : s.heap.IsList b #[] := ⟨_, h2, rfl, n2, rfl⟩
  cases r1 with
  | nil => exact SeqAt.RcAt.lists (e := fun _ => true) la lb rfl hu (fun j h1 _ => absurd h1 (by simp)) _ _ _ _ ⟨.bl true, H, I, rfl, q⟩
  | cons r t => exact SeqAt.RcAt.lists_lengths la lb (by simp) hu _ _ _ _ ⟨.bl false, H, I, rfl, q⟩
/-- t != () -/
def rNeUnit : R2 := fun x y H Q => ∃ a b xs, x = .ref a ∧ y = .ref b ∧ H a = some (.tup xs) ∧ H b = some (.tup []) ∧ Q (.bl (!xs.isEmpty)) H
theorem op_neUnit (hu : X.A.units < cLine) : OpR X (compareOp .NotEq) rNeUnit := by
  intro pins s σ H x y v u Q I rx ry h
  obtain ⟨a, b, xs, rfl, rfl, ea, eb, q⟩ := h
  cases rx
  cases ry
  obtain ⟨_, its, r1, o, h1, h2, n, h3⟩ := (show ObjOk X.prog X.w H s.heap a (.tup xs) from I.hok a _ ea)
  obtain ⟨_, its2, r2, o2, g1, g2, n2, g3⟩ := (show ObjOk X.prog X.w H s.heap b (.tup []) from I.hok b _ eb)
  cases r2
  have la : s.heap.IsTuple a its.toArray := ⟨_, h1, h2, n, h3⟩
  have lb : s.heap.IsTuple b #[] := ⟨_, g1, g2, n2, g3⟩
  refine SeqAt.RcNeAt.tuples (e := fun _ => true) la lb hu (fun j _ h2 => absurd h2 (by simp)) _ _ _ _ ?_
  cases r1 with
  | nil => exact ⟨.bl false, H, I, rfl, q⟩
  | cons r t => exact ⟨.bl true, H, I, by simp [RelV], q⟩
/-- a great power -/
def CPowW (i j : Int) : Prop := 0 ≤ j ∧ (Builtin.Int.intBits i : Int) * j ≤ 2 ^ 27
theorem op_powW : OpR X (binaryOp .Pow) (rI CPowW fun i j => .int (i ^ j.toNat)) := opI fun _ _ _ _ _ _ _ hc q => pow_int hc.1 hc.2 q
end
end L2.My
/-! enumerate(tuple) -/
namespace PySem
open Sem (wp)
open AutoSeq1 (wpAny_loadPart')
theorem meets_enumerate_newT (l : Addr) (items : Array Value) :
    Meets (Builtin.«enumerate.__new__» ⟨[.type "enumerate", .ref l], []⟩) (fun _ R s => s.heap.IsTuple l items ∧
      R (.ok (.ret (.ref (s.heap.push { cls := .type "tuple_iterator", data := .fields #[.ref l, .int 0 0] }).objs.size)))
        { s with heap := (s.heap.push { cls := .type "tuple_iterator", data := .fields #[.ref l, .int 0 0] }).push { cls := .type "enumerate", data := .fields #[.none, .bool false, .ref s.heap.objs.size, rawInt 0, .none, .none] } }) :=
  .of_wp fun prog w A R s h => by
    obtain ⟨hp, g, d, tk, os⟩ := s; obtain ⟨hl, h⟩ := h
    have hsub := sub_enumerate
    have q1 : ∀ {A' : Around} {E : Value → Shared → Prop} {Q : Value → Shared → Prop}, Q (.ref hp.objs.size) ⟨hp.push { cls := .type "tuple_iterator", data := .fields #[.ref l, .int 0 0] }, g, d, tk, os⟩ → wpAny (model prog w) A' (pyIter (.ref l)) Q E ⟨hp, g, d, tk, os⟩ :=
      fun q => wpAny_pyIter_tuple (s := ⟨hp, g, d, tk, os⟩) hl q
    wp_walk using q1
    refine wpAny_stack_any fun st => wpAny_pure ?_
    split
    · rename_i c _ _ _ _ _
      cases (c == Value.type "enumerate")
      · wp_walk using q1
        exact ⟨_, rfl, h⟩
      · wp_walk using q1
        exact ⟨_, rfl, h⟩
    · wp_walk using q1
      exact ⟨_, rfl, h⟩
section
variable {prog : Program} {w : World} {A : Around} {E : Value → Shared → Prop} {s : Shared}
theorem call_enumerate_tuple {l : Addr} {items : Array Value} {Q : Value → Shared → Prop} (hL : s.heap.IsTuple l items)
    (h : ∀ h', IsEnum h' (s.heap.objs.size + 1) s.heap.objs.size 0 .none → h'.IsTupleIter s.heap.objs.size l 0 → h'.objs.size = s.heap.objs.size + 2 →
      (∀ b o, s.heap.get? b = some o → h'.get? b = some o) → Q (.ref (s.heap.objs.size + 1)) { s with heap := h' }) :
    wpAny (model prog w) A (call (.type "enumerate") [.ref l]) Q E s := by
  refine callType_new F.called_enumerate (by decide) (F.typeCall_enumerate_1 _) (F.newCall_enumerate_1 _) (fun obj => F.args_object_init_2 obj _) F.entry_enumerate_new
    (meets_enumerate_newT l items) ⟨hL, ?_⟩
  have hz : (s.heap.push { cls := .type "tuple_iterator", data := .fields #[.ref l, .int 0 0] }).objs.size = s.heap.objs.size + 1 := Heap.size_push ..
  show _ ∧ _
  rw [hz]
  have he : IsEnum ((s.heap.push { cls := .type "tuple_iterator", data := .fields #[.ref l, .int 0 0] }).push
      { cls := .type "enumerate", data := .fields #[.none, .bool false, .ref s.heap.objs.size, rawInt 0, .none, .none] }) (s.heap.objs.size + 1) s.heap.objs.size 0 .none := by
    have := Heap.get?_push_size (s.heap.push { cls := .type "tuple_iterator", data := .fields #[.ref l, .int 0 0] })
      (o := { cls := .type "enumerate", data := .fields #[.none, .bool false, .ref s.heap.objs.size, rawInt 0, .none, .none] }) rfl
    rw [hz] at this; exact this
  refine ⟨⟨_, he, rfl⟩, h _ he ⟨_, Heap.get?_push_of_some _ (Heap.get?_push_size _ rfl), rfl, rfl⟩ (by rw [Heap.size_push, hz]) fun b o x => Heap.get?_push_of_some _ (Heap.get?_push_of_some _ x)⟩
end
end PySem
namespace L2.My
open PySem PySem.Spec PyProof.Rows L2
/-- the tuple at a, each item in a new pair -/
def Iet (K : PySem.W.Frag) (a : Addr) : It :=
  ⟨fun i H => ∃ (xs : List V) (x : V), SqT K H a xs ∧ xs[i]? = some x, fun i H v H' => ∃ T x, v = .ref T ∧ H T = none ∧ H' = upd H T (.tup [.int (i : Nat), x]) ∧ ∀ xs, SqT K H a xs → xs[i]? = some x, fun i H => ∃ xs : List V, SqT K H a xs ∧ xs.length = i⟩
theorem enum_ne {h : Heap} {e it a : Addr} {i : Int} {old : Value} {items : Array Value} (he : IsEnum h e it i old) (ha : h.IsTuple a items) : e ≠ a := by
  intro z
  subst z
  obtain ⟨o, ho, hc, _⟩ := ha
  have he' : h.get? e = some _ := he
  rw [he'] at ho
  cases ho
  exact absurd (show Value.type "enumerate" = Value.type "tuple" from hc) (by decide)
theorem tit_ne {h : Heap} {it a : Addr} {i : Nat} {items : Array Value} (hi : h.IsTupleIter it a i) (ha : h.IsTuple a items) : a ≠ it := by
  intro z
  subst z
  obtain ⟨o, ho, hc, _⟩ := ha
  obtain ⟨o2, ho2, hc2, _⟩ := hi
  rw [ho] at ho2
  cases ho2
  rw [hc] at hc2
  exact absurd hc2 (by decide)
theorem turn_enumT {P : Program} {w : World} {K : PySem.W.Frag} {elts : List Expr} {kk : Nat} {tpos : Pos} (a e it : Addr) :
    Turn P w K (.Tuple elts kk tpos) (Iet K a) [e, it] e (fun i h => (∃ old, IsEnum h e it ((i : Nat) : Int) old) ∧ h.IsTupleIter it a i ∧ e ≠ it) where
  mem := by simp
  obj := fun i h st b hb => by
    obtain ⟨⟨old, he⟩, ⟨o, ho, hc, hd⟩, _⟩ := st
    have e' : b = e ∨ b = it := by simpa using hb
    rcases e' with z | z
    · rw [z]; exact ⟨_, he, fun v q => nomatch q⟩
    · rw [z]; exact ⟨o, ho, fun v q => by rw [hd] at q; cases q⟩
  keep := fun i h h' st k => let ⟨⟨old, he⟩, hi, hne⟩ := st; ⟨⟨old, k e (by simp) _ he⟩, hi.at fun o q => k it (by simp) o q, hne⟩
  item := by
    intro X hP hw hK hc i pins s σ H E I hf st hg
    subst hP hw hK
    obtain ⟨⟨old, he⟩, hit, hne⟩ := st
    obtain ⟨xs, x, hq, hx⟩ := hg
    obtain ⟨its, rv, p, hz⟩ := I.tuple hq
    have p2 : s.heap.IsTuple a its.toArray := p
    obtain ⟨u, hu, ru⟩ := rv.get hx
    have hel : e < s.heap.objs.size := Heap.lt_size he
    have hil : it < s.heap.objs.size := by obtain ⟨_, q, _⟩ := hit; exact Heap.lt_size q
    have hlt : i < its.toArray.size := by
      have : its[i]? = some u := hu
      obtain ⟨z, _⟩ := List.getElem?_eq_some_iff.mp this
      simpa using z
    refine wpAny_pyNext_enum_itemD (Draws.tuple (A := X.A.in1) (I.ok.hd hc) it a (tit_ne hit p2) its.toArray) he ⟨hit, p2⟩ hlt hne (fun z => ?_) fun v h' tk hv ho st' hT hsz hk => ?_
    · simp only [List.mem_cons, List.not_mem_nil, or_false] at z
      rcases z with z | z
      · exact hne z
      · exact enum_ne he p2 z
    have hvu : v = u := by
      have h1 : its.toArray[i]? = some v := hv
      have h2 : its.toArray[i]? = some u := by simpa using hu
      rw [h1] at h2
      exact Option.some.inj h2
    subst hvu
    refine ⟨_, rfl, wpAny_letOwnedTupleGo_enum (s := { s with heap := h', toks := tk + 1 }) ho fun h'' he' sb => ?_⟩
    have hT2 : h''.get? s.heap.objs.size = some { cls := .type "tuple", data := .seq #[.int i tk, v] } := (sb.2 _ (Nat.ne_of_gt hel)).trans hT
    have new : ObjOk X.prog X.w (upd H s.heap.objs.size (.tup [.int (i : Nat), x])) h'' s.heap.objs.size (.tup [.int (i : Nat), x]) :=
      ⟨by show 2 ≤ sizeLine; decide, [.int i tk, v], .cons ⟨_, rfl⟩ (.cons ru .nil), ⟨_, hT2, rfl, _, rfl⟩⟩
    have I1 : Inv X pins σ (upd H s.heap.objs.size (.tup [.int (i : Nat), x])) { s with heap := h'', toks := tk + 1 } :=
      I.turnedNew (ch := [e, it]) (fun b ob hb q => (sb.2 b (fun z => hb (by simp [z]))).trans (hk b ob (fun z => hb (by simp [z])) (fun z => hb (by simp [z])) q)) hf (Nat.le_refl _) new
    refine ⟨.ref s.heap.objs.size, _, I1, rfl, ⟨_, x, rfl, I.hok.fresh (Nat.le_refl _), rfl, fun ys hy => by rw [I.tuple_inj hy hq]; exact hx⟩, ⟨⟨v, ?_⟩, st'.1.at fun o q => (sb.2 it (Ne.symm hne)).trans q, hne⟩, fun b hb => ?_⟩
    · have e1 : ((i + 1 : Nat) : Int) = (i : Int) + 1 := by omega
      rw [e1]; exact he'
    · have hb' : b < s.heap.objs.size := by
        have e' : b = e ∨ b = it := by simpa using hb
        rcases e' with z | z
        · rw [z]; exact hel
        · rw [z]; exact hil
      rw [upd_ne (Nat.ne_of_lt hb')]
      exact (hf b hb).1
  done := by
    intro X hP hw hK hc i pins s σ H E I hf st hg
    subst hP hw hK
    obtain ⟨⟨old, he⟩, hit, hne⟩ := st
    obtain ⟨xs, hq, hx⟩ := hg
    obtain ⟨its, rv, p, hz⟩ := I.tuple hq
    have p2 : s.heap.IsTuple a its.toArray := p
    obtain ⟨f0, f1, f2, f3, f4, f5⟩ := hf it (by simp)
    have hl := rv.length
    have hn : i = its.toArray.size := by
      rw [List.size_toArray]
      omega
    subst hn
    exact wpAny_pyNext_enum_endD (Draws.tuple (A := X.A.in1) (I.ok.hd hc) it a (tit_ne hit p2) its.toArray) he ⟨hit, p2⟩ fun h' eb => ⟨rfl, I.turned (t' := s.toks) (fun b o hb e => eb b o hb e) f0 f1 f3 f4 f5⟩
  self := fun A i s Q E st h => let ⟨⟨_, he⟩, _⟩ := st; wpAny_pyIter_enum he h
def iEnumT (K : PySem.W.Frag) (ta : TA) : TI := fun σ H R => ta σ H fun vs H1 => ∃ a xs, vs = [.ref a] ∧ SqT K H1 a xs ∧ R (Iet K a) H1
theorem pi_enumT {X : Cx} {e : Expr} {ta : TA} {p pos tpos : Pos} {elts : List Expr} {kk : Nat} (hg : Gl X "enumerate") (hm : X.mg "enumerate" = none) (ha : PA X [e] ta) (hs : starEach [e] X.env = [(false, eval e X.env)] := by rfl) :
    PI X (.Tuple elts kk tpos) (.Call (.Name "enumerate" p) [e] [] pos) (iEnumT X.K ta) := by
  refine ⟨fun pins s σ H R I h => ?_⟩
  refine Call_ (ld_blt I hg hm boot_enumerate (PyProof.Rows.callWith_type1 (thn (ha.run pos pins s σ H _ I h) fun us s1 ⟨vs, H1, I1, r1, q1⟩ => ?_) hs rfl))
  obtain ⟨a, xs, ex, hq, q⟩ := q1
  subst ex
  cases r1 with
  | cons r rr =>
    cases rr
    cases r
    obtain ⟨its, rv, p', hz⟩ := I1.tuple hq
    refine call_enumerate_tuple (show s1.heap.IsTuple a its.toArray from p') fun h' he hit hsz hk => wpAny_pyIter_enum he ?_
    have I2 : Inv X pins σ H1 { s1 with heap := h' } := I1.kept (t' := s1.toks) hk
    refine ⟨s1.heap.objs.size + 1, [s1.heap.objs.size + 1, s1.heap.objs.size], _, _, H1, rfl, I2, turn_enumT a (s1.heap.objs.size + 1) s1.heap.objs.size, ⟨⟨.none, he⟩, hit, Nat.succ_ne_self _⟩, fun b hb => ?_, q⟩
    have e' : b = s1.heap.objs.size + 1 ∨ b = s1.heap.objs.size := by simpa using hb
    have hle : s1.heap.objs.size ≤ b := by
      rcases e' with z | z
      · rw [z]; exact Nat.le_add_right _ _
      · rw [z]; exact Nat.le_refl _
    exact I1.fpOk hle (I1.hok.fresh hle)
theorem walk_enumT {K : PySem.W.Frag} {a : Addr} {xs : List V} : Walk (Iet K a) xs.length (fun H => SqT K H a xs) (YPair (fun i => some (.int (i : Nat))) (fun i => xs[i]?)) := by
  refine ⟨fun i _ hi q => ⟨xs, xs[i], q, by simp [hi]⟩, fun _ q => ⟨xs, q, rfl⟩, fun i H v H' _ q y => ?_⟩
  obtain ⟨T, x, h1, h2, h3, h4⟩ := y
  exact ⟨T, .int (i : Nat), x, h1, h2, h3, rfl, h4 xs q⟩
end L2.My
namespace K1
open PySem L2
open L2.My
def top (i : Nat) : Stmt := PySem.Challenge.pw_loopfoundry_k01_trees_and_statements_jud.main.body.getD i (.Pass ⟨0, 0, 0, 0⟩)
abbrev tName : Stmt := top 7
abbrev tWhole : Stmt := top 8
abbrev tInteger : Stmt := top 9
abbrev tBetween : Stmt := top 10
abbrev tTree : Stmt := top 15
abbrev tWithin : Stmt := top 16
abbrev tState : Stmt := top 17
abbrev tCheck : Stmt := top 18
abbrev tLevels : Stmt := top 19
abbrev tNodes : Stmt := top 20
abbrev tWalked : Stmt := top 21
abbrev tLoom : Stmt := top 23
abbrev tTurn : Stmt := top 24
abbrev tPick : Stmt := top 25
abbrev tPlace : Stmt := top 26
abbrev tLeaf : Stmt := top 27
abbrev tGrow : Stmt := top 28
abbrev tWork : Stmt := top 29
abbrev tNameL : Stmt := top 30
abbrev tNumL : Stmt := top 31
abbrev tTreeL : Stmt := top 32
abbrev tStateL : Stmt := top 33
abbrev tBent : Stmt := top 34
abbrev tCount : Stmt := top 35
abbrev tWord : Stmt := top 36
abbrev tCell : Stmt := top 37
abbrev tLaw : Stmt := top 38
/-! ### growing heaps -/
theorem grow {H : Hp} {p : Addr} {o : HO} (hp : H p = none) : Same H (upd H p o) := fun b u e => by rw [upd_ne (ne_of_none e hp)]; exact e
/-! ### data: what the checks are asked of -/
inductive Tv (H : Hp) (N : Nat) : Nat → V → Prop
  | non {n : Nat} : Tv H N n .non
  | bl {n : Nat} (b : Bool) : Tv H N n (.bl b)
  | int {n : Nat} (i : Int) (h : i.natAbs < 10 ^ 40) : Tv H N n (.int i)
  | str {n : Nat} (z : Str) (h : z.length ≤ 100) : Tv H N n (.str z)
  | lst {n : Nat} {a : Addr} {xs : List V} (e : H a = some (.lst xs)) : Tv H N n (.ref a)
  | dct {n : Nat} {a : Addr} {kvs : List (Key × V)} (e : H a = some (.dK kvs)) : Tv H N n (.ref a)
  | tup {n : Nat} {a : Addr} {xs : List V} (e : H a = some (.tup xs)) (l : xs.length ≤ N) (h : ∀ x ∈ xs, Tv H N n x) : Tv H N (n + 1) (.ref a)
def IsL (H : Hp) (p : Addr) : Prop := ∃ xs, H p = some (.lst xs)
/-- tuples and dicts stay, lists stay lists -/
structure Kp (H H' : Hp) : Prop where
  tup : ∀ a xs, H a = some (.tup xs) → H' a = some (.tup xs)
  lst : ∀ a, IsL H a → IsL H' a
  dct : ∀ a (kvs : List (Key × V)), H a = some (.dK kvs) → H' a = some (.dK kvs)
theorem Kp.of {H H' : Hp} (s : Same H H') : Kp H H' := ⟨fun _ _ e => s _ _ e, fun _ ⟨_, e⟩ => ⟨_, s _ _ e⟩, fun _ _ e => s _ _ e⟩
theorem Kp.refl {H : Hp} : Kp H H := ⟨fun _ _ e => e, fun _ e => e, fun _ _ e => e⟩
theorem Kp.trans {H H1 H2 : Hp} (a : Kp H H1) (b : Kp H1 H2) : Kp H H2 := ⟨fun _ _ e => b.tup _ _ (a.tup _ _ e), fun _ e => b.lst _ (a.lst _ e), fun _ _ e => b.dct _ _ (a.dct _ _ e)⟩
theorem Kp.upd {H : Hp} {p : Addr} {xs ys : List V} (e : H p = some (.lst xs)) : Kp H (upd H p (.lst ys)) := by
  refine ⟨fun a zs e2 => ?_, fun a e2 => ?_, fun a k e2 => ?_⟩
  · rw [upd_ne (fun c => by subst c; rw [e] at e2; cases e2)]
    exact e2
  · by_cases c : a = p
    · subst c
      exact ⟨_, upd_same⟩
    · obtain ⟨zs, e2⟩ := e2
      exact ⟨zs, by rw [upd_ne c]; exact e2⟩
  · rw [upd_ne (fun c => by subst c; rw [e] at e2; cases e2)]
    exact e2
theorem Tv.kp {H H' : Hp} {N n : Nat} {v : V} (t : Tv H N n v) (s : Kp H H') : Tv H' N n v := by
  induction t with
  | non => exact .non
  | bl b => exact .bl b
  | int i h => exact .int i h
  | str z h => exact .str z h
  | lst e =>
    obtain ⟨ys, e2⟩ := s.lst _ ⟨_, e⟩
    exact .lst e2
  | dct e => exact .dct (s.dct _ _ e)
  | tup e l h ih => exact .tup (s.tup _ _ e) l ih
theorem Tv.up {H : Hp} {N n : Nat} {v : V} (t : Tv H N n v) : Tv H N (n + 1) v := by
  induction t with
  | non => exact .non
  | bl b => exact .bl b
  | int i h => exact .int i h
  | str z h => exact .str z h
  | lst e => exact .lst e
  | dct e => exact .dct e
  | tup e l h ih => exact .tup e l ih
theorem Tv.upN {H : Hp} {N n m : Nat} {v : V} (t : Tv H N n v) (h : n ≤ m) : Tv H N m v := by
  obtain ⟨k, rfl⟩ := Nat.le.dest h
  clear h
  induction k with
  | zero => exact t
  | succ k ih => exact ih.up
theorem Tv.wide {H : Hp} {N M n : Nat} {v : V} (t : Tv H N n v) (le : N ≤ M) : Tv H M n v := by
  induction t with
  | non => exact .non
  | bl b => exact .bl b
  | int i h => exact .int i h
  | str z h => exact .str z h
  | lst e => exact .lst e
  | dct e => exact .dct e
  | tup e l h ih => exact .tup e (Nat.le_trans l le) ih
/-- all but the loom at p is as it was -/
def But (p : Addr) (H H' : Hp) : Prop := ∀ q, q ≠ p → ∀ o, H q = some o → H' q = some o
theorem But.refl {p : Addr} {H : Hp} : But p H H := fun _ _ _ e => e
theorem But.trans {p : Addr} {H H1 H2 : Hp} (a : But p H H1) (b : But p H1 H2) : But p H H2 := fun q hq o e => b q hq o (a q hq o e)
theorem But.of {p : Addr} {H H' : Hp} (s : Same H H') : But p H H' := fun q _ o e => s q o e
theorem But.fresh {p : Addr} {H H' : Hp} (b : But p H H') (d : H p = none) : Same H H' := fun q o e => b q (ne_of_none e d) o e
theorem But.kp {H H' : Hp} {p : Addr} (s : But p H H') (l : IsL H p) (l' : IsL H' p) : Kp H H' := by
  obtain ⟨ys, e0⟩ := l
  refine ⟨fun a xs e => s _ (fun c => by subst c; rw [e] at e0; cases e0) _ e, fun a e => ?_, fun a xs e => s _ (fun c => by subst c; rw [e] at e0; cases e0) _ e⟩
  by_cases c : a = p
  · subst c
    exact l'
  · obtain ⟨zs, e⟩ := e
    exact ⟨zs, s _ c _ e⟩
/-! ### what the checks tell, of a heap -/
def nameZ (z : Str) : Bool := decide (1 ≤ z.length) && decide (z.length ≤ 8) && z.cps.toList.all fun c => decide (97 ≤ c) && decide (c ≤ 122)
def nameB : V → Bool
  | .str z => nameZ z
  | _ => false
def inB (i : Int) : Bool := decide (-(10 ^ 30) < i) && decide (i < 10 ^ 30)
def integB : V → Bool
  | .int i => inB i
  | _ => false
def fewB : V → Bool
  | .int i => decide (0 ≤ i) && decide (i ≤ 3)
  | _ => false
def tupV (H : Hp) : V → Option (List V)
  | .ref a => match H a with
    | some (.tup xs) => some xs
    | _ => none
  | _ => none
def strOf : V → Option Str
  | .str z => some z
  | _ => none
def isS (v : V) (z : Str) : Bool := decide (strOf v = some z)
theorem Tv.text {H : Hp} {N n : Nat} {v : V} (t : Tv H N n v) : AsText H v (strOf v) := by
  cases t with
  | non => exact .non
  | bl b => exact .bl b
  | int i h => exact .int i
  | str z h => exact .str z
  | lst e => exact .lst e
  | dct e => exact .dic e
  | tup e l h => exact .tup e
def atB : List V → Bool
  | [d] => fewB d
  | _ => false
def loadB : List V → Bool
  | [s, o] => integB s && integB o
  | _ => false
def partsB (f : V → Bool) : List V → Bool
  | h :: nm :: r => nameB nm && (if isS h "at" = true then atB r
      else if isS h "load" = true then loadB r
      else isS h "op" && decide (r.length ≤ 3) && r.all f)
  | _ => false
def treeB (H : Hp) : Nat → V → Bool
  | 0, _ => false
  | n + 1, v => match tupV H v with
    | some xs => partsB (treeB H n) xs
    | none => false
theorem tupV_of {H : Hp} {a : Addr} {xs : List V} (e : H a = some (.tup xs)) : tupV H (.ref a) = some xs := by
  show (match H a with | some (.tup xs) => some xs | _ => none) = _
  rw [e]
theorem tupV_kp {H H' : Hp} {N n : Nat} {v : V} (t : Tv H N n v) (s : Kp H H') : tupV H' v = tupV H v := by
  cases t with
  | non => rfl
  | bl b => rfl
  | int i h => rfl
  | str z h => rfl
  | lst e =>
    obtain ⟨ys, e2⟩ := s.lst _ ⟨_, e⟩
    simp only [tupV, e, e2]
  | dct e =>
    have e2 := s.dct _ _ e
    simp only [tupV, e, e2]
  | tup e l h => rw [tupV_of e, tupV_of (s.tup _ _ e)]
theorem all_congr {f g : V → Bool} : ∀ {xs : List V}, (∀ x ∈ xs, f x = g x) → xs.all f = xs.all g
  | [], _ => rfl
  | x :: xs, h => by
    rw [List.all_cons, List.all_cons, h x (List.mem_cons_self ..), all_congr fun y hy => h y (List.mem_cons_of_mem _ hy)]
theorem partsB_congr {f g : V → Bool} {xs : List V} (h : ∀ x ∈ xs, f x = g x) : partsB f xs = partsB g xs := by
  match xs, h with
  | [], _ => rfl
  | [_], _ => rfl
  | a :: b :: r, h =>
    simp only [partsB]
    rw [all_congr fun y hy => h y (List.mem_cons_of_mem _ (List.mem_cons_of_mem _ hy))]
theorem treeB_kp {H H' : Hp} {N : Nat} (s : Kp H H') : ∀ {m n : Nat} {v : V}, Tv H N n v → treeB H' m v = treeB H m v
  | 0, _, _, _ => rfl
  | m + 1, n, v, t => by
    unfold treeB
    rw [tupV_kp t s]
    cases t with
    | tup e l h =>
      rw [tupV_of e]
      exact partsB_congr fun x hx => treeB_kp s (h x hx)
    | lst e => simp only [tupV, e]
    | dct e => simp only [tupV, e]
    | _ => rfl
structure Txt (mg : Str → Option Value) : Prop where
  isi : mg "isinstance" = none
  int : mg "int" = none
  bool : mg "bool" = none
  str : mg "str" = none
  tuple : mg "tuple" = none
  list : mg "list" = none
  len : mg "len" = none
  all : mg "all" = none
  abs : mg "abs" = none
  long : ∃ t, mg "LONG" = some (.int (10 ^ 30) t)
  letters8 : ∃ t, mg "MAX_LETTERS" = some (.int 8 t)
  letters : ∃ t, mg "LETTERS" = some (.str "abcdefghijklmnopqrstuvwxyz" t)
theorem Tv.ty {K : PySem.W.Frag} {H : Hp} {N n : Nat} {v : V} (t : Tv H N n v) : ∃ z : String, z ∈ ["NoneType", "bool", "int", "str", "list", "dict", "tuple"] ∧ TyX K H v (.type z) ∧ (z = "str" ↔ ∃ y, v = .str y) ∧ (z = "tuple" ↔ ∃ xs, tupV H v = some xs) ∧ (z = "int" ↔ ∃ i, v = .int i) ∧ (z = "bool" ↔ ∃ b, v = .bl b) := by
  cases t with
  | non => exact ⟨"NoneType", by decide, .base .non, by simp, by simp [tupV], by simp, by simp⟩
  | bl b => exact ⟨"bool", by decide, .base (.bl b), by simp, by simp [tupV], by simp, by simp⟩
  | int i h => exact ⟨"int", by decide, .base (.int i), by simp, by simp [tupV], by simp, by simp⟩
  | str z h => exact ⟨"str", by decide, .base (.str z), by simp, by simp [tupV], by simp, by simp⟩
  | lst e => exact ⟨"list", by decide, .base (.lst e), by simp, by simp [tupV, e], by simp, by simp⟩
  | dct e => exact ⟨"dict", by decide, .base (.dK e), by simp, by simp [tupV, e], by simp, by simp⟩
  | tup e l h => exact ⟨"tuple", by decide, .base (.tup e), by simp, by simp [tupV, e], by simp, by simp⟩
end K1
namespace K1
open PySem L2
open L2.My
theorem iteD {c A B : Prop} [Decidable c] (hc : c) (h : A) : if decide c = true then A else B := by
  rw [decide_eq_true hc]
  exact iteT h
theorem iteDn {c A B : Prop} [Decidable c] (hc : ¬ c) (h : B) : if decide c = true then A else B := by
  rw [decide_eq_false hc]
  exact iteF h
theorem letters_range (c : Nat) : decide (c ∈ ("abcdefghijklmnopqrstuvwxyz" : Str).cps.toList) = (decide (97 ≤ c) && decide (c ≤ 122)) := by
  have e : ("abcdefghijklmnopqrstuvwxyz" : Str).cps.toList = [97,98,99,100,101,102,103,104,105,106,107,108,109,110,111,112,113,114,115,116,117,118,119,120,121,122] := by decide +kernel
  rw [e]
  apply Bool.eq_iff_iff.mpr
  simp only [decide_eq_true_eq, Bool.and_eq_true, List.mem_cons, List.not_mem_nil, or_false]
  omega
theorem take_step {α β : Type} (f : α → β) {xs : List α} {i : Nat} {x : α} (h : xs[i]? = some x) : (xs.take (i + 1)).map f = (xs.take i).map f ++ [f x] := by
  obtain ⟨hi, hx⟩ := List.getElem?_eq_some_iff.mp h
  rw [← hx, List.take_succ_eq_append_getElem hi, List.map_append, List.map_singleton]
theorem all_map_id {α : Type} (f : α → Bool) (xs : List α) : (xs.map f).all id = xs.all f := by
  rw [List.all_map]
  rfl
/-- H with the list xs at D, which is new since H0 -/
def Acc (H0 : Hp) (D : Addr) (xs : List V) (H : Hp) : Prop := Same H0 H ∧ H0 D = none ∧ H D = some (.lst xs)
theorem Acc.start {H0 : Hp} {D : Addr} (hD : H0 D = none) : Acc H0 D [] (upd H0 D (.lst [])) := ⟨grow hD, hD, upd_same⟩
theorem Acc.put {H0 H : Hp} {D : Addr} {xs ys : List V} (a : Acc H0 D xs H) : Acc H0 D ys (upd H D (.lst ys)) :=
  ⟨fun q o e => by rw [upd_ne (ne_of_none e a.2.1)]; exact a.1 q o e, a.2.1, upd_same⟩
theorem Acc.on {H0 H H' : Hp} {D : Addr} {xs : List V} (a : Acc H0 D xs H) (s : Same H H') : Acc H0 D xs H' := ⟨fun q o e => s _ _ (a.1 q o e), a.2.1, s _ _ a.2.2⟩
section
variable {P : Program} {w : World} {K : PySem.W.Frag} {mg : Str → Option Value} {base : Heap}
/-! ### is_name -/
def spV (N m : Nat) (f : V → Bool) : Sp := fun vs H Q _ => ∃ x, vs = [x] ∧ Tv H N m x ∧ ∀ H', Same H H' → Q (.bl (f x)) H'
def spB (N m : Nat) (f : Hp → V → Bool) : Sp := fun vs H Q _ => ∃ x, vs = [x] ∧ Tv H N m x ∧ ∀ H', Same H H' → Q (.bl (f H x)) H'
theorem scName : FnScope ["value", "letter"] ["value"] (defScope tName) := ⟨rfl, rfl, rfl, by decide +kernel, rfl, by decide +kernel, by decide +kernel⟩
theorem ok_name {N m : Nat} {f : Addr} {fd : FuncData} (F : Fun K "is_name" "is_name" tName f fd) (T : Txt mg) : FnOk P w K mg base CX0 1 f fd ["value"] (spV N m nameB) := by
  obtain ⟨t8, l8⟩ := T.letters8
  obtain ⟨tL, lL⟩ := T.letters
  refine F.ok scName (fun vs H Q E h => ?_) (fun cdv A outer s H vs Q E hr h => ?_)
  · obtain ⟨x, rfl, _⟩ := h
    rfl
  · obtain ⟨x, rfl, tx, k⟩ := h
    refine ⟨_, pss_cons (ps_if (PW.pt (pw_or (pt_not (pt_val (pe_callB call_isi (by rfl) T.isi (by decide +kernel) (pa_cons (pv 0) (pa_cons (pe_bltn (v := .ty "str") (by rfl) T.str (by decide +kernel) rfl) pa_nil)))))
        (pw_or1 (pt_not (pt_chain op_le op_le pe_int (pe_callB call_len_str (by rfl) T.len PySem.boot_len (pa_cons (pv 0) pa_nil)) (pe_glob (v := .int 8) rfl l8 ⟨_, rfl⟩))))))
        (pss_one (ps_ret pe_bl)) pss_nil)
      (pss_one (ps_ret (pe_callB (cr_all (by rfl)) (by rfl) T.all (by decide +kernel) (pa_cons (pe_lc (own := [("letter", 1)]) (g := gName 1) (tt := tYes) (by rfl) scName.nd (pi_str (pv 0)) (blkOk_by (own := [("letter", 1)]) (N := ["value", "letter"]) (sc := defScope tName) (by decide +kernel))
        (fun _ _ _ _ _ => pg_name (i := 1) scName.nd rfl (Or.inl rfl)) (fun _ _ _ _ _ => pts_nil) (fun _ _ _ _ _ => pe_cmpR op_in_sign (pv 1) (pe_glob (v := .str "abcdefghijklmnopqrstuvwxyz") rfl lL ⟨_, rfl⟩) (by rfl))) pa_nil)))), ?_⟩
    obtain ⟨z, hz, ty, q1, _⟩ := tx.ty (K := K)
    by_cases c : z = "str"
    · obtain ⟨y, rfl⟩ := q1.mp c
      cases tx with
      | str _ len =>
      refine ⟨_, rfl, _, _, _, _, _, rfl, ClsV.ty _, .base (.str y), kit_ty (r := true) (by decide +kernel), _, rfl, iteF ?_⟩
      refine ⟨_, rfl, y, rfl, (by have : (100 : Nat) ≤ sizeLine := by decide
                                  omega), _, _, rfl, rfl, _, rfl, ?_⟩
      have nz : nameZ y = (decide (1 ≤ y.length) && decide (y.length ≤ 8) && y.cps.toList.all fun c => decide (97 ≤ c) && decide (c ≤ 122)) := rfl
      by_cases c1 : (1 : Int) ≤ (y.length : Int)
      · refine iteD c1 ⟨_, _, rfl, rfl, _, rfl, ?_⟩
        by_cases c2 : (y.length : Int) ≤ 8
        · rw [decide_eq_true c2]
          refine iteF ?_
          refine ⟨_, rfl, y, rfl, fun D hD => lc_it walk_str (fun i H' => Acc H D (((y.cps.toList.take i).map fun c => decide (c ∈ ("abcdefghijklmnopqrstuvwxyz" : Str).cps.toList)).map V.bl) H') (Acc.start hD) (fun _ _ _ _ => trivial) ?_ ?_⟩
          · rintro i v H1 H2 hi a ⟨rfl, c, hc, rfl⟩
            refine ⟨rfl, _, rfl, c, _, rfl, rfl, _, a.2.2, ?_, ?_⟩
            · rw [List.length_map, List.length_map, List.length_take]
              have : (100 : Nat) ≤ sizeLine := by decide
              have z1 : y.cps.toList.length = y.length := Array.length_toList
              omega
            · have e : y.cps.toList[i]? = some c := by simpa using hc
              rw [take_step _ e, List.map_append]
              exact a.put
          · intro H1 a
            refine ⟨_, _, rfl, SqL.of a.2.2, ?_⟩
            have e : y.cps.toList.take y.cps.size = y.cps.toList := List.take_of_length_le (by simp)
            have e2 : nameB (.str y) = ((y.cps.toList.take y.cps.size).map fun c => decide (c ∈ ("abcdefghijklmnopqrstuvwxyz" : Str).cps.toList)).all id := by
              rw [e, all_map_id]
              show nameZ y = _
              rw [nz, decide_eq_true (show 1 ≤ y.length by omega), decide_eq_true (show y.length ≤ 8 by omega), Bool.true_and, Bool.true_and]
              congr 1
              funext c
              exact (letters_range c).symm
            rw [← e2]
            exact k _ a.1
        · rw [decide_eq_false c2]
          refine iteT ?_
          have nb : nameB (.str y) = false := by
            show nameZ y = false
            rw [nz, decide_eq_false (show ¬ y.length ≤ 8 by omega), Bool.and_false, Bool.false_and]
          rw [← nb]
          exact k H (Same.refl H)
      · refine iteDn c1 ⟨_, rfl, iteT ?_⟩
        have nb : nameB (.str y) = false := by
          show nameZ y = false
          rw [nz, decide_eq_false (show ¬ 1 ≤ y.length by omega), Bool.false_and, Bool.false_and]
        rw [← nb]
        exact k H (Same.refl H)
    · have nb : nameB x = false := by
        cases x with
        | str y => exact absurd (q1.mpr ⟨y, rfl⟩) c
        | _ => rfl
      refine ⟨_, rfl, _, _, _, _, _, rfl, ClsV.ty _, ty, kit_ty (r := false) (by
        simp only [List.mem_cons, List.not_mem_nil, or_false] at hz
        rcases hz with rfl | rfl | rfl | rfl | rfl | rfl | rfl <;> first | exact absurd rfl c | decide +kernel), _, rfl, iteT (iteT ?_)⟩
      rw [← nb]
      exact k H (Same.refl H)
end
end K1
namespace K1
open PySem L2
open L2.My
def wholeB : V → Bool
  | .int _ => true
  | _ => false
theorem inB_iff {i : Int} : inB i = true ↔ -(10 ^ 30) < i ∧ i < 10 ^ 30 := by
  unfold inB
  rw [Bool.and_eq_true, decide_eq_true_eq, decide_eq_true_eq]
theorem log40 {n : Nat} (h : n < 10 ^ 40) : n.log2 < 1920 := by
  by_cases z : n = 0
  · subst z
    decide
  · have h2 : n < 2 ^ 133 := Nat.lt_of_lt_of_le h (by decide)
    exact Nat.lt_of_lt_of_le ((Nat.log2_lt z).mpr h2) (by decide)
theorem digits_len (i : Int) : ((toString (if i < 0 then -i else i) : String) : Str).length = (Nat.toDigits 10 i.natAbs).length := by
  have e : (if i < 0 then -i else i) = ((i.natAbs : Nat) : Int) := by
    split <;> omega
  rw [e]
  show (Str.ofString (Nat.repr i.natAbs)).length = _
  rw [PySem.ofString_length, ← String.length_toList, Nat.toList_repr]
theorem digits_fit (i : Int) (h : i.natAbs < 10 ^ 40) : ((toString (if i < 0 then -i else i) : String) : Str).length ≤ sizeLine := by
  rw [digits_len]
  have := (Nat.length_toDigits_le_iff (b := 10) (n := i.natAbs) (k := 40) (by decide) (by decide)).mpr h
  have : (40 : Nat) ≤ sizeLine := by decide
  omega
theorem digits30 (i : Int) : decide (((toString (if i < 0 then -i else i) : String) : Str).length ≤ 30) = inB i := by
  rw [digits_len]
  apply Bool.eq_iff_iff.mpr
  rw [decide_eq_true_eq, Nat.length_toDigits_le_iff (by decide) (by decide), inB_iff]
  have e30 : (10 : Int) ^ 30 = 1000000000000000000000000000000 := by decide
  have e31 : (10 : Nat) ^ 30 = 1000000000000000000000000000000 := by decide
  rw [e30, e31]
  omega
section
variable {P : Program} {w : World} {K : PySem.W.Frag} {mg : Str → Option Value} {base : Heap}
/-! ### is_whole, is_integer, is_between -/
theorem scWhole : FnScope ["value"] ["value"] (defScope tWhole) := ⟨rfl, rfl, rfl, by decide +kernel, rfl, by decide +kernel, by decide +kernel⟩
theorem ok_whole {N m : Nat} {f : Addr} {fd : FuncData} (F : Fun K "is_whole" "is_whole" tWhole f fd) (T : Txt mg) : FnOk P w K mg base CX0 1 f fd ["value"] (spV N m wholeB) := by
  refine F.ok scWhole (fun vs H Q E h => ?_) (fun cdv A outer s H vs Q E hr h => ?_)
  · obtain ⟨x, rfl, _⟩ := h
    rfl
  · obtain ⟨x, rfl, it, k⟩ := h
    refine ⟨_, pss_one (ps_ret (pe_and (pe_callB call_isi (by rfl) T.isi (by decide +kernel) (pa_cons (pv 0) (pa_cons (pe_bltn (v := .ty "int") (by rfl) T.int (by decide +kernel) rfl) pa_nil)))
      (pe_one (pe_not (pe_callB call_isi (by rfl) T.isi (by decide +kernel) (pa_cons (pv 0) (pa_cons (pe_bltn (v := .ty "bool") (by rfl) T.bool (by decide +kernel) rfl) pa_nil))))))), ?_⟩
    obtain ⟨z, hz, ty, q1, q2, q3, q4⟩ := it.ty (K := K)
    by_cases c : z = "int" ∨ z = "bool"
    · rcases c with c | c
      · obtain ⟨y, rfl⟩ := q3.mp c
        refine ⟨_, rfl, _, _, _, _, _, rfl, ClsV.ty _, .base (.int _), kit_ty (r := true) (by decide +kernel), _, rfl, iteT ?_⟩
        exact ⟨_, rfl, _, _, _, _, _, rfl, ClsV.ty _, .base (.int _), kit_ty (r := false) (by decide +kernel), _, rfl, k H (Same.refl H)⟩
      · obtain ⟨y, rfl⟩ := q4.mp c
        refine ⟨_, rfl, _, _, _, _, _, rfl, ClsV.ty _, .base (.bl _), kit_ty (r := true) (by decide +kernel), _, rfl, iteT ?_⟩
        exact ⟨_, rfl, _, _, _, _, _, rfl, ClsV.ty _, .base (.bl _), kit_ty (r := true) (by decide +kernel), _, rfl, k H (Same.refl H)⟩
    · have nb : wholeB x = false := by
        cases x with
        | int y => exact absurd (.inl (q3.mpr ⟨y, rfl⟩)) c
        | _ => rfl
      refine ⟨_, rfl, _, _, _, _, _, rfl, ClsV.ty _, ty, kit_ty (r := false) (by
        simp only [List.mem_cons, List.not_mem_nil, or_false] at hz
        rcases hz with rfl | rfl | rfl | rfl | rfl | rfl | rfl <;> first | exact absurd (.inl rfl) c | exact absurd (.inr rfl) c | decide +kernel), _, rfl, iteF ?_⟩
      rw [← nb]
      exact k H (Same.refl H)
theorem scInteger : FnScope ["value"] ["value"] (defScope tInteger) := ⟨rfl, rfl, rfl, by decide +kernel, rfl, by decide +kernel, by decide +kernel⟩
theorem ok_integer {N m : Nat} {f fW : Addr} {fd fdW : FuncData} (F : Fun K "is_integer" "is_integer" tInteger f fd) (T : Txt mg) (FW : Fun K "is_whole" "is_whole" tWhole fW fdW) (bW : Binds K fdW ["value"] []) (gW : mg "is_whole" = some (.ref fW)) :
    FnOk P w K mg base CX0 2 f fd ["value"] (spV N m integB) := by
  have GW : FnOk P w K mg base CX0 1 fW fdW ["value"] (spV N m wholeB) := ok_whole FW T
  obtain ⟨tl, long⟩ := T.long
  refine F.ok scInteger (fun vs H Q E h => ?_) (fun cdv A outer s H vs Q E hr h => ?_)
  · obtain ⟨x, rfl, _⟩ := h
    rfl
  · obtain ⟨x, rfl, it, k⟩ := h
    refine ⟨_, pss_one (ps_ret (pe_and (pe_call GW hr rfl gW FW.kp bW .nil pass0 (pa_cons (pv 0) pa_nil))
      (pe_one (pe_chain op_lt op_lt (pe_un un_neg (pe_glob (v := .int (10 ^ 30)) rfl long ⟨_, rfl⟩)) (pv 0) (pe_glob (v := .int (10 ^ 30)) rfl long ⟨_, rfl⟩))))), ?_⟩
    refine ⟨_, rfl, x, rfl, it, fun H1 s1 => ?_⟩
    refine ⟨_, rfl, ?_⟩
    cases x with
    | int i =>
      refine iteT ⟨_, rfl, _, rfl, _, _, rfl, rfl, _, rfl, ?_⟩
      by_cases c : -(10 ^ 30) < i
      · rw [decide_eq_true c]
        refine iteT ⟨_, _, rfl, rfl, ?_⟩
        have z : integB (.int i) = decide (i < 10 ^ 30) := by
          show (decide (-(10 ^ 30) < i) && _) = _
          rw [decide_eq_true c, Bool.true_and]
        have kk := k _ s1
        rw [z] at kk
        exact kk
      · rw [decide_eq_false c]
        have z : integB (.int i) = false := by
          show (decide (-(10 ^ 30) < i) && _) = _
          rw [decide_eq_false c, Bool.false_and]
        have kk := k _ s1
        rw [z] at kk
        exact iteF kk
    | _ => exact iteF (k _ s1)
def spBetween (N m : Nat) : Sp := fun vs H Q _ => ∃ x, vs = [x, .int 0, .int 3] ∧ Tv H N m x ∧ ∀ H', Same H H' → Q (.bl (fewB x)) H'
theorem scBetween : FnScope ["value", "least", "most"] ["value", "least", "most"] (defScope tBetween) := ⟨rfl, rfl, rfl, by decide +kernel, rfl, by decide +kernel, by decide +kernel⟩
theorem ok_between {N m : Nat} {f fI : Addr} {fd fdI : FuncData} (F : Fun K "is_between" "is_between" tBetween f fd) (GI : FnOk P w K mg base CX0 2 fI fdI ["value"] (spV N m integB)) (kI : PySem.W.keepIn K (.ref fI) = true) (bI : Binds K fdI ["value"] []) (gI : mg "is_integer" = some (.ref fI)) :
    FnOk P w K mg base CX0 3 f fd ["value", "least", "most"] (spBetween N m) := by
  refine F.ok scBetween (fun vs H Q E h => ?_) (fun cdv A outer s H vs Q E hr h => ?_)
  · obtain ⟨x, rfl, _⟩ := h
    rfl
  · obtain ⟨x, rfl, it, k⟩ := h
    refine ⟨_, pss_one (ps_ret (pe_and (pe_call GI hr rfl gI kI bI .nil pass0 (pa_cons (pv 0) pa_nil))
      (pe_and (pe_cmpR op_le (pv 1) (pv 0) (nomark _))
      (pe_one (pe_or (pe_cmpR op_isN (pv 2) pe_non (nomark _)) (pe_one (pe_cmpR op_le (pv 0) (pv 2) (nomark _)))))))), ?_⟩
    refine ⟨_, rfl, x, rfl, it, fun H1 s1 => ?_⟩
    refine ⟨_, rfl, ?_⟩
    have e30 : (10 : Int) ^ 30 = 1000000000000000000000000000000 := by decide
    cases x with
    | int i =>
      have z : fewB (.int i) = (decide (0 ≤ i) && decide (i ≤ 3)) := rfl
      cases ci : integB (.int i) with
      | false =>
        refine iteF ?_
        have z2 : fewB (.int i) = false := by
          rw [z]
          have ci2 : ¬ (inB i = true) := by
            show ¬ (integB (.int i) = true)
            rw [ci]
            exact Bool.false_ne_true
          rw [inB_iff, e30] at ci2
          by_cases c0 : 0 ≤ i
          · rw [decide_eq_false (show ¬ i ≤ 3 by omega), Bool.and_false]
          · rw [decide_eq_false c0, Bool.false_and]
        have kk := k _ s1
        rw [z2] at kk
        exact kk
      | true =>
        refine iteT ⟨_, rfl, _, rfl, _, _, rfl, rfl, _, rfl, ?_⟩
        by_cases c0 : 0 ≤ i
        · rw [decide_eq_true c0]
          refine iteT ⟨_, rfl, rfl, _, rfl, iteF ⟨_, rfl, _, rfl, _, _, rfl, rfl, ?_⟩⟩
          have z2 : fewB (.int i) = decide (i ≤ 3) := by
            rw [z, decide_eq_true c0, Bool.true_and]
          have kk := k _ s1
          rw [z2] at kk
          exact kk
        · rw [decide_eq_false c0]
          have z2 : fewB (.int i) = false := by
            rw [z, decide_eq_false c0, Bool.false_and]
          refine iteF ?_
          have kk := k _ s1
          rw [z2] at kk
          exact kk
    | _ => exact iteF (k _ s1)
/-! ### the law's own -/
theorem scNameL : FnScope ["_law_value", "_law_one"] ["_law_value"] (defScope tNameL) := ⟨rfl, rfl, rfl, by decide +kernel, rfl, by decide +kernel, by decide +kernel⟩
def okc (c : Nat) : Bool := decide (97 ≤ c) && decide (c ≤ 122)
theorem filter_step {α : Type} (p : α → Bool) {xs : List α} {i : Nat} {x : α} (h : xs[i]? = some x) : (xs.take (i + 1)).filter p = (xs.take i).filter p ++ (if p x = true then [x] else []) := by
  obtain ⟨hi, hx⟩ := List.getElem?_eq_some_iff.mp h
  rw [← hx, List.take_succ_eq_append_getElem hi, List.filter_append]
  congr 1
  cases h : p xs[i] <;> simp [h]
theorem filter_none {α : Type} (f : α → Bool) : ∀ xs : List α, (xs.filter fun c => !f c).isEmpty = xs.all f
  | [] => rfl
  | x :: xs => by
    rw [List.filter_cons, List.all_cons]
    cases h : f x with
    | false => rfl
    | true =>
      show (xs.filter _).isEmpty = _
      rw [filter_none f xs, Bool.true_and]
theorem sign_a (c : Nat) : (!decide ((⟨#[c]⟩ : Str).cps.toList < ("a" : Str).cps.toList)) = decide (97 ≤ c) := by
  have e : ("a" : Str).cps.toList = [97] := by decide +kernel
  rw [e]
  apply Bool.eq_iff_iff.mpr
  simp [List.cons_lt_cons_iff]
theorem sign_z (c : Nat) : (!decide (("z" : Str).cps.toList < (⟨#[c]⟩ : Str).cps.toList)) = decide (c ≤ 122) := by
  have e : ("z" : Str).cps.toList = [122] := by decide +kernel
  rw [e]
  apply Bool.eq_iff_iff.mpr
  simp [List.cons_lt_cons_iff]
theorem ok_nameL {N m : Nat} {f : Addr} {fd : FuncData} (F : Fun K "_law_is_name" "_law_is_name" tNameL f fd) (T : Txt mg) : FnOk P w K mg base CX0 1 f fd ["_law_value"] (spV N m nameB) := by
  refine F.ok scNameL (fun vs H Q E h => ?_) (fun cdv A outer s H vs Q E hr h => ?_)
  · obtain ⟨x, rfl, _⟩ := h
    rfl
  · obtain ⟨x, rfl, tx, k⟩ := h
    have hu := Nat.lt_of_succ_lt (hu_of hr)
    refine ⟨_, pss_one (ps_ret (pe_and (pe_callB call_isi (by rfl) T.isi (by decide +kernel) (pa_cons (pv 0) (pa_cons (pe_bltn (v := .ty "str") (by rfl) T.str (by decide +kernel) rfl) pa_nil)))
      (pe_and (pe_chain op_le op_le pe_int (pe_callB call_len_str (by rfl) T.len PySem.boot_len (pa_cons (pv 0) pa_nil)) pe_int)
      (pe_one (pe_cmpR (op_eqNil hu) (pe_lc (own := [("_law_one", 1)]) (g := gName 1) (tt := _) (by rfl) scNameL.nd (pi_str (pv 0)) (blkOk_by (own := [("_law_one", 1)]) (N := ["_law_value", "_law_one"]) (sc := defScope tNameL) (by decide +kernel))
        (fun _ _ _ _ _ => pg_name (i := 1) scNameL.nd rfl (Or.inl rfl)) (fun _ _ _ _ _ => pts_one (pt_not (pt_chain op_le_str op_le_str pe_str (pv 1) pe_str))) (fun _ _ _ _ _ => pv 1)) (pe_lst pa_nil) (nomark _)))))), ?_⟩
    obtain ⟨z, hz, ty, q1, _⟩ := tx.ty (K := K)
    by_cases c : z = "str"
    · obtain ⟨y, rfl⟩ := q1.mp c
      cases tx with
      | str _ len =>
      refine ⟨_, rfl, _, _, _, _, _, rfl, ClsV.ty _, .base (.str y), kit_ty (r := true) (by decide +kernel), _, rfl, iteT ?_⟩
      refine ⟨_, rfl, y, rfl, (by have : (100 : Nat) ≤ sizeLine := by decide
                                  omega), _, _, rfl, rfl, _, rfl, ?_⟩
      have nz : nameZ y = (decide (1 ≤ y.length) && decide (y.length ≤ 8) && y.cps.toList.all okc) := rfl
      by_cases c1 : (1 : Int) ≤ (y.length : Int)
      · refine iteD c1 ⟨_, _, rfl, rfl, _, rfl, ?_⟩
        by_cases c2 : (y.length : Int) ≤ 8
        · refine iteD c2 ?_
          refine ⟨_, rfl, y, rfl, fun D hD => lc_it walk_str (fun i H' => Acc H D (((y.cps.toList.take i).filter fun c => !okc c).map fun c => V.str ⟨#[c]⟩) H') (Acc.start hD) (fun _ _ _ _ => trivial) ?_ ?_⟩
          · rintro i v H1 H2 hi a ⟨rfl, c, hc, rfl⟩
            have e : y.cps.toList[i]? = some c := by simpa using hc
            refine ⟨rfl, _, rfl, _, _, rfl, rfl, _, rfl, ?_⟩
            rw [sign_a]
            have put : okc c = false → ∃ acc, H2 D = some (.lst acc) ∧ acc.length < sizeLine ∧ Acc H D (((y.cps.toList.take (i + 1)).filter fun c => !okc c).map fun c => V.str ⟨#[c]⟩) (upd H2 D (.lst (acc ++ [.str ⟨#[c]⟩]))) := by
              intro b
              refine ⟨_, a.2.2, ?_, ?_⟩
              · rw [List.length_map]
                have l1 := List.length_filter_le (fun c => !okc c) (y.cps.toList.take i)
                have l2 := List.length_take_le i y.cps.toList
                have l3 : (y.cps.toList.take i).length ≤ y.cps.toList.length := by rw [List.length_take]; omega
                have : (100 : Nat) ≤ sizeLine := by decide
                have z1 : y.cps.toList.length = y.length := Array.length_toList
                omega
              · rw [filter_step (fun c => !okc c) e, b, List.map_append]
                exact a.put
            have same : okc c = true → Acc H D (((y.cps.toList.take (i + 1)).filter fun c => !okc c).map fun c => V.str ⟨#[c]⟩) H2 := by
              intro b
              rw [filter_step (fun c => !okc c) e, b]
              simpa using a
            by_cases d1 : 97 ≤ c
            · refine iteD d1 ⟨_, _, rfl, rfl, _, rfl, ?_⟩
              rw [sign_z]
              by_cases d2 : c ≤ 122
              · rw [decide_eq_true d2]
                refine iteF (same ?_)
                simp [okc, d1, d2]
              · rw [decide_eq_false d2]
                refine iteT ⟨_, rfl, put ?_⟩
                simp [okc, d2]
            · refine iteDn d1 ⟨_, rfl, ?_⟩
              refine iteT ⟨_, rfl, put ?_⟩
              simp [okc, d1]
          · intro H1 a
            refine ⟨(by show 0 ≤ sizeLine; decide), fun l nl => ?_⟩
            have a2 := a.on (grow (o := .lst []) nl)
            refine ⟨_, _, _, rfl, rfl, a2.2.2, upd_same, ?_⟩
            have e : y.cps.toList.take y.cps.size = y.cps.toList := List.take_of_length_le (by simp)
            have kk := k _ a2.1
            have z2 : nameB (.str y) = (((y.cps.toList.take y.cps.size).filter fun c => !okc c).map fun c => V.str ⟨#[c]⟩).isEmpty := by
              rw [e, List.isEmpty_map, filter_none]
              show nameZ y = _
              rw [nz, decide_eq_true (show 1 ≤ y.length by omega), decide_eq_true (show y.length ≤ 8 by omega), Bool.true_and, Bool.true_and]
            rw [z2] at kk
            exact kk
        · refine iteDn c2 ?_
          have nb : nameB (.str y) = false := by
            show nameZ y = false
            rw [nz, decide_eq_false (show ¬ y.length ≤ 8 by omega), Bool.and_false, Bool.false_and]
          have kk := k H (Same.refl H)
          rw [nb] at kk
          exact kk
      · refine iteDn c1 ⟨_, rfl, iteF ?_⟩
        have nb : nameB (.str y) = false := by
          show nameZ y = false
          rw [nz, decide_eq_false (show ¬ 1 ≤ y.length by omega), Bool.false_and, Bool.false_and]
        have kk := k H (Same.refl H)
        rw [nb] at kk
        exact kk
    · have nb : nameB x = false := by
        cases x with
        | str y => exact absurd (q1.mpr ⟨y, rfl⟩) c
        | _ => rfl
      refine ⟨_, rfl, _, _, _, _, _, rfl, ClsV.ty _, ty, kit_ty (r := false) (by
        simp only [List.mem_cons, List.not_mem_nil, or_false] at hz
        rcases hz with rfl | rfl | rfl | rfl | rfl | rfl | rfl <;> first | exact absurd rfl c | decide +kernel), _, rfl, iteF ?_⟩
      have kk := k H (Same.refl H)
      rw [nb] at kk
      exact kk
/-! ### _law_is_number -/
theorem scNumL : FnScope ["_law_value"] ["_law_value"] (defScope tNumL) := ⟨rfl, rfl, rfl, by decide +kernel, rfl, by decide +kernel, by decide +kernel⟩
theorem ok_numL {N m : Nat} {f : Addr} {fd : FuncData} (F : Fun K "_law_is_number" "_law_is_number" tNumL f fd) (T : Txt mg) : FnOk P w K mg base CX0 1 f fd ["_law_value"] (spV N m integB) := by
  refine F.ok scNumL (fun vs H Q E h => ?_) (fun cdv A outer s H vs Q E hr h => ?_)
  · obtain ⟨x, rfl, _⟩ := h
    rfl
  · obtain ⟨x, rfl, it, k⟩ := h
    refine ⟨_, pss_one (ps_ret (pe_and (pe_callB call_isi (by rfl) T.isi (by decide +kernel) (pa_cons (pv 0) (pa_cons (pe_bltn (v := .ty "int") (by rfl) T.int (by decide +kernel) rfl) pa_nil)))
      (pe_and (pe_not (pe_callB call_isi (by rfl) T.isi (by decide +kernel) (pa_cons (pv 0) (pa_cons (pe_bltn (v := .ty "bool") (by rfl) T.bool (by decide +kernel) rfl) pa_nil))))
      (pe_one (pe_cmpR op_le (pe_callB call_len_str (by rfl) T.len PySem.boot_len (pa_cons (pe_callTy call_str_int (by rfl) T.str (by decide +kernel) (pa_cons (pe_callB call_abs (by rfl) T.abs (by decide +kernel) (pa_cons (pv 0) pa_nil)) pa_nil)) pa_nil)) pe_int (nomark _)))))), ?_⟩
    obtain ⟨z, hz, ty, q1, q2, q3, q4⟩ := it.ty (K := K)
    by_cases c : z = "int" ∨ z = "bool"
    · rcases c with c | c
      · obtain ⟨i, rfl⟩ := q3.mp c
        refine ⟨_, rfl, _, _, _, _, _, rfl, ClsV.ty _, .base (.int _), kit_ty (r := true) (by decide +kernel), _, rfl, iteT ?_⟩
        refine ⟨_, rfl, _, _, _, _, _, rfl, ClsV.ty _, .base (.int _), kit_ty (r := false) (by decide +kernel), _, rfl, _, rfl, iteT ?_⟩
        cases it with
        | int _ h40 =>
        have ab : (if i < 0 then -i else i).natAbs = i.natAbs := by split <;> omega
        refine ⟨_, rfl, _, rfl, _, rfl, (by rw [ab]; exact log40 h40), _, rfl, ?_, _, _, rfl, rfl, ?_⟩
        · exact digits_fit i h40
        · have kk := k H (Same.refl H)
          have z2 : integB (.int i) = decide ((((toString (if i < 0 then -i else i) : String) : Str).length : Int) ≤ 30) := by
            show inB i = _
            rw [← digits30 i]
            apply Bool.eq_iff_iff.mpr
            rw [decide_eq_true_eq, decide_eq_true_eq]
            omega
          rw [z2] at kk
          exact kk
      · obtain ⟨y, rfl⟩ := q4.mp c
        refine ⟨_, rfl, _, _, _, _, _, rfl, ClsV.ty _, .base (.bl _), kit_ty (r := true) (by decide +kernel), _, rfl, iteT ?_⟩
        exact ⟨_, rfl, _, _, _, _, _, rfl, ClsV.ty _, .base (.bl _), kit_ty (r := true) (by decide +kernel), _, rfl, _, rfl, iteF (k H (Same.refl H))⟩
    · have nb : integB x = false := by
        cases x with
        | int y => exact absurd (.inl (q3.mpr ⟨y, rfl⟩)) c
        | _ => rfl
      refine ⟨_, rfl, _, _, _, _, _, rfl, ClsV.ty _, ty, kit_ty (r := false) (by
        simp only [List.mem_cons, List.not_mem_nil, or_false] at hz
        rcases hz with rfl | rfl | rfl | rfl | rfl | rfl | rfl <;> first | exact absurd (.inl rfl) c | exact absurd (.inr rfl) c | decide +kernel), _, rfl, iteF ?_⟩
      have kk := k H (Same.refl H)
      rw [nb] at kk
      exact kk
end
end K1
namespace K1
open PySem L2
open L2.My
theorem Tv.same {H H' : Hp} {N m : Nat} {v : V} (t : Tv H N m v) (s : Same H H') : Tv H' N m v := t.kp (.of s)
structure Txt2 (mg : Str → Option Value) : Prop where
  trees : ∃ t, mg "MAX_TREES" = some (.int 3 t)
  dist : ∃ t, mg "MAX_DISTANCE" = some (.int 3 t)
  levels : ∃ t, mg "MAX_LEVELS" = some (.int 4 t)
theorem treeB_tup {H : Hp} {a : Addr} {xs : List V} {q : Nat} (e : H a = some (.tup xs)) : treeB H (q + 1) (.ref a) = partsB (treeB H q) xs := by
  unfold treeB
  rw [tupV_of e]
theorem Tv.tupcase {K : PySem.W.Frag} {H : Hp} {N m : Nat} {x : V} (t : Tv H N m x) :
    (∃ a xs, x = .ref a ∧ H a = some (.tup xs) ∧ xs.length ≤ N ∧ ∀ y ∈ xs, Tv H N m y) ∨ (tupV H x = none ∧ ∃ u, TyX K H x u ∧ PySem.W.kitOne K u (.type "tuple") = some false) := by
  cases t with
  | non => exact .inr ⟨rfl, _, .base .non, kit_ty (by decide +kernel)⟩
  | bl b => exact .inr ⟨rfl, _, .base (.bl b), kit_ty (by decide +kernel)⟩
  | int i h => exact .inr ⟨rfl, _, .base (.int i), kit_ty (by decide +kernel)⟩
  | str z h => exact .inr ⟨rfl, _, .base (.str z), kit_ty (by decide +kernel)⟩
  | lst e => exact .inr ⟨by simp [tupV, e], _, .base (.lst e), kit_ty (by decide +kernel)⟩
  | dct e => exact .inr ⟨by simp [tupV, e], _, .base (.dK e), kit_ty (by decide +kernel)⟩
  | tup e l h => exact .inl ⟨_, _, rfl, e, l, fun y hy => (h y hy).up⟩
theorem treeB_none {H : Hp} {x : V} {r : Nat} (h : tupV H x = none) : treeB H r x = false := by
  cases r with
  | zero => rfl
  | succ q =>
    unfold treeB
    rw [h]
section
variable {P : Program} {w : World} {K : PySem.W.Frag} {mg : Str → Option Value} {base : Heap}
/-! ### is_tree_within -/
def spWithin (N m r : Nat) : Sp := fun vs H Q _ => ∃ x, vs = [x, .int r] ∧ Tv H N m x ∧ ∀ H', Same H H' → Q (.bl (treeB H r x)) H'
theorem scWithin : FnScope ["value", "room", "below"] ["value", "room"] (defScope tWithin) := ⟨rfl, rfl, rfl, by decide +kernel, rfl, by decide +kernel, by decide +kernel⟩
theorem step_within {N m r : Nat} (hN : N ≤ 1000) {spR : Sp} {f fN fB fI : Addr} {fd fdN fdB fdI : FuncData} (F : Fun K "is_tree_within" "is_tree_within" tWithin f fd) (T : Txt mg) (T2 : Txt2 mg) (bF : Binds K fd ["value", "room"] []) (gF : mg "is_tree_within" = some (.ref f))
    (GN : FnOk P w K mg base CX0 1 fN fdN ["value"] (spV N m nameB)) (kN : PySem.W.keepIn K (.ref fN) = true) (bN : Binds K fdN ["value"] []) (gN : mg "is_name" = some (.ref fN))
    (GB : FnOk P w K mg base CX0 3 fB fdB ["value", "least", "most"] (spBetween N m)) (kB : PySem.W.keepIn K (.ref fB) = true) (bB : Binds K fdB ["value", "least", "most"] []) (gB : mg "is_between" = some (.ref fB))
    (GI : FnOk P w K mg base CX0 2 fI fdI ["value"] (spV N m integB)) (kI : PySem.W.keepIn K (.ref fI) = true) (bI : Binds K fdI ["value"] []) (gI : mg "is_integer" = some (.ref fI))
    (GR : FnOk P w K mg base CX0 (3 + r) f fd ["value", "room"] spR) (hR : ∀ q, r = q + 1 → spR = spWithin N m q) :
    FnOk P w K mg base CX0 (3 + r + 1) f fd ["value", "room"] (spWithin N m r) := by
  obtain ⟨tT, lT⟩ := T2.trees
  obtain ⟨tD, lD⟩ := T2.dist
  refine F.ok scWithin (fun vs H Q E h => ?_) (fun cdv A outer s H vs Q E hr h => ?_)
  · obtain ⟨x, rfl, _⟩ := h
    rfl
  · obtain ⟨x, rfl, tx, k⟩ := h
    have hu := Nat.lt_of_succ_lt (hu_of hr)
    have hr1 : Room 1 _ := hr.mono (by omega)
    have hr2 : Room 2 _ := hr.mono (by omega)
    have hr3 : Room 3 _ := hr.mono (by omega)
    refine ⟨_, pss_cons (ps_if (PW.pt (pw_or (pt_cmpR op_eq (pv 1) pe_int (nomark _))
          (pw_or (pt_not (pt_val (pe_callB call_isi (by rfl) T.isi (by decide +kernel) (pa_cons (pv 0) (pa_cons (pe_bltn (v := .ty "tuple") (by rfl) T.tuple (by decide +kernel) rfl) pa_nil)))))
          (pw_or (pt_cmpR op_lt (pe_callB call_len_seq (by rfl) T.len PySem.boot_len (pa_cons (pv 0) pa_nil)) pe_int (nomark _))
          (pw_or1 (pt_not (pt_val (pe_call GN hr1 rfl gN kN bN .nil pass0 (pa_cons (pe_ix ix_tup (pv 0) pe_int (fun _ _ => rfl)) pa_nil)))))))))
        (pss_one (ps_ret pe_bl)) pss_nil)
      (pss_cons (ps_if (pt_cmpR (op_eqX hu) (pe_ix ix_tup (pv 0) pe_int (fun _ _ => rfl)) pe_str (nomark _))
        (pss_one (ps_ret (pe_and (pe_cmpR op_eq (pe_callB call_len_seq (by rfl) T.len PySem.boot_len (pa_cons (pv 0) pa_nil)) pe_int (nomark _))
          (pe_one (pe_call GB hr3 rfl gB kB bB .nil pass0 (pa_cons (pe_ix ix_tup (pv 0) pe_int (fun _ _ => rfl)) (pa_cons pe_int (pa_cons (pe_glob (v := .int 3) rfl lD ⟨_, rfl⟩) pa_nil)))))))) pss_nil)
      (pss_cons (ps_if (pt_cmpR (op_eqX hu) (pe_ix ix_tup (pv 0) pe_int (fun _ _ => rfl)) pe_str (nomark _))
        (pss_one (ps_ret (pe_and (pe_cmpR op_eq (pe_callB call_len_seq (by rfl) T.len PySem.boot_len (pa_cons (pv 0) pa_nil)) pe_int (nomark _))
          (pe_and (pe_call GI hr2 rfl gI kI bI .nil pass0 (pa_cons (pe_ix ix_tup (pv 0) pe_int (fun _ _ => rfl)) pa_nil))
          (pe_one (pe_call GI hr2 rfl gI kI bI .nil pass0 (pa_cons (pe_ix ix_tup (pv 0) pe_int (fun _ _ => rfl)) pa_nil))))))) pss_nil)
      (pss_cons (ps_if (PW.pt (pw_or (pt_cmpR (op_neX hu) (pe_ix ix_tup (pv 0) pe_int (fun _ _ => rfl)) pe_str (nomark _))
          (pw_or1 (pt_cmpR op_gt (pe_callB call_len_seq (by rfl) T.len PySem.boot_len (pa_cons (pv 0) pa_nil)) (pe_op op_add pe_int (pe_glob (v := .int 3) rfl lT ⟨_, rfl⟩)) (nomark _)))))
        (pss_one (ps_ret pe_bl)) pss_nil)
      (pss_one (ps_ret (pe_callB (cr_all (by rfl)) (by rfl) T.all (by decide +kernel) (pa_cons (pe_lc (own := [("below", 2)]) (g := gName 2) (tt := tYes) (by rfl) scWithin.nd (pi_tup (pe_slice sl_tupA (pv 0) (po_some pe_int) po_none)) (blkOk_by (own := [("below", 2)]) (N := ["value", "room", "below"]) (sc := defScope tWithin) (by decide +kernel))
        (fun _ _ _ _ _ => pg_name (i := 2) scWithin.nd rfl (Or.inl rfl)) (fun _ _ _ _ _ => pts_nil) (fun _ _ _ _ _ => pe_call GR hr rfl gF F.kp bF .nil pass0 (pa_cons (pv 2) (pa_cons (pe_op op_sub (pv 1) pe_int) pa_nil)))) pa_nil))))))), ?_⟩
    refine ⟨_, rfl, rfl, _, rfl, ?_⟩
    cases r with
    | zero => exact iteD rfl (iteT (k H (Same.refl H)))
    | succ q =>
      refine iteDn (fun z => ?_) ?_
      · have := V.int.inj z
        omega
      have sR : spR = spWithin N m q := hR q rfl
      subst sR
      rcases tx.tupcase (K := K) with ⟨a, xs, rfl, e, l, hx⟩ | ⟨nt, u, ty, kt⟩
      · refine ⟨_, rfl, _, _, _, _, _, rfl, ClsV.ty _, .base (.tup e), kit_ty (r := true) (by decide +kernel), _, rfl, iteF ?_⟩
        refine ⟨_, rfl, a, xs, rfl, .inr (SqT.of e), _, _, rfl, rfl, _, rfl, ?_⟩
        have eT := treeB_tup (q := q) e
        match xs, e, l, hx, eT with
        | [], e, l, hx, eT =>
          refine iteD (by decide) (iteT ?_)
          have kk := k H (Same.refl H)
          rw [eT] at kk
          exact kk
        | [_], e, l, hx, eT =>
          refine iteD (by show (1 : Int) < 2; decide) (iteT ?_)
          have kk := k H (Same.refl H)
          rw [eT] at kk
          exact kk
        | hd :: nm :: rs, e, l, hx, eT =>
          refine iteDn (by rw [List.length_cons, List.length_cons]; omega) ?_
          have eP : partsB (treeB H q) (hd :: nm :: rs) = (nameB nm && (if isS hd "at" = true then atB rs
            else if isS hd "load" = true then loadB rs
            else isS hd "op" && decide (rs.length ≤ 3) && rs.all (treeB H q))) := rfl
          rw [eP] at eT
          refine ⟨_, rfl, a, _, 1, nm, rfl, rfl, SqT.of e, atI_nat (j := 1) rfl, nm, rfl, hx nm (by simp), fun H1 s1 => ?_⟩
          have e1 := s1 _ _ e
          refine ⟨_, rfl, ?_⟩
          cases cn : nameB nm with
          | false =>
            refine iteT ?_
            have kk := k _ s1
            rw [eT, cn, Bool.false_and] at kk
            exact kk
          | true =>
            refine iteF ?_
            rw [cn, Bool.true_and] at eT
            refine ⟨_, rfl, a, _, 0, hd, rfl, rfl, SqT.of e1, atI_nat (j := 0) rfl, _, _, rfl, ((hx hd (by simp)).same s1).text, _, rfl, ?_⟩
            by_cases cA : strOf hd = some ("at" : Str)
            · have zA : isS hd "at" = true := decide_eq_true cA
              rw [if_pos zA] at eT
              refine iteD cA ⟨_, rfl, a, _, rfl, .inr (SqT.of e1), rfl, _, rfl, ?_⟩
              by_cases c3 : rs.length = 1
              · match rs, c3 with
                | [d], _ =>
                  refine iteD (by rfl) ⟨_, rfl, a, _, 2, d, rfl, rfl, SqT.of e1, atI_nat (j := 2) rfl, d, rfl, (hx d (by simp)).same s1, fun H2 s2 => ?_⟩
                  have kk := k _ (s1.trans s2)
                  rw [eT] at kk
                  exact kk
              · refine iteDn (fun z => c3 ?_) ?_
                · have := V.int.inj z
                  rw [List.length_cons, List.length_cons] at this
                  omega
                · have kk := k _ s1
                  have z : atB rs = false := by
                    match rs, c3 with
                    | [], _ => rfl
                    | [_], c => exact absurd rfl c
                    | _ :: _ :: _, _ => rfl
                  rw [eT, z] at kk
                  exact kk
            have zA : isS hd "at" = false := decide_eq_false cA
            rw [zA, if_neg Bool.false_ne_true] at eT
            refine iteDn cA ⟨_, rfl, a, _, 0, hd, rfl, rfl, SqT.of e1, atI_nat (j := 0) rfl, _, _, rfl, ((hx hd (by simp)).same s1).text, _, rfl, ?_⟩
            by_cases cL : strOf hd = some ("load" : Str)
            · have zL : isS hd "load" = true := decide_eq_true cL
              rw [if_pos zL] at eT
              refine iteD cL ⟨_, rfl, a, _, rfl, .inr (SqT.of e1), rfl, _, rfl, ?_⟩
              by_cases c3 : rs.length = 2
              · match rs, c3 with
                | [d, o], _ =>
                  have eL : loadB [d, o] = (integB d && integB o) := rfl
                  rw [eL] at eT
                  refine iteD (by rfl) ⟨_, rfl, a, _, 2, d, rfl, rfl, SqT.of e1, atI_nat (j := 2) rfl, d, rfl, (hx d (by simp)).same s1, fun H2 s2 => ?_⟩
                  refine ⟨_, rfl, ?_⟩
                  have e2 := s2 _ _ e1
                  cases cd : integB d with
                  | false =>
                    have kk := k _ (s1.trans s2)
                    rw [eT, cd, Bool.false_and] at kk
                    exact iteF kk
                  | true =>
                    refine iteT ⟨_, rfl, a, _, 3, o, rfl, rfl, SqT.of e2, atI_nat (j := 3) rfl, o, rfl, (hx o (by simp)).same (s1.trans s2), fun H3 s3 => ?_⟩
                    have kk := k _ ((s1.trans s2).trans s3)
                    rw [eT, cd, Bool.true_and] at kk
                    exact kk
              · refine iteDn (fun z => c3 ?_) ?_
                · have := V.int.inj z
                  rw [List.length_cons, List.length_cons] at this
                  omega
                · have kk := k _ s1
                  have z : loadB rs = false := by
                    match rs, c3 with
                    | [], _ => rfl
                    | [_], _ => rfl
                    | [_, _], c => exact absurd rfl c
                    | _ :: _ :: _ :: _, _ => rfl
                  rw [eT, z] at kk
                  exact kk
            have zL : isS hd "load" = false := decide_eq_false cL
            rw [zL, if_neg Bool.false_ne_true] at eT
            refine iteDn cL ⟨_, rfl, a, _, 0, hd, rfl, rfl, SqT.of e1, atI_nat (j := 0) rfl, _, _, rfl, ((hx hd (by simp)).same s1).text, _, rfl, ?_⟩
            by_cases cO : strOf hd = some ("op" : Str)
            · have zO : isS hd "op" = true := decide_eq_true cO
              rw [zO, Bool.true_and] at eT
              refine iteNS cO ?_
              refine ⟨_, rfl, a, _, rfl, .inr (SqT.of e1), _, _, rfl, rfl, _, _, rfl, rfl, _, rfl, ?_⟩
              by_cases c3 : rs.length ≤ 3
              · rw [decide_eq_true c3, Bool.true_and] at eT
                refine iteDn (by rw [List.length_cons, List.length_cons]; omega) ?_
                have nw : ¬ (HT.sIx (hd :: nm :: rs).length 0 (some 2) = 0 ∧ HT.sIx (hd :: nm :: rs).length (hd :: nm :: rs).length none = (hd :: nm :: rs).length) := by
                  rintro ⟨z, _⟩
                  rw [show (2 : Int) = ((2 : Nat) : Int) from rfl, HT.sIx_nat, List.length_cons, List.length_cons] at z
                  omega
                have cut : cutV (hd :: nm :: rs) (some 2) none = rs := by
                  unfold cutV
                  rw [show (2 : Int) = ((2 : Nat) : Int) from rfl, HT.sIx_nat, HT.sIx_none, List.length_cons, List.length_cons, Nat.min_eq_left (by omega), List.drop_succ_cons, List.drop_succ_cons, List.drop_zero]
                  exact List.take_of_length_le (by omega)
                refine ⟨_, rfl, _, rfl, a, _, rfl, SqT.of e1, fun z => absurd z nw, fun _ p np => ?_⟩
                rw [cut]
                have s2 := grow (o := .tup rs) np
                have e2 : (upd H1 p (.tup rs)) p = some (.tup rs) := upd_same
                revert s2 e2
                generalize upd H1 p (.tup rs) = H2
                intro s2 e2
                refine ⟨p, rfl, ⟨_, SqT.of e2⟩, fun D hD => lc_tup (xs := rs) (fun i H' => Acc H2 D (((rs.take i).map (treeB H q)).map V.bl) H') (Acc.start hD) (fun i H' _ a => SqT.of (a.1 _ _ e2)) ?_ ?_⟩
                · intro i y H3 hy a3
                  refine ⟨rfl, ?_⟩
                  have my : y ∈ hd :: nm :: rs := List.mem_cons_of_mem _ (List.mem_cons_of_mem _ (List.mem_of_getElem? hy))
                  have s3 : Same H H3 := (s1.trans s2).trans a3.1
                  refine ⟨_, rfl, _, rfl, _, _, rfl, rfl, y, ?_, (hx y my).same s3, fun H4 s4 => ?_⟩
                  · have z : ((q + 1 : Nat) : Int) - 1 = (q : Int) := by omega
                    show [y, V.int (((q + 1 : Nat) : Int) - 1)] = [y, V.int q]
                    rw [z]
                  · have a4 := a3.on s4
                    refine ⟨_, a4.2.2, ?_, ?_⟩
                    · rw [List.length_map, List.length_map, List.length_take]
                      have : (3 : Nat) < sizeLine := by decide
                      omega
                    · rw [take_step _ hy, List.map_append]
                      have z : treeB H3 q y = treeB H q y := treeB_kp (.of s3) (hx y my)
                      rw [z]
                      exact a4.put
                · intro H3 a3
                  refine ⟨_, _, rfl, SqL.of a3.2.2, ?_⟩
                  have kk := k _ ((s1.trans s2).trans a3.1)
                  have z : rs.take rs.length = rs := List.take_of_length_le (Nat.le_refl _)
                  rw [eT] at kk
                  rw [z, all_map_id]
                  exact kk
              · refine iteD (by rw [List.length_cons, List.length_cons]; omega) ?_
                have kk := k _ s1
                rw [decide_eq_false c3, Bool.false_and] at eT
                rw [eT] at kk
                exact kk
            · have zO : isS hd "op" = false := decide_eq_false cO
              rw [zO, Bool.false_and, Bool.false_and] at eT
              rw [decide_eq_false cO]
              refine iteT ?_
              have kk := k _ s1
              rw [eT] at kk
              exact kk
      · have kk := k H (Same.refl H)
        rw [treeB_none nt] at kk
        exact ⟨_, rfl, _, _, _, _, _, rfl, ClsV.ty _, ty, kt, _, rfl, iteT (iteT kk)⟩
theorem fnok_false {j : Nat} {f : Addr} {fd : FuncData} {ps : List Str} : FnOk P w K mg base CX0 j f fd ps fun _ _ _ _ => False := ⟨fun _ _ _ _ h => h.elim, fun _ _ _ _ _ _ _ _ _ _ _ _ _ h => h.elim⟩
theorem ok_within {N m : Nat} (hN : N ≤ 1000) {f fN fB fI : Addr} {fd fdN fdB fdI : FuncData} (F : Fun K "is_tree_within" "is_tree_within" tWithin f fd) (T : Txt mg) (T2 : Txt2 mg) (bF : Binds K fd ["value", "room"] []) (gF : mg "is_tree_within" = some (.ref f))
    (GN : FnOk P w K mg base CX0 1 fN fdN ["value"] (spV N m nameB)) (kN : PySem.W.keepIn K (.ref fN) = true) (bN : Binds K fdN ["value"] []) (gN : mg "is_name" = some (.ref fN))
    (GB : FnOk P w K mg base CX0 3 fB fdB ["value", "least", "most"] (spBetween N m)) (kB : PySem.W.keepIn K (.ref fB) = true) (bB : Binds K fdB ["value", "least", "most"] []) (gB : mg "is_between" = some (.ref fB))
    (GI : FnOk P w K mg base CX0 2 fI fdI ["value"] (spV N m integB)) (kI : PySem.W.keepIn K (.ref fI) = true) (bI : Binds K fdI ["value"] []) (gI : mg "is_integer" = some (.ref fI)) :
    ∀ r, FnOk P w K mg base CX0 (3 + r + 1) f fd ["value", "room"] (spWithin N m r)
  | 0 => step_within hN F T T2 bF gF GN kN bN gN GB kB bB gB GI kI bI gI fnok_false fun q h => absurd h.symm (Nat.succ_ne_zero q)
  | r + 1 => step_within hN F T T2 bF gF GN kN bN gN GB kB bB gB GI kI bI gI (ok_within hN F T T2 bF gF GN kN bN gN GB kB bB gB GI kI bI gI r) fun q h => by
      obtain rfl : r = q := Nat.succ.inj h
      rfl
end
end K1
namespace K1
open PySem L2
open L2.My
theorem few_no {d : V} (h : integB d = false) : fewB d = false := by
  cases d with
  | int i =>
    have e30 : (10 : Int) ^ 30 = 1000000000000000000000000000000 := by decide
    have z : fewB (.int i) = (decide (0 ≤ i) && decide (i ≤ 3)) := rfl
    rw [z]
    have ci2 : ¬ (inB i = true) := by
      show ¬ (integB (.int i) = true)
      rw [h]
      exact Bool.false_ne_true
    rw [inB_iff, e30] at ci2
    by_cases c0 : 0 ≤ i
    · rw [decide_eq_false (show ¬ i ≤ 3 by omega), Bool.and_false]
    · rw [decide_eq_false c0, Bool.false_and]
  | _ => rfl
section
variable {P : Program} {w : World} {K : PySem.W.Frag} {mg : Str → Option Value} {base : Heap}
/-! ### _law_is_tree -/
theorem scTreeL : FnScope ["_law_value", "_law_most", "_law_one"] ["_law_value", "_law_most"] (defScope tTreeL) := ⟨rfl, rfl, rfl, by decide +kernel, rfl, by decide +kernel, by decide +kernel⟩
theorem step_treeL {N m r : Nat} (hN : N ≤ 1000) {spR : Sp} {f fN fI : Addr} {fd fdN fdI : FuncData} (F : Fun K "_law_is_tree" "_law_is_tree" tTreeL f fd) (T : Txt mg) (bF : Binds K fd ["_law_value", "_law_most"] []) (gF : mg "_law_is_tree" = some (.ref f))
    (GN : FnOk P w K mg base CX0 1 fN fdN ["_law_value"] (spV N m nameB)) (kN : PySem.W.keepIn K (.ref fN) = true) (bN : Binds K fdN ["_law_value"] []) (gN : mg "_law_is_name" = some (.ref fN))
    (GI : FnOk P w K mg base CX0 1 fI fdI ["_law_value"] (spV N m integB)) (kI : PySem.W.keepIn K (.ref fI) = true) (bI : Binds K fdI ["_law_value"] []) (gI : mg "_law_is_number" = some (.ref fI))
    (GR : FnOk P w K mg base CX0 (3 + r) f fd ["_law_value", "_law_most"] spR) (hR : ∀ q, r = q + 1 → spR = spWithin N m q) :
    FnOk P w K mg base CX0 (3 + r + 1) f fd ["_law_value", "_law_most"] (spWithin N m r) := by
  refine F.ok scTreeL (fun vs H Q E h => ?_) (fun cdv A outer s H vs Q E hr h => ?_)
  · obtain ⟨x, rfl, _⟩ := h
    rfl
  · obtain ⟨x, rfl, tx, k⟩ := h
    have hu := Nat.lt_of_succ_lt (hu_of hr)
    have hr1 : Room 1 _ := hr.mono (by omega)
    refine ⟨_, pss_cons (ps_if (PW.pt (pw_or (pt_cmpR op_eq (pv 1) pe_int (nomark _))
          (pw_or (pt_not (pt_val (pe_callB call_isi (by rfl) T.isi (by decide +kernel) (pa_cons (pv 0) (pa_cons (pe_bltn (v := .ty "tuple") (by rfl) T.tuple (by decide +kernel) rfl) pa_nil)))))
          (pw_or (pt_cmpR op_lt (pe_callB call_len_seq (by rfl) T.len PySem.boot_len (pa_cons (pv 0) pa_nil)) pe_int (nomark _))
          (pw_or1 (pt_not (pt_val (pe_call GN hr1 rfl gN kN bN .nil pass0 (pa_cons (pe_ix ix_tup (pv 0) pe_int (fun _ _ => rfl)) pa_nil)))))))))
        (pss_one (ps_ret pe_bl)) pss_nil)
      (pss_cons (ps_if (pt_cmpR (op_eqX hu) (pe_ix ix_tup (pv 0) pe_int (fun _ _ => rfl)) pe_str (nomark _))
        (pss_one (ps_ret (pe_and (pe_cmpR op_eq (pe_callB call_len_seq (by rfl) T.len PySem.boot_len (pa_cons (pv 0) pa_nil)) pe_int (nomark _))
          (pe_and (pe_call GI hr1 rfl gI kI bI .nil pass0 (pa_cons (pe_ix ix_tup (pv 0) pe_int (fun _ _ => rfl)) pa_nil))
          (pe_one (pe_chain op_le op_le pe_int (pe_ix ix_tup (pv 0) pe_int (fun _ _ => rfl)) pe_int)))))) pss_nil)
      (pss_cons (ps_if (pt_cmpR (op_eqX hu) (pe_ix ix_tup (pv 0) pe_int (fun _ _ => rfl)) pe_str (nomark _))
        (pss_one (ps_ret (pe_and (pe_cmpR op_eq (pe_callB call_len_seq (by rfl) T.len PySem.boot_len (pa_cons (pv 0) pa_nil)) pe_int (nomark _))
          (pe_and (pe_call GI hr1 rfl gI kI bI .nil pass0 (pa_cons (pe_ix ix_tup (pv 0) pe_int (fun _ _ => rfl)) pa_nil))
          (pe_one (pe_call GI hr1 rfl gI kI bI .nil pass0 (pa_cons (pe_ix ix_tup (pv 0) pe_int (fun _ _ => rfl)) pa_nil))))))) pss_nil)
      (pss_cons (ps_if (PW.pt (pw_or (pt_cmpR (op_neX hu) (pe_ix ix_tup (pv 0) pe_int (fun _ _ => rfl)) pe_str (nomark _))
          (pw_or1 (pt_cmpR op_gt (pe_callB call_len_seq (by rfl) T.len PySem.boot_len (pa_cons (pv 0) pa_nil)) pe_int (nomark _)))))
        (pss_one (ps_ret pe_bl)) pss_nil)
      (pss_one (ps_ret (pe_cmpR (op_eqNil hu) (pe_lc (own := [("_law_one", 2)]) (g := gName 2) (tt := _) (by rfl) scTreeL.nd (pi_tup (pe_slice sl_tupA (pv 0) (po_some pe_int) po_none)) (blkOk_by (own := [("_law_one", 2)]) (N := ["_law_value", "_law_most", "_law_one"]) (sc := defScope tTreeL) (by decide +kernel))
        (fun _ _ _ _ _ => pg_name (i := 2) scTreeL.nd rfl (Or.inl rfl)) (fun _ _ _ _ _ => pts_one (pt_not (pt_val (pe_call GR hr rfl gF F.kp bF .nil pass0 (pa_cons (pv 2) (pa_cons (pe_op op_sub (pv 1) pe_int) pa_nil)))))) (fun _ _ _ _ _ => pv 2)) (pe_lst pa_nil) (nomark _))))))), ?_⟩
    refine ⟨_, rfl, rfl, _, rfl, ?_⟩
    cases r with
    | zero => exact iteD rfl (iteT (k H (Same.refl H)))
    | succ q =>
      refine iteDn (fun z => ?_) ?_
      · have := V.int.inj z
        omega
      have sR : spR = spWithin N m q := hR q rfl
      subst sR
      rcases tx.tupcase (K := K) with ⟨a, xs, rfl, e, l, hx⟩ | ⟨nt, u, ty, kt⟩
      · refine ⟨_, rfl, _, _, _, _, _, rfl, ClsV.ty _, .base (.tup e), kit_ty (r := true) (by decide +kernel), _, rfl, iteF ?_⟩
        refine ⟨_, rfl, a, xs, rfl, .inr (SqT.of e), _, _, rfl, rfl, _, rfl, ?_⟩
        have eT := treeB_tup (q := q) e
        match xs, e, l, hx, eT with
        | [], e, l, hx, eT =>
          refine iteD (by decide) (iteT ?_)
          have kk := k H (Same.refl H)
          rw [eT] at kk
          exact kk
        | [_], e, l, hx, eT =>
          refine iteD (by show (1 : Int) < 2; decide) (iteT ?_)
          have kk := k H (Same.refl H)
          rw [eT] at kk
          exact kk
        | hd :: nm :: rs, e, l, hx, eT =>
          refine iteDn (by rw [List.length_cons, List.length_cons]; omega) ?_
          have eP : partsB (treeB H q) (hd :: nm :: rs) = (nameB nm && (if isS hd "at" = true then atB rs
            else if isS hd "load" = true then loadB rs
            else isS hd "op" && decide (rs.length ≤ 3) && rs.all (treeB H q))) := rfl
          rw [eP] at eT
          refine ⟨_, rfl, a, _, 1, nm, rfl, rfl, SqT.of e, atI_nat (j := 1) rfl, nm, rfl, hx nm (by simp), fun H1 s1 => ?_⟩
          have e1 := s1 _ _ e
          refine ⟨_, rfl, ?_⟩
          cases cn : nameB nm with
          | false =>
            refine iteT ?_
            have kk := k _ s1
            rw [eT, cn, Bool.false_and] at kk
            exact kk
          | true =>
            refine iteF ?_
            rw [cn, Bool.true_and] at eT
            refine ⟨_, rfl, a, _, 0, hd, rfl, rfl, SqT.of e1, atI_nat (j := 0) rfl, _, _, rfl, ((hx hd (by simp)).same s1).text, _, rfl, ?_⟩
            by_cases cA : strOf hd = some ("at" : Str)
            · have zA : isS hd "at" = true := decide_eq_true cA
              rw [if_pos zA] at eT
              refine iteD cA ⟨_, rfl, a, _, rfl, .inr (SqT.of e1), rfl, _, rfl, ?_⟩
              by_cases c3 : rs.length = 1
              · match rs, c3 with
                | [d], _ =>
                  refine iteD (by rfl) ⟨_, rfl, a, _, 2, d, rfl, rfl, SqT.of e1, atI_nat (j := 2) rfl, d, rfl, (hx d (by simp)).same s1, fun H2 s2 => ?_⟩
                  refine ⟨_, rfl, ?_⟩
                  have kk := k _ (s1.trans s2)
                  have e2 := s2 _ _ e1
                  have eA : atB [d] = fewB d := rfl
                  rw [eT, eA] at kk
                  cases cd : integB d with
                  | false =>
                    rw [few_no cd] at kk
                    exact iteF kk
                  | true =>
                    match d, cd with
                    | .int i, cd =>
                      refine iteT ⟨_, rfl, a, _, 2, .int i, rfl, rfl, SqT.of e2, atI_nat (j := 2) rfl, _, _, rfl, rfl, _, rfl, ?_⟩
                      have z : fewB (.int i) = (decide (0 ≤ i) && decide (i ≤ 3)) := rfl
                      rw [z] at kk
                      by_cases c0 : 0 ≤ i
                      · rw [decide_eq_true c0, Bool.true_and] at kk
                        exact iteD c0 ⟨_, _, rfl, rfl, kk⟩
                      · rw [decide_eq_false c0, Bool.false_and] at kk
                        exact iteDn c0 kk
              · refine iteDn (fun z => c3 ?_) ?_
                · have := V.int.inj z
                  rw [List.length_cons, List.length_cons] at this
                  omega
                · have kk := k _ s1
                  have z : atB rs = false := by
                    match rs, c3 with
                    | [], _ => rfl
                    | [_], c => exact absurd rfl c
                    | _ :: _ :: _, _ => rfl
                  rw [eT, z] at kk
                  exact kk
            have zA : isS hd "at" = false := decide_eq_false cA
            rw [zA, if_neg Bool.false_ne_true] at eT
            refine iteDn cA ⟨_, rfl, a, _, 0, hd, rfl, rfl, SqT.of e1, atI_nat (j := 0) rfl, _, _, rfl, ((hx hd (by simp)).same s1).text, _, rfl, ?_⟩
            by_cases cL : strOf hd = some ("load" : Str)
            · have zL : isS hd "load" = true := decide_eq_true cL
              rw [if_pos zL] at eT
              refine iteD cL ⟨_, rfl, a, _, rfl, .inr (SqT.of e1), rfl, _, rfl, ?_⟩
              by_cases c3 : rs.length = 2
              · match rs, c3 with
                | [d, o], _ =>
                  have eL : loadB [d, o] = (integB d && integB o) := rfl
                  rw [eL] at eT
                  refine iteD (by rfl) ⟨_, rfl, a, _, 2, d, rfl, rfl, SqT.of e1, atI_nat (j := 2) rfl, d, rfl, (hx d (by simp)).same s1, fun H2 s2 => ?_⟩
                  refine ⟨_, rfl, ?_⟩
                  have e2 := s2 _ _ e1
                  cases cd : integB d with
                  | false =>
                    have kk := k _ (s1.trans s2)
                    rw [eT, cd, Bool.false_and] at kk
                    exact iteF kk
                  | true =>
                    refine iteT ⟨_, rfl, a, _, 3, o, rfl, rfl, SqT.of e2, atI_nat (j := 3) rfl, o, rfl, (hx o (by simp)).same (s1.trans s2), fun H3 s3 => ?_⟩
                    have kk := k _ ((s1.trans s2).trans s3)
                    rw [eT, cd, Bool.true_and] at kk
                    exact kk
              · refine iteDn (fun z => c3 ?_) ?_
                · have := V.int.inj z
                  rw [List.length_cons, List.length_cons] at this
                  omega
                · have kk := k _ s1
                  have z : loadB rs = false := by
                    match rs, c3 with
                    | [], _ => rfl
                    | [_], _ => rfl
                    | [_, _], c => exact absurd rfl c
                    | _ :: _ :: _ :: _, _ => rfl
                  rw [eT, z] at kk
                  exact kk
            have zL : isS hd "load" = false := decide_eq_false cL
            rw [zL, if_neg Bool.false_ne_true] at eT
            refine iteDn cL ⟨_, rfl, a, _, 0, hd, rfl, rfl, SqT.of e1, atI_nat (j := 0) rfl, _, _, rfl, ((hx hd (by simp)).same s1).text, _, rfl, ?_⟩
            by_cases cO : strOf hd = some ("op" : Str)
            · have zO : isS hd "op" = true := decide_eq_true cO
              rw [zO, Bool.true_and] at eT
              refine iteNS cO ?_
              refine ⟨_, rfl, a, _, rfl, .inr (SqT.of e1), _, _, rfl, rfl, _, rfl, ?_⟩
              by_cases c3 : rs.length ≤ 3
              · rw [decide_eq_true c3, Bool.true_and] at eT
                refine iteDn (by rw [List.length_cons, List.length_cons]; omega) ?_
                have nw : ¬ (HT.sIx (hd :: nm :: rs).length 0 (some 2) = 0 ∧ HT.sIx (hd :: nm :: rs).length (hd :: nm :: rs).length none = (hd :: nm :: rs).length) := by
                  rintro ⟨z, _⟩
                  rw [show (2 : Int) = ((2 : Nat) : Int) from rfl, HT.sIx_nat, List.length_cons, List.length_cons] at z
                  omega
                have cut : cutV (hd :: nm :: rs) (some 2) none = rs := by
                  unfold cutV
                  rw [show (2 : Int) = ((2 : Nat) : Int) from rfl, HT.sIx_nat, HT.sIx_none, List.length_cons, List.length_cons, Nat.min_eq_left (by omega), List.drop_succ_cons, List.drop_succ_cons, List.drop_zero]
                  exact List.take_of_length_le (by omega)
                refine ⟨_, rfl, _, rfl, a, _, rfl, SqT.of e1, fun z => absurd z nw, fun _ p np => ?_⟩
                rw [cut]
                have s2 := grow (o := .tup rs) np
                have e2 : (upd H1 p (.tup rs)) p = some (.tup rs) := upd_same
                revert s2 e2
                generalize upd H1 p (.tup rs) = H2
                intro s2 e2
                refine ⟨p, rfl, ⟨_, SqT.of e2⟩, fun D hD => lc_tup (xs := rs) (fun i H' => Acc H2 D ((rs.take i).filter fun y => !treeB H q y) H') (Acc.start hD) (fun i H' _ a => SqT.of (a.1 _ _ e2)) ?_ ?_⟩
                · intro i y H3 hy a3
                  refine ⟨rfl, ?_⟩
                  have my : y ∈ hd :: nm :: rs := List.mem_cons_of_mem _ (List.mem_cons_of_mem _ (List.mem_of_getElem? hy))
                  have s3 : Same H H3 := (s1.trans s2).trans a3.1
                  refine ⟨_, rfl, _, rfl, _, _, rfl, rfl, y, ?_, (hx y my).same s3, fun H4 s4 => ?_⟩
                  · have z : ((q + 1 : Nat) : Int) - 1 = (q : Int) := by omega
                    show [y, V.int (((q + 1 : Nat) : Int) - 1)] = [y, V.int q]
                    rw [z]
                  · have a4 := a3.on s4
                    refine ⟨_, rfl, ?_⟩
                    have z : treeB H3 q y = treeB H q y := treeB_kp (.of s3) (hx y my)
                    rw [z]
                    have st := filter_step (fun y => !treeB H q y) hy
                    cases b : treeB H q y with
                    | true =>
                      rw [b, if_neg (by decide), List.append_nil] at st
                      rw [st]
                      exact iteF a4
                    | false =>
                      rw [b, if_pos (by decide)] at st
                      rw [st]
                      refine iteT ⟨_, rfl, _, a4.2.2, ?_, a4.put⟩
                      have l1 := List.length_filter_le (fun y => !treeB H q y) (rs.take i)
                      rw [List.length_take] at l1
                      have : (3 : Nat) < sizeLine := by decide
                      omega
                · intro H3 a3
                  refine ⟨(by show 0 ≤ sizeLine; decide), fun l nl => ?_⟩
                  have a4 := a3.on (grow (o := .lst []) nl)
                  refine ⟨_, _, _, rfl, rfl, a4.2.2, upd_same, ?_⟩
                  have kk := k _ ((s1.trans s2).trans a4.1)
                  have z : rs.take rs.length = rs := List.take_of_length_le (Nat.le_refl _)
                  rw [eT] at kk
                  rw [z, filter_none]
                  exact kk
              · refine iteD (by rw [List.length_cons, List.length_cons]; omega) ?_
                have kk := k _ s1
                rw [decide_eq_false c3, Bool.false_and] at eT
                rw [eT] at kk
                exact kk
            · have zO : isS hd "op" = false := decide_eq_false cO
              rw [zO, Bool.false_and, Bool.false_and] at eT
              rw [decide_eq_false cO]
              refine iteT ?_
              have kk := k _ s1
              rw [eT] at kk
              exact kk
      · have kk := k H (Same.refl H)
        rw [treeB_none nt] at kk
        exact ⟨_, rfl, _, _, _, _, _, rfl, ClsV.ty _, ty, kt, _, rfl, iteT (iteT kk)⟩
theorem ok_treeL {N m : Nat} (hN : N ≤ 1000) {f fN fI : Addr} {fd fdN fdI : FuncData} (F : Fun K "_law_is_tree" "_law_is_tree" tTreeL f fd) (T : Txt mg) (bF : Binds K fd ["_law_value", "_law_most"] []) (gF : mg "_law_is_tree" = some (.ref f))
    (GN : FnOk P w K mg base CX0 1 fN fdN ["_law_value"] (spV N m nameB)) (kN : PySem.W.keepIn K (.ref fN) = true) (bN : Binds K fdN ["_law_value"] []) (gN : mg "_law_is_name" = some (.ref fN))
    (GI : FnOk P w K mg base CX0 1 fI fdI ["_law_value"] (spV N m integB)) (kI : PySem.W.keepIn K (.ref fI) = true) (bI : Binds K fdI ["_law_value"] []) (gI : mg "_law_is_number" = some (.ref fI)) :
    ∀ r, FnOk P w K mg base CX0 (3 + r + 1) f fd ["_law_value", "_law_most"] (spWithin N m r)
  | 0 => step_treeL hN F T bF gF GN kN bN gN GI kI bI gI fnok_false fun q h => absurd h.symm (Nat.succ_ne_zero q)
  | r + 1 => step_treeL hN F T bF gF GN kN bN gN GI kI bI gI (ok_treeL hN F T bF gF GN kN bN gN GI kI bI gI r) fun q h => by
      obtain rfl : r = q := Nat.succ.inj h
      rfl
end
end K1
namespace K1
open PySem L2
open L2.My
def tree4 (H : Hp) (v : V) : Bool := treeB H 4 v
def headAt (H : Hp) (v : V) : Bool := match tupV H v with
  | some (h :: _) => isS h "at"
  | _ => false
def isZero : V → Bool
  | .int i => decide (i = 0)
  | _ => false
def setB (H : Hp) : List V → Bool
  | [t] => tree4 H t && !headAt H t
  | _ => false
def storeB (H : Hp) : List V → Bool
  | [n, s, o, t] => nameB n && (integB s && (!isZero s && (integB o && tree4 H t)))
  | _ => false
def bodyB (H : Hp) : List V → Bool
  | hd :: nm :: r :: rs => nameB nm && (if isS hd "set" = true then setB H (r :: rs) else isS hd "store" && storeB H (r :: rs))
  | _ => false
def stateB (H : Hp) (v : V) : Bool := match tupV H v with
  | some xs => bodyB H xs
  | none => false
theorem stateB_tup {H : Hp} {a : Addr} {xs : List V} (e : H a = some (.tup xs)) : stateB H (.ref a) = bodyB H xs := by
  unfold stateB
  rw [tupV_of e]
theorem tree4_same {H H' : Hp} {N m : Nat} {v : V} (s : Same H H') (t : Tv H N m v) : tree4 H' v = tree4 H v := treeB_kp (.of s) t
theorem tree4_tup {H : Hp} {v : V} (h : tree4 H v = true) : ∃ a hd nm r, v = .ref a ∧ H a = some (.tup (hd :: nm :: r)) ∧ headAt H v = isS hd "at" := by
  unfold tree4 treeB at h
  cases v with
  | ref a =>
    cases e : tupV H (.ref a) with
    | none =>
      rw [e] at h
      cases h
    | some xs =>
      rw [e] at h
      have e2 : H a = some (.tup xs) := by
        simp only [tupV] at e
        split at e
        · rename_i ys q
          cases e
          exact q
        · cases e
      match xs, h, e, e2 with
      | hd :: nm :: r, _, e, e2 => exact ⟨a, hd, nm, r, rfl, e2, by simp only [headAt, e]⟩
  | _ => cases h
section
variable {P : Program} {w : World} {K : PySem.W.Frag} {mg : Str → Option Value} {base : Heap}
/-! ### is_tree -/
theorem scTree : FnScope ["value"] ["value"] (defScope tTree) := ⟨rfl, rfl, rfl, by decide +kernel, rfl, by decide +kernel, by decide +kernel⟩
theorem ok_tree {N m : Nat} {f fW : Addr} {fd fdW : FuncData} (F : Fun K "is_tree" "is_tree" tTree f fd) (T2 : Txt2 mg) (GW : FnOk P w K mg base CX0 8 fW fdW ["value", "room"] (spWithin N m 4)) (kW : PySem.W.keepIn K (.ref fW) = true) (bW : Binds K fdW ["value", "room"] []) (gW : mg "is_tree_within" = some (.ref fW)) :
    FnOk P w K mg base CX0 9 f fd ["value"] (spB N m tree4) := by
  obtain ⟨tl, ll⟩ := T2.levels
  refine F.ok scTree (fun vs H Q E h => ?_) (fun cdv A outer s H vs Q E hr h => ?_)
  · obtain ⟨x, rfl, _⟩ := h
    rfl
  · obtain ⟨x, rfl, it, k⟩ := h
    refine ⟨_, pss_one (ps_ret (pe_call GW hr rfl gW kW bW .nil pass0 (pa_cons (pv 0) (pa_cons (pe_glob (v := .int 4) rfl ll ⟨_, rfl⟩) pa_nil)))), ?_⟩
    exact ⟨_, rfl, x, rfl, it, fun H1 s1 => k _ s1⟩
/-! ### is_statement -/
theorem scState : FnScope ["value"] ["value"] (defScope tState) := ⟨rfl, rfl, rfl, by decide +kernel, rfl, by decide +kernel, by decide +kernel⟩
theorem ok_state {N m : Nat} (hN : N ≤ 1000) {f fN fI fT : Addr} {fd fdN fdI fdT : FuncData} (F : Fun K "is_statement" "is_statement" tState f fd) (T : Txt mg)
    (GN : FnOk P w K mg base CX0 1 fN fdN ["value"] (spV N m nameB)) (kN : PySem.W.keepIn K (.ref fN) = true) (bN : Binds K fdN ["value"] []) (gN : mg "is_name" = some (.ref fN))
    (GI : FnOk P w K mg base CX0 2 fI fdI ["value"] (spV N m integB)) (kI : PySem.W.keepIn K (.ref fI) = true) (bI : Binds K fdI ["value"] []) (gI : mg "is_integer" = some (.ref fI))
    (GT : FnOk P w K mg base CX0 9 fT fdT ["value"] (spB N m tree4)) (kT : PySem.W.keepIn K (.ref fT) = true) (bT : Binds K fdT ["value"] []) (gT : mg "is_tree" = some (.ref fT)) :
    FnOk P w K mg base CX0 10 f fd ["value"] (spB N m stateB) := by
  refine F.ok scState (fun vs H Q E h => ?_) (fun cdv A outer s H vs Q E hr h => ?_)
  · obtain ⟨x, rfl, _⟩ := h
    rfl
  · obtain ⟨x, rfl, tx, k⟩ := h
    have hu := Nat.lt_of_succ_lt (hu_of hr)
    have hr1 : Room 1 _ := hr.mono (by omega)
    have hr2 : Room 2 _ := hr.mono (by omega)
    refine ⟨_, pss_cons (ps_if (PW.pt (pw_or (pt_not (pt_val (pe_callB call_isi (by rfl) T.isi (by decide +kernel) (pa_cons (pv 0) (pa_cons (pe_bltn (v := .ty "tuple") (by rfl) T.tuple (by decide +kernel) rfl) pa_nil)))))
          (pw_or (pt_cmpR op_lt (pe_callB call_len_seq (by rfl) T.len PySem.boot_len (pa_cons (pv 0) pa_nil)) pe_int (nomark _))
          (pw_or1 (pt_not (pt_val (pe_call GN hr1 rfl gN kN bN .nil pass0 (pa_cons (pe_ix ix_tup (pv 0) pe_int (fun _ _ => rfl)) pa_nil))))))))
        (pss_one (ps_ret pe_bl)) pss_nil)
      (pss_cons (ps_if (pt_cmpR (op_eqX hu) (pe_ix ix_tup (pv 0) pe_int (fun _ _ => rfl)) pe_str (nomark _))
        (pss_one (ps_ret (pe_and (pe_cmpR op_eq (pe_callB call_len_seq (by rfl) T.len PySem.boot_len (pa_cons (pv 0) pa_nil)) pe_int (nomark _))
          (pe_and (pe_call GT hr rfl gT kT bT .nil pass0 (pa_cons (pe_ix ix_tup (pv 0) pe_int (fun _ _ => rfl)) pa_nil))
          (pe_one (pe_cmpR (op_neX hu) (pe_ix ix_tup (pe_ix ix_tup (pv 0) pe_int (fun _ _ => rfl)) pe_int (fun _ _ => rfl)) pe_str (nomark _))))))) pss_nil)
      (pss_cons (ps_if (PW.pt (pw_or (pt_cmpR (op_neX hu) (pe_ix ix_tup (pv 0) pe_int (fun _ _ => rfl)) pe_str (nomark _))
          (pw_or (pt_cmpR op_ne (pe_callB call_len_seq (by rfl) T.len PySem.boot_len (pa_cons (pv 0) pa_nil)) pe_int (nomark _))
          (pw_or1 (pt_not (pt_val (pe_call GN hr1 rfl gN kN bN .nil pass0 (pa_cons (pe_ix ix_tup (pv 0) pe_int (fun _ _ => rfl)) pa_nil))))))))
        (pss_one (ps_ret pe_bl)) pss_nil)
      (pss_one (ps_ret (pe_and (pe_call GI hr2 rfl gI kI bI .nil pass0 (pa_cons (pe_ix ix_tup (pv 0) pe_int (fun _ _ => rfl)) pa_nil))
        (pe_and (pe_cmpR op_ne (pe_ix ix_tup (pv 0) pe_int (fun _ _ => rfl)) pe_int (nomark _))
        (pe_and (pe_call GI hr2 rfl gI kI bI .nil pass0 (pa_cons (pe_ix ix_tup (pv 0) pe_int (fun _ _ => rfl)) pa_nil))
        (pe_one (pe_call GT hr rfl gT kT bT .nil pass0 (pa_cons (pe_ix ix_tup (pv 0) pe_int (fun _ _ => rfl)) pa_nil)))))))))), ?_⟩
    rcases tx.tupcase (K := K) with ⟨a, xs, rfl, e, l, hx⟩ | ⟨nt, u, ty, kt⟩
    · refine ⟨_, rfl, _, _, _, _, _, rfl, ClsV.ty _, .base (.tup e), kit_ty (r := true) (by decide +kernel), _, rfl, iteF ?_⟩
      refine ⟨_, rfl, a, xs, rfl, .inr (SqT.of e), _, _, rfl, rfl, _, rfl, ?_⟩
      have eT := stateB_tup e
      by_cases c3 : xs.length < 3
      · refine iteD (by omega) (iteT ?_)
        have kk := k H (Same.refl H)
        have z : bodyB H xs = false := by
          match xs, c3 with
          | [], _ => rfl
          | [_], _ => rfl
          | [_, _], _ => rfl
        rw [eT, z] at kk
        exact kk
      · refine iteDn (by omega) ?_
        match xs, e, l, hx, eT, c3 with
        | [], e, l, hx, eT, c3 => exact absurd (by decide) c3
        | [_], e, l, hx, eT, c3 => exact absurd (by show 1 < 3; decide) c3
        | [_, _], e, l, hx, eT, c3 => exact absurd (by show 2 < 3; decide) c3
        | hd :: nm :: r :: rs, e, l, hx, eT, c3 =>
          have eP : bodyB H (hd :: nm :: r :: rs) = (nameB nm && (if isS hd "set" = true then setB H (r :: rs) else isS hd "store" && storeB H (r :: rs))) := rfl
          rw [eP] at eT
          refine ⟨_, rfl, a, _, 1, nm, rfl, rfl, SqT.of e, atI_nat (j := 1) rfl, nm, rfl, hx nm (by simp), fun H1 s1 => ?_⟩
          have e1 := s1 _ _ e
          refine ⟨_, rfl, ?_⟩
          cases cn : nameB nm with
          | false =>
            refine iteT ?_
            have kk := k _ s1
            rw [eT, cn, Bool.false_and] at kk
            exact kk
          | true =>
            refine iteF ?_
            rw [cn, Bool.true_and] at eT
            refine ⟨_, rfl, a, _, 0, hd, rfl, rfl, SqT.of e1, atI_nat (j := 0) rfl, _, _, rfl, ((hx hd (by simp)).same s1).text, _, rfl, ?_⟩
            by_cases cS : strOf hd = some ("set" : Str)
            · have zS : isS hd "set" = true := decide_eq_true cS
              rw [if_pos zS] at eT
              refine iteD cS ⟨_, rfl, a, _, rfl, .inr (SqT.of e1), rfl, _, rfl, ?_⟩
              match rs, e, e1, l, hx, eT with
              | [], e, e1, l, hx, eT =>
                have eS : setB H [r] = (tree4 H r && !headAt H r) := rfl
                rw [eS] at eT
                refine iteD (by rfl) ⟨_, rfl, a, _, 2, r, rfl, rfl, SqT.of e1, atI_nat (j := 2) rfl, r, rfl, (hx r (by simp)).same s1, fun H2 s2 => ?_⟩
                refine ⟨_, rfl, ?_⟩
                have e2 := s2 _ _ e1
                rw [tree4_same s1 (hx r (by simp))]
                cases ct : tree4 H r with
                | false =>
                  have kk := k _ (s1.trans s2)
                  rw [eT, ct, Bool.false_and] at kk
                  exact iteF kk
                | true =>
                  rw [ct, Bool.true_and] at eT
                  obtain ⟨b, h2, n2, r2, rfl, eb, eh⟩ := tree4_tup ct
                  rw [eh] at eT
                  have s12 := s1.trans s2
                  refine iteT ⟨_, rfl, a, _, 2, _, rfl, rfl, SqT.of e2, atI_nat (j := 2) rfl, b, _, 0, h2, rfl, rfl, SqT.of (s12 _ _ eb), atI_nat (j := 0) rfl, strOf h2, _, rfl, ?_, ?_⟩
                  · have tb := hx (.ref b) (by simp)
                    cases tb with
                    | tup e4 _ h4 =>
                      rw [eb] at e4
                      cases e4
                      exact ((h4 h2 (by simp)).same s12).text
                    | lst e4 =>
                      rw [eb] at e4
                      cases e4
                    | dct e4 =>
                      rw [eb] at e4
                      cases e4
                  · have kk := k _ s12
                    rw [eT] at kk
                    exact kk
              | _ :: _, e, e1, l, hx, eT =>
                refine iteDn (fun z => ?_) ?_
                · have := V.int.inj z
                  rw [List.length_cons, List.length_cons, List.length_cons, List.length_cons] at this
                  omega
                · have kk := k _ s1
                  rw [eT] at kk
                  exact kk
            have zS : isS hd "set" = false := decide_eq_false cS
            rw [zS, if_neg Bool.false_ne_true] at eT
            refine iteDn cS ⟨_, rfl, a, _, 0, hd, rfl, rfl, SqT.of e1, atI_nat (j := 0) rfl, _, _, rfl, ((hx hd (by simp)).same s1).text, _, rfl, ?_⟩
            by_cases cO : strOf hd = some ("store" : Str)
            · have zO : isS hd "store" = true := decide_eq_true cO
              rw [zO, Bool.true_and] at eT
              refine iteNS cO ?_
              refine ⟨_, rfl, a, _, rfl, .inr (SqT.of e1), rfl, _, rfl, ?_⟩
              by_cases c6 : rs.length = 3
              · match rs, c6, e, e1, l, hx, eT with
                | [sv, ov, tv], _, e, e1, l, hx, eT =>
                  have eS : storeB H [r, sv, ov, tv] = (nameB r && (integB sv && (!isZero sv && (integB ov && tree4 H tv)))) := rfl
                  rw [eS] at eT
                  refine iteF ?_
                  refine ⟨_, rfl, a, _, 2, r, rfl, rfl, SqT.of e1, atI_nat (j := 2) rfl, r, rfl, (hx r (by simp)).same s1, fun H2 s2 => ?_⟩
                  refine ⟨_, rfl, ?_⟩
                  have e2 := s2 _ _ e1
                  have s12 := s1.trans s2
                  cases cr : nameB r with
                  | false =>
                    refine iteT ?_
                    have kk := k _ s12
                    rw [eT, cr, Bool.false_and] at kk
                    exact kk
                  | true =>
                    rw [cr, Bool.true_and] at eT
                    refine iteF ?_
                    refine ⟨_, rfl, a, _, 3, sv, rfl, rfl, SqT.of e2, atI_nat (j := 3) rfl, sv, rfl, (hx sv (by simp)).same s12, fun H3 s3 => ?_⟩
                    refine ⟨_, rfl, ?_⟩
                    have e3 := s3 _ _ e2
                    have s13 := s12.trans s3
                    cases cs : integB sv with
                    | false =>
                      refine iteF ?_
                      have kk := k _ s13
                      rw [eT, cs, Bool.false_and] at kk
                      exact kk
                    | true =>
                      rw [cs, Bool.true_and] at eT
                      match sv, cs, e, e1, e2, e3, hx, eT with
                      | .int i, cs, e, e1, e2, e3, hx, eT =>
                        refine iteT ⟨_, rfl, a, _, 3, .int i, rfl, rfl, SqT.of e3, atI_nat (j := 3) rfl, rfl, _, rfl, ?_⟩
                        have zz : isZero (.int i) = decide (V.int i = V.int 0) := by
                          show decide (i = 0) = _
                          apply Bool.eq_iff_iff.mpr
                          rw [decide_eq_true_eq, decide_eq_true_eq]
                          exact ⟨fun z => by rw [z], fun z => V.int.inj z⟩
                        rw [zz] at eT
                        cases cz : decide (V.int i = V.int 0) with
                        | true =>
                          refine iteF ?_
                          have kk := k _ s13
                          rw [eT, cz] at kk
                          exact kk
                        | false =>
                          rw [cz] at eT
                          refine iteT ?_
                          refine ⟨_, rfl, a, _, 4, ov, rfl, rfl, SqT.of e3, atI_nat (j := 4) rfl, ov, rfl, (hx ov (by simp)).same s13, fun H4 s4 => ?_⟩
                          refine ⟨_, rfl, ?_⟩
                          have e4 := s4 _ _ e3
                          have s14 := s13.trans s4
                          cases co : integB ov with
                          | false =>
                            refine iteF ?_
                            have kk := k _ s14
                            rw [eT, co] at kk
                            exact kk
                          | true =>
                            refine iteT ⟨_, rfl, a, _, 5, tv, rfl, rfl, SqT.of e4, atI_nat (j := 5) rfl, tv, rfl, (hx tv (by simp)).same s14, fun H5 s5 => ?_⟩
                            rw [tree4_same s14 (hx tv (by simp))]
                            have kk := k _ (s14.trans s5)
                            rw [eT, co] at kk
                            exact kk
              · have z : storeB H (r :: rs) = false := by
                  match rs, c6 with
                  | [], _ => rfl
                  | [_], _ => rfl
                  | [_, _], _ => rfl
                  | [_, _, _], c => exact absurd rfl c
                  | _ :: _ :: _ :: _ :: _, _ => rfl
                have ne : ¬ V.int (((hd :: nm :: r :: rs).length : Nat) : Int) = V.int 6 := fun z => by
                  have := V.int.inj z
                  rw [List.length_cons, List.length_cons, List.length_cons] at this
                  omega
                rw [decide_eq_false ne]
                refine iteT (iteT ?_)
                have kk := k _ s1
                rw [eT, z] at kk
                exact kk
            · have zO : isS hd "store" = false := decide_eq_false cO
              rw [zO, Bool.false_and] at eT
              rw [decide_eq_false cO]
              refine iteT (iteT ?_)
              have kk := k _ s1
              rw [eT] at kk
              exact kk
    · have kk := k H (Same.refl H)
      have z : stateB H x = false := by
        unfold stateB
        rw [nt]
      rw [z] at kk
      exact ⟨_, rfl, _, _, _, _, _, rfl, ClsV.ty _, ty, kt, _, rfl, iteT (iteT kk)⟩
end
end K1
namespace K1
open PySem L2
open L2.My
section
variable {P : Program} {w : World} {K : PySem.W.Frag} {mg : Str → Option Value} {base : Heap}
/-! ### is_statement -/
theorem scStateL : FnScope ["_law_value"] ["_law_value"] (defScope tStateL) := ⟨rfl, rfl, rfl, by decide +kernel, rfl, by decide +kernel, by decide +kernel⟩
theorem ok_stateL {N m : Nat} (hN : N ≤ 1000) {f fN fI fT : Addr} {fd fdN fdI fdT : FuncData} (F : Fun K "_law_is_statement" "_law_is_statement" tStateL f fd) (T : Txt mg)
    (GN : FnOk P w K mg base CX0 1 fN fdN ["_law_value"] (spV N m nameB)) (kN : PySem.W.keepIn K (.ref fN) = true) (bN : Binds K fdN ["_law_value"] []) (gN : mg "_law_is_name" = some (.ref fN))
    (GI : FnOk P w K mg base CX0 1 fI fdI ["_law_value"] (spV N m integB)) (kI : PySem.W.keepIn K (.ref fI) = true) (bI : Binds K fdI ["_law_value"] []) (gI : mg "_law_is_number" = some (.ref fI))
    (GT : FnOk P w K mg base CX0 8 fT fdT ["_law_value", "_law_most"] (spWithin N m 4)) (kT : PySem.W.keepIn K (.ref fT) = true) (bT : Binds K fdT ["_law_value", "_law_most"] []) (gT : mg "_law_is_tree" = some (.ref fT)) :
    FnOk P w K mg base CX0 9 f fd ["_law_value"] (spB N m stateB) := by
  refine F.ok scStateL (fun vs H Q E h => ?_) (fun cdv A outer s H vs Q E hr h => ?_)
  · obtain ⟨x, rfl, _⟩ := h
    rfl
  · obtain ⟨x, rfl, tx, k⟩ := h
    have hu := Nat.lt_of_succ_lt (hu_of hr)
    have hr1 : Room 1 _ := hr.mono (by omega)
    refine ⟨_, pss_cons (ps_if (PW.pt (pw_or (pt_not (pt_val (pe_callB call_isi (by rfl) T.isi (by decide +kernel) (pa_cons (pv 0) (pa_cons (pe_bltn (v := .ty "tuple") (by rfl) T.tuple (by decide +kernel) rfl) pa_nil)))))
          (pw_or (pt_cmpR op_lt (pe_callB call_len_seq (by rfl) T.len PySem.boot_len (pa_cons (pv 0) pa_nil)) pe_int (nomark _))
          (pw_or1 (pt_not (pt_val (pe_call GN hr1 rfl gN kN bN .nil pass0 (pa_cons (pe_ix ix_tup (pv 0) pe_int (fun _ _ => rfl)) pa_nil))))))))
        (pss_one (ps_ret pe_bl)) pss_nil)
      (pss_cons (ps_if (pt_cmpR (op_eqX hu) (pe_ix ix_tup (pv 0) pe_int (fun _ _ => rfl)) pe_str (nomark _))
        (pss_one (ps_ret (pe_and (pe_cmpR op_eq (pe_callB call_len_seq (by rfl) T.len PySem.boot_len (pa_cons (pv 0) pa_nil)) pe_int (nomark _))
          (pe_and (pe_call GT hr rfl gT kT bT .nil pass0 (pa_cons (pe_ix ix_tup (pv 0) pe_int (fun _ _ => rfl)) (pa_cons pe_int pa_nil)))
          (pe_one (pe_cmpR (op_neX hu) (pe_ix ix_tup (pe_ix ix_tup (pv 0) pe_int (fun _ _ => rfl)) pe_int (fun _ _ => rfl)) pe_str (nomark _))))))) pss_nil)
      (pss_cons (ps_if (PW.pt (pw_or (pt_cmpR (op_neX hu) (pe_ix ix_tup (pv 0) pe_int (fun _ _ => rfl)) pe_str (nomark _))
          (pw_or (pt_cmpR op_ne (pe_callB call_len_seq (by rfl) T.len PySem.boot_len (pa_cons (pv 0) pa_nil)) pe_int (nomark _))
          (pw_or1 (pt_not (pt_val (pe_call GN hr1 rfl gN kN bN .nil pass0 (pa_cons (pe_ix ix_tup (pv 0) pe_int (fun _ _ => rfl)) pa_nil))))))))
        (pss_one (ps_ret pe_bl)) pss_nil)
      (pss_cons (ps_if (PW.pt (pw_or (pt_not (pt_val (pe_call GI hr1 rfl gI kI bI .nil pass0 (pa_cons (pe_ix ix_tup (pv 0) pe_int (fun _ _ => rfl)) pa_nil))))
          (pw_or (pt_not (pt_val (pe_call GI hr1 rfl gI kI bI .nil pass0 (pa_cons (pe_ix ix_tup (pv 0) pe_int (fun _ _ => rfl)) pa_nil))))
          (pw_or1 (pt_cmpR op_eq (pe_ix ix_tup (pv 0) pe_int (fun _ _ => rfl)) pe_int (nomark _))))))
        (pss_one (ps_ret pe_bl)) pss_nil)
      (pss_one (ps_ret (pe_call GT hr rfl gT kT bT .nil pass0 (pa_cons (pe_ix ix_tup (pv 0) pe_int (fun _ _ => rfl)) (pa_cons pe_int pa_nil)))))))), ?_⟩
    rcases tx.tupcase (K := K) with ⟨a, xs, rfl, e, l, hx⟩ | ⟨nt, u, ty, kt⟩
    · refine ⟨_, rfl, _, _, _, _, _, rfl, ClsV.ty _, .base (.tup e), kit_ty (r := true) (by decide +kernel), _, rfl, iteF ?_⟩
      refine ⟨_, rfl, a, xs, rfl, .inr (SqT.of e), _, _, rfl, rfl, _, rfl, ?_⟩
      have eT := stateB_tup e
      by_cases c3 : xs.length < 3
      · refine iteD (by omega) (iteT ?_)
        have kk := k H (Same.refl H)
        have z : bodyB H xs = false := by
          match xs, c3 with
          | [], _ => rfl
          | [_], _ => rfl
          | [_, _], _ => rfl
        rw [eT, z] at kk
        exact kk
      · refine iteDn (by omega) ?_
        match xs, e, l, hx, eT, c3 with
        | [], e, l, hx, eT, c3 => exact absurd (by decide) c3
        | [_], e, l, hx, eT, c3 => exact absurd (by show 1 < 3; decide) c3
        | [_, _], e, l, hx, eT, c3 => exact absurd (by show 2 < 3; decide) c3
        | hd :: nm :: r :: rs, e, l, hx, eT, c3 =>
          have eP : bodyB H (hd :: nm :: r :: rs) = (nameB nm && (if isS hd "set" = true then setB H (r :: rs) else isS hd "store" && storeB H (r :: rs))) := rfl
          rw [eP] at eT
          refine ⟨_, rfl, a, _, 1, nm, rfl, rfl, SqT.of e, atI_nat (j := 1) rfl, nm, rfl, hx nm (by simp), fun H1 s1 => ?_⟩
          have e1 := s1 _ _ e
          refine ⟨_, rfl, ?_⟩
          cases cn : nameB nm with
          | false =>
            refine iteT ?_
            have kk := k _ s1
            rw [eT, cn, Bool.false_and] at kk
            exact kk
          | true =>
            refine iteF ?_
            rw [cn, Bool.true_and] at eT
            refine ⟨_, rfl, a, _, 0, hd, rfl, rfl, SqT.of e1, atI_nat (j := 0) rfl, _, _, rfl, ((hx hd (by simp)).same s1).text, _, rfl, ?_⟩
            by_cases cS : strOf hd = some ("set" : Str)
            · have zS : isS hd "set" = true := decide_eq_true cS
              rw [if_pos zS] at eT
              refine iteD cS ⟨_, rfl, a, _, rfl, .inr (SqT.of e1), rfl, _, rfl, ?_⟩
              match rs, e, e1, l, hx, eT with
              | [], e, e1, l, hx, eT =>
                have eS : setB H [r] = (tree4 H r && !headAt H r) := rfl
                rw [eS] at eT
                refine iteD (by rfl) ⟨_, rfl, a, _, 2, r, rfl, rfl, SqT.of e1, atI_nat (j := 2) rfl, r, rfl, (hx r (by simp)).same s1, fun H2 s2 => ?_⟩
                refine ⟨_, rfl, ?_⟩
                have e2 := s2 _ _ e1
                rw [show treeB H1 4 r = tree4 H r from tree4_same s1 (hx r (by simp))]
                cases ct : tree4 H r with
                | false =>
                  have kk := k _ (s1.trans s2)
                  rw [eT, ct, Bool.false_and] at kk
                  exact iteF kk
                | true =>
                  rw [ct, Bool.true_and] at eT
                  obtain ⟨b, h2, n2, r2, rfl, eb, eh⟩ := tree4_tup ct
                  rw [eh] at eT
                  have s12 := s1.trans s2
                  refine iteT ⟨_, rfl, a, _, 2, _, rfl, rfl, SqT.of e2, atI_nat (j := 2) rfl, b, _, 0, h2, rfl, rfl, SqT.of (s12 _ _ eb), atI_nat (j := 0) rfl, strOf h2, _, rfl, ?_, ?_⟩
                  · have tb := hx (.ref b) (by simp)
                    cases tb with
                    | tup e4 _ h4 =>
                      rw [eb] at e4
                      cases e4
                      exact ((h4 h2 (by simp)).same s12).text
                    | lst e4 =>
                      rw [eb] at e4
                      cases e4
                    | dct e4 =>
                      rw [eb] at e4
                      cases e4
                  · have kk := k _ s12
                    rw [eT] at kk
                    exact kk
              | _ :: _, e, e1, l, hx, eT =>
                refine iteDn (fun z => ?_) ?_
                · have := V.int.inj z
                  rw [List.length_cons, List.length_cons, List.length_cons, List.length_cons] at this
                  omega
                · have kk := k _ s1
                  rw [eT] at kk
                  exact kk
            have zS : isS hd "set" = false := decide_eq_false cS
            rw [zS, if_neg Bool.false_ne_true] at eT
            refine iteDn cS ⟨_, rfl, a, _, 0, hd, rfl, rfl, SqT.of e1, atI_nat (j := 0) rfl, _, _, rfl, ((hx hd (by simp)).same s1).text, _, rfl, ?_⟩
            by_cases cO : strOf hd = some ("store" : Str)
            · have zO : isS hd "store" = true := decide_eq_true cO
              rw [zO, Bool.true_and] at eT
              refine iteNS cO ?_
              refine ⟨_, rfl, a, _, rfl, .inr (SqT.of e1), rfl, _, rfl, ?_⟩
              by_cases c6 : rs.length = 3
              · match rs, c6, e, e1, l, hx, eT with
                | [sv, ov, tv], _, e, e1, l, hx, eT =>
                  have eS : storeB H [r, sv, ov, tv] = (nameB r && (integB sv && (!isZero sv && (integB ov && tree4 H tv)))) := rfl
                  rw [eS] at eT
                  refine iteF ?_
                  refine ⟨_, rfl, a, _, 2, r, rfl, rfl, SqT.of e1, atI_nat (j := 2) rfl, r, rfl, (hx r (by simp)).same s1, fun H2 s2 => ?_⟩
                  refine ⟨_, rfl, ?_⟩
                  have e2 := s2 _ _ e1
                  have s12 := s1.trans s2
                  cases cr : nameB r with
                  | false =>
                    refine iteT ?_
                    have kk := k _ s12
                    rw [eT, cr, Bool.false_and] at kk
                    exact kk
                  | true =>
                    rw [cr, Bool.true_and] at eT
                    refine iteF ?_
                    refine ⟨_, rfl, a, _, 3, sv, rfl, rfl, SqT.of e2, atI_nat (j := 3) rfl, sv, rfl, (hx sv (by simp)).same s12, fun H3 s3 => ?_⟩
                    refine ⟨_, rfl, ?_⟩
                    have e3 := s3 _ _ e2
                    have s13 := s12.trans s3
                    cases cs : integB sv with
                    | false =>
                      refine iteT (iteT ?_)
                      have kk := k _ s13
                      rw [eT, cs, Bool.false_and] at kk
                      exact kk
                    | true =>
                      rw [cs, Bool.true_and] at eT
                      refine iteF ⟨_, rfl, a, _, 4, ov, rfl, rfl, SqT.of e3, atI_nat (j := 4) rfl, ov, rfl, (hx ov (by simp)).same s13, fun H4 s4 => ?_⟩
                      refine ⟨_, rfl, ?_⟩
                      have e4 := s4 _ _ e3
                      have s14 := s13.trans s4
                      cases co : integB ov with
                      | false =>
                        refine iteT (iteT ?_)
                        have kk := k _ s14
                        rw [eT, co, Bool.false_and, Bool.and_false] at kk
                        exact kk
                      | true =>
                        rw [co, Bool.true_and] at eT
                        match sv, cs, e, e1, e2, e3, e4, hx, eT with
                        | .int i, cs, e, e1, e2, e3, e4, hx, eT =>
                          refine iteF ⟨_, rfl, a, _, 3, .int i, rfl, rfl, SqT.of e4, atI_nat (j := 3) rfl, rfl, _, rfl, ?_⟩
                          have zz : isZero (.int i) = decide (V.int i = V.int 0) := by
                            show decide (i = 0) = _
                            apply Bool.eq_iff_iff.mpr
                            rw [decide_eq_true_eq, decide_eq_true_eq]
                            exact ⟨fun z => by rw [z], fun z => V.int.inj z⟩
                          rw [zz] at eT
                          cases cz : decide (V.int i = V.int 0) with
                          | true =>
                            refine iteT ?_
                            have kk := k _ s14
                            rw [eT, cz] at kk
                            exact kk
                          | false =>
                            rw [cz] at eT
                            refine iteF ?_
                            refine ⟨_, rfl, a, _, 5, tv, rfl, rfl, SqT.of e4, atI_nat (j := 5) rfl, tv, rfl, (hx tv (by simp)).same s14, fun H5 s5 => ?_⟩
                            rw [show treeB H4 4 tv = tree4 H tv from tree4_same s14 (hx tv (by simp))]
                            have kk := k _ (s14.trans s5)
                            rw [eT] at kk
                            exact kk
              · have z : storeB H (r :: rs) = false := by
                  match rs, c6 with
                  | [], _ => rfl
                  | [_], _ => rfl
                  | [_, _], _ => rfl
                  | [_, _, _], c => exact absurd rfl c
                  | _ :: _ :: _ :: _ :: _, _ => rfl
                have ne : ¬ V.int (((hd :: nm :: r :: rs).length : Nat) : Int) = V.int 6 := fun z => by
                  have := V.int.inj z
                  rw [List.length_cons, List.length_cons, List.length_cons] at this
                  omega
                rw [decide_eq_false ne]
                refine iteT (iteT ?_)
                have kk := k _ s1
                rw [eT, z] at kk
                exact kk
            · have zO : isS hd "store" = false := decide_eq_false cO
              rw [zO, Bool.false_and] at eT
              rw [decide_eq_false cO]
              refine iteT (iteT ?_)
              have kk := k _ s1
              rw [eT] at kk
              exact kk
    · have kk := k H (Same.refl H)
      have z : stateB H x = false := by
        unfold stateB
        rw [nt]
      rw [z] at kk
      exact ⟨_, rfl, _, _, _, _, _, rfl, ClsV.ty _, ty, kt, _, rfl, iteT (iteT kk)⟩
end
end K1
namespace K1
open PySem L2
open L2.My
def kidsOf : Option (List V) → List V
  | some (hd :: _ :: rs) => if isS hd "op" = true then rs else []
  | _ => []
def kids (H : Hp) (v : V) : List V := kidsOf (tupV H v)
def countN (H : Hp) : Nat → V → Nat
  | 0, _ => 0
  | n + 1, v => 1 + ((kids H v).map (countN H n)).foldr max 0
def workN (H : Hp) : Nat → V → Nat
  | 0, _ => 0
  | n + 1, v => if headAt H v = true then 0 else 1 + ((kids H v).map (workN H n)).sum
def walkL (H : Hp) : Nat → V → Nat → List (Nat × V)
  | 0, _, _ => []
  | n + 1, v, l => (l, v) :: (kids H v).flatMap fun u => walkL H n u (l + 1)
theorem kids_tv {H : Hp} {N m : Nat} {v u : V} (t : Tv H N m v) (h : u ∈ kids H v) : Tv H N m u := by
  cases t with
  | @tup n a xs e l hx =>
    unfold kids at h
    rw [tupV_of e] at h
    match xs, e, l, hx, h with
    | hd :: _ :: rs, e, l, hx, h =>
      simp only [kidsOf] at h
      split at h
      · exact (hx u (by simp [h])).up
      · cases h
    | [_], e, l, hx, h => cases h
    | [], e, l, hx, h => cases h
  | lst e => simp [kids, tupV, e, kidsOf] at h
  | dct e => simp [kids, tupV, e, kidsOf] at h
  | non => cases h
  | bl => cases h
  | int => cases h
  | str => cases h
theorem kids_kp {H H' : Hp} {N m : Nat} {v : V} (s : Kp H H') (t : Tv H N m v) : kids H' v = kids H v := by
  unfold kids
  rw [tupV_kp t s]
theorem headAt_kp {H H' : Hp} {N m : Nat} {v : V} (s : Kp H H') (t : Tv H N m v) : headAt H' v = headAt H v := by
  unfold headAt
  rw [tupV_kp t s]
theorem countN_kp {H H' : Hp} {N m : Nat} (s : Kp H H') : ∀ {n : Nat} {v : V}, Tv H N m v → countN H' n v = countN H n v
  | 0, _, _ => rfl
  | n + 1, v, t => by
    simp only [countN]
    rw [kids_kp s t, List.map_congr_left fun u hu => countN_kp s (kids_tv t hu)]
theorem workN_kp {H H' : Hp} {N m : Nat} (s : Kp H H') : ∀ {n : Nat} {v : V}, Tv H N m v → workN H' n v = workN H n v
  | 0, _, _ => rfl
  | n + 1, v, t => by
    simp only [workN]
    rw [kids_kp s t, headAt_kp s t, List.map_congr_left fun u hu => workN_kp s (kids_tv t hu)]
theorem flatMap_congr {α β : Type} {f g : α → List β} : ∀ {xs : List α}, (∀ x ∈ xs, f x = g x) → xs.flatMap f = xs.flatMap g
  | [], _ => rfl
  | x :: xs, h => by rw [List.flatMap_cons, List.flatMap_cons, h x (List.mem_cons_self ..), flatMap_congr fun y hy => h y (List.mem_cons_of_mem _ hy)]
theorem walkL_kp {H H' : Hp} {N m : Nat} (s : Kp H H') : ∀ {n : Nat} {v : V} {l : Nat}, Tv H N m v → walkL H' n v l = walkL H n v l
  | 0, _, _, _ => rfl
  | n + 1, v, l, t => by
    simp only [walkL]
    rw [kids_kp s t, flatMap_congr fun u hu => walkL_kp s (kids_tv t hu)]
/-- a tree, opened -/
theorem tree_open {H : Hp} {n : Nat} {v : V} (h : treeB H (n + 1) v = true) : ∃ a hd nm rs, v = .ref a ∧ H a = some (.tup (hd :: nm :: rs)) ∧ headAt H v = isS hd "at" ∧
    kids H v = (if isS hd "op" = true then rs else []) ∧ (isS hd "op" = true → isS hd "at" = false ∧ rs.length ≤ 3 ∧ ∀ u ∈ rs, treeB H n u = true) := by
  cases v with
  | ref a =>
    cases e : tupV H (.ref a) with
    | none =>
      rw [treeB_none e] at h
      cases h
    | some xs =>
      have e2 : H a = some (.tup xs) := by
        simp only [tupV] at e
        split at e
        · rename_i ys q
          cases e
          exact q
        · cases e
      rw [treeB_tup e2] at h
      match xs, h, e, e2 with
      | hd :: nm :: rs, h, e, e2 =>
        refine ⟨a, hd, nm, rs, rfl, e2, by simp only [headAt, e], by simp only [kids, e, kidsOf], fun ho => ?_⟩
        have so : strOf hd = some ("op" : Str) := of_decide_eq_true ho
        have na : isS hd "at" = false := decide_eq_false (by rw [so]; decide +kernel)
        have nl : isS hd "load" = false := decide_eq_false (by rw [so]; decide +kernel)
        have eP : partsB (treeB H n) (hd :: nm :: rs) = (nameB nm && (if isS hd "at" = true then atB rs
            else if isS hd "load" = true then loadB rs
            else isS hd "op" && decide (rs.length ≤ 3) && rs.all (treeB H n))) := rfl
        rw [eP, na, if_neg Bool.false_ne_true, nl, if_neg Bool.false_ne_true, ho, Bool.true_and, Bool.and_eq_true, Bool.and_eq_true, decide_eq_true_eq, List.all_eq_true] at h
        exact ⟨na, h.2.1, h.2.2⟩
  | _ => cases h
structure Txt3 (mg : Str → Option Value) : Prop where
  sum : mg "sum" = none
  max : mg "max" = none
  enum : mg "enumerate" = none
theorem drop2 {hd nm : V} {rs : List V} : cutV (hd :: nm :: rs) (some 2) none = rs ∧ ¬ (HT.sIx (hd :: nm :: rs).length 0 (some 2) = 0 ∧ HT.sIx (hd :: nm :: rs).length (hd :: nm :: rs).length none = (hd :: nm :: rs).length) := by
  constructor
  · unfold cutV
    rw [show (2 : Int) = ((2 : Nat) : Int) from rfl, HT.sIx_nat, HT.sIx_none, List.length_cons, List.length_cons, Nat.min_eq_left (by omega), List.drop_succ_cons, List.drop_succ_cons, List.drop_zero]
    exact List.take_of_length_le (by omega)
  · rintro ⟨z, _⟩
    rw [show (2 : Int) = ((2 : Nat) : Int) from rfl, HT.sIx_nat, List.length_cons, List.length_cons] at z
    omega
theorem max_is {xs : List Nat} {m : Int} (h1 : m ∈ ((0 :: xs : List Nat).map fun n : Nat => (n : Int))) (h2 : ∀ y, y ∈ ((0 :: xs : List Nat).map fun n : Nat => (n : Int)) → y ≤ m) : m = ((xs.foldr max 0 : Nat) : Int) := by
  have up : ∀ (xs : List Nat) (y : Nat), y ∈ xs → y ≤ xs.foldr max 0 := by
    intro xs
    induction xs with
    | nil => intro y hy; cases hy
    | cons x xs ih =>
      intro y hy
      rw [List.foldr_cons]
      rcases List.mem_cons.mp hy with rfl | hy
      · exact Nat.le_max_left ..
      · exact Nat.le_trans (ih y hy) (Nat.le_max_right ..)
  have at_ : ∀ (xs : List Nat), xs.foldr max 0 ∈ 0 :: xs := by
    intro xs
    induction xs with
    | nil => simp
    | cons x xs ih =>
      rw [List.foldr_cons]
      rcases Nat.le_total x (xs.foldr max 0) with h | h
      · rw [Nat.max_eq_right h]
        rcases List.mem_cons.mp ih with e | e
        · rw [e]; exact List.mem_cons_self ..
        · exact List.mem_cons_of_mem _ (List.mem_cons_of_mem _ e)
      · rw [Nat.max_eq_left h]
        simp
  obtain ⟨n, hn, rfl⟩ := List.mem_map.mp h1
  have a1 := h2 _ (List.mem_map.mpr ⟨_, at_ xs, rfl⟩)
  have a2 : n ≤ xs.foldr max 0 := by
    rcases List.mem_cons.mp hn with rfl | h
    · exact Nat.zero_le _
    · exact up _ _ h
  omega
section
variable {P : Program} {w : World} {K : PySem.W.Frag} {mg : Str → Option Value} {base : Heap}
def spN (N m n : Nat) (f : Hp → Nat → V → Nat) : Sp := fun vs H Q _ => ∃ v, vs = [v] ∧ Tv H N m v ∧ treeB H n v = true ∧ ∀ H', Same H H' → Q (.int (f H n v)) H'
/-! ### _law_count -/
theorem scCount : FnScope ["_law_tree_here", "_law_one"] ["_law_tree_here"] (defScope tCount) := ⟨rfl, rfl, rfl, by decide +kernel, rfl, by decide +kernel, by decide +kernel⟩
theorem step_count {N m n : Nat} {spR : Sp} {f : Addr} {fd : FuncData} (F : Fun K "_law_count" "_law_count" tCount f fd) (T : Txt3 mg) (bF : Binds K fd ["_law_tree_here"] []) (gF : mg "_law_count" = some (.ref f))
    (GR : FnOk P w K mg base CX0 n f fd ["_law_tree_here"] spR) (hR : ∀ q, n = q + 1 → spR = spN N m n countN) :
    FnOk P w K mg base CX0 (n + 1) f fd ["_law_tree_here"] (spN N m (n + 1) countN) := by
  refine F.ok scCount (fun vs H Q E h => ?_) (fun cdv A outer s H vs Q E hr h => ?_)
  · obtain ⟨x, rfl, _⟩ := h
    rfl
  · obtain ⟨x, rfl, tx, hT, k⟩ := h
    have hu := Nat.lt_of_succ_lt (hu_of hr)
    refine ⟨_, pss_one (ps_ret (pe_ifExp (pt_cmpR (op_eqX hu) (pe_ix ix_tup (pv 0) pe_int (fun _ _ => rfl)) pe_str (nomark _))
      (pe_op op_add pe_int (pe_callB (cr_max (by rfl)) (by rfl) T.max (by decide +kernel) (pa_cons (pe_op op_cat (pe_lst (pa_cons pe_int pa_nil))
        (pe_lc (own := [("_law_one", 1)]) (g := gName 1) (tt := tYes) (by rfl) scCount.nd (pi_tup (pe_slice sl_tupA (pv 0) (po_some pe_int) po_none)) (blkOk_by (own := [("_law_one", 1)]) (N := ["_law_tree_here", "_law_one"]) (sc := defScope tCount) (by decide +kernel))
        (fun _ _ _ _ _ => pg_name (i := 1) scCount.nd rfl (Or.inl rfl)) (fun _ _ _ _ _ => pts_nil) (fun _ _ _ _ _ => pe_call GR hr rfl gF F.kp bF .nil pass0 (pa_cons (pv 1) pa_nil)))) pa_nil)))
      pe_int)), ?_⟩
    obtain ⟨a, hd, nm, rs, rfl, e, hA, hK, hO⟩ := tree_open hT
    have th : AsText H hd (strOf hd) := by
      cases tx with
      | tup e' _ hx =>
        rw [e] at e'
        cases e'
        exact (hx hd (by simp)).text
      | lst e' =>
        rw [e] at e'
        cases e'
      | dct e' =>
        rw [e] at e'
        cases e'
    refine ⟨_, rfl, a, _, 0, hd, rfl, rfl, SqT.of e, atI_nat (j := 0) rfl, _, _, rfl, th, _, rfl, ?_⟩
    have eN : countN H (n + 1) (.ref a) = 1 + ((kids H (.ref a)).map (countN H n)).foldr max 0 := rfl
    by_cases c : strOf hd = some ("op" : Str)
    · have zO : isS hd "op" = true := decide_eq_true c
      rw [hK, if_pos zO] at eN
      obtain ⟨_, l3, hB⟩ := hO zO
      refine iteD c ⟨(by show 1 ≤ sizeLine; decide), fun l0 nl0 => ?_⟩
      have s1 := grow (o := .lst [.int 0]) nl0
      have el : (upd H l0 (.lst [.int 0])) l0 = some (.lst [.int 0]) := upd_same
      revert s1 el
      generalize upd H l0 (.lst [.int 0]) = H1
      intro s1 el
      obtain ⟨cut, nw⟩ := drop2 (hd := hd) (nm := nm) (rs := rs)
      refine ⟨_, rfl, _, rfl, a, _, rfl, SqT.of (s1 _ _ e), fun z => absurd z nw, fun _ p np => ?_⟩
      rw [cut]
      have s2 := grow (o := .tup rs) np
      have e2 : (upd H1 p (.tup rs)) p = some (.tup rs) := upd_same
      revert s2 e2
      generalize upd H1 p (.tup rs) = H2
      intro s2 e2
      have kt : ∀ u ∈ rs, Tv H N m u := fun u hu => kids_tv tx (by rw [hK, if_pos zO]; exact hu)
      refine ⟨p, rfl, ⟨_, SqT.of e2⟩, fun D hD => lc_tup (xs := rs) (fun i H' => Acc H2 D (((rs.take i).map (countN H n)).map fun c : Nat => V.int c) H') (Acc.start hD) (fun i H' _ a => SqT.of (a.1 _ _ e2)) ?_ ?_⟩
      · intro i y H3 hy a3
        refine ⟨rfl, ?_⟩
        have my : y ∈ rs := List.mem_of_getElem? hy
        have s3 : Same H H3 := (s1.trans s2).trans a3.1
        cases n with
        | zero => exact absurd (hB y my) (by show ¬ (false = true); decide)
        | succ q =>
          have sR := hR q rfl
          subst sR
          refine ⟨_, rfl, y, rfl, (kt y my).same s3, ?_, fun H4 s4 => ?_⟩
          · rw [treeB_kp (.of s3) (kt y my)]
            exact hB y my
          · have a4 := a3.on s4
            refine ⟨_, a4.2.2, ?_, ?_⟩
            · rw [List.length_map, List.length_map, List.length_take]
              have : (3 : Nat) < sizeLine := by decide
              omega
            · rw [take_step _ hy, List.map_append, countN_kp (.of s3) (kt y my)]
              exact a4.put
      · intro H3 a3
        have z : rs.take rs.length = rs := List.take_of_length_le (Nat.le_refl _)
        rw [z] at a3
        refine ⟨_, _, _, _, rfl, rfl, a3.1 _ _ (s2 _ _ el), a3.2.2, ?_, fun p2 np2 => ?_⟩
        · rw [List.length_map, List.length_map, List.length_singleton]
          have : (4 : Nat) ≤ sizeLine := by decide
          omega
        refine ⟨p2, ((0 :: rs.map (countN H n) : List Nat).map fun c : Nat => (c : Int)), rfl, ?_, by simp, fun mx h1 h2 => ?_⟩
        · refine SqL.of ?_
          rw [upd_same]
          simp
        · have e3 := max_is h1 h2
          subst e3
          have s5 : Same H (upd H3 p2 (.lst ([V.int 0] ++ (rs.map (countN H n)).map fun c : Nat => V.int c))) := ((s1.trans s2).trans a3.1).trans (grow np2)
          have kk := k _ s5
          rw [eN] at kk
          refine ⟨_, _, rfl, rfl, ?_⟩
          have z5 : (((1 + (rs.map (countN H n)).foldr max 0 : Nat)) : Int) = 1 + (((rs.map (countN H n)).foldr max 0 : Nat) : Int) := by omega
          rw [z5] at kk
          exact kk
    · have zO : isS hd "op" = false := decide_eq_false c
      rw [hK, zO, if_neg Bool.false_ne_true] at eN
      have kk := k H (Same.refl H)
      rw [eN] at kk
      exact iteDn c kk
theorem ok_count {N m : Nat} {f : Addr} {fd : FuncData} (F : Fun K "_law_count" "_law_count" tCount f fd) (T : Txt3 mg) (bF : Binds K fd ["_law_tree_here"] []) (gF : mg "_law_count" = some (.ref f)) :
    ∀ n, FnOk P w K mg base CX0 (n + 1) f fd ["_law_tree_here"] (spN N m (n + 1) countN)
  | 0 => step_count F T bF gF (fnok_false (j := 0)) fun q h => absurd h.symm (Nat.succ_ne_zero q)
  | n + 1 => step_count F T bF gF (ok_count F T bF gF n) fun q h => by
      obtain rfl : n = q := Nat.succ.inj h
      rfl
theorem sum_cast : ∀ xs : List Nat, (xs.map fun c : Nat => (c : Int)).sum = ((xs.sum : Nat) : Int)
  | [] => rfl
  | x :: xs => by
    rw [List.map_cons, List.sum_cons, List.sum_cons, sum_cast xs]
    omega
/-! ### _law_working -/
theorem scWork : FnScope ["_law_tree_here", "_law_one"] ["_law_tree_here"] (defScope tWork) := ⟨rfl, rfl, rfl, by decide +kernel, rfl, by decide +kernel, by decide +kernel⟩
theorem step_work {N m n : Nat} {spR : Sp} {f : Addr} {fd : FuncData} (F : Fun K "_law_working" "_law_working" tWork f fd) (T : Txt3 mg) (bF : Binds K fd ["_law_tree_here"] []) (gF : mg "_law_working" = some (.ref f))
    (GR : FnOk P w K mg base CX0 n f fd ["_law_tree_here"] spR) (hR : ∀ q, n = q + 1 → spR = spN N m n workN) :
    FnOk P w K mg base CX0 (n + 1) f fd ["_law_tree_here"] (spN N m (n + 1) workN) := by
  refine F.ok scWork (fun vs H Q E h => ?_) (fun cdv A outer s H vs Q E hr h => ?_)
  · obtain ⟨x, rfl, _⟩ := h
    rfl
  · obtain ⟨x, rfl, tx, hT, k⟩ := h
    have hu := Nat.lt_of_succ_lt (hu_of hr)
    refine ⟨_, pss_cons (ps_if (pt_cmpR (op_eqX hu) (pe_ix ix_tup (pv 0) pe_int (fun _ _ => rfl)) pe_str (nomark _)) (pss_one (ps_ret pe_int)) pss_nil)
      (pss_one (ps_ret (pe_ifExp (pt_cmpR (op_eqX hu) (pe_ix ix_tup (pv 0) pe_int (fun _ _ => rfl)) pe_str (nomark _))
      (pe_op op_add pe_int (pe_callB (cr_sum (by rfl)) (by rfl) T.sum (by decide +kernel) (pa_cons
        (pe_lc (own := [("_law_one", 1)]) (g := gName 1) (tt := tYes) (by rfl) scWork.nd (pi_tup (pe_slice sl_tupA (pv 0) (po_some pe_int) po_none)) (blkOk_by (own := [("_law_one", 1)]) (N := ["_law_tree_here", "_law_one"]) (sc := defScope tWork) (by decide +kernel))
        (fun _ _ _ _ _ => pg_name (i := 1) scWork.nd rfl (Or.inl rfl)) (fun _ _ _ _ _ => pts_nil) (fun _ _ _ _ _ => pe_call GR hr rfl gF F.kp bF .nil pass0 (pa_cons (pv 1) pa_nil))) pa_nil)))
      pe_int))), ?_⟩
    obtain ⟨a, hd, nm, rs, rfl, e, hA, hK, hO⟩ := tree_open hT
    have th : AsText H hd (strOf hd) := by
      cases tx with
      | tup e' _ hx =>
        rw [e] at e'
        cases e'
        exact (hx hd (by simp)).text
      | lst e' =>
        rw [e] at e'
        cases e'
      | dct e' =>
        rw [e] at e'
        cases e'
    refine ⟨_, rfl, a, _, 0, hd, rfl, rfl, SqT.of e, atI_nat (j := 0) rfl, _, _, rfl, th, _, rfl, ?_⟩
    have eN : workN H (n + 1) (.ref a) = if headAt H (.ref a) = true then 0 else 1 + ((kids H (.ref a)).map (workN H n)).sum := rfl
    by_cases cA : strOf hd = some ("at" : Str)
    · have zA : isS hd "at" = true := decide_eq_true cA
      rw [hA, if_pos zA] at eN
      have kk := k H (Same.refl H)
      rw [eN] at kk
      exact iteD cA kk
    have zA : isS hd "at" = false := decide_eq_false cA
    rw [hA, zA, if_neg Bool.false_ne_true] at eN
    refine iteDn cA ⟨_, rfl, a, _, 0, hd, rfl, rfl, SqT.of e, atI_nat (j := 0) rfl, _, _, rfl, th, _, rfl, ?_⟩
    by_cases c : strOf hd = some ("op" : Str)
    · have zO : isS hd "op" = true := decide_eq_true c
      rw [hK, if_pos zO] at eN
      obtain ⟨_, l3, hB⟩ := hO zO
      have s1 : Same H H := Same.refl H
      refine iteD c ?_
      obtain ⟨cut, nw⟩ := drop2 (hd := hd) (nm := nm) (rs := rs)
      refine ⟨_, rfl, _, rfl, a, _, rfl, SqT.of (s1 _ _ e), fun z => absurd z nw, fun _ p np => ?_⟩
      rw [cut]
      have s2 := grow (o := .tup rs) np
      have e2 : (upd H p (.tup rs)) p = some (.tup rs) := upd_same
      revert s2 e2
      generalize upd H p (.tup rs) = H2
      intro s2 e2
      have kt : ∀ u ∈ rs, Tv H N m u := fun u hu => kids_tv tx (by rw [hK, if_pos zO]; exact hu)
      refine ⟨p, rfl, ⟨_, SqT.of e2⟩, fun D hD => lc_tup (xs := rs) (fun i H' => Acc H2 D (((rs.take i).map (workN H n)).map fun c : Nat => V.int c) H') (Acc.start hD) (fun i H' _ a => SqT.of (a.1 _ _ e2)) ?_ ?_⟩
      · intro i y H3 hy a3
        refine ⟨rfl, ?_⟩
        have my : y ∈ rs := List.mem_of_getElem? hy
        have s3 : Same H H3 := (s1.trans s2).trans a3.1
        cases n with
        | zero => exact absurd (hB y my) (by show ¬ (false = true); decide)
        | succ q =>
          have sR := hR q rfl
          subst sR
          refine ⟨_, rfl, y, rfl, (kt y my).same s3, ?_, fun H4 s4 => ?_⟩
          · rw [treeB_kp (.of s3) (kt y my)]
            exact hB y my
          · have a4 := a3.on s4
            refine ⟨_, a4.2.2, ?_, ?_⟩
            · rw [List.length_map, List.length_map, List.length_take]
              have : (3 : Nat) < sizeLine := by decide
              omega
            · rw [take_step _ hy, List.map_append, workN_kp (.of s3) (kt y my)]
              exact a4.put
      · intro H3 a3
        have z : rs.take rs.length = rs := List.take_of_length_le (Nat.le_refl _)
        rw [z] at a3
        refine ⟨D, ((rs.map (workN H n)).map fun c : Nat => (c : Int)), rfl, ?_, ?_⟩
        · refine SqL.of ?_
          rw [a3.2.2]
          simp
        · have s5 : Same H H3 := s2.trans a3.1
          have kk := k _ s5
          rw [eN] at kk
          refine ⟨_, _, rfl, rfl, ?_⟩
          have z5 : (((1 + (rs.map (workN H n)).sum : Nat)) : Int) = 1 + ((rs.map (workN H n)).map fun c : Nat => (c : Int)).sum := by
            rw [sum_cast]
            omega
          rw [z5] at kk
          exact kk
    · have zO : isS hd "op" = false := decide_eq_false c
      rw [hK, zO, if_neg Bool.false_ne_true] at eN
      have kk := k H (Same.refl H)
      rw [eN] at kk
      exact iteDn c kk
theorem ok_work {N m : Nat} {f : Addr} {fd : FuncData} (F : Fun K "_law_working" "_law_working" tWork f fd) (T : Txt3 mg) (bF : Binds K fd ["_law_tree_here"] []) (gF : mg "_law_working" = some (.ref f)) :
    ∀ n, FnOk P w K mg base CX0 (n + 1) f fd ["_law_tree_here"] (spN N m (n + 1) workN)
  | 0 => step_work F T bF gF (fnok_false (j := 0)) fun q h => absurd h.symm (Nat.succ_ne_zero q)
  | n + 1 => step_work F T bF gF (ok_work F T bF gF n) fun q h => by
      obtain rfl : n = q := Nat.succ.inj h
      rfl
end
end K1
namespace K1
open PySem L2
open L2.My
abbrev mroV : List Value := [.type "ValueError", .type "Exception", .type "BaseException", .type "object"]
structure Errs (K : PySem.W.Frag) (mg : Str → Option Value) (CI : Addr) : Prop where
  gI : mg "InvalidTree" = some (.ref CI)
  xI : PySem.W.excIn K CI mroV "ValueError.__new__" = true
  kI : PySem.W.keepIn K (.ref CI) = true
  bI : PySem.W.subIn K (.ref CI) (.type "BaseException") = some true
  tI : PySem.W.typeIn K (.ref CI) = some (.type "type")
/-- the rows of a walk: pairs of a path of the told length and a node -/
inductive Rows (H : Hp) : List V → List (Nat × V) → Prop
  | nil : Rows H [] []
  | cons {t b : Addr} {ps : List V} {v : V} {rs : List V} {ls : List (Nat × V)} (e : H t = some (.tup [.ref b, v])) (eb : H b = some (.tup ps)) (r : Rows H rs ls) : Rows H (.ref t :: rs) ((ps.length, v) :: ls)
theorem Rows.kp {H H' : Hp} {rs : List V} {ls : List (Nat × V)} (r : Rows H rs ls) (s : Kp H H') : Rows H' rs ls := by
  induction r with
  | nil => exact .nil
  | cons e eb r ih => exact .cons (s.tup _ _ e) (s.tup _ _ eb) ih
theorem Rows.app {H : Hp} {rs rs2 : List V} {ls ls2 : List (Nat × V)} (r : Rows H rs ls) (r2 : Rows H rs2 ls2) : Rows H (rs ++ rs2) (ls ++ ls2) := by
  induction r with
  | nil => exact r2
  | cons e eb r ih => exact .cons e eb ih
theorem Rows.len {H : Hp} {rs : List V} {ls : List (Nat × V)} (r : Rows H rs ls) : rs.length = ls.length := by
  induction r with
  | nil => rfl
  | cons e eb r ih => rw [List.length_cons, List.length_cons, ih]
theorem Rows.at {H : Hp} {rs : List V} {ls : List (Nat × V)} (r : Rows H rs ls) : ∀ {i : Nat} {x : V}, rs[i]? = some x → ∃ t b ps v, x = .ref t ∧ H t = some (.tup [.ref b, v]) ∧ H b = some (.tup ps) ∧ ls[i]? = some (ps.length, v) := by
  induction r with
  | nil => intro i x h; cases h
  | @cons t b ps v rs ls e eb r ih =>
    intro i x h
    cases i with
    | zero =>
      have h2 : some (V.ref t) = some x := h
      cases h2
      exact ⟨t, b, ps, v, rfl, e, eb, rfl⟩
    | succ j => exact ih h
theorem flat_len {f : V → List (Nat × V)} {c : Nat} : ∀ {xs : List V}, (∀ x ∈ xs, (f x).length ≤ c) → (xs.flatMap f).length ≤ xs.length * c
  | [], _ => by simp
  | x :: xs, h => by
    rw [List.flatMap_cons, List.length_append, List.length_cons, Nat.succ_mul]
    have h1 := h x (List.mem_cons_self ..)
    have h2 := flat_len (xs := xs) fun y hy => h y (List.mem_cons_of_mem _ hy)
    omega
theorem kids_len {H : Hp} {n : Nat} {v : V} (h : treeB H (n + 1) v = true) : (kids H v).length ≤ 3 ∧ ∀ u ∈ kids H v, treeB H n u = true := by
  obtain ⟨a, hd, nm, rs, rfl, e, hA, hK, hO⟩ := tree_open h
  rw [hK]
  by_cases c : isS hd "op" = true
  · rw [if_pos c]
    exact (hO c).2
  · rw [if_neg c]
    exact ⟨Nat.zero_le _, fun u hu => by cases hu⟩
theorem walk_len {H : Hp} : ∀ {n : Nat} {v : V} {l : Nat}, treeB H n v = true → (walkL H n v l).length ≤ 4 ^ n
  | 0, _, _, h => by cases h
  | n + 1, v, l, h => by
    obtain ⟨h1, h2⟩ := kids_len h
    have h3 := flat_len (f := fun u => walkL H n u (l + 1)) (c := 4 ^ n) fun u hu => walk_len (h2 u hu)
    have h4 : (kids H v).length * 4 ^ n ≤ 3 * 4 ^ n := Nat.mul_le_mul_right _ h1
    simp only [walkL, List.length_cons]
    rw [Nat.pow_succ]
    have : 0 < 4 ^ n := Nat.pow_pos (by decide)
    omega
section
variable {P : Program} {w : World} {K : PySem.W.Frag} {mg : Str → Option Value} {base : Heap}
/-! ### check_tree -/
def spCheck (N m : Nat) (CI : Addr) : Sp := fun vs H Q E => ∃ x, vs = [x] ∧ Tv H N m x ∧ (tree4 H x = false → ∀ H', Same H H' → E (.ref CI) none H') ∧ (tree4 H x = true → ∀ H', Same H H' → Q .non H')
theorem scCheck : FnScope ["value"] ["value"] (defScope tCheck) := ⟨rfl, rfl, rfl, by decide +kernel, rfl, by decide +kernel, by decide +kernel⟩
theorem ok_check {N m : Nat} {CI f fT : Addr} {fd fdT : FuncData} (F : Fun K "check_tree" "check_tree" tCheck f fd) (R : Errs K mg CI) (GT : FnOk P w K mg base CX0 9 fT fdT ["value"] (spB N m tree4)) (kT : PySem.W.keepIn K (.ref fT) = true) (bT : Binds K fdT ["value"] []) (gT : mg "is_tree" = some (.ref fT)) :
    FnOk P w K mg base (L2.CX P w) 10 f fd ["value"] (spCheck N m CI) := by
  refine F.okX scCheck (fun vs H Q E h => ?_) (fun cdv A outer s H vs Q E hr h => ?_)
  · obtain ⟨x, rfl, _⟩ := h
    rfl
  · obtain ⟨x, rfl, tx, k1, k2⟩ := h
    refine ⟨_, pss_one (ps_if (pt_not (pt_val (pe_call GT hr rfl gT kT bT .nil pass0 (pa_cons (pv 0) pa_nil)))) (pss_one (ps_raise rfl (takes_of rfl rfl rfl rfl) (pmk_own PySem.F.excBase_ValueError R.xI R.gI R.kI (raises_own R.bI R.tI) rfl))) pss_nil), ?_⟩
    refine ⟨_, rfl, x, rfl, tx, fun H1 s1 => ?_⟩
    refine ⟨_, rfl, ?_⟩
    cases c : tree4 H x with
    | false => exact iteT (k1 c _ s1)
    | true => exact iteF (k2 c _ s1)
/-! ### walked -/
def spWalked (N m n : Nat) : Sp := fun vs H Q _ => ∃ v pb ps, vs = [v, .ref pb] ∧ Tv H N m v ∧ treeB H n v = true ∧ n ≤ 4 ∧ H pb = some (.tup ps) ∧ ps.length + n ≤ 10 ∧
  ∀ R H' rows, Same H H' → H' R = some (.lst rows) → Rows H' rows (walkL H n v ps.length) → Q (.ref R) H'
theorem scWalked : FnScope ["tree", "path", "rows", "index", "below"] ["tree", "path"] (defScope tWalked) := ⟨rfl, rfl, rfl, by decide +kernel, rfl, by decide +kernel, by decide +kernel⟩
theorem step_walked {N m n : Nat} {spR : Sp} {f : Addr} {fd : FuncData} (F : Fun K "walked" "walked" tWalked f fd) (T : Txt3 mg) (bF : Binds K fd ["tree", "path"] []) (gF : mg "walked" = some (.ref f))
    (GR : FnOk P w K mg base CX0 n f fd ["tree", "path"] spR) (hR : ∀ q, n = q + 1 → spR = spWalked N m n) :
    FnOk P w K mg base CX0 (n + 1) f fd ["tree", "path"] (spWalked N m (n + 1)) := by
  refine F.ok scWalked (fun vs H Q E h => ?_) (fun cdv A outer s H vs Q E hr h => ?_)
  · obtain ⟨x, pb, ps, rfl, _⟩ := h
    rfl
  · obtain ⟨x, pb, ps, rfl, tx, hT, n4, ep, lp, k⟩ := h
    have hu := Nat.lt_of_succ_lt (hu_of hr)
    refine ⟨_, pss_cons (ps_set (i := 2) scWalked.nd rfl (.inl rfl) (pe_lst (pa_cons (pe_tup (pa_cons (pv 1) (pa_cons (pv 0) pa_nil))) pa_nil)))
      (pss_cons (ps_if (pt_cmpR (op_eqX hu) (pe_ix ix_tup (pv 0) pe_int (fun _ _ => rfl)) pe_str (nomark _))
        (pss_one (ps_for PassesOwn.never rfl (pi_enumT rfl T.enum (pa_cons (pe_slice sl_tupA (pv 0) (po_some pe_int) po_none) pa_nil)) (pg_tup rfl (pgs_cons (pg_name (i := 3) scWalked.nd rfl (.inl rfl)) (pgs_cons (pg_name (i := 4) scWalked.nd rfl (.inl rfl)) pgs_nil)))
          (pss_one (ps_expr (pe_bm PySem.F.plainAttrs_list PySem.F.slot_list_extend PySem.F.type_list_extend mt_extend (pv 2) (pa_cons (pe_call GR hr rfl gF F.kp bF .nil pass0 (pa_cons (pv 4) (pa_cons (pe_op op_catA (pv 1) (pe_tup (pa_cons (pv 3) pa_nil))) pa_nil))) pa_nil)))))) pss_nil)
      (pss_one (ps_ret (pv 2)))), ?_⟩
    obtain ⟨a, hd, nm, rs, rfl, e, hA, hK, hO⟩ := tree_open hT
    have th : AsText H hd (strOf hd) := by
      cases tx with
      | tup e' _ hx =>
        rw [e] at e'
        cases e'
        exact (hx hd (by simp)).text
      | lst e' =>
        rw [e] at e'
        cases e'
      | dct e' =>
        rw [e] at e'
        cases e'
    refine ⟨_, rfl, _, rfl, (by show 2 ≤ sizeLine; decide), fun t nt => ?_⟩
    have s1 := grow (o := .tup [.ref pb, .ref a]) nt
    have et : (upd H t (.tup [.ref pb, .ref a])) t = some (.tup [.ref pb, .ref a]) := upd_same
    revert s1 et
    generalize upd H t (.tup [.ref pb, .ref a]) = H1
    intro s1 et
    refine ⟨(by show 1 ≤ sizeLine; decide), fun R nR => ?_⟩
    have s2 := grow (o := .lst [.ref t]) nR
    have eR : (upd H1 R (.lst [.ref t])) R = some (.lst [.ref t]) := upd_same
    revert s2 eR
    generalize upd H1 R (.lst [.ref t]) = H2
    intro s2 eR
    have s02 := s1.trans s2
    have ch : ∀ y ∈ hd :: nm :: rs, Tv H N m y := by
      cases tx with
      | tup e' _ hx =>
        rw [e] at e'
        cases e'
        exact fun y hy => (hx y hy).up
      | lst e' =>
        rw [e] at e'
        cases e'
      | dct e' =>
        rw [e] at e'
        cases e'
    have eW : walkL H (n + 1) (.ref a) ps.length = (ps.length, .ref a) :: (kids H (.ref a)).flatMap fun u => walkL H n u (ps.length + 1) := rfl
    have r0 : Rows H2 [.ref t] [(ps.length, .ref a)] := .cons (s2 _ _ et) (s02 _ _ ep) .nil
    refine ⟨_, rfl, a, _, 0, hd, rfl, rfl, SqT.of (s02 _ _ e), atI_nat (j := 0) rfl, _, _, rfl, ((ch hd (by simp)).same s02).text, _, rfl, ?_⟩
    by_cases c : strOf hd = some ("op" : Str)
    · have zO : isS hd "op" = true := decide_eq_true c
      rw [hK, if_pos zO] at eW
      obtain ⟨_, l3, hB⟩ := hO zO
      refine iteD c ?_
      obtain ⟨cut, nw⟩ := drop2 (hd := hd) (nm := nm) (rs := rs)
      refine ⟨_, rfl, _, rfl, a, _, rfl, SqT.of (s02 _ _ e), fun z => absurd z nw, fun _ p np => ?_⟩
      rw [cut]
      have s3 := grow (o := .tup rs) np
      have e3 : (upd H2 p (.tup rs)) p = some (.tup rs) := upd_same
      have a3 : Acc H1 R [.ref t] (upd H2 p (.tup rs)) := (Acc.on ⟨s2, nR, eR⟩ s3)
      have r3 := r0.kp (.of s3)
      revert s3 e3 a3 r3
      generalize upd H2 p (.tup rs) = H3
      intro s3 e3 a3 r3
      have kt : ∀ u ∈ rs, Tv H N m u := fun u hu => ch u (List.mem_cons_of_mem _ (List.mem_cons_of_mem _ hu))
      have nRp : R ≠ p := by
        intro z
        have q := a3.2.2
        rw [z, e3] at q
        cases q
      refine ⟨p, rs, rfl, SqT.of e3, for_it walk_enumT (fun i σ H' => ∃ o1 o2 rows, σ = [some (.ref a), some (.ref pb), some (.ref R), o1, o2] ∧ Acc H1 R rows H' ∧ H' p = some (.tup rs) ∧
        Rows H' rows ((ps.length, .ref a) :: (rs.take i).flatMap fun u => walkL H n u (ps.length + 1)))
        ⟨none, none, _, rfl, a3, e3, r3⟩ (fun i σ H' _ ⟨_, _, _, _, _, ep', _⟩ => SqT.of ep') ?_ ?_⟩
      · rintro i x σ H4 H5 hi ⟨o1, o2, rows, rfl, a4, e4, r4⟩ ⟨T2, x2, y, rfl, nT, rfl, hx2, hy⟩
        cases hx2
        have s5 : Same H4 (upd H4 T2 (.tup [.int (i : Nat), y])) := grow nT
        have e5 : (upd H4 T2 (.tup [.int (i : Nat), y])) T2 = some (.tup [.int (i : Nat), y]) := upd_same
        revert s5 e5
        generalize upd H4 T2 (.tup [.int (i : Nat), y]) = H5
        intro s5 e5
        have my : y ∈ rs := List.mem_of_getElem? hy
        refine ⟨T2, _, rfl, SqT.of e5, rfl, _, _, rfl, _, _, rfl, rfl, ?_⟩
        refine ⟨_, rfl, .inl ⟨rfl, _, SqL.of (s5 _ _ a4.2.2)⟩, _, rfl, _, rfl, _, rfl, (by show 1 ≤ sizeLine; decide), fun q nq => ?_⟩
        have s6 : Same H5 (upd H5 q (.tup [.int (i : Nat)])) := grow nq
        have e6 : (upd H5 q (.tup [.int (i : Nat)])) q = some (.tup [.int (i : Nat)]) := upd_same
        revert s6 e6
        generalize upd H5 q (.tup [.int (i : Nat)]) = H6
        intro s6 e6
        have s06 : Same H H6 := ((s1.trans a4.1).trans s5).trans s6
        have go : ∀ (pq : Addr) (ps' : List V) (H7 : Hp), Same H6 H7 → H7 pq = some (.tup ps') → ps'.length = ps.length + 1 →
            spR [y, .ref pq] H7 (fun v H8 => rExtend (.ref R) [v] H8 fun _ H9 => ∃ o1 o2 rows, [some (V.ref a), some (V.ref pb), some (V.ref R), some (V.int (i : Nat)), some y] = [some (V.ref a), some (V.ref pb), some (V.ref R), o1, o2] ∧ Acc H1 R rows H9 ∧ H9 p = some (.tup rs) ∧
              Rows H9 rows ((ps.length, .ref a) :: (rs.take (i + 1)).flatMap fun u => walkL H n u (ps.length + 1))) E0 := by
          intro pq ps' H7 s7 e7 l7
          cases n with
          | zero => exact absurd (hB y my) (by show ¬ (false = true); decide)
          | succ j =>
            have sR := hR j rfl
            subst sR
            have s07 := s06.trans s7
            refine ⟨y, pq, ps', rfl, (kt y my).same s07, ?_, by omega, e7, by omega, fun R2 H8 zs s8 eR2 rz => ?_⟩
            · rw [treeB_kp (.of s07) (kt y my)]
              exact hB y my
            · have s48 : Same H4 H8 := ((s5.trans s6).trans s7).trans s8
              have a8 := a4.on s48
              have r8 := r4.kp (.of s48)
              rw [walkL_kp (.of s07) (kt y my), l7] at rz
              have ro := r8.app rz
              have eZ : ((ps.length, V.ref a) :: (rs.take i).flatMap fun u => walkL H (j + 1) u (ps.length + 1)) ++ walkL H (j + 1) y (ps.length + 1) = (ps.length, V.ref a) :: (rs.take (i + 1)).flatMap fun u => walkL H (j + 1) u (ps.length + 1) := by
                obtain ⟨hi2, hx⟩ := List.getElem?_eq_some_iff.mp hy
                rw [← hx, List.take_succ_eq_append_getElem hi2, List.flatMap_append, List.cons_append, List.flatMap_singleton]
              rw [eZ] at ro
              have lr := ro.len
              have lb : ((ps.length, V.ref a) :: (rs.take (i + 1)).flatMap fun u => walkL H (j + 1) u (ps.length + 1)).length ≤ 1000 := by
                have f1 := flat_len (f := fun u => walkL H (j + 1) u (ps.length + 1)) (c := 4 ^ (j + 1)) (xs := rs.take (i + 1)) fun u hu => walk_len (hB u (List.mem_of_mem_take hu))
                have f2 : (rs.take (i + 1)).length ≤ 3 := by
                  rw [List.length_take]
                  omega
                have f3 : 4 ^ (j + 1) ≤ 4 ^ 3 := Nat.pow_le_pow_right (by decide) (by omega)
                have f4 : (rs.take (i + 1)).length * 4 ^ (j + 1) ≤ 3 * 4 ^ 3 := Nat.mul_le_mul f2 f3
                rw [List.length_cons]
                have f5 : (3 * 4 ^ 3 : Nat) = 192 := by decide
                omega
              refine ⟨R, R2, rows, zs, rfl, rfl, a8.2.2, eR2, ?_, _, _, rows ++ zs, rfl, a8.put, ?_, ro.kp (.upd a8.2.2)⟩
              · have : (1000 : Nat) ≤ sizeLine := by decide
                rw [List.length_append] at lr
                omega
              · rw [upd_ne nRp.symm]
                exact s48 _ _ e4
        refine ⟨pb, q, ps, _, rfl, rfl, SqT.of (s06 _ _ ep), SqT.of e6, ?_, fun z => ?_, (fun _ z => absurd z (List.cons_ne_nil _ _)), fun _ _ p2 np2 => ?_⟩
        · have : (20 : Nat) ≤ sizeLine := by decide
          rw [List.length_singleton]
          omega
        · exact go q _ H6 (Same.refl H6) e6 (by rw [z]; rfl)
        · exact go p2 _ _ (grow np2) upd_same (by rw [List.length_append]; rfl)
      · rintro σ H4 ⟨o1, o2, rows, rfl, a4, e4, r4⟩
        have z : rs.take rs.length = rs := List.take_of_length_le (Nat.le_refl _)
        rw [z, ← eW] at r4
        exact ⟨_, rfl, k R H4 rows (s1.trans a4.1) a4.2.2 r4⟩
    · have zO : isS hd "op" = false := decide_eq_false c
      rw [hK, zO, if_neg Bool.false_ne_true, List.flatMap_nil] at eW
      rw [← eW] at r0
      exact iteDn c ⟨_, rfl, k R H2 _ s02 eR r0⟩
theorem ok_walked {N m : Nat} {f : Addr} {fd : FuncData} (F : Fun K "walked" "walked" tWalked f fd) (T : Txt3 mg) (bF : Binds K fd ["tree", "path"] []) (gF : mg "walked" = some (.ref f)) :
    ∀ n, FnOk P w K mg base CX0 (n + 1) f fd ["tree", "path"] (spWalked N m (n + 1))
  | 0 => step_walked F T bF gF (fnok_false (j := 0)) fun q h => absurd h.symm (Nat.succ_ne_zero q)
  | n + 1 => step_walked F T bF gF (ok_walked F T bF gF n) fun q h => by
      obtain rfl : n = q := Nat.succ.inj h
      rfl
end
end K1
namespace K1
open PySem L2
open L2.My
theorem max_up : ∀ (xs : List Nat) (y : Nat), y ∈ xs → y ≤ xs.foldr max 0 := by
  intro xs
  induction xs with
  | nil => intro y hy; cases hy
  | cons x xs ih =>
    intro y hy
    rw [List.foldr_cons]
    rcases List.mem_cons.mp hy with rfl | hy
    · exact Nat.le_max_left ..
    · exact Nat.le_trans (ih y hy) (Nat.le_max_right ..)
theorem max_at : ∀ (xs : List Nat), xs.foldr max 0 ∈ 0 :: xs := by
  intro xs
  induction xs with
  | nil => simp
  | cons x xs ih =>
    rw [List.foldr_cons]
    rcases Nat.le_total x (xs.foldr max 0) with h | h
    · rw [Nat.max_eq_right h]
      rcases List.mem_cons.mp ih with e | e
      · rw [e]; exact List.mem_cons_self ..
      · exact List.mem_cons_of_mem _ (List.mem_cons_of_mem _ e)
    · rw [Nat.max_eq_left h]
      simp
theorem walk_max {H : Hp} : ∀ {n : Nat} {v : V} {l : Nat}, treeB H n v = true → 1 ≤ countN H n v ∧ (∃ p ∈ walkL H n v l, p.1 = l + countN H n v - 1) ∧ ∀ p ∈ walkL H n v l, p.1 ≤ l + countN H n v - 1
  | 0, _, _, h => by cases h
  | n + 1, v, l, h => by
    obtain ⟨_, h2⟩ := kids_len h
    have eC : countN H (n + 1) v = 1 + ((kids H v).map (countN H n)).foldr max 0 := rfl
    have eW : walkL H (n + 1) v l = (l, v) :: (kids H v).flatMap fun u => walkL H n u (l + 1) := rfl
    rw [eC, eW]
    refine ⟨by omega, ?_, ?_⟩
    · rcases List.mem_cons.mp (max_at ((kids H v).map (countN H n))) with e | e
      · exact ⟨_, List.mem_cons_self .., by rw [e]; simp⟩
      · obtain ⟨u, hu, eu⟩ := List.mem_map.mp e
        obtain ⟨h3, ⟨p, hp, ep⟩, _⟩ := walk_max (l := l + 1) (h2 u hu)
        refine ⟨p, List.mem_cons_of_mem _ (List.mem_flatMap.mpr ⟨u, hu, hp⟩), ?_⟩
        rw [ep, ← eu]
        omega
    · intro p hp
      rcases List.mem_cons.mp hp with rfl | hp
      · show l ≤ _
        omega
      · obtain ⟨u, hu, hp⟩ := List.mem_flatMap.mp hp
        obtain ⟨h3, _, h4⟩ := walk_max (l := l + 1) (h2 u hu)
        have h5 := h4 p hp
        have h6 := max_up _ _ (List.mem_map.mpr ⟨u, hu, rfl⟩ : countN H n u ∈ (kids H v).map (countN H n))
        omega
theorem flat_count {f : V → List (Nat × V)} {g : V → Nat} {p : Nat × V → Bool} : ∀ {xs : List V}, (∀ x ∈ xs, ((f x).filter p).length = g x) → ((xs.flatMap f).filter p).length = (xs.map g).sum
  | [], _ => rfl
  | x :: xs, h => by
    rw [List.flatMap_cons, List.filter_append, List.length_append, List.map_cons, List.sum_cons, h x (List.mem_cons_self ..), flat_count fun y hy => h y (List.mem_cons_of_mem _ hy)]
theorem walk_work {H : Hp} : ∀ {n : Nat} {v : V} {l : Nat}, treeB H n v = true → ((walkL H n v l).filter fun p => !headAt H p.2).length = workN H n v
  | 0, _, _, h => by cases h
  | n + 1, v, l, h => by
    obtain ⟨_, h2⟩ := kids_len h
    obtain ⟨a, hd, nm, rs, rfl, e, hA, hK, hO⟩ := tree_open h
    have eW : walkL H (n + 1) (.ref a) l = (l, .ref a) :: (kids H (.ref a)).flatMap fun u => walkL H n u (l + 1) := rfl
    have eN : workN H (n + 1) (.ref a) = if headAt H (.ref a) = true then 0 else 1 + ((kids H (.ref a)).map (workN H n)).sum := rfl
    have ih : (((kids H (.ref a)).flatMap fun u => walkL H n u (l + 1)).filter fun p => !headAt H p.2).length = ((kids H (.ref a)).map (workN H n)).sum := flat_count fun u hu => walk_work (h2 u hu)
    rw [eW, eN]
    cases c : headAt H (.ref a) with
    | true =>
      have z : kids H (.ref a) = [] := by
        rw [hK]
        by_cases o : isS hd "op" = true
        · have := (hO o).1
          rw [hA, this] at c
          cases c
        · rw [if_neg o]
      rw [z, if_pos rfl]
      simp [c]
    | false =>
      rw [if_neg Bool.false_ne_true, List.filter_cons]
      simp only [c, Bool.not_false, if_true, List.length_cons]
      rw [ih]
      omega
theorem walk_nodes {H : Hp} {N m : Nat} : ∀ {n : Nat} {v : V} {l : Nat}, treeB H n v = true → Tv H N m v → ∀ p ∈ walkL H n v l, Tv H N m p.2 ∧ ∃ q, treeB H (q + 1) p.2 = true
  | 0, _, _, h, _ => by cases h
  | n + 1, v, l, h, t => by
    obtain ⟨_, h2⟩ := kids_len h
    intro p hp
    have eW : walkL H (n + 1) v l = (l, v) :: (kids H v).flatMap fun u => walkL H n u (l + 1) := rfl
    rw [eW] at hp
    rcases List.mem_cons.mp hp with rfl | hp
    · exact ⟨t, n, h⟩
    · obtain ⟨u, hu, hp⟩ := List.mem_flatMap.mp hp
      exact walk_nodes (h2 u hu) (kids_tv t hu) p hp
theorem len_at {K : PySem.W.Frag} {X : Cx} (e : X.K = K) : CallR X (.builtin "len") (fun xs H Q => ∃ p ys, xs = [.ref p] ∧ (SqL K H p ys ∨ SqT K H p ys) ∧ Q (.int ys.length) H) := e ▸ call_len_seq
theorem ix_at {K : PySem.W.Frag} {X : Cx} (e : X.K = K) : IxR X (rIxT K) := e ▸ ix_tup
section
variable {P : Program} {w : World} {K : PySem.W.Frag} {mg : Str → Option Value} {base : Heap}
def spTold (N m : Nat) (CI : Addr) (f : Hp → Nat → V → Nat) : Sp := fun vs H Q E => ∃ x, vs = [x] ∧ Tv H N m x ∧ (tree4 H x = false → ∀ H', Same H H' → E (.ref CI) none H') ∧ (tree4 H x = true → ∀ H', Same H H' → Q (.int (f H 4 x)) H')
/-! ### levels -/
theorem scLevels : FnScope ["tree", "path", "_"] ["tree"] (defScope tLevels) := ⟨rfl, rfl, rfl, by decide +kernel, rfl, by decide +kernel, by decide +kernel⟩
theorem ok_levels {N m : Nat} {CI f fC fW : Addr} {fd fdC fdW : FuncData} (F : Fun K "levels" "levels" tLevels f fd) (T3 : Txt3 mg) (T : Txt mg)
    (GC : FnOk P w K mg base (L2.CX P w) 10 fC fdC ["value"] (spCheck N m CI)) (kC : PySem.W.keepIn K (.ref fC) = true) (bC : Binds K fdC ["value"] []) (gC : mg "check_tree" = some (.ref fC))
    (GW : FnOk P w K mg base CX0 4 fW fdW ["tree", "path"] (spWalked N m 4)) (kW : PySem.W.keepIn K (.ref fW) = true) (bW : Binds K fdW ["tree", "path"] []) (gW : mg "walked" = some (.ref fW)) :
    FnOk P w K mg base (L2.CX P w) 11 f fd ["tree"] (spTold N m CI countN) := by
  refine F.okX scLevels (fun vs H Q E h => ?_) (fun cdv A outer s H vs Q E hr h => ?_)
  · obtain ⟨x, rfl, _⟩ := h
    rfl
  · obtain ⟨x, rfl, tx, k1, k2⟩ := h
    have hr4 : Room 4 _ := hr.mono (by omega)
    refine ⟨_, pss_cons (ps_expr (pe_callS GC hr rfl gC kC bC (fun σ => passAt (takes_of rfl rfl rfl rfl) σ) (pa_cons (pv 0) pa_nil)))
      (pss_one (ps_ret (pe_op op_add pe_int (pe_callB (cr_max (by rfl)) (by rfl) T3.max (by decide +kernel) (pa_cons
        (pe_lc (own := [("path", 1), ("_", 2)]) (g := gTup K 2 (gCons (gName 1) (gCons (gName 2) gNil))) (tt := tYes) (by rfl) scLevels.nd (pi_list (pe_call GW hr4 rfl gW kW bW .nil pass0 (pa_cons (pv 0) (pa_cons (pe_tup pa_nil) pa_nil)))) (blkOk_by (own := [("path", 1), ("_", 2)]) (N := ["tree", "path", "_"]) (sc := defScope tLevels) (by decide +kernel))
        (fun _ _ _ _ _ => pg_tup rfl (pgs_cons (pg_name (i := 1) scLevels.nd rfl (.inl rfl)) (pgs_cons (pg_name (i := 2) scLevels.nd rfl (.inl rfl)) pgs_nil))) (fun _ _ _ _ _ => pts_nil) (fun _ _ _ _ _ => pe_callB (len_at (K := K) rfl) (by rfl) T.len PySem.boot_len (pa_cons (pv 1) pa_nil))) pa_nil))))), ?_⟩
    refine ⟨_, rfl, x, rfl, tx, fun c H1 s1 => k1 c H1 s1, fun c H1 s1 => ?_⟩
    have c1 : treeB H 4 x = true := c
    refine ⟨_, rfl, (by show 0 ≤ sizeLine; decide), fun pb npb => ?_⟩
    have s2 := s1.trans (grow (o := .tup []) npb)
    have e2 : (upd H1 pb (.tup [])) pb = some (.tup []) := upd_same
    revert s2 e2
    generalize upd H1 pb (.tup []) = H2
    intro s2 e2
    refine ⟨x, pb, [], rfl, tx.same s2, by rw [treeB_kp (.of s2) tx]; exact c1, by omega, e2, by decide, fun R H3 rows s3 eR rz => ?_⟩
    rw [walkL_kp (.of s2) tx] at rz
    have rz : Rows H3 rows (walkL H 4 x 0) := rz
    have s03 := s2.trans s3
    refine ⟨R, rfl, ⟨_, SqL.of eR⟩, fun D hD => lc_list (xs := rows) (fun i H' => Acc H3 D ((((walkL H 4 x 0).take i).map fun p => (p.1 : Int)).map V.int) H') (Acc.start hD) (fun i H' _ a => SqL.of (a.1 _ _ eR)) ?_ ?_⟩
    · intro i y H4 hy a4
      obtain ⟨t, b, ps, v, rfl, et, eb, el⟩ := (rz.kp (.of a4.1)).at hy
      refine ⟨t, _, rfl, SqT.of et, rfl, _, _, rfl, _, _, rfl, rfl, ?_⟩
      refine ⟨rfl, _, rfl, b, ps, rfl, .inr (SqT.of eb), _, a4.2.2, ?_, ?_⟩
      · have l1 := rz.len
        have l2 := walk_len (l := 0) c1
        obtain ⟨hi, _⟩ := List.getElem?_eq_some_iff.mp hy
        rw [List.length_map, List.length_map, List.length_take]
        have : (1000 : Nat) ≤ sizeLine := by decide
        have f3 : (4 ^ 4 : Nat) = 256 := by decide
        omega
      · rw [take_step (fun p : Nat × V => (p.1 : Int)) el, List.map_append]
        exact a4.put
    · intro H4 a4
      have z : (walkL H 4 x 0).take rows.length = walkL H 4 x 0 := List.take_of_length_le (by rw [rz.len]; exact Nat.le_refl _)
      rw [z] at a4
      refine ⟨D, _, rfl, SqL.of a4.2.2, ?_, fun mx h1 h2 => ?_⟩
      · rw [List.length_map]
        simp [walkL]
      · obtain ⟨m1, ⟨p, hp, ep⟩, m3⟩ := walk_max (l := 0) c1
        have em : mx = ((countN H 4 x - 1 : Nat) : Int) := by
          obtain ⟨p2, hp2, e2⟩ := List.mem_map.mp h1
          have a1 := m3 p2 hp2
          have a2 := h2 _ (List.mem_map.mpr ⟨p, hp, rfl⟩)
          omega
        have kk := k2 c H4 (s03.trans a4.1)
        refine ⟨_, _, rfl, rfl, ?_⟩
        rw [em]
        have z5 : (1 : Int) + ((countN H 4 x - 1 : Nat) : Int) = ((countN H 4 x : Nat) : Int) := by omega
        show Q (V.int (1 + ((countN H 4 x - 1 : Nat) : Int))) H4
        rw [z5]
        exact kk
/-! ### nodes -/
theorem scNodes : FnScope ["tree", "path", "node"] ["tree"] (defScope tNodes) := ⟨rfl, rfl, rfl, by decide +kernel, rfl, by decide +kernel, by decide +kernel⟩
theorem ok_nodes {N m : Nat} {CI f fC fW : Addr} {fd fdC fdW : FuncData} (F : Fun K "nodes" "nodes" tNodes f fd) (T3 : Txt3 mg) (T : Txt mg)
    (GC : FnOk P w K mg base (L2.CX P w) 10 fC fdC ["value"] (spCheck N m CI)) (kC : PySem.W.keepIn K (.ref fC) = true) (bC : Binds K fdC ["value"] []) (gC : mg "check_tree" = some (.ref fC))
    (GW : FnOk P w K mg base CX0 4 fW fdW ["tree", "path"] (spWalked N m 4)) (kW : PySem.W.keepIn K (.ref fW) = true) (bW : Binds K fdW ["tree", "path"] []) (gW : mg "walked" = some (.ref fW)) :
    FnOk P w K mg base (L2.CX P w) 11 f fd ["tree"] (spTold N m CI workN) := by
  refine F.okX scNodes (fun vs H Q E h => ?_) (fun cdv A outer s H vs Q E hr h => ?_)
  · obtain ⟨x, rfl, _⟩ := h
    rfl
  · obtain ⟨x, rfl, tx, k1, k2⟩ := h
    have hr4 : Room 4 _ := hr.mono (by omega)
    have hu := Nat.lt_of_succ_lt (hu_of hr)
    refine ⟨_, pss_cons (ps_expr (pe_callS GC hr rfl gC kC bC (fun σ => passAt (takes_of rfl rfl rfl rfl) σ) (pa_cons (pv 0) pa_nil)))
      (pss_one (ps_ret (pe_callB call_len_seq (by rfl) T.len PySem.boot_len (pa_cons
        (pe_lc (own := [("path", 1), ("node", 2)]) (g := gTup K 2 (gCons (gName 1) (gCons (gName 2) gNil))) (tt := tTest (tOp rNeX (tOp (rIxT K) (tVar 2) (tC (.int 0))) (tC (.str "at")))) (by rfl) scNodes.nd (pi_list (pe_call GW hr4 rfl gW kW bW .nil pass0 (pa_cons (pv 0) (pa_cons (pe_tup pa_nil) pa_nil)))) (blkOk_by (own := [("path", 1), ("node", 2)]) (N := ["tree", "path", "node"]) (sc := defScope tNodes) (by decide +kernel))
        (fun _ _ _ _ _ => pg_tup rfl (pgs_cons (pg_name (i := 1) scNodes.nd rfl (.inl rfl)) (pgs_cons (pg_name (i := 2) scNodes.nd rfl (.inl rfl)) pgs_nil))) (fun _ _ _ _ _ => pts_one (pt_cmpR (op_neX hu) (pe_ix (ix_at (K := K) rfl) (pv 2) pe_int (fun _ _ => rfl)) pe_str (nomark _))) (fun _ _ _ _ _ => pv 1)) pa_nil)))), ?_⟩
    refine ⟨_, rfl, x, rfl, tx, fun c H1 s1 => k1 c H1 s1, fun c H1 s1 => ?_⟩
    have c1 : treeB H 4 x = true := c
    refine ⟨_, rfl, (by show 0 ≤ sizeLine; decide), fun pb npb => ?_⟩
    have s2 := s1.trans (grow (o := .tup []) npb)
    have e2 : (upd H1 pb (.tup [])) pb = some (.tup []) := upd_same
    revert s2 e2
    generalize upd H1 pb (.tup []) = H2
    intro s2 e2
    refine ⟨x, pb, [], rfl, tx.same s2, by rw [treeB_kp (.of s2) tx]; exact c1, by omega, e2, by decide, fun R H3 rows s3 eR rz => ?_⟩
    rw [walkL_kp (.of s2) tx] at rz
    have rz : Rows H3 rows (walkL H 4 x 0) := rz
    have s03 := s2.trans s3
    refine ⟨R, rfl, ⟨_, SqL.of eR⟩, fun D hD => lc_list (xs := rows) (fun i H' => ∃ ys, Acc H3 D ys H' ∧ ys.length = (((walkL H 4 x 0).take i).filter fun p => !headAt H p.2).length) ⟨[], Acc.start hD, rfl⟩ (fun i H' _ ⟨_, a, _⟩ => SqL.of (a.1 _ _ eR)) ?_ ?_⟩
    · rintro i y H4 hy ⟨ys, a4, ly⟩
      obtain ⟨t, b, ps, v, rfl, et, eb, el⟩ := (rz.kp (.of a4.1)).at hy
      obtain ⟨tv, q, tq⟩ := walk_nodes (l := 0) c1 tx _ (List.mem_of_getElem? el)
      obtain ⟨va, vh, vn, vr, rfl, ev, hA, _, _⟩ := tree_open tq
      have s04 := s03.trans a4.1
      refine ⟨t, _, rfl, SqT.of et, rfl, _, _, rfl, _, _, rfl, rfl, ?_⟩
      have th : AsText H4 vh (strOf vh) := by
        have tv4 := tv.same s04
        cases tv4 with
        | tup e' _ hx =>
          rw [s04 _ _ ev] at e'
          cases e'
          exact (hx vh (by simp)).text
        | lst e' =>
          rw [s04 _ _ ev] at e'
          cases e'
        | dct e' =>
          rw [s04 _ _ ev] at e'
          cases e'
      refine ⟨rfl, _, rfl, va, _, 0, vh, rfl, rfl, SqT.of (s04 _ _ ev), atI_nat (j := 0) rfl, strOf vh, _, rfl, th, _, rfl, ?_⟩
      have st := filter_step (fun p : Nat × V => !headAt H p.2) el
      have hb : headAt H (V.ref va) = decide (strOf vh = some ("at" : Str)) := hA
      have hb2 : (!headAt H ((ps.length, V.ref va) : Nat × V).2) = !decide (strOf vh = some ("at" : Str)) := by rw [← hb]
      rw [hb2] at st
      cases cA : decide (strOf vh = some ("at" : Str)) with
      | true =>
        rw [cA, if_neg (by decide), List.append_nil] at st
        refine iteF ⟨ys, a4, ?_⟩
        rw [ly, st]
      | false =>
        rw [cA, if_pos (by decide)] at st
        refine iteT ⟨_, rfl, ys, a4.2.2, ?_, _, a4.put, ?_⟩
        · have l2 := walk_len (l := 0) c1
          have l3 := List.length_filter_le (fun p : Nat × V => !headAt H p.2) ((walkL H 4 x 0).take i)
          have l4 := List.length_take_le i (walkL H 4 x 0)
          have l5 : ((walkL H 4 x 0).take i).length ≤ (walkL H 4 x 0).length := by
            rw [List.length_take]
            omega
          have : (1000 : Nat) ≤ sizeLine := by decide
          have f3 : (4 ^ 4 : Nat) = 256 := by decide
          omega
        · rw [st, List.length_append, List.length_append, ly]
          rfl
    · rintro H4 ⟨ys, a4, ly⟩
      have z : (walkL H 4 x 0).take rows.length = walkL H 4 x 0 := List.take_of_length_le (by rw [rz.len]; exact Nat.le_refl _)
      rw [z, walk_work c1] at ly
      have kk := k2 c H4 (s03.trans a4.1)
      rw [← ly] at kk
      exact ⟨D, ys, rfl, .inl (SqL.of a4.2.2), kk⟩
end
end K1
namespace K1
open PySem L2
open L2.My
section
open PySem.Spec PyProof.Rows
variable {X : Cx}
/-- xs != [] -/
def rNeNil : R2 := fun x y H Q => ∃ a b xs, x = .ref a ∧ y = .ref b ∧ H a = some (.lst xs) ∧ H b = some (.lst []) ∧ Q (.bl (!xs.isEmpty)) H
theorem op_neNil (hu : X.A.units < cLine) : OpR X (compareOp .NotEq) rNeNil := by
  intro pins s σ H x y v u Q I rx ry h
  obtain ⟨a, b, xs, rfl, rfl, ea, eb, q⟩ := h
  cases rx
  cases ry
  obtain ⟨_, its, n, r1, h1⟩ := (show ObjOk X.prog X.w H s.heap a (.lst xs) from I.hok a _ ea)
  obtain ⟨_, its2, n2, r2, h2⟩ := (show ObjOk X.prog X.w H s.heap b (.lst []) from I.hok b _ eb)
  cases r2
  have la : s.heap.IsList a its.toArray := ⟨_, h1, rfl, n, rfl⟩
  have lb : s.heap.IsList b #[] := ⟨_, h2, rfl, n2, rfl⟩
  cases r1 with
  | nil => exact SeqAt.RcNeAt.lists (e := fun _ => true) la lb rfl hu (fun j h1 _ => absurd h1 (by simp)) _ _ _ _ ⟨.bl false, H, I, rfl, q⟩
  | cons r t => exact SeqAt.RcNeAt.lists_lengths la lb (by simp) hu _ _ _ _ ⟨.bl true, H, I, rfl, q⟩
end
/-- the loom at p: three ints -/
def Loom (H : Hp) (p : Addr) : Prop := ∃ a b c : Int, H p = some (.lst [.int a, .int b, .int c]) ∧ 0 ≤ a ∧ 0 ≤ b ∧ b < 2305843009213693669
theorem Loom.isL {H : Hp} {p : Addr} (l : Loom H p) : IsL H p := by
  obtain ⟨a, b, c, e, _⟩ := l
  exact ⟨_, e⟩
theorem Loom.kp {H H' : Hp} {p : Addr} (l : Loom H p) (l' : Loom H' p) (s : But p H H') : Kp H H' := s.kp l.isL l'.isL
theorem Loom.same {H H' : Hp} {p : Addr} (l : Loom H p) (s : Same H H') : Loom H' p := by
  obtain ⟨a, b, c, e, r⟩ := l
  exact ⟨a, b, c, s _ _ e, r⟩
theorem upd_but {H : Hp} {p : Addr} {o : HO} : But p H (upd H p o) := fun q hq _ e => by rw [upd_ne hq]; exact e
structure Bl (mg : Str → Option Value) : Prop where
  int : mg "int" = none
  abs : mg "abs" = none
  max : mg "max" = none
  range : mg "range" = none
  len : mg "len" = none
  tuple : mg "tuple" = none
  list : mg "list" = none
  isi : mg "isinstance" = none
theorem pow600 : CPowW ((10 : Int) ^ (60 : Int).toNat) 10 := ⟨by decide, by decide +kernel⟩
theorem pos600 : (0 : Int) < ((10 : Int) ^ (60 : Int).toNat) ^ (10 : Int).toNat := by decide +kernel
section
variable {P : Program} {w : World} {K : PySem.W.Frag} {mg : Str → Option Value} {base : Heap}
def spLoom (K : PySem.W.Frag) : Sp := fun vs H Q _ => ∃ (a : Addr) (ns : List Int) (i : Nat), vs = [.ref a, .int i] ∧ SqL K H a (ns.map V.int) ∧ i < 100 ∧ ∀ p H', H p = none → Same H H' → Loom H' p → Q (.ref p) H'
theorem scLoom : FnScope ["_law_script", "_law_spot", "_law_cell", "_law_great", "_law_blend"] ["_law_script", "_law_spot"] (defScope tLoom) := ⟨rfl, rfl, rfl, by decide +kernel, rfl, by decide +kernel, by decide +kernel⟩
theorem ok_loom {f : Addr} {fd : FuncData} (F : Fun K "_law_loom" "_law_loom" tLoom f fd) (T : Bl mg) : FnOk P w K mg base CX0 1 f fd ["_law_script", "_law_spot"] (spLoom K) := by
  refine F.ok scLoom (fun vs H Q E h => ?_) (fun cdv A outer s H vs Q E hr h => ?_)
  · obtain ⟨a, ns, i, rfl, _⟩ := h
    rfl
  · obtain ⟨a, ns, i, rfl, hS, hi, k⟩ := h
    refine ⟨_, pss_cons (ps_set (i := 2) scLoom.nd rfl (.inl rfl) (pe_ifExp (pt_cmpR op_lt (pv 1) (pe_callB call_len_seq (by rfl) T.len PySem.boot_len (pa_cons (pv 0) pa_nil)) (nomark _)) (pe_ix ix_list (pv 0) (pv 1) (fun _ _ => rfl)) (pe_op op_add (pe_op op_mul pe_int (pv 1)) pe_int)))
      (pss_cons (ps_set (i := 3) scLoom.nd rfl (.inl rfl) (pe_op op_mod (pe_callTy call_int1 (by rfl) T.int (by decide +kernel) (pa_cons (pe_callB call_abs (by rfl) T.abs (by decide +kernel) (pa_cons (pv 2) pa_nil)) pa_nil)) (pe_op op_powW (pe_op op_pow pe_int pe_int) pe_int)))
      (pss_cons (ps_set (i := 4) scLoom.nd rfl (.inl rfl) (pe_op op_add (pe_op op_add (pe_op op_add (pe_op op_mul (pv 3) pe_int) (pe_op op_mul pe_int (pv 1))) (pe_op op_mul pe_int (pe_callTy call_int1 (by rfl) T.int (by decide +kernel) (pa_cons (pe_cmpR op_lt (pv 2) pe_int (nomark _)) pa_nil)))) pe_int))
      (pss_one (ps_ret (pe_lst (pa_cons (pe_callB (call_max2 rfl) (by rfl) T.max (by decide +kernel) (pa_cons pe_int (pa_cons (pe_op op_sub (pv 3) (pe_op op_pow pe_int pe_int)) pa_nil)))
        (pa_cons (pe_op op_mod (pe_callTy call_int1 (by rfl) T.int (by decide +kernel) (pa_cons (pv 4) pa_nil)) pe_int) (pa_cons pe_int pa_nil)))))))), ?_⟩
    refine ⟨_, rfl, _, rfl, a, _, rfl, .inl hS, _, _, rfl, rfl, _, rfl, ?_⟩
    refine ite2 (fun c => ?_) (fun c => ?_)
    · obtain ⟨cell, hcell⟩ : ∃ cell : Int, (ns.map V.int)[i]? = some (.int cell) := by
        have c2 := of_decide_eq_true c
        rw [List.length_map] at c2
        have c3 : i < ns.length := by omega
        exact ⟨ns[i], by simp [c3]⟩
      refine ⟨_, rfl, _, rfl, a, _, i, _, rfl, rfl, hS, atI_nat (j := i) hcell, ?_⟩
      refine ⟨_, rfl, _, rfl, .inl ⟨_, rfl, _, _, rfl, rfl, ⟨by decide, by decide, by decide⟩, _, _, rfl, rfl, pow600, _, _, rfl, rfl, pos600, ?_⟩⟩
      revert k
      generalize (if cell < 0 then -cell else cell) % ((10 : Int) ^ (60 : Int).toNat) ^ (10 : Int).toNat = great
      intro k
      refine ⟨_, rfl, _, _, rfl, rfl, .inr ⟨by decide, by decide⟩, _, rfl, _, _, rfl, rfl, .inl ⟨by decide, by decide⟩, _, _, rfl, rfl, ?_⟩
      refine ⟨_, rfl, _, _, rfl, rfl, .inr ⟨_, rfl, _, _, rfl, rfl, .inl ⟨by decide, by decide⟩, _, _, rfl, rfl, _, _, rfl, rfl, ?_⟩⟩
      refine ⟨_, rfl, _, _, rfl, rfl, ⟨by decide, by decide, by decide⟩, _, _, rfl, rfl, _, _, rfl, ?_⟩
      refine ⟨_, rfl, .inl ⟨_, rfl, _, _, rfl, rfl, (by show (0 : Int) < 2305843009213693669; decide), ?_⟩⟩
      refine ⟨(by show 3 ≤ sizeLine; decide), fun p hp => k p _ hp (grow hp) ⟨_, _, _, upd_same, ?_, ?_, ?_⟩⟩
      · split <;> omega
      · exact Int.emod_nonneg _ (by decide)
      · exact Int.emod_lt_of_pos _ (by decide)
    · refine ⟨_, rfl, _, _, rfl, rfl, .inl ⟨by decide, by decide⟩, _, _, rfl, rfl, ?_⟩
      generalize (71 * (i : Int) + 29 : Int) = cell
      refine ⟨_, rfl, _, rfl, .inl ⟨_, rfl, _, _, rfl, rfl, ⟨by decide, by decide, by decide⟩, _, _, rfl, rfl, pow600, _, _, rfl, rfl, pos600, ?_⟩⟩
      revert k
      generalize (if cell < 0 then -cell else cell) % ((10 : Int) ^ (60 : Int).toNat) ^ (10 : Int).toNat = great
      intro k
      refine ⟨_, rfl, _, _, rfl, rfl, .inr ⟨by decide, by decide⟩, _, rfl, _, _, rfl, rfl, .inl ⟨by decide, by decide⟩, _, _, rfl, rfl, ?_⟩
      refine ⟨_, rfl, _, _, rfl, rfl, .inr ⟨_, rfl, _, _, rfl, rfl, .inl ⟨by decide, by decide⟩, _, _, rfl, rfl, _, _, rfl, rfl, ?_⟩⟩
      refine ⟨_, rfl, _, _, rfl, rfl, ⟨by decide, by decide, by decide⟩, _, _, rfl, rfl, _, _, rfl, ?_⟩
      refine ⟨_, rfl, .inl ⟨_, rfl, _, _, rfl, rfl, (by show (0 : Int) < 2305843009213693669; decide), ?_⟩⟩
      refine ⟨(by show 3 ≤ sizeLine; decide), fun p hp => k p _ hp (grow hp) ⟨_, _, _, upd_same, ?_, ?_, ?_⟩⟩
      · split <;> omega
      · exact Int.emod_nonneg _ (by decide)
      · exact Int.emod_lt_of_pos _ (by decide)
/-! ### _law_turn -/
def spTurn : Sp := fun vs H Q _ => ∃ (p : Addr) (m : Int), vs = [.ref p, .int m] ∧ 0 < m ∧ m < 1073741824 ∧ Loom H p ∧ ∀ r H', 0 ≤ r → r < m → Loom H' p → But p H H' → Q (.int r) H'
theorem scTurn : FnScope ["_law_loom_here", "_law_total", "_law_found", "_law_one", "_law_two"] ["_law_loom_here", "_law_total"] (defScope tTurn) := ⟨rfl, rfl, rfl, by decide +kernel, rfl, by decide +kernel, by decide +kernel⟩
theorem ok_turn {f : Addr} {fd : FuncData} (F : Fun K "_law_turn" "_law_turn" tTurn f fd) (T : Bl mg) : FnOk P w K mg base CX0 1 f fd ["_law_loom_here", "_law_total"] spTurn := by
  refine F.ok scTurn (fun vs H Q E h => ?_) (fun cdv A outer s H vs Q E hr h => ?_)
  · obtain ⟨p, m, rfl, _⟩ := h
    rfl
  · obtain ⟨p, m, rfl, m0, m1, ⟨a, b, c, e, a0, b0, b1⟩, k⟩ := h
    have m2 : m ≠ 0 := by omega
    refine ⟨_, pss_cons (ps_if (pt_cmpR op_gt (pe_ix ix_list (pv 0) pe_int (fun _ _ => rfl)) pe_int (nomark _))
        (pss_cons (ps_set (i := 2) scTurn.nd rfl (.inl rfl) (pe_op op_modN (pe_callTy call_int1 (by rfl) T.int (by decide +kernel) (pa_cons (pe_ix ix_list (pv 0) pe_int (fun _ _ => rfl)) pa_nil)) (pv 1)))
        (pss_cons (ps_asg (pe_op op_fdivN (pe_ix ix_list (pv 0) pe_int (fun _ _ => rfl)) (pv 1)) (pg_sub (pv 0) pe_int set_list))
        (pss_one (ps_ret (pv 2))))) pss_nil)
      (pss_cons (ps_asg (pe_op op_add (pe_ix ix_list (pv 0) pe_int (fun _ _ => rfl)) pe_int) (pg_sub (pv 0) pe_int set_list))
      (pss_cons (ps_set (i := 3) scTurn.nd rfl (.inl rfl) (pe_op op_mod (pe_callTy call_int1 (by rfl) T.int (by decide +kernel) (pa_cons (pe_op op_add (pe_op op_mul (pe_ix ix_list (pv 0) pe_int (fun _ _ => rfl)) pe_int) (pe_op op_mul (pe_ix ix_list (pv 0) pe_int (fun _ _ => rfl)) pe_int)) pa_nil)) pe_int))
      (pss_cons (ps_set (i := 4) scTurn.nd rfl (.inl rfl) (pe_op op_add (pe_op op_mul (pe_op op_mod (pe_callTy call_int1 (by rfl) T.int (by decide +kernel) (pa_cons (pe_op op_mul (pv 3) (pv 3)) pa_nil)) pe_int) (pv 3)) (pe_op op_mul pe_int (pe_ix ix_list (pv 0) pe_int (fun _ _ => rfl)))))
      (pss_one (ps_ret (pe_op op_modN (pe_callTy call_int1 (by rfl) T.int (by decide +kernel) (pa_cons (pe_op op_fdiv (pe_op op_mod (pe_callTy call_int1 (by rfl) T.int (by decide +kernel) (pa_cons (pe_op op_add (pv 4) (pe_ix ix_list (pv 0) pe_int (fun _ _ => rfl))) pa_nil)) pe_int) pe_int) pa_nil)) (pv 1))))))), ?_⟩
    refine ⟨_, rfl, p, _, 0, _, rfl, rfl, SqL.of e, atI_nat (j := 0) rfl, _, _, rfl, rfl, _, rfl, ite2 (fun c0 => ?_) (fun c0 => ?_)⟩
    · refine ⟨_, rfl, p, _, 0, _, rfl, rfl, SqL.of e, atI_nat (j := 0) rfl, .inl ⟨_, rfl, _, rfl, _, _, rfl, rfl, m2, ?_⟩⟩
      refine ⟨_, rfl, p, _, 0, _, rfl, rfl, SqL.of e, atI_nat (j := 0) rfl, _, rfl, _, _, rfl, rfl, ⟨m2, by omega⟩, _, rfl, p, _, _, 0, rfl, rfl, e, rfl, ?_⟩
      refine ⟨_, rfl, k _ _ (Int.fmod_nonneg_of_pos _ m0) (Int.fmod_lt_of_pos _ m0) ⟨_, b, c, upd_same, Int.fdiv_nonneg a0 (by omega), b0, b1⟩ upd_but⟩
    · refine ⟨_, rfl, p, _, 2, _, rfl, rfl, SqL.of e, atI_nat (j := 2) rfl, _, _, rfl, rfl, _, rfl, p, _, _, 2, rfl, rfl, e, rfl, ?_⟩
      have e2 : (upd H p (.lst [.int a, .int b, .int (c + 1)])) p = some (.lst [.int a, .int b, .int (c + 1)]) := upd_same
      refine ⟨_, rfl, p, _, 1, _, rfl, rfl, SqL.of e2, atI_nat (j := 1) rfl, _, _, rfl, rfl, .inr ⟨by decide, by decide⟩, ?_⟩
      refine ⟨_, rfl, p, _, 2, _, rfl, rfl, SqL.of e2, atI_nat (j := 2) rfl, _, _, rfl, rfl, .inr ⟨by decide, by decide⟩, _, _, rfl, rfl, .inl ⟨_, rfl, _, _, rfl, rfl, (by show (0 : Int) < 2305843009213693951; decide), ?_⟩⟩
      have x0 : 0 ≤ (b * 22695477 + (c + 1) * 1597334677) % 2305843009213693951 := Int.emod_nonneg _ (by decide)
      have x1 : (b * 22695477 + (c + 1) * 1597334677) % 2305843009213693951 < 2305843009213693951 := Int.emod_lt_of_pos _ (by decide)
      refine ⟨_, rfl, _, rfl, _, _, rfl, rfl, .inl ⟨by omega, by omega⟩, .inl ⟨_, rfl, _, _, rfl, rfl, (by show (0 : Int) < 1152921504606846577; decide), _, rfl, _, _, rfl, rfl, .inr ⟨by omega, by omega⟩, ?_⟩⟩
      refine ⟨_, rfl, p, _, 2, _, rfl, rfl, SqL.of e2, atI_nat (j := 2) rfl, _, _, rfl, rfl, .inl ⟨by decide, by decide⟩, _, _, rfl, rfl, ?_⟩
      refine ⟨_, rfl, _, rfl, p, _, 1, _, rfl, rfl, SqL.of e2, atI_nat (j := 1) rfl, _, _, rfl, rfl, .inl ⟨_, rfl, _, _, rfl, rfl, (by show (0 : Int) < 4398046511119; decide), _, _, rfl, rfl, ⟨by decide, by decide⟩, .inl ⟨_, rfl, _, rfl, _, _, rfl, rfl, m2, ?_⟩⟩⟩
      exact k _ _ (Int.fmod_nonneg_of_pos _ m0) (Int.fmod_lt_of_pos _ m0) ⟨a, b, _, e2, a0, b0, b1⟩ upd_but
/-! ### _law_pick -/
def spPick : Sp := fun vs H Q _ => ∃ (p a : Addr) (xs : List V), vs = [.ref p, .ref a] ∧ H a = some (.lst xs) ∧ xs ≠ [] ∧ xs.length ≤ 1000 ∧ a ≠ p ∧ Loom H p ∧ ∀ x ∈ xs, ∀ H', Loom H' p → But p H H' → Q x H'
theorem scPick : FnScope ["_law_loom_here", "_law_items"] ["_law_loom_here", "_law_items"] (defScope tPick) := ⟨rfl, rfl, rfl, by decide +kernel, rfl, by decide +kernel, by decide +kernel⟩
theorem ok_pick {f fT : Addr} {fd fdT : FuncData} (F : Fun K "_law_pick" "_law_pick" tPick f fd) (T : Bl mg) (GT : FnOk P w K mg base CX0 1 fT fdT ["_law_loom_here", "_law_total"] spTurn) (kT : PySem.W.keepIn K (.ref fT) = true) (bT : Binds K fdT ["_law_loom_here", "_law_total"] []) (gT : mg "_law_turn" = some (.ref fT)) :
    FnOk P w K mg base CX0 2 f fd ["_law_loom_here", "_law_items"] spPick := by
  refine F.ok scPick (fun vs H Q E h => ?_) (fun cdv A outer s H vs Q E hr h => ?_)
  · obtain ⟨p, a, xs, rfl, _⟩ := h
    rfl
  · obtain ⟨p, a, xs, rfl, e, ne, l, hp, lo, k⟩ := h
    refine ⟨_, pss_one (ps_ret (pe_ix ix_list (pv 1) (pe_call GT hr rfl gT kT bT .nil pass0 (pa_cons (pv 0) (pa_cons (pe_callB call_len_seq (by rfl) T.len PySem.boot_len (pa_cons (pv 1) pa_nil)) pa_nil))) (fun _ _ => rfl))), ?_⟩
    have l0 : 0 < xs.length := List.length_pos_iff.mpr ne
    refine ⟨_, rfl, _, rfl, _, rfl, a, xs, rfl, .inl (SqL.of e), p, (xs.length : Int), rfl, by omega, by omega, lo, fun r H1 r0 r1 lo1 u1 => ?_⟩
    have e1 := u1 a hp _ e
    obtain ⟨j, rfl⟩ := Int.eq_ofNat_of_zero_le r0
    have hj : j < xs.length := by omega
    exact ⟨a, xs, j, xs[j], rfl, rfl, SqL.of e1, atI_nat (j := j) (List.getElem?_eq_getElem hj), k _ (List.getElem_mem hj) H1 lo1 u1⟩
end
end K1
namespace K1
open PySem L2
open L2.My
theorem Loom.ne {H : Hp} {p a : Addr} (l : Loom H p) (n : H a = none) : a ≠ p := by
  obtain ⟨x, y, z, e, _⟩ := l
  exact (ne_of_none e n).symm
def Small (x : V) : Prop := ∃ i : Int, x = .int i ∧ i.natAbs < 10 ^ 40
section
variable {P : Program} {w : World} {K : PySem.W.Frag} {mg : Str → Option Value} {base : Heap}
/-- a pick of a new list -/
theorem pick_new {H : Hp} {p l : Addr} {xs : List V} {Q : VK} (nl : H l = none) (lo : Loom H p) (ne : xs ≠ []) (le : xs.length ≤ 1000) (k : ∀ x ∈ xs, ∀ H', Loom H' p → But p H H' → Q x H') : spPick [.ref p, .ref l] (upd H l (.lst xs)) Q E0 :=
  ⟨p, l, xs, rfl, upd_same, ne, le, lo.ne nl, lo.same (grow nl), fun x hx H' lo' u => k x hx H' lo' ((But.of (grow nl)).trans u)⟩
def spPlace : Sp := fun vs H Q _ => ∃ p : Addr, vs = [.ref p] ∧ Loom H p ∧ ∀ t x y H', H' t = some (.tup [x, y]) → Small x → Small y → Loom H' p → But p H H' → Q (.ref t) H'
theorem scPlace : FnScope ["_law_loom_here"] ["_law_loom_here"] (defScope tPlace) := ⟨rfl, rfl, rfl, by decide +kernel, rfl, by decide +kernel, by decide +kernel⟩
theorem ok_place {f fT fP : Addr} {fd fdT fdP : FuncData} (F : Fun K "_law_place" "_law_place" tPlace f fd) (GT : FnOk P w K mg base CX0 1 fT fdT ["_law_loom_here", "_law_total"] spTurn) (kT : PySem.W.keepIn K (.ref fT) = true) (bT : Binds K fdT ["_law_loom_here", "_law_total"] []) (gT : mg "_law_turn" = some (.ref fT))
    (GP : FnOk P w K mg base CX0 2 fP fdP ["_law_loom_here", "_law_items"] spPick) (kP : PySem.W.keepIn K (.ref fP) = true) (bP : Binds K fdP ["_law_loom_here", "_law_items"] []) (gP : mg "_law_pick" = some (.ref fP)) :
    FnOk P w K mg base CX0 3 f fd ["_law_loom_here"] spPlace := by
  refine F.ok scPlace (fun vs H Q E h => ?_) (fun cdv A outer s H vs Q E hr h => ?_)
  · obtain ⟨p, rfl, _⟩ := h
    rfl
  · obtain ⟨p, rfl, lo, k⟩ := h
    have hr1 : Room 1 _ := hr.mono (by omega)
    refine ⟨_, pss_cons (ps_if (pt_cmpR op_eq (pe_call GT hr1 rfl gT kT bT .nil pass0 (pa_cons (pv 0) (pa_cons pe_int pa_nil))) pe_int (nomark _))
        (pss_one (ps_ret (pe_tup (pa_cons (pe_call GP hr rfl gP kP bP .nil pass0 (pa_cons (pv 0) (pa_cons (pe_lst (pa_cons pe_int (pa_cons (pe_un un_neg pe_int) (pa_cons pe_int (pa_cons (pe_op op_pow pe_int pe_int) pa_nil))))) pa_nil)))
          (pa_cons (pe_call GP hr rfl gP kP bP .nil pass0 (pa_cons (pv 0) (pa_cons (pe_lst (pa_cons (pe_op op_pow pe_int pe_int) (pa_cons (pe_un un_neg (pe_op op_pow pe_int pe_int)) (pa_cons (pe_op op_add (pe_op op_pow pe_int pe_int) pe_int) pa_nil)))) pa_nil))) pa_nil))))) pss_nil)
      (pss_one (ps_ret (pe_tup (pa_cons (pe_call GP hr rfl gP kP bP .nil pass0 (pa_cons (pv 0) (pa_cons (pe_lst (pa_cons pe_int (pa_cons pe_int (pa_cons pe_int (pa_cons pe_int (pa_cons pe_int (pa_cons (pe_un un_neg pe_int) (pa_cons pe_int pa_nil)))))))) pa_nil)))
        (pa_cons (pe_op op_sub (pe_call GT hr1 rfl gT kT bT .nil pass0 (pa_cons (pv 0) (pa_cons pe_int pa_nil))) pe_int) pa_nil))))), ?_⟩
    have lp : ∀ n : Nat, n ≤ 10 → n ≤ sizeLine := fun n h => Nat.le_trans h (by decide)
    refine ⟨_, rfl, p, 12, rfl, by decide, by decide, lo, fun r H1 r0 r1 lo1 u1 => ?_⟩
    refine ⟨rfl, _, rfl, ite2 (fun _ => ?_) (fun _ => ?_)⟩
    · refine ⟨_, rfl, _, rfl, _, _, rfl, rfl, ⟨by decide, by decide, by decide⟩, lp 4 (by decide), fun l nl => ?_⟩
      refine pick_new nl lo1 (by simp) (by simp) fun x hx H2 lo2 u2 => ?_
      refine ⟨_, rfl, _, _, rfl, rfl, ⟨by decide, by decide, by decide⟩, _, _, rfl, rfl, ⟨by decide, by decide, by decide⟩, _, rfl, _, _, rfl, rfl, ⟨by decide, by decide, by decide⟩, _, _, rfl, rfl, lp 3 (by decide), fun l2 nl2 => ?_⟩
      refine pick_new nl2 lo2 (by simp) (by simp) fun y hy H3 lo3 u3 => ?_
      refine ⟨lp 2 (by decide), fun t nt => k t x y _ upd_same ?_ ?_ (lo3.same (grow nt)) (((u1.trans u2).trans u3).trans (.of (grow nt)))⟩
      · simp only [List.mem_cons, List.not_mem_nil, or_false] at hx
        rcases hx with rfl | rfl | rfl | rfl <;> exact ⟨_, rfl, by decide +kernel⟩
      · simp only [List.mem_cons, List.not_mem_nil, or_false] at hy
        rcases hy with rfl | rfl | rfl <;> exact ⟨_, rfl, by decide +kernel⟩
    · refine ⟨_, rfl, _, rfl, lp 7 (by decide), fun l nl => ?_⟩
      refine pick_new nl lo1 (by simp) (by simp) fun x hx H2 lo2 u2 => ?_
      refine ⟨_, rfl, p, 9, rfl, by decide, by decide, lo2, fun r2 H3 r3 r4 lo3 u3 => ?_⟩
      refine ⟨_, _, rfl, rfl, lp 2 (by decide), fun t nt => k t x _ _ upd_same ?_ ⟨_, rfl, ?_⟩ (lo3.same (grow nt)) (((u1.trans u2).trans u3).trans (.of (grow nt)))⟩
      · simp only [List.mem_cons, List.not_mem_nil, or_false] at hx
        rcases hx with rfl | rfl | rfl | rfl | rfl | rfl | rfl <;> exact ⟨_, rfl, by decide +kernel⟩
      · have e40 : (10 ^ 40 : Nat) = 10000000000000000000000000000000000000000 := by decide
        rw [e40]
        omega
/-! ### _law_leaf -/
structure Ls (H : Hp) (p k s r : Addr) : Prop where
  known : H k = some (.lst [.str "a"])
  sets : H s = some (.lst [.str "a", .str "sum"])
  arrs : H r = some (.lst [.str "x", .str "zzzzzzzz", .str "in"])
  pk : k ≠ p
  ps : s ≠ p
  pr : r ≠ p
theorem Ls.but {H H' : Hp} {p k s r : Addr} (l : Ls H p k s r) (u : But p H H') : Ls H' p k s r := ⟨u _ l.pk _ l.known, u _ l.ps _ l.sets, u _ l.pr _ l.arrs, l.pk, l.ps, l.pr⟩
/-- a tuple that isn't empty -/
def Tp (H : Hp) (n : Nat) (v : V) : Prop := ∃ a xs, v = .ref a ∧ H a = some (.tup xs) ∧ xs ≠ [] ∧ xs.length ≤ 8 ∧ ∀ x ∈ xs, Tv H 8 n x
theorem Tp.tv {H : Hp} {n : Nat} {v : V} (t : Tp H n v) : Tv H 8 (n + 1) v := by
  obtain ⟨a, xs, rfl, e, _, l, h⟩ := t
  exact .tup e l h
theorem Tp.kp {H H' : Hp} {n : Nat} {v : V} (t : Tp H n v) (s : Kp H H') : Tp H' n v := by
  obtain ⟨a, xs, rfl, e, ne, l, h⟩ := t
  exact ⟨a, xs, rfl, s.tup _ _ e, ne, l, fun x hx => (h x hx).kp s⟩
theorem Small.tv {H : Hp} {N n : Nat} {x : V} (h : Small x) : Tv H N n x := by
  obtain ⟨i, rfl, b⟩ := h
  exact .int i b
def spLeaf : Sp := fun vs H Q _ => ∃ p k s r : Addr, vs = [.ref p, .ref k, .ref s, .ref r] ∧ Loom H p ∧ Ls H p k s r ∧ ∀ v H', Tp H' 0 v → Loom H' p → But p H H' → Q v H'
theorem scLeaf : FnScope ["_law_loom_here", "_law_known", "_law_sets", "_law_arrays", "_law_name", "_law_distance", "_law_step", "_law_offset"] ["_law_loom_here", "_law_known", "_law_sets", "_law_arrays"] (defScope tLeaf) := ⟨rfl, rfl, rfl, by decide +kernel, rfl, by decide +kernel, by decide +kernel⟩
theorem ok_leaf {f fT fP fL : Addr} {fd fdT fdP fdL : FuncData} (F : Fun K "_law_leaf" "_law_leaf" tLeaf f fd) (GT : FnOk P w K mg base CX0 1 fT fdT ["_law_loom_here", "_law_total"] spTurn) (kT : PySem.W.keepIn K (.ref fT) = true) (bT : Binds K fdT ["_law_loom_here", "_law_total"] []) (gT : mg "_law_turn" = some (.ref fT))
    (GP : FnOk P w K mg base CX0 2 fP fdP ["_law_loom_here", "_law_items"] spPick) (kP : PySem.W.keepIn K (.ref fP) = true) (bP : Binds K fdP ["_law_loom_here", "_law_items"] []) (gP : mg "_law_pick" = some (.ref fP))
    (GL : FnOk P w K mg base CX0 3 fL fdL ["_law_loom_here"] spPlace) (kL : PySem.W.keepIn K (.ref fL) = true) (bL : Binds K fdL ["_law_loom_here"] []) (gL : mg "_law_place" = some (.ref fL)) :
    FnOk P w K mg base CX0 4 f fd ["_law_loom_here", "_law_known", "_law_sets", "_law_arrays"] spLeaf := by
  refine F.ok scLeaf (fun vs H Q E h => ?_) (fun cdv A outer s H vs Q E hr h => ?_)
  · obtain ⟨p, k, s, r, rfl, _⟩ := h
    rfl
  · obtain ⟨p, kn, st, ar, rfl, lo, ls, k⟩ := h
    have hr1 : Room 1 _ := hr.mono (by omega)
    have hr2 : Room 2 _ := hr.mono (by omega)
    have hu := Nat.lt_of_succ_lt (hu_of hr)
    refine ⟨_, pss_cons (ps_if (PW.pt (pw_and (pt_cmpR (op_neNil hu) (pv 2) (pe_lst pa_nil) (nomark _)) (pw_and1 (pt_cmpR op_eq (pe_call GT hr1 rfl gT kT bT .nil pass0 (pa_cons (pv 0) (pa_cons pe_int pa_nil))) pe_int (nomark _)))))
        (pss_cons (ps_par (i := 4) (j := 5) rfl scLeaf.nd rfl rfl (by decide) rfl rfl (pa_cons (pe_call GP hr2 rfl gP kP bP .nil pass0 (pa_cons (pv 0) (pa_cons (pv 2) pa_nil))) (pa_cons (pe_call GT hr1 rfl gT kT bT .nil pass0 (pa_cons (pv 0) (pa_cons pe_int pa_nil))) pa_nil)) (by rfl))
        (pss_one (ps_ret (pe_tup (pa_cons pe_str (pa_cons (pv 4) (pa_cons (pe_ifExp (PW.pt (pw_or (pt_cmpR op_gt (pv 5) pe_int (nomark _)) (pw_or1 (pt_cmpR op_in_seq (pv 4) (pv 1) (by rfl))))) (pv 5) pe_int) pa_nil))))))) pss_nil)
      (pss_cons (ps_asg (pe_call GL hr rfl gL kL bL .nil pass0 (pa_cons (pv 0) pa_nil)) (pg_tup rfl (pgs_cons (pg_name (i := 6) scLeaf.nd rfl (.inl rfl)) (pgs_cons (pg_name (i := 7) scLeaf.nd rfl (.inl rfl)) pgs_nil))))
      (pss_one (ps_ret (pe_tup (pa_cons pe_str (pa_cons (pe_call GP hr2 rfl gP kP bP .nil pass0 (pa_cons (pv 0) (pa_cons (pv 3) pa_nil))) (pa_cons (pv 6) (pa_cons (pv 7) pa_nil)))))))), ?_⟩
    have lp : ∀ n : Nat, n ≤ 10 → n ≤ sizeLine := fun n h => Nat.le_trans h (by decide)
    refine ⟨_, rfl, lp 0 (by decide), fun l nl => ⟨st, l, _, rfl, rfl, (grow nl) _ _ ls.sets, upd_same, _, rfl, iteT ?_⟩⟩
    have u0 : But p H (upd H l (.lst [])) := .of (grow nl)
    have lo0 := lo.same (grow (o := .lst []) nl)
    revert u0 lo0
    generalize upd H l (.lst []) = H0
    intro u0 lo0
    refine ⟨_, rfl, p, 2, rfl, by decide, by decide, lo0, fun r H1 r0 r1 lo1 u1 => ?_⟩
    have u01 := u0.trans u1
    refine ⟨rfl, _, rfl, ite2 (fun _ => ?_) (fun _ => ?_)⟩
    · refine ⟨_, rfl, _, rfl, p, st, _, rfl, (ls.but u01).sets, by simp, by simp, ls.ps, lo1, fun x hx H2 lo2 u2 => ?_⟩
      refine ⟨_, rfl, p, 4, rfl, by decide, by decide, lo2, fun d H3 d0 d1 lo3 u3 => ?_⟩
      have u03 := (u01.trans u2).trans u3
      have hs : ∃ z : Str, x = .str z ∧ z.length ≤ 100 ∧ flatV x = true := by
        simp only [List.mem_cons, List.not_mem_nil, or_false] at hx
        rcases hx with rfl | rfl <;> exact ⟨_, rfl, by decide +kernel, rfl⟩
      obtain ⟨z, rfl, lz, fz⟩ := hs
      have fin : ∀ d2 : Int, d2.natAbs < 10 ^ 40 → ∀ t, H3 t = none → Q (.ref t) (upd H3 t (.tup [.str "at", .str z, .int d2])) := fun d2 hd2 t nt => by
        refine k _ _ ⟨t, _, rfl, upd_same, by simp, by simp, fun y hy => ?_⟩ (lo3.same (grow nt)) (u03.trans (.of (grow nt)))
        simp only [List.mem_cons, List.not_mem_nil, or_false] at hy
        rcases hy with rfl | rfl | rfl
        · exact .str _ (by decide +kernel)
        · exact .str _ lz
        · exact .int _ hd2
      have e40 : (10 ^ 40 : Nat) = 10000000000000000000000000000000000000000 := by decide
      refine ⟨_, _, rfl, _, rfl, _, rfl, _, _, rfl, rfl, _, rfl, ?_⟩
      by_cases c : d > 0
      · exact iteD c (iteT ⟨_, rfl, lp 3 (by decide), fin d (by rw [e40]; omega)⟩)
      · refine iteDn c ⟨_, rfl, _, rfl, kn, _, rfl, .inl (SqL.of (ls.but u03).known), fz, rfl, _, rfl, ?_⟩
        cases inV (.str z) [.str "a"] with
        | true => exact iteT ⟨_, rfl, lp 3 (by decide), fin d (by rw [e40]; omega)⟩
        | false => exact iteF ⟨lp 3 (by decide), fin 1 (by decide)⟩
    · refine ⟨_, rfl, p, rfl, lo1, fun t x y H2 e hx hy lo2 u2 => ?_⟩
      refine ⟨t, _, rfl, SqT.of e, rfl, _, _, rfl, _, _, rfl, rfl, ?_⟩
      have u02 := u01.trans u2
      refine ⟨_, rfl, _, rfl, p, ar, _, rfl, (ls.but u02).arrs, by simp, by simp, ls.pr, lo2, fun w hw H3 lo3 u3 => ?_⟩
      refine ⟨_, rfl, _, rfl, lp 4 (by decide), fun t2 nt => k _ _ ⟨t2, _, rfl, upd_same, by simp, by simp, fun v hv => ?_⟩ (lo3.same (grow nt)) ((u02.trans u3).trans (.of (grow nt)))⟩
      simp only [List.mem_cons, List.not_mem_nil, or_false] at hv
      rcases hv with rfl | rfl | rfl | rfl
      · exact .str _ (by decide +kernel)
      · simp only [List.mem_cons, List.not_mem_nil, or_false] at hw
        rcases hw with rfl | rfl | rfl <;> exact .str _ (by decide +kernel)
      · exact hx.tv
      · exact hy.tv
end
end K1
namespace K1
open PySem L2
open L2.My
theorem Tp.upN {H : Hp} {n m : Nat} {v : V} (t : Tp H n v) (h : n ≤ m) : Tp H m v := by
  obtain ⟨a, xs, rfl, e, ne, l, hx⟩ := t
  exact ⟨a, xs, rfl, e, ne, l, fun x hm => (hx x hm).upN h⟩
/-- an operator and how many trees stand below it -/
def Opr (H : Hp) (x : V) : Prop := ∃ (t : Addr) (z : Str) (m : Nat), x = .ref t ∧ H t = some (.tup [.str z, .int m]) ∧ z.length ≤ 100 ∧ m ≤ 3
theorem Opr.kp {H H' : Hp} {x : V} (o : Opr H x) (s : Kp H H') : Opr H' x := by
  obtain ⟨t, z, m, rfl, e, l⟩ := o
  exact ⟨t, z, m, rfl, s.tup _ _ e, l⟩
section
variable {P : Program} {w : World} {K : PySem.W.Frag} {mg : Str → Option Value} {base : Heap}
def spGrow (d : Nat) : Sp := fun vs H Q _ => ∃ p k s r : Addr, vs = [.ref p, .int d, .ref k, .ref s, .ref r] ∧ Loom H p ∧ Ls H p k s r ∧ ∀ v H', Tp H' d v → Loom H' p → But p H H' → Q v H'
theorem scGrow : FnScope ["_law_loom_here", "_law_deep", "_law_known", "_law_sets", "_law_arrays", "_law_operator", "_law_many", "_law_turn_here"] ["_law_loom_here", "_law_deep", "_law_known", "_law_sets", "_law_arrays"] (defScope tGrow) := ⟨rfl, rfl, rfl, by decide +kernel, rfl, by decide +kernel, by decide +kernel⟩
theorem step_grow {n : Nat} {spR : Sp} {f fT fP fL : Addr} {fd fdT fdP fdL : FuncData} (F : Fun K "_law_tree" "_law_tree" tGrow f fd) (T : Bl mg) (bF : Binds K fd ["_law_loom_here", "_law_deep", "_law_known", "_law_sets", "_law_arrays"] []) (gF : mg "_law_tree" = some (.ref f))
    (GT : FnOk P w K mg base CX0 1 fT fdT ["_law_loom_here", "_law_total"] spTurn) (kT : PySem.W.keepIn K (.ref fT) = true) (bT : Binds K fdT ["_law_loom_here", "_law_total"] []) (gT : mg "_law_turn" = some (.ref fT))
    (GP : FnOk P w K mg base CX0 2 fP fdP ["_law_loom_here", "_law_items"] spPick) (kP : PySem.W.keepIn K (.ref fP) = true) (bP : Binds K fdP ["_law_loom_here", "_law_items"] []) (gP : mg "_law_pick" = some (.ref fP))
    (GL : FnOk P w K mg base CX0 4 fL fdL ["_law_loom_here", "_law_known", "_law_sets", "_law_arrays"] spLeaf) (kL : PySem.W.keepIn K (.ref fL) = true) (bL : Binds K fdL ["_law_loom_here", "_law_known", "_law_sets", "_law_arrays"] []) (gL : mg "_law_leaf" = some (.ref fL))
    (GR : FnOk P w K mg base CX0 (4 + n) f fd ["_law_loom_here", "_law_deep", "_law_known", "_law_sets", "_law_arrays"] spR) (hR : ∀ q, n = q + 1 → spR = spGrow n) :
    FnOk P w K mg base CX0 (4 + n + 1) f fd ["_law_loom_here", "_law_deep", "_law_known", "_law_sets", "_law_arrays"] (spGrow (n + 1)) := by
  refine F.ok scGrow (fun vs H Q E h => ?_) (fun cdv A outer s H vs Q E hr h => ?_)
  · obtain ⟨p, k, s, r, rfl, _⟩ := h
    rfl
  · obtain ⟨p, kn, st, ar, rfl, lo, ls, k⟩ := h
    have hr1 : Room 1 _ := hr.mono (by omega)
    have hr2 : Room 2 _ := hr.mono (by omega)
    have hr4 : Room 4 _ := hr.mono (by omega)
    refine ⟨_, pss_cons (ps_if (PW.pt (pw_or (pt_cmpR op_eq (pv 1) pe_int (nomark _)) (pw_or1 (pt_cmpR op_eq (pe_call GT hr1 rfl gT kT bT .nil pass0 (pa_cons (pv 0) (pa_cons pe_int pa_nil))) pe_int (nomark _)))))
        (pss_one (ps_ret (pe_call GL hr4 rfl gL kL bL .nil pass0 (pa_cons (pv 0) (pa_cons (pv 2) (pa_cons (pv 3) (pa_cons (pv 4) pa_nil))))))) pss_nil)
      (pss_cons (ps_asg (pe_call GP hr2 rfl gP kP bP .nil pass0 (pa_cons (pv 0) (pa_cons (pe_lst (pa_cons (pe_tup (pa_cons pe_str (pa_cons pe_int pa_nil))) (pa_cons (pe_tup (pa_cons pe_str (pa_cons pe_int pa_nil))) (pa_cons (pe_tup (pa_cons pe_str (pa_cons pe_int pa_nil))) (pa_cons (pe_tup (pa_cons pe_str (pa_cons pe_int pa_nil))) (pa_cons (pe_tup (pa_cons pe_str (pa_cons pe_int pa_nil))) pa_nil)))))) pa_nil)))
          (pg_tup rfl (pgs_cons (pg_name (i := 5) scGrow.nd rfl (.inl rfl)) (pgs_cons (pg_name (i := 6) scGrow.nd rfl (.inl rfl)) pgs_nil))))
      (pss_one (ps_ret (pe_op op_catA (pe_tup (pa_cons pe_str (pa_cons (pv 5) pa_nil))) (pe_callTy call_tuple_of (by rfl) T.tuple (by decide +kernel) (pa_cons
        (pe_lc (own := [("_law_turn_here", 7)]) (g := gName 7) (tt := tYes) (by rfl) scGrow.nd (pi_range1 rfl T.range (pa_cons (pv 6) pa_nil)) (blkOk_by (own := [("_law_turn_here", 7)]) (N := ["_law_loom_here", "_law_deep", "_law_known", "_law_sets", "_law_arrays", "_law_operator", "_law_many", "_law_turn_here"]) (sc := defScope tGrow) (by decide +kernel))
        (fun _ _ _ _ _ => pg_name (i := 7) scGrow.nd rfl (Or.inl rfl)) (fun _ _ _ _ _ => pts_nil) (fun _ _ _ _ _ => pe_call GR hr rfl gF F.kp bF .nil pass0 (pa_cons (pv 0) (pa_cons (pe_op op_sub (pv 1) pe_int) (pa_cons (pv 2) (pa_cons (pv 3) (pa_cons (pv 4) pa_nil))))))) pa_nil)))))), ?_⟩
    have lp : ∀ n : Nat, n ≤ 10 → n ≤ sizeLine := fun n h => Nat.le_trans h (by decide)
    have leaf : ∀ H1, Loom H1 p → But p H H1 → spLeaf [.ref p, .ref kn, .ref st, .ref ar] H1 Q E0 := fun H1 lo1 u1 =>
      ⟨p, kn, st, ar, rfl, lo1, ls.but u1, fun v H2 tv lo2 u2 => k v H2 (tv.upN (Nat.zero_le _)) lo2 (u1.trans u2)⟩
    refine ⟨_, rfl, rfl, _, rfl, ?_⟩
    by_cases c1 : V.int ((n + 1 : Nat) : Int) = V.int 1
    · exact iteD c1 (iteT ⟨_, rfl, _, rfl, _, rfl, _, rfl, leaf H lo .refl⟩)
    refine iteDn c1 ⟨_, rfl, p, 3, rfl, by decide, by decide, lo, fun r H1 r0 r1 lo1 u1 => ?_⟩
    refine ⟨rfl, _, rfl, ite2 (fun _ => ?_) (fun _ => ?_)⟩
    · exact ⟨_, rfl, _, rfl, _, rfl, _, rfl, leaf H1 lo1 u1⟩
    have n1 : ∃ q, n = q + 1 := by
      cases n with
      | zero => exact absurd rfl c1
      | succ q => exact ⟨q, rfl⟩
    obtain ⟨q, hq⟩ := n1
    have sR := hR q hq
    subst sR
    refine ⟨_, rfl, ?_⟩
    have o0 : ∀ x ∈ ([] : List V), Opr H1 x := fun x hx => by cases hx
    refine ⟨lp 2 (by decide), fun t1 nt1 => ?_⟩
    have g1 : Same H1 (upd H1 t1 (.tup [.str "f", .int 1])) := grow nt1
    have e1 : (upd H1 t1 (.tup [.str "f", .int 1])) t1 = some (.tup [.str "f", .int 1]) := upd_same
    revert g1 e1
    generalize upd H1 t1 (.tup [.str "f", .int 1]) = G1
    intro g1 e1
    refine ⟨lp 2 (by decide), fun t2 nt2 => ?_⟩
    have g2 : Same G1 (upd G1 t2 (.tup [.str "g", .int 2])) := grow nt2
    have e2 : (upd G1 t2 (.tup [.str "g", .int 2])) t2 = some (.tup [.str "g", .int 2]) := upd_same
    revert g2 e2
    generalize upd G1 t2 (.tup [.str "g", .int 2]) = G2
    intro g2 e2
    refine ⟨lp 2 (by decide), fun t3 nt3 => ?_⟩
    have g3 : Same G2 (upd G2 t3 (.tup [.str "add", .int 2])) := grow nt3
    have e3 : (upd G2 t3 (.tup [.str "add", .int 2])) t3 = some (.tup [.str "add", .int 2]) := upd_same
    revert g3 e3
    generalize upd G2 t3 (.tup [.str "add", .int 2]) = G3
    intro g3 e3
    refine ⟨lp 2 (by decide), fun t4 nt4 => ?_⟩
    have g4 : Same G3 (upd G3 t4 (.tup [.str "one", .int 0])) := grow nt4
    have e4 : (upd G3 t4 (.tup [.str "one", .int 0])) t4 = some (.tup [.str "one", .int 0]) := upd_same
    revert g4 e4
    generalize upd G3 t4 (.tup [.str "one", .int 0]) = G4
    intro g4 e4
    refine ⟨lp 2 (by decide), fun t5 nt5 => ?_⟩
    have g5 : Same G4 (upd G4 t5 (.tup [.str "sel", .int 3])) := grow nt5
    have e5 : (upd G4 t5 (.tup [.str "sel", .int 3])) t5 = some (.tup [.str "sel", .int 3]) := upd_same
    revert g5 e5
    generalize upd G4 t5 (.tup [.str "sel", .int 3]) = G5
    intro g5 e5
    have gg : Same H1 G5 := (((g1.trans g2).trans g3).trans g4).trans g5
    have lo5 := lo1.same gg
    have u5 : But p H G5 := u1.trans (.of gg)
    have od : ∀ x ∈ [V.ref t1, V.ref t2, V.ref t3, V.ref t4, V.ref t5], Opr G5 x := by
      intro x hx
      simp only [List.mem_cons, List.not_mem_nil, or_false] at hx
      rcases hx with rfl | rfl | rfl | rfl | rfl
      · exact ⟨t1, _, 1, rfl, g5 _ _ (g4 _ _ (g3 _ _ (g2 _ _ e1))), by decide +kernel, by decide⟩
      · exact ⟨t2, _, 2, rfl, g5 _ _ (g4 _ _ (g3 _ _ e2)), by decide +kernel, by decide⟩
      · exact ⟨t3, _, 2, rfl, g5 _ _ (g4 _ _ e3), by decide +kernel, by decide⟩
      · exact ⟨t4, _, 0, rfl, g5 _ _ e4, by decide +kernel, by decide⟩
      · exact ⟨t5, _, 3, rfl, e5, by decide +kernel, by decide⟩
    refine ⟨lp 5 (by decide), fun l nl => ?_⟩
    refine pick_new nl lo5 (by simp) (by simp) fun x hx H2 lo2 u2 => ?_
    obtain ⟨tx, z, mm, rfl, ex, lz, lm⟩ := (od x hx).kp (lo5.kp lo2 u2)
    have u02 := u5.trans u2
    refine ⟨tx, _, rfl, SqT.of ex, rfl, _, _, rfl, _, _, rfl, rfl, ?_⟩
    refine ⟨_, rfl, lp 2 (by decide), fun t0 nt0 => ?_⟩
    have g0 : Same H2 (upd H2 t0 (.tup [.str "op", .str z])) := grow nt0
    have e0 : (upd H2 t0 (.tup [.str "op", .str z])) t0 = some (.tup [.str "op", .str z]) := upd_same
    revert g0 e0
    generalize upd H2 t0 (.tup [.str "op", .str z]) = H3
    intro g0 e0
    have lo3 := lo2.same g0
    have u03 := u02.trans (But.of g0)
    have tp : t0 ≠ p := by
      obtain ⟨_, _, _, ep, _⟩ := lo3
      intro c
      rw [c, ep] at e0
      cases e0
    refine ⟨_, rfl, mm, rfl, by omega, by omega, fun D hD => lc_it walk_range (fun i H' => Loom H' p ∧ But p H3 H' ∧ ∃ acc, H' D = some (.lst acc) ∧ acc.length = i ∧ ∀ x ∈ acc, Tp H' n x)
      ⟨lo3.same (grow hD), .of (grow hD), [], upd_same, rfl, fun x hx => by cases hx⟩ (fun _ _ _ _ => trivial) ?_ ?_⟩
    · rintro i v H4 H5 hi ⟨lo4, u4, acc, ed, la, ha⟩ ⟨rfl, rfl⟩
      have Dp : D ≠ p := by
        obtain ⟨_, _, _, ep, _⟩ := lo3
        exact (ne_of_none ep hD).symm
      refine ⟨rfl, ?_⟩
      refine ⟨_, rfl, _, rfl, _, _, rfl, rfl, _, rfl, _, rfl, _, rfl, p, kn, st, ar, ?_, lo4, ls.but (u03.trans u4), fun v H6 tv lo6 u6 => ?_⟩
      · have z1 : ((n + 1 : Nat) : Int) - 1 = (n : Int) := by omega
        show [V.ref p, V.int (((n + 1 : Nat) : Int) - 1), V.ref kn, V.ref st, V.ref ar] = _
        rw [z1]
      · have ed6 := u6 D Dp _ ed
        refine ⟨acc, ed6, by rw [la]; exact Nat.lt_of_lt_of_le hi (Nat.le_trans lm (by decide)), ?_, ?_, acc ++ [v], upd_same, by simp [la], fun x hx => ?_⟩
        · obtain ⟨a, b, c, ep, r⟩ := lo6
          exact ⟨a, b, c, by rw [upd_ne Dp.symm]; exact ep, r⟩
        · intro q hq o eo
          have neD : q ≠ D := ne_of_none eo hD
          rw [upd_ne neD]
          exact u6 q hq o (u4 q hq o eo)
        · have kpD : Kp H6 (upd H6 D (.lst (acc ++ [v]))) := .upd ed6
          rcases List.mem_append.mp hx with hx | hx
          · exact ((ha x hx).kp (lo4.kp lo6 u6)).kp kpD
          · rw [List.mem_singleton] at hx
            subst hx
            exact tv.kp kpD
    · rintro H4 ⟨lo4, u4, acc, ed, la, ha⟩
      refine ⟨D, acc, rfl, .inl ⟨SqL.of ed, fun l2 nl2 => ?_⟩⟩
      have g6 : Same H4 (upd H4 l2 (.tup acc)) := grow nl2
      have e6 : (upd H4 l2 (.tup acc)) l2 = some (.tup acc) := upd_same
      revert g6 e6
      generalize upd H4 l2 (.tup acc) = H5
      intro g6 e6
      have e05 := g6 _ _ (u4 _ tp _ e0)
      have lo5 := lo4.same g6
      have u5 := (u03.trans u4).trans (But.of g6)
      refine ⟨t0, l2, _, acc, rfl, rfl, SqT.of e05, SqT.of e6, ?_, fun z => absurd z (List.cons_ne_nil _ _), fun _ z => ?_, fun _ _ p2 np2 => ?_⟩
      · rw [la]
        show 2 + mm ≤ sizeLine
        exact Nat.le_trans (Nat.add_le_add_left lm 2) (by decide)
      · refine k _ _ ⟨t0, _, rfl, e05, by simp, by simp, fun y hy => ?_⟩ lo5 u5
        simp only [List.mem_cons, List.not_mem_nil, or_false] at hy
        rcases hy with rfl | rfl
        · exact .str _ (by decide +kernel)
        · exact .str _ lz
      · refine k _ _ ⟨p2, _, rfl, upd_same, by simp, ?_, fun y hy => ?_⟩ (lo5.same (grow np2)) (u5.trans (.of (grow np2)))
        · rw [List.length_append, la]
          show 2 + mm ≤ 8
          omega
        · rcases List.mem_append.mp hy with hy | hy
          · simp only [List.mem_cons, List.not_mem_nil, or_false] at hy
            rcases hy with rfl | rfl
            · exact .str _ (by decide +kernel)
            · exact .str _ lz
          · exact (((ha y hy).kp (.of g6)).kp (.of (grow np2))).tv
theorem ok_grow {f fT fP fL : Addr} {fd fdT fdP fdL : FuncData} (F : Fun K "_law_tree" "_law_tree" tGrow f fd) (T : Bl mg) (bF : Binds K fd ["_law_loom_here", "_law_deep", "_law_known", "_law_sets", "_law_arrays"] []) (gF : mg "_law_tree" = some (.ref f))
    (GT : FnOk P w K mg base CX0 1 fT fdT ["_law_loom_here", "_law_total"] spTurn) (kT : PySem.W.keepIn K (.ref fT) = true) (bT : Binds K fdT ["_law_loom_here", "_law_total"] []) (gT : mg "_law_turn" = some (.ref fT))
    (GP : FnOk P w K mg base CX0 2 fP fdP ["_law_loom_here", "_law_items"] spPick) (kP : PySem.W.keepIn K (.ref fP) = true) (bP : Binds K fdP ["_law_loom_here", "_law_items"] []) (gP : mg "_law_pick" = some (.ref fP))
    (GL : FnOk P w K mg base CX0 4 fL fdL ["_law_loom_here", "_law_known", "_law_sets", "_law_arrays"] spLeaf) (kL : PySem.W.keepIn K (.ref fL) = true) (bL : Binds K fdL ["_law_loom_here", "_law_known", "_law_sets", "_law_arrays"] []) (gL : mg "_law_leaf" = some (.ref fL)) :
    ∀ n, FnOk P w K mg base CX0 (4 + n + 1) f fd ["_law_loom_here", "_law_deep", "_law_known", "_law_sets", "_law_arrays"] (spGrow (n + 1))
  | 0 => step_grow F T bF gF GT kT bT gT GP kP bP gP GL kL bL gL (fnok_false (j := 4 + 0)) fun q h => absurd h.symm (Nat.succ_ne_zero q)
  | n + 1 => step_grow F T bF gF GT kT bT gT GP kP bP gP GL kL bL gL (ok_grow F T bF gF GT kT bT gT GP kP bP gP GL kL bL gL n) fun q h => rfl
end
end K1
namespace K1
open PySem L2
open L2.My
section
variable {P : Program} {w : World} {K : PySem.W.Frag} {mg : Str → Option Value} {base : Heap}
theorem sl_go {H : Hp} {a : Addr} {xs : List V} {lo hi : Option Int} {Q : VK} (e : H a = some (.tup xs)) (k : ∀ b H', Same H H' → H' b = some (.tup (cutV xs lo hi)) → Q (.ref b) H') : rSlA K (.ref a) lo hi H Q := by
  refine ⟨a, xs, rfl, SqT.of e, fun z => k a H (Same.refl H) ?_, fun _ p np => k p _ (grow np) upd_same⟩
  have c : cutV xs lo hi = xs := by
    unfold cutV
    rw [z.1, z.2]
    simp
  rw [c]
  exact e
theorem cat_go {H : Hp} {a b : Addr} {xs ys : List V} {Q : VK} (e : H a = some (.tup xs)) (e2 : H b = some (.tup ys)) (l : xs.length + ys.length ≤ sizeLine) (k : ∀ c H', Same H H' → H' c = some (.tup (xs ++ ys)) → Q (.ref c) H') : rCatA K (.ref a) (.ref b) H Q := by
  refine ⟨a, b, xs, ys, rfl, rfl, SqT.of e, SqT.of e2, l, fun z => k b H (Same.refl H) ?_, fun _ z => k a H (Same.refl H) ?_, fun _ _ p np => k p _ (grow np) upd_same⟩
  · rw [z]
    exact e2
  · rw [z, List.append_nil]
    exact e
theorem mem_cut {xs : List V} {lo hi : Option Int} {x : V} (h : x ∈ cutV xs lo hi) : x ∈ xs := List.mem_of_mem_drop (List.mem_of_mem_take h)
theorem Tv.tup_inv {H : Hp} {N n : Nat} {b : Addr} {ys : List V} (t : Tv H N n (.ref b)) (e : H b = some (.tup ys)) : ∃ q, n = q + 1 ∧ ys.length ≤ N ∧ ∀ x ∈ ys, Tv H N q x := by
  cases t with
  | tup e' l h =>
    rw [e] at e'
    cases e'
    exact ⟨_, rfl, l, h⟩
  | lst e' =>
    rw [e] at e'
    cases e'
  | dct e' =>
    rw [e] at e'
    cases e'
theorem last_at {xs : List V} (ne : xs ≠ []) : ∃ y, atI xs (-1) = some y ∧ y ∈ xs := by
  obtain ⟨ys, y, rfl⟩ : ∃ ys y, xs = ys ++ [y] := ⟨xs.dropLast, xs.getLast ne, (List.dropLast_concat_getLast ne).symm⟩
  exact ⟨y, atI_last ys y, by simp⟩
/-! ### _law_bent -/
def spBent (n : Nat) : Sp := fun vs H Q _ => ∃ (p : Addr) (v : V), vs = [.ref p, v] ∧ Loom H p ∧ Tp H n v ∧ ∀ x H', Tv H' 20 (n + 2) x → Loom H' p → But p H H' → Q x H'
theorem scBent : FnScope ["_law_loom_here", "_law_value", "_law_spot", "_law_odd", "_law_way"] ["_law_loom_here", "_law_value"] (defScope tBent) := ⟨rfl, rfl, rfl, by decide +kernel, rfl, by decide +kernel, by decide +kernel⟩
theorem step_bent {n : Nat} {spR : Sp} {f fT fP : Addr} {fd fdT fdP : FuncData} (F : Fun K "_law_bent" "_law_bent" tBent f fd) (T : Bl mg) (bF : Binds K fd ["_law_loom_here", "_law_value"] []) (gF : mg "_law_bent" = some (.ref f))
    (GT : FnOk P w K mg base CX0 1 fT fdT ["_law_loom_here", "_law_total"] spTurn) (kT : PySem.W.keepIn K (.ref fT) = true) (bT : Binds K fdT ["_law_loom_here", "_law_total"] []) (gT : mg "_law_turn" = some (.ref fT))
    (GP : FnOk P w K mg base CX0 2 fP fdP ["_law_loom_here", "_law_items"] spPick) (kP : PySem.W.keepIn K (.ref fP) = true) (bP : Binds K fdP ["_law_loom_here", "_law_items"] []) (gP : mg "_law_pick" = some (.ref fP))
    (GR : FnOk P w K mg base CX0 (2 + n) f fd ["_law_loom_here", "_law_value"] spR) (hR : ∀ q, n = q + 1 → spR = spBent q) :
    FnOk P w K mg base CX0 (2 + n + 1) f fd ["_law_loom_here", "_law_value"] (spBent n) := by
  refine F.ok scBent (fun vs H Q E h => ?_) (fun cdv A outer s H vs Q E hr h => ?_)
  · obtain ⟨p, v, rfl, _⟩ := h
    rfl
  · obtain ⟨p, v, rfl, lo, tv, k⟩ := h
    have hr1 : Room 1 _ := hr.mono (by omega)
    have hr2 : Room 2 _ := hr.mono (by omega)
    have hu := Nat.lt_of_succ_lt (hu_of hr)
    refine ⟨_, pss_cons (ps_set (i := 2) scBent.nd rfl (.inl rfl) (pe_call GT hr1 rfl gT kT bT .nil pass0 (pa_cons (pv 0) (pa_cons (pe_callB call_len_seq (by rfl) T.len PySem.boot_len (pa_cons (pv 1) pa_nil)) pa_nil))))
      (pss_cons (ps_set (i := 3) scBent.nd rfl (.inl rfl) (pe_lst (pa_cons pe_non (pa_cons pe_int (pa_cons pe_int (pa_cons (pe_un un_neg pe_int) (pa_cons pe_bl (pa_cons pe_str (pa_cons pe_str (pa_cons pe_str (pa_cons pe_str (pa_cons (pe_tup pa_nil) (pa_cons (pe_lst pa_nil) (pa_cons pe_dnewK (pa_cons (pe_op op_pow pe_int pe_int) (pa_cons pe_str (pa_cons (pe_tup (pa_cons pe_str (pa_cons pe_str (pa_cons pe_int (pa_cons pe_int pa_nil))))) pa_nil)))))))))))))))))
      (pss_cons (ps_set (i := 3) scBent.nd rfl (.inl rfl) (pe_call GP hr2 rfl gP kP bP .nil pass0 (pa_cons (pv 0) (pa_cons (pv 3) pa_nil))))
      (pss_cons (ps_set (i := 4) scBent.nd rfl (.inl rfl) (pe_call GT hr1 rfl gT kT bT .nil pass0 (pa_cons (pv 0) (pa_cons pe_int pa_nil))))
      (pss_cons (ps_if (pt_cmpR op_eq (pv 4) pe_int (nomark _)) (pss_one (ps_ret (pe_op op_catA (pe_slice sl_tupA (pv 1) po_none (po_some (pv 2))) (pe_slice sl_tupA (pv 1) (po_some (pe_op op_add (pv 2) pe_int)) po_none)))) pss_nil)
      (pss_cons (ps_if (pt_cmpR op_eq (pv 4) pe_int (nomark _)) (pss_one (ps_ret (pe_op op_catA (pe_op op_catA (pe_slice sl_tupA (pv 1) po_none (po_some (pv 2))) (pe_tup (pa_cons (pv 3) pa_nil))) (pe_slice sl_tupA (pv 1) (po_some (pv 2)) po_none)))) pss_nil)
      (pss_cons (ps_if (pt_cmpR op_eq (pv 4) pe_int (nomark _)) (pss_one (ps_ret (pe_callTy call_list_of (by rfl) T.list (by decide +kernel) (pa_cons (pv 1) pa_nil)))) pss_nil)
      (pss_cons (ps_if (PW.pt (pw_and (pt_cmpR op_eq (pv 4) pe_int (nomark _)) (pw_and (pt_val (pe_callB call_isi (by rfl) T.isi (by decide +kernel) (pa_cons (pe_ix ix_tup (pv 1) (pe_un un_neg pe_int) (fun _ _ => rfl)) (pa_cons (pe_bltn (v := .ty "tuple") (by rfl) T.tuple (by decide +kernel) rfl) pa_nil))))
          (pw_and1 (pt_cmpR (op_neUnit hu) (pe_ix ix_tup (pv 1) (pe_un un_neg pe_int) (fun _ _ => rfl)) (pe_tup pa_nil) (nomark _))))))
        (pss_one (ps_ret (pe_op op_catA (pe_slice sl_tupA (pv 1) po_none (po_some (pe_un un_neg pe_int))) (pe_tup (pa_cons (pe_call GR hr rfl gF F.kp bF .nil pass0 (pa_cons (pv 0) (pa_cons (pe_ix ix_tup (pv 1) (pe_un un_neg pe_int) (fun _ _ => rfl)) pa_nil))) pa_nil))))) pss_nil)
      (pss_cons (ps_if (pt_cmpR op_eq (pv 4) pe_int (nomark _)) (pss_one (ps_ret (pe_ifExp (pt_cmpR op_gt (pe_callB call_len_seq (by rfl) T.len PySem.boot_len (pa_cons (pv 1) pa_nil)) pe_int (nomark _)) (pe_tup (pa_cons pe_str (pa_cons (pe_ix ix_tup (pv 1) pe_int (fun _ _ => rfl)) (pa_cons (pv 1) pa_nil)))) (pv 1)))) pss_nil)
      (pss_one (ps_ret (pe_op op_catA (pe_op op_catA (pe_slice sl_tupA (pv 1) po_none (po_some (pv 2))) (pe_tup (pa_cons (pv 3) pa_nil))) (pe_slice sl_tupA (pv 1) (po_some (pe_op op_add (pv 2) pe_int)) po_none)))))))))))), ?_⟩
    obtain ⟨a, xs, rfl, e, ne, lx, hx⟩ := tv
    have lp : ∀ n : Nat, n ≤ 20 → n ≤ sizeLine := fun n h => Nat.le_trans h (by decide)
    have l0 : 0 < xs.length := List.length_pos_iff.mpr ne
    refine ⟨_, rfl, _, rfl, a, xs, rfl, .inr (SqT.of e), p, (xs.length : Int), rfl, by omega, by omega, lo, fun r H1 r0 r1 lo1 u1 => ?_⟩
    obtain ⟨sp, rfl⟩ := Int.eq_ofNat_of_zero_le r0
    have hsp : sp < xs.length := by omega
    refine ⟨_, rfl, ?_⟩
    refine ⟨lp 0 (by decide), fun t1 nt1 => ?_⟩
    have g1 : Same H1 (upd H1 t1 (.tup [])) := grow nt1
    have e1 : (upd H1 t1 (.tup [])) t1 = some (.tup []) := upd_same
    revert g1 e1
    generalize upd H1 t1 (.tup []) = G1
    intro g1 e1
    refine ⟨lp 0 (by decide), fun t2 nt2 => ?_⟩
    have g2 : Same G1 (upd G1 t2 (.lst [])) := grow nt2
    have e2 : (upd G1 t2 (.lst [])) t2 = some (.lst []) := upd_same
    revert g2 e2
    generalize upd G1 t2 (.lst []) = G2
    intro g2 e2
    intro t3 nt3
    have g3 : Same G2 (upd G2 t3 (.dK [])) := grow nt3
    have e3 : (upd G2 t3 (.dK [])) t3 = some (.dK []) := upd_same
    revert g3 e3
    generalize upd G2 t3 (.dK []) = G3
    intro g3 e3
    refine ⟨_, _, rfl, rfl, ⟨by decide, by decide, by decide⟩, ?_⟩
    refine ⟨lp 4 (by decide), fun t4 nt4 => ?_⟩
    have g4 : Same G3 (upd G3 t4 (.tup [.str "load", .str "a", .int 1, .int 0])) := grow nt4
    have e4 : (upd G3 t4 (.tup [.str "load", .str "a", .int 1, .int 0])) t4 = some (.tup [.str "load", .str "a", .int 1, .int 0]) := upd_same
    revert g4 e4
    generalize upd G3 t4 (.tup [.str "load", .str "a", .int 1, .int 0]) = G4
    intro g4 e4
    have gg : Same H1 G4 := ((g1.trans g2).trans g3).trans g4
    have lo4 := lo1.same gg
    have u4 : But p H G4 := u1.trans (.of gg)
    refine ⟨lp 15 (by decide), fun l nl => ?_⟩
    refine ⟨_, rfl, _, rfl, ?_⟩
    have od : ∀ x ∈ [V.non, .int 0, .int 4, .int (-1), .bl true, .str "", .str "A", .str "at", .str "op", .ref t1, .ref t2, .ref t3, .int ((10 : Int) ^ (30 : Int).toNat), .str "zzzzzzzzz", .ref t4], Tv G4 20 (n + 1) x := by
      intro x hx
      simp only [List.mem_cons, List.not_mem_nil, or_false] at hx
      rcases hx with rfl | rfl | rfl | rfl | rfl | rfl | rfl | rfl | rfl | rfl | rfl | rfl | rfl | rfl | rfl
      · exact .non
      · exact .int _ (by decide)
      · exact .int _ (by decide)
      · exact .int _ (by decide)
      · exact .bl _
      · exact .str _ (by decide +kernel)
      · exact .str _ (by decide +kernel)
      · exact .str _ (by decide +kernel)
      · exact .str _ (by decide +kernel)
      · exact .tup (g4 _ _ (g3 _ _ (g2 _ _ e1))) (by simp) fun y hy => by cases hy
      · exact .lst (g4 _ _ (g3 _ _ e2))
      · exact .dct (g4 _ _ e3)
      · exact .int _ (by decide +kernel)
      · exact .str _ (by decide +kernel)
      · refine .tup e4 (by simp) fun y hy => ?_
        simp only [List.mem_cons, List.not_mem_nil, or_false] at hy
        rcases hy with rfl | rfl | rfl | rfl
        · exact .str _ (by decide +kernel)
        · exact .str _ (by decide +kernel)
        · exact .int _ (by decide)
        · exact .int _ (by decide)
    refine pick_new nl lo4 (by simp) (by simp) fun o ho H2 lo2 u2 => ?_
    have to : Tv H2 20 (n + 1) o := (od o ho).kp (lo4.kp lo2 u2)
    have u02 := u4.trans u2
    refine ⟨_, rfl, p, 7, rfl, by decide, by decide, lo2, fun way H3 w0 w1 lo3 u3 => ?_⟩
    have u03 := u02.trans u3
    have kp3 : Kp H H3 := lo.kp lo3 u03
    have e5 := kp3.tup _ _ e
    have to3 : Tv H3 20 (n + 1) o := to.kp (lo2.kp lo3 u3)
    have hx3 : ∀ x ∈ xs, Tv H3 20 (n + 1) x := fun x hm => (((hx x hm).kp kp3).wide (by decide)).up
    have fin : ∀ b ys H', Same H3 H' → H' b = some (.tup ys) → ys.length ≤ 20 → (∀ y ∈ ys, Tv H3 20 (n + 1) y) → Q (.ref b) H' := fun b ys H' s' eb l' h' =>
      k _ _ (.tup eb l' fun y hy => (h' y hy).same s') (lo3.same s') (u03.trans (.of s'))
    have lc : ∀ lo hi, (cutV xs lo hi).length ≤ 8 := fun lo hi => Nat.le_trans (cutV_length xs lo hi) lx
    -- way 0
    refine ⟨_, rfl, rfl, _, rfl, ite2 (fun _ => ?_) (fun _ => ?_)⟩
    · refine ⟨_, rfl, _, rfl, _, rfl, sl_go e5 fun b1 K1 s1 eb1 => ?_⟩
      refine ⟨_, rfl, _, rfl, _, _, rfl, rfl, _, rfl, ?_⟩
      unfold tNoPart
      refine sl_go (s1 _ _ e5) fun b2 K2 s2 eb2 => ?_
      refine cat_go (s2 _ _ eb1) eb2 ?_ fun c K3 s3 ec => fin c _ K3 ((s1.trans s2).trans s3) ec ?_ fun y hy => ?_
      · have := lc none (some (sp : Int))
        have := lc (some ((sp : Int) + 1)) none
        have := lp 16 (by decide)
        omega
      · rw [List.length_append]
        have := lc none (some (sp : Int))
        have := lc (some ((sp : Int) + 1)) none
        omega
      · rcases List.mem_append.mp hy with hy | hy
        · exact hx3 y (mem_cut hy)
        · exact hx3 y (mem_cut hy)
    -- way 1
    refine ⟨_, rfl, rfl, _, rfl, ite2 (fun _ => ?_) (fun _ => ?_)⟩
    · refine ⟨_, rfl, _, rfl, _, rfl, sl_go e5 fun b1 K1 s1 eb1 => ?_⟩
      refine ⟨_, rfl, lp 1 (by decide), fun t5 nt5 => ?_⟩
      have s2 := grow (o := .tup [o]) nt5
      refine cat_go (s2 _ _ eb1) upd_same ?_ fun b2 K2 s3 eb2 => ?_
      · have := lc none (some (sp : Int))
        have := lp 9 (by decide)
        rw [List.length_singleton]
        omega
      have s13 := (s1.trans s2).trans s3
      refine ⟨_, rfl, _, rfl, _, rfl, ?_⟩
      unfold tNoPart
      refine sl_go (s13 _ _ e5) fun b3 K3 s4 eb3 => ?_
      refine cat_go (s4 _ _ eb2) eb3 ?_ fun c K4 s5 ec => fin c _ K4 ((s13.trans s4).trans s5) ec ?_ fun y hy => ?_
      · have := lc none (some (sp : Int))
        have := lc (some (sp : Int)) none
        have := lp 17 (by decide)
        rw [List.length_append, List.length_singleton]
        omega
      · have := lc none (some (sp : Int))
        have := lc (some (sp : Int)) none
        rw [List.length_append, List.length_append, List.length_singleton]
        omega
      · rcases List.mem_append.mp hy with hy | hy
        · rcases List.mem_append.mp hy with hy | hy
          · exact hx3 y (mem_cut hy)
          · rw [List.mem_singleton] at hy
            rw [hy]
            exact to3
        · exact hx3 y (mem_cut hy)
    -- way 2
    refine ⟨_, rfl, rfl, _, rfl, ite2 (fun _ => ?_) (fun _ => ?_)⟩
    · exact ⟨_, rfl, a, xs, rfl, .inr (SqT.of e5), fun l2 nl2 => k _ _ (.lst upd_same) (lo3.same (grow nl2)) (u03.trans (.of (grow nl2)))⟩
    -- way 3
    obtain ⟨y, ey, my⟩ := last_at ne
    have tva : Tv H3 20 (n + 1) (.ref a) := .tup e5 (by omega) fun x hm => ((hx x hm).kp kp3).wide (by decide)
    have ty3 : Tv H3 8 n y := (hx y my).kp kp3
    refine ⟨_, rfl, rfl, _, rfl, ite2 (fun _ => ?_) (fun _ => ?_)⟩
    · rcases ty3.tupcase (K := K) with ⟨b, ys, rfl, eb, lb, hb⟩ | ⟨nt, u, tyx, kt⟩
      · refine ⟨_, rfl, _, rfl, a, xs, -1, _, rfl, rfl, SqT.of e5, ey, _, _, _, _, _, rfl, ClsV.ty _, .base (.tup eb), kit_ty (r := true) (by decide +kernel), _, rfl, iteT ?_⟩
        refine ⟨_, rfl, _, rfl, a, xs, -1, _, rfl, rfl, SqT.of e5, ey, lp 0 (by decide), fun t5 nt5 => ?_⟩
        have s0 : Same H3 (upd H3 t5 (.tup [])) := grow nt5
        have e6 : (upd H3 t5 (.tup [])) t5 = some (.tup []) := upd_same
        revert s0 e6
        generalize upd H3 t5 (.tup []) = K0
        intro s0 e6
        refine ⟨b, t5, ys, rfl, rfl, s0 _ _ eb, e6, _, rfl, ?_⟩
        cases ys with
        | nil =>
          refine iteF ?_
          refine ⟨_, rfl, rfl, _, rfl, ite2 (fun _ => ?_) (fun _ => ?_)⟩
          · refine ⟨_, rfl, a, xs, rfl, .inr (SqT.of (s0 _ _ e5)), _, _, rfl, rfl, _, rfl, ite2 (fun c => ?_) (fun _ => ?_)⟩
            · have c2 := of_decide_eq_true c
              have l1 : 1 < xs.length := by omega
              refine ⟨_, rfl, a, xs, 1, xs[1], rfl, rfl, SqT.of (s0 _ _ e5), atI_nat (j := 1) (List.getElem?_eq_getElem l1), _, rfl, lp 3 (by decide), fun t6 nt6 => fin t6 _ _ (s0.trans (grow nt6)) upd_same (by simp) fun y hy => ?_⟩
              simp only [List.mem_cons, List.not_mem_nil, or_false] at hy
              rcases hy with rfl | rfl | rfl
              · exact .str _ (by decide +kernel)
              · exact hx3 _ (List.getElem_mem _)
              · exact tva
            · exact ⟨_, rfl, k _ _ ((tva.same s0).upN (by omega)) (lo3.same s0) (u03.trans (.of s0))⟩
          · refine ⟨_, rfl, _, rfl, _, rfl, sl_go (s0 _ _ e5) fun b1 K1 s1 eb1 => ?_⟩
            refine ⟨_, rfl, lp 1 (by decide), fun t5 nt5 => ?_⟩
            have s2 := grow (o := .tup [o]) nt5
            refine cat_go (s2 _ _ eb1) upd_same ?_ fun b2 K2 s3 eb2 => ?_
            · have := lc none (some (sp : Int))
              have := lp 9 (by decide)
              rw [List.length_singleton]
              omega
            have s13 := ((s0.trans s1).trans s2).trans s3
            refine ⟨_, rfl, _, rfl, _, _, rfl, rfl, _, rfl, ?_⟩
            unfold tNoPart
            refine sl_go (s13 _ _ e5) fun b3 K3 s4 eb3 => ?_
            refine cat_go (s4 _ _ eb2) eb3 ?_ fun c K4 s5 ec => fin c _ K4 ((s13.trans s4).trans s5) ec ?_ fun y hy => ?_
            · have := lc none (some (sp : Int))
              have := lc (some ((sp : Int) + 1)) none
              have := lp 17 (by decide)
              rw [List.length_append, List.length_singleton]
              omega
            · have := lc none (some (sp : Int))
              have := lc (some ((sp : Int) + 1)) none
              rw [List.length_append, List.length_append, List.length_singleton]
              omega
            · rcases List.mem_append.mp hy with hy | hy
              · rcases List.mem_append.mp hy with hy | hy
                · exact hx3 y (mem_cut hy)
                · rw [List.mem_singleton] at hy
                  rw [hy]
                  exact to3
              · exact hx3 y (mem_cut hy)
        | cons y0 yr =>
          refine iteT ?_
          obtain ⟨q, rfl, lq, hq⟩ := ty3.tup_inv eb
          have sR := hR q rfl
          subst sR
          refine ⟨_, rfl, _, rfl, _, rfl, sl_go (s0 _ _ e5) fun b1 K1 s1 eb1 => ?_⟩
          have s01 := s0.trans s1
          refine ⟨_, rfl, _, rfl, _, rfl, a, xs, -1, _, rfl, rfl, SqT.of (s01 _ _ e5), ey, p, .ref b, rfl, lo3.same s01, ⟨b, _, rfl, s01 _ _ eb, by simp, lq, fun x hm => (hq x hm).same s01⟩, fun x K2 tx lo5 u5 => ?_⟩
          have kp5 := (lo3.same s01).kp lo5 u5
          refine ⟨lp 1 (by decide), fun t6 nt6 => ?_⟩
          have s2 := grow (o := .tup [x]) nt6
          refine cat_go (s2 _ _ (kp5.tup _ _ eb1)) upd_same ?_ fun c K3 s3 ec => ?_
          · have := lc none (some (-1))
            have := lp 9 (by decide)
            rw [List.length_singleton]
            omega
          have s23 := s2.trans s3
          refine k _ _ (.tup ec ?_ fun y hy => ?_) (lo5.same s23) (((u03.trans (.of s01)).trans u5).trans (.of s23))
          · have := lc none (some (-1))
            rw [List.length_append, List.length_singleton]
            omega
          · rcases List.mem_append.mp hy with hy | hy
            · exact (((hx3 y (mem_cut hy)).same s01).kp kp5).same s23
            · rw [List.mem_singleton] at hy
              rw [hy]
              exact tx.same s23
      · refine ⟨_, rfl, _, rfl, a, xs, -1, _, rfl, rfl, SqT.of e5, ey, _, _, _, _, _, rfl, ClsV.ty _, tyx, kt, _, rfl, iteF ?_⟩
        have s0 : Same H3 H3 := Same.refl H3
        refine ⟨_, rfl, rfl, _, rfl, ite2 (fun _ => ?_) (fun _ => ?_)⟩
        · refine ⟨_, rfl, a, xs, rfl, .inr (SqT.of (s0 _ _ e5)), _, _, rfl, rfl, _, rfl, ite2 (fun c => ?_) (fun _ => ?_)⟩
          · have c2 := of_decide_eq_true c
            have l1 : 1 < xs.length := by omega
            refine ⟨_, rfl, a, xs, 1, xs[1], rfl, rfl, SqT.of (s0 _ _ e5), atI_nat (j := 1) (List.getElem?_eq_getElem l1), _, rfl, lp 3 (by decide), fun t6 nt6 => fin t6 _ _ (s0.trans (grow nt6)) upd_same (by simp) fun y hy => ?_⟩
            simp only [List.mem_cons, List.not_mem_nil, or_false] at hy
            rcases hy with rfl | rfl | rfl
            · exact .str _ (by decide +kernel)
            · exact hx3 _ (List.getElem_mem _)
            · exact tva
          · exact ⟨_, rfl, k _ _ ((tva.same s0).upN (by omega)) (lo3.same s0) (u03.trans (.of s0))⟩
        · refine ⟨_, rfl, _, rfl, _, rfl, sl_go (s0 _ _ e5) fun b1 K1 s1 eb1 => ?_⟩
          refine ⟨_, rfl, lp 1 (by decide), fun t5 nt5 => ?_⟩
          have s2 := grow (o := .tup [o]) nt5
          refine cat_go (s2 _ _ eb1) upd_same ?_ fun b2 K2 s3 eb2 => ?_
          · have := lc none (some (sp : Int))
            have := lp 9 (by decide)
            rw [List.length_singleton]
            omega
          have s13 := ((s0.trans s1).trans s2).trans s3
          refine ⟨_, rfl, _, rfl, _, _, rfl, rfl, _, rfl, ?_⟩
          unfold tNoPart
          refine sl_go (s13 _ _ e5) fun b3 K3 s4 eb3 => ?_
          refine cat_go (s4 _ _ eb2) eb3 ?_ fun c K4 s5 ec => fin c _ K4 ((s13.trans s4).trans s5) ec ?_ fun y hy => ?_
          · have := lc none (some (sp : Int))
            have := lc (some ((sp : Int) + 1)) none
            have := lp 17 (by decide)
            rw [List.length_append, List.length_singleton]
            omega
          · have := lc none (some (sp : Int))
            have := lc (some ((sp : Int) + 1)) none
            rw [List.length_append, List.length_append, List.length_singleton]
            omega
          · rcases List.mem_append.mp hy with hy | hy
            · rcases List.mem_append.mp hy with hy | hy
              · exact hx3 y (mem_cut hy)
              · rw [List.mem_singleton] at hy
                rw [hy]
                exact to3
            · exact hx3 y (mem_cut hy)
    · have s0 : Same H3 H3 := Same.refl H3
      refine ⟨_, rfl, rfl, _, rfl, ite2 (fun _ => ?_) (fun _ => ?_)⟩
      · refine ⟨_, rfl, a, xs, rfl, .inr (SqT.of (s0 _ _ e5)), _, _, rfl, rfl, _, rfl, ite2 (fun c => ?_) (fun _ => ?_)⟩
        · have c2 := of_decide_eq_true c
          have l1 : 1 < xs.length := by omega
          refine ⟨_, rfl, a, xs, 1, xs[1], rfl, rfl, SqT.of (s0 _ _ e5), atI_nat (j := 1) (List.getElem?_eq_getElem l1), _, rfl, lp 3 (by decide), fun t6 nt6 => fin t6 _ _ (s0.trans (grow nt6)) upd_same (by simp) fun y hy => ?_⟩
          simp only [List.mem_cons, List.not_mem_nil, or_false] at hy
          rcases hy with rfl | rfl | rfl
          · exact .str _ (by decide +kernel)
          · exact hx3 _ (List.getElem_mem _)
          · exact tva
        · exact ⟨_, rfl, k _ _ ((tva.same s0).upN (by omega)) (lo3.same s0) (u03.trans (.of s0))⟩
      · refine ⟨_, rfl, _, rfl, _, rfl, sl_go (s0 _ _ e5) fun b1 K1 s1 eb1 => ?_⟩
        refine ⟨_, rfl, lp 1 (by decide), fun t5 nt5 => ?_⟩
        have s2 := grow (o := .tup [o]) nt5
        refine cat_go (s2 _ _ eb1) upd_same ?_ fun b2 K2 s3 eb2 => ?_
        · have := lc none (some (sp : Int))
          have := lp 9 (by decide)
          rw [List.length_singleton]
          omega
        have s13 := ((s0.trans s1).trans s2).trans s3
        refine ⟨_, rfl, _, rfl, _, _, rfl, rfl, _, rfl, ?_⟩
        unfold tNoPart
        refine sl_go (s13 _ _ e5) fun b3 K3 s4 eb3 => ?_
        refine cat_go (s4 _ _ eb2) eb3 ?_ fun c K4 s5 ec => fin c _ K4 ((s13.trans s4).trans s5) ec ?_ fun y hy => ?_
        · have := lc none (some (sp : Int))
          have := lc (some ((sp : Int) + 1)) none
          have := lp 17 (by decide)
          rw [List.length_append, List.length_singleton]
          omega
        · have := lc none (some (sp : Int))
          have := lc (some ((sp : Int) + 1)) none
          rw [List.length_append, List.length_append, List.length_singleton]
          omega
        · rcases List.mem_append.mp hy with hy | hy
          · rcases List.mem_append.mp hy with hy | hy
            · exact hx3 y (mem_cut hy)
            · rw [List.mem_singleton] at hy
              rw [hy]
              exact to3
          · exact hx3 y (mem_cut hy)
theorem ok_bent {f fT fP : Addr} {fd fdT fdP : FuncData} (F : Fun K "_law_bent" "_law_bent" tBent f fd) (T : Bl mg) (bF : Binds K fd ["_law_loom_here", "_law_value"] []) (gF : mg "_law_bent" = some (.ref f))
    (GT : FnOk P w K mg base CX0 1 fT fdT ["_law_loom_here", "_law_total"] spTurn) (kT : PySem.W.keepIn K (.ref fT) = true) (bT : Binds K fdT ["_law_loom_here", "_law_total"] []) (gT : mg "_law_turn" = some (.ref fT))
    (GP : FnOk P w K mg base CX0 2 fP fdP ["_law_loom_here", "_law_items"] spPick) (kP : PySem.W.keepIn K (.ref fP) = true) (bP : Binds K fdP ["_law_loom_here", "_law_items"] []) (gP : mg "_law_pick" = some (.ref fP)) :
    ∀ n, FnOk P w K mg base CX0 (2 + n + 1) f fd ["_law_loom_here", "_law_value"] (spBent n)
  | 0 => step_bent F T bF gF GT kT bT gT GP kP bP gP (fnok_false (j := 2 + 0)) fun q h => absurd h.symm (Nat.succ_ne_zero q)
  | n + 1 => step_bent F T bF gF GT kT bT gT GP kP bP gP (ok_bent F T bF gF GT kT bT gT GP kP bP gP n) fun q h => by
      obtain rfl : n = q := Nat.succ.inj h
      rfl
end
end K1
namespace K1
open PySem L2
open L2.My
theorem fold_le {n : Nat} : ∀ {xs : List Nat}, (∀ x ∈ xs, x ≤ n) → xs.foldr max 0 ≤ n
  | [], _ => Nat.zero_le _
  | x :: xs, h => by
    rw [List.foldr_cons]
    exact Nat.max_le.mpr ⟨h x (List.mem_cons_self ..), fold_le fun y hy => h y (List.mem_cons_of_mem _ hy)⟩
theorem count_le {H : Hp} : ∀ {n : Nat} {v : V}, countN H n v ≤ n
  | 0, _ => Nat.le_refl _
  | n + 1, v => by
    have h : ((kids H v).map (countN H n)).foldr max 0 ≤ n := fold_le fun x hx => by
      obtain ⟨u, _, rfl⟩ := List.mem_map.mp hx
      exact count_le
    simp only [countN]
    omega
theorem work_le {H : Hp} {n : Nat} {v : V} (h : treeB H n v = true) : workN H n v ≤ 4 ^ n := by
  rw [← walk_work (l := 0) h]
  exact Nat.le_trans (List.length_filter_le _ _) (walk_len h)
def okd (d : PyData) : Bool := d.showable && (!d.hasDict && (decide (d.depth ≤ 64) && decide (d.shown.length ≤ 1000)))
theorem okd_of {d : PyData} (h : okd d = true) : d.showable = true ∧ d.hasDict = false ∧ d.depth ≤ 64 ∧ d.shown.length ≤ sizeLine := by
  unfold okd at h
  simp only [Bool.and_eq_true, Bool.not_eq_true', decide_eq_true_eq] at h
  exact ⟨h.1, h.2.1, h.2.2.1, Nat.le_trans h.2.2.2 (by decide)⟩
theorem okd_ints : ((List.range 5).all fun c => (List.range 257).all fun w => okd (.list [.int (c : Int), .int (w : Int)])) = true := by decide +kernel
theorem okd_two {c w : Nat} (hc : c ≤ 4) (hw : w ≤ 256) : okd (.list [.int (c : Int), .int (w : Int)]) = true := by
  have h := okd_ints
  rw [List.all_eq_true] at h
  have h1 := h c (List.mem_range.mpr (by omega))
  rw [List.all_eq_true] at h1
  exact h1 w (List.mem_range.mpr (by omega))
theorem okd_tree : okd (.list [.str "tree", .str "tree"]) = true := by decide +kernel
theorem okd_bool (b : Bool) : okd (.bool b) = true := by cases b <;> decide +kernel
/-- all but the list at p and the tables is as it was -/
def ButN (p : Addr) (H H' : Hp) : Prop := ∀ q, q ≠ p → ∀ o, H q = some o → (∀ ps, o ≠ .tbl ps) → H' q = some o
theorem ButN.of {p : Addr} {H H' : Hp} (u : But p H H') : ButN p H H' := fun q hq o e _ => u q hq o e
theorem ButN.ext {p : Addr} {H H' : Hp} (u : LamX.ExtN H H') : ButN p H H' := fun q _ o e n => u q o e n
theorem ButN.trans {p : Addr} {H H1 H2 : Hp} (a : ButN p H H1) (b : ButN p H1 H2) : ButN p H H2 := fun q hq o e n => b q hq o (a q hq o e n) n
theorem Kp.ext {H H' : Hp} (u : LamX.ExtN H H') : Kp H H' := ⟨fun a xs e => u a _ e (fun ps z => by cases z), fun a ⟨xs, e⟩ => ⟨xs, u a _ e (fun ps z => by cases z)⟩, fun a kvs e => u a _ e (fun ps z => by cases z)⟩
theorem Loom.ext {H H' : Hp} {p : Addr} (l : Loom H p) (u : LamX.ExtN H H') : Loom H' p := by
  obtain ⟨a, b, c, e, r⟩ := l
  exact ⟨a, b, c, u _ _ e (fun ps z => by cases z), r⟩
theorem tabs_but {T : List (Addr × Str)} {H H' : Hp} {p : Addr} (t : LamX.Tabs T H) (u : But p H H') (l : IsL H p) : LamX.Tabs T H' := by
  obtain ⟨ys, ep⟩ := l
  intro x hx
  obtain ⟨ps, h1, h2, h3⟩ := t x hx
  refine ⟨ps, u _ (fun z => by rw [z, ep] at h1; cases h1) _ h1, h2, fun pos cv hc => ?_⟩
  obtain ⟨c, e1, e2⟩ := h3 pos cv hc
  refine ⟨c, e1, u _ (fun z => ?_) _ e2⟩
  rw [z, ep] at e2
  have e3 := Option.some.inj e2
  unfold LamX.CodeO at e3
  cases e3
theorem fnok_ex {P : Program} {w : World} {K : PySem.W.Frag} {mg : Str → Option Value} {base : Heap} {f : Addr} {fd : FuncData} {ps : List Str} {k : Nat} {kk : Nat → Nat} {sp : Nat → Sp} {m : Nat} (F : ∀ n, FnOk P w K mg base CX0 (kk n) f fd ps (sp n)) (h : ∀ n, n ≤ m → kk n ≤ k) :
    FnOk P w K mg base CX0 k f fd ps fun vs H Q E => ∃ n, n ≤ m ∧ sp n vs H Q E := by
  refine ⟨fun vs H Q E ⟨n, _, q⟩ => (F n).len vs H Q E q, fun A outer s H args us vs Q E hr e0 hb r ⟨n, hn, q⟩ => ?_⟩
  exact (F n).run A outer s H args us vs Q E (hr.mono (h n hn)) e0 hb r q
section
variable {P : Program} {w : World} {K : PySem.W.Frag} {mg : Str → Option Value} {base : Heap}
/-- a def whose code object is known -/
structure FunC (K : PySem.W.Frag) (x : Str) (st : Stmt) (f : Addr) (fd : FuncData) (c : Addr) : Prop where
  ex : ∃ (oc : Value) (od : Option Addr) (kV doc pm : Value) (an : Option Addr) (ct : Value) (osl : Array (Option Value)),
    fd = PySem.W.fnOf x x (defArgs st) (defBody st) (defScope st) .none kV doc pm an (.ref c) ct ∧ K.lookup f = some ⟨oc, od, .func fd, osl⟩ ∧ PySem.W.codeIn K (.ref c) x = true
  kp : PySem.W.keepIn K (.ref f) = true
theorem FunC.okG {x : Str} {st : Stmt} {f c : Addr} {fd : FuncData} {N ps : List Str} {k : Nat} {sp : Sp} (F : FunC K x st f fd c) (S : FnScope N ps (defScope st)) (len : ∀ vs H Q E, sp vs H Q E → vs.length = ps.length)
    (hbody : ∀ (A : Around) (outer : List Env) (s : Shared) (H : Hp) (vs : List V) (Q : VK) (E : XK), Room k (A.deeper (PyProof.Rows.envOfC x (defScope st) s.heap.objs.size f (.ref c))) → A.guards = some [] → sp vs H Q E →
      ∃ t, PSs (cxOf CX0 P w K mg base N x (defScope st) f (.ref c) A outer s H E).nox (defBody st) t ∧ t { nx := fun _ H' => Q .non H', rt := Q } (start N vs) H) : FnG P w K mg base (k + 1) f fd ps sp := by
  obtain ⟨oc, od, kV, doc, pm, an, ct, osl, rfl, lk, hcd⟩ := F.ex
  refine ⟨len, fun A outer s H args us vs Q E hr hg e0 hb r h => ?_⟩
  refine LamX.run_ofS lk hcd S hr e0 hb r (len _ _ _ _ h) fun hr' => ?_
  obtain ⟨t, ht, q⟩ := hbody A outer s H vs Q E hr' hg h
  exact ⟨t, ht.nox, q⟩
theorem FunC.fn {x : Str} {st : Stmt} {f c : Addr} {fd : FuncData} (F : FunC K x st f fd c) : Fun K x x st f fd := by
  obtain ⟨oc, od, kV, doc, pm, an, ct, osl, h⟩ := F.ex
  exact ⟨⟨oc, od, kV, doc, pm, an, _, ct, osl, h⟩, F.kp⟩
theorem scWord : FnScope ["_law_call"] ["_law_call"] (defScope tWord) := ⟨rfl, rfl, rfl, by decide +kernel, rfl, by decide +kernel, by decide +kernel⟩
end
end K1
namespace K1
open PySem L2
open L2.My
structure Dn (P : Program) (w : World) (K : PySem.W.Frag) (mg : Str → Option Value) (base : Heap) (CX : CXT) (x : Str) (ps : List Str) (k : Nat) (sp : Sp) (f : Addr) (fd : FuncData) : Prop where
  G : FnOk P w K mg base CX k f fd ps sp
  kp : PySem.W.keepIn K (.ref f) = true
  b : Binds K fd ps []
  g : mg x = some (.ref f)
theorem stateB_kp {H H' : Hp} {N m : Nat} {v : V} (s : Kp H H') (t : Tv H N m v) : stateB H' v = stateB H v := by
  have tr : ∀ {u : V}, Tv H N m u → tree4 H' u = tree4 H u := fun t => treeB_kp s t
  unfold stateB
  rw [tupV_kp t s]
  cases t with
  | @tup n a xs e l h =>
    rw [tupV_of e]
    have hx : ∀ x ∈ xs, Tv H N (n + 1) x := fun x hx => (h x hx).up
    match xs, hx with
    | [], _ => rfl
    | [_], _ => rfl
    | [_, _], _ => rfl
    | hd :: nm :: r :: rs, hx =>
      have e1 : setB H' (r :: rs) = setB H (r :: rs) := by
        match rs, hx with
        | [], hx =>
          show (tree4 H' r && !headAt H' r) = (tree4 H r && !headAt H r)
          rw [tr (hx r (by simp)), headAt_kp s (hx r (by simp))]
        | _ :: _, _ => rfl
      have e2 : storeB H' (r :: rs) = storeB H (r :: rs) := by
        match rs, hx with
        | [], _ => rfl
        | [_], _ => rfl
        | [_, _], _ => rfl
        | [sv, ov, tv], hx =>
          show (nameB r && (integB sv && (!isZero sv && (integB ov && tree4 H' tv)))) = (nameB r && (integB sv && (!isZero sv && (integB ov && tree4 H tv))))
          rw [tr (hx tv (by simp))]
        | _ :: _ :: _ :: _ :: _, _ => rfl
      show bodyB H' (hd :: nm :: r :: rs) = bodyB H (hd :: nm :: r :: rs)
      simp only [bodyB]
      rw [e1, e2]
  | lst e => simp only [tupV, e]
  | dct e => simp only [tupV, e]
  | _ => rfl
theorem extn_put {G H1 H2 : Hp} {D : Addr} {o : HO} (a : LamX.ExtN G H1) (n : H1 D = none) (b : LamX.ExtN H1 H2) : LamX.ExtN G (upd H2 D o) := fun q u e t => by
  have e1 := a q u e t
  rw [upd_ne (ne_of_none e1 n)]
  exact b q u e1 t
theorem tp_of {H : Hp} {n : Nat} {a : Addr} {xs : List V} (e : H a = some (.tup xs)) (ne : xs ≠ []) (l : xs.length ≤ 8) (h : ∀ x ∈ xs, Tv H 8 n x) : Tp H n (.ref a) := ⟨a, xs, rfl, e, ne, l, h⟩
def lamQ : Str := (PyProof.Rows.envOfC "_law_cell_right" (defScope tCell) 0 0 .none).qual ++ "<lambda>"
section
variable {P : Program} {w : World} {K : PySem.W.Frag} {mg : Str → Option Value} {base : Heap}
abbrev M9 : Nat := 9
def spAny (m : Nat) (sp : Nat → Sp) : Sp := fun vs H Q E => ∃ n, n ≤ m ∧ sp n vs H Q E
def spRight (T : List (Addr × Str)) : Sp := fun vs H Q _ => ∃ p : Addr, vs = [.ref p] ∧ Loom H p ∧ LamX.Tabs T H ∧ ∀ H', Loom H' p → ButN p H H' → LamX.Tabs T H' → Q (.bl true) H'
theorem scCell : FnScope ["_law_loom_here", "_law_deep", "_law_arrays", "_law_tree_here", "_law_place_here", "_law_rows", "_law_some", "_law_one", "_law_told", "_law_due", "_law_value", "_law_turn_here"] ["_law_loom_here"] (defScope tCell) := ⟨rfl, rfl, rfl, by decide +kernel, rfl, by decide +kernel, by decide +kernel⟩
theorem ok_cell {CI PT f c : Addr} {fd : FuncData} (F : FunC K "_law_cell_right" tCell f fd c) (TB : LamX.TabB base mg c PT) (T : Bl mg) (hrp : mg "repr" = none) (R : Errs K mg CI) (eII : PySem.W.exmOne K (.ref CI) (.ref CI) = some true)
    {fT fG fP fB fI fI2 fS fS2 fL fN fC fW fX : Addr} {fdT fdG fdP fdB fdI fdI2 fdS fdS2 fdL fdN fdC fdW fdX : FuncData}
    (dT : Dn P w K mg base CX0 "_law_turn" ["_law_loom_here", "_law_total"] 1 spTurn fT fdT)
    (dG : Dn P w K mg base CX0 "_law_tree" ["_law_loom_here", "_law_deep", "_law_known", "_law_sets", "_law_arrays"] 9 (spAny 4 fun n => spGrow (n + 1)) fG fdG)
    (dP : Dn P w K mg base CX0 "_law_place" ["_law_loom_here"] 3 spPlace fP fdP)
    (dB : Dn P w K mg base CX0 "_law_bent" ["_law_loom_here", "_law_value"] 10 (spAny 7 spBent) fB fdB)
    (dI : Dn P w K mg base CX0 "is_tree" ["value"] 9 (spB 20 M9 tree4) fI fdI)
    (dI2 : Dn P w K mg base CX0 "_law_is_tree" ["_law_value", "_law_most"] 8 (spWithin 20 M9 4) fI2 fdI2)
    (dS : Dn P w K mg base CX0 "is_statement" ["value"] 10 (spB 20 M9 stateB) fS fdS)
    (dS2 : Dn P w K mg base CX0 "_law_is_statement" ["_law_value"] 9 (spB 20 M9 stateB) fS2 fdS2)
    (dL : Dn P w K mg base (L2.CX P w) "levels" ["tree"] 11 (spTold 20 M9 CI countN) fL fdL)
    (dN : Dn P w K mg base (L2.CX P w) "nodes" ["tree"] 11 (spTold 20 M9 CI workN) fN fdN)
    (dC : Dn P w K mg base CX0 "_law_count" ["_law_tree_here"] 4 (spN 20 M9 4 countN) fC fdC)
    (dW : Dn P w K mg base CX0 "_law_working" ["_law_tree_here"] 4 (spN 20 M9 4 workN) fW fdW)
    (FX : Fun K "_law_word" "_law_word" tWord fX fdX) (gX : mg "_law_word" = some (.ref fX)) (bX : Binds K fdX ["_law_call"] []) :
    FnG P w K mg base 14 f fd ["_law_loom_here"] (spRight [(PT, lamQ)]) := by
  obtain ⟨ocX, odX, kVX, docX, pmX, anX, cdvX, ctX, oslX, rfl, lkX, hcdX⟩ := FX.ex
  refine F.okG scCell (fun vs H Q E h => ?_) (fun A outer s H vs Q E hr gd h => ?_)
  · obtain ⟨p, rfl, _⟩ := h
    rfl
  · obtain ⟨p, rfl, lo, tb, k⟩ := h
    have hr1 : Room 1 _ := hr.mono (by decide : 1 ≤ 13)
    have hr3 : Room 3 _ := hr.mono (by decide : 3 ≤ 13)
    have hr4 : Room 4 _ := hr.mono (by decide : 4 ≤ 13)
    have hr8 : Room 8 _ := hr.mono (by decide : 8 ≤ 13)
    have hr9 : Room 9 _ := hr.mono (by decide : 9 ≤ 13)
    have hr10 : Room 10 _ := hr.mono (by decide : 10 ≤ 13)
    have hu : (A.deeper (PyProof.Rows.envOfC "_law_cell_right" (defScope tCell) s.heap.objs.size f (.ref c))).units + 70 < cLine := by
      have := hr.un
      omega
    have rp : ∀ {X : Cx}, X.A.guards = some [] → X.A.units + 70 < cLine → CallR X (.builtin "repr") (rRepr X.K) := fun g u => call_repr g u
    have lamL : ∀ {X : Cx}, True := trivial
    refine ⟨_, (pss_cons (ps_par (i := 1) (j := 2) rfl scCell.nd rfl rfl (by decide) rfl rfl (pa_cons (pe_op op_add pe_int (pe_call dT.G hr1 rfl dT.g dT.kp dT.b .nil pass0 (pa_cons (pv 0) (pa_cons pe_int pa_nil)))) (pa_cons (pe_lst (pa_cons pe_str (pa_cons pe_str (pa_cons pe_str pa_nil)))) pa_nil)) (by rfl))
      (pss_cons (ps_set (i := 3) scCell.nd rfl (.inl rfl) (pe_call dG.G hr9 rfl dG.g dG.kp dG.b .nil pass0 (pa_cons (pv 0) (pa_cons (pv 1) (pa_cons (pe_lst (pa_cons pe_str pa_nil)) (pa_cons (pe_lst (pa_cons pe_str (pa_cons pe_str pa_nil))) (pa_cons (pv 2) pa_nil)))))))
      (pss_cons (ps_set (i := 4) scCell.nd rfl (.inl rfl) (pe_call dP.G hr3 rfl dP.g dP.kp dP.b .nil pass0 (pa_cons (pv 0) pa_nil)))
      (pss_cons (ps_set (i := 5) scCell.nd rfl (.inl rfl) (pe_lst (pa_cons (pv 3) (pa_cons (pe_tup (pa_cons pe_str (pa_cons pe_str (pa_cons (pv 3) pa_nil)))) (pa_cons (pe_tup (pa_cons pe_str (pa_cons pe_str (pa_cons pe_str (pa_cons (pe_ix ix_tup (pv 4) pe_int (fun _ _ => rfl)) (pa_cons (pe_ix ix_tup (pv 4) pe_int (fun _ _ => rfl)) (pa_cons (pv 3) pa_nil))))))) (pa_cons (pe_tup (pa_cons pe_str (pa_cons pe_str (pa_cons (pv 3) pa_nil)))) pa_nil))))))
      (pss_cons (ps_set (i := 6) scCell.nd rfl (.inl rfl) (pe_callTy call_list_of (by rfl) T.list (by decide +kernel) (pa_cons (pv 5) pa_nil)))
      (pss_cons (ps_for PassesOwn.never rfl (pi_list (pv 5)) (pg_name (i := 7) scCell.nd rfl (.inr rfl)) (pss_one (ps_set (i := 6) scCell.nd rfl (.inl rfl) (pe_op op_cat (pv 6) (pe_lc (own := [("_law_turn_here", 11)]) (g := gName 11) (tt := tYes) (by rfl) scCell.nd (pi_range1 rfl T.range (pa_cons pe_int pa_nil)) (blkOk_by (own := [("_law_turn_here", 11)]) (N := ["_law_loom_here", "_law_deep", "_law_arrays", "_law_tree_here", "_law_place_here", "_law_rows", "_law_some", "_law_one", "_law_told", "_law_due", "_law_value", "_law_turn_here"]) (sc := defScope tCell) (by decide +kernel)) (fun _ _ _ _ _ => pg_name (i := 11) scCell.nd rfl (Or.inl rfl)) (fun _ _ _ _ _ => pts_nil) (fun _ _ _ _ _ => (pe_call dB.G hr10 rfl dB.g dB.kp dB.b .nil pass0 (pa_cons (pv 0) (pa_cons (pv 7) pa_nil)))))))))
      (pss_cons (ps_for PassesOwn.never rfl (pi_list (pv 6)) (pg_name (i := 10) scCell.nd rfl (.inr rfl))
      (pss_cons (ps_if (pt_cmpR op_ne (pe_callB (call_repr gd hu) (by rfl) hrp (by decide +kernel) (pa_cons (pe_call dI.G hr9 rfl dI.g dI.kp dI.b .nil pass0 (pa_cons (pv 10) pa_nil)) pa_nil)) (pe_callB (call_repr gd hu) (by rfl) hrp (by decide +kernel) (pa_cons (pe_call dI2.G hr8 rfl dI2.g dI2.kp dI2.b .nil pass0 (pa_cons (pv 10) (pa_cons pe_int pa_nil))) pa_nil)) (nomark _)) (pss_one (ps_ret pe_bl)) pss_nil)
      (pss_cons (ps_if (pt_cmpR op_ne (pe_callB (call_repr gd hu) (by rfl) hrp (by decide +kernel) (pa_cons (pe_call dS.G hr10 rfl dS.g dS.kp dS.b .nil pass0 (pa_cons (pv 10) pa_nil)) pa_nil)) (pe_callB (call_repr gd hu) (by rfl) hrp (by decide +kernel) (pa_cons (pe_call dS2.G hr9 rfl dS2.g dS2.kp dS2.b .nil pass0 (pa_cons (pv 10) pa_nil)) pa_nil)) (nomark _)) (pss_one (ps_ret pe_bl)) pss_nil)
      (pss_cons (ps_set (i := 8) scCell.nd rfl (.inl rfl) (pe_lst (pa_cons (LamX.pe_lamcall (T := [(PT, lamQ)]) (k := 11) (a := "_law_call") (Ng := ["_law_call"]) rfl gX FX.kp lkX hcdX bX scWord rfl (.inl rfl) (LamX.told_gives (ret := "tree") (CS := CI) rfl R.gI (by decide) (fun _ => rfl)) TB rfl (List.mem_singleton.mpr rfl) (fun p hp _ => by rw [List.mem_singleton] at hp; rw [hp]; rfl) hr (LamX.lamS_by (show LamX.lamSB (defScope tCell) _ = true by decide +kernel)) (by rfl) (fun _ _ _ _ _ => by rfl) (fun A2 outer2 s2 H2 E2 f2 c2 hr2 => pe_callS dL.G hr2 rfl dL.g dL.kp dL.b (fun σ => passAt (takes_of rfl rfl rfl rfl) σ) (pa_cons (pv 10) pa_nil))) pa_nil)))
      (pss_cons (ps_expr (pe_bm PySem.F.plainAttrs_list PySem.F.slot_list_append PySem.F.type_list_append mt_append (pv 8) (pa_cons (LamX.pe_lamcall (T := [(PT, lamQ)]) (k := 11) (a := "_law_call") (Ng := ["_law_call"]) rfl gX FX.kp lkX hcdX bX scWord rfl (.inl rfl) (LamX.told_gives (ret := "tree") (CS := CI) rfl R.gI (by decide) (fun _ => rfl)) TB rfl (List.mem_singleton.mpr rfl) (fun p hp _ => by rw [List.mem_singleton] at hp; rw [hp]; rfl) hr (LamX.lamS_by (show LamX.lamSB (defScope tCell) _ = true by decide +kernel)) (by rfl) (fun _ _ _ _ _ => by rfl) (fun A2 outer2 s2 H2 E2 f2 c2 hr2 => pe_callS dN.G hr2 rfl dN.g dN.kp dN.b (fun σ => passAt (takes_of rfl rfl rfl rfl) σ) (pa_cons (pv 10) pa_nil))) pa_nil)))
      (pss_cons (ps_set (i := 9) scCell.nd rfl (.inl rfl) (pe_ifExp (pt_val (pe_call dI2.G hr8 rfl dI2.g dI2.kp dI2.b .nil pass0 (pa_cons (pv 10) (pa_cons pe_int pa_nil)))) (pe_lst (pa_cons (pe_call dC.G hr4 rfl dC.g dC.kp dC.b .nil pass0 (pa_cons (pv 10) pa_nil)) (pa_cons (pe_call dW.G hr4 rfl dW.g dW.kp dW.b .nil pass0 (pa_cons (pv 10) pa_nil)) pa_nil))) (pe_lst (pa_cons pe_str (pa_cons pe_str pa_nil)))))
      (pss_one (ps_if (pt_cmpR op_ne (pe_callB (call_repr gd hu) (by rfl) hrp (by decide +kernel) (pa_cons (pv 8) pa_nil)) (pe_callB (call_repr gd hu) (by rfl) hrp (by decide +kernel) (pa_cons (pv 9) pa_nil)) (nomark _)) (pss_one (ps_ret pe_bl)) pss_nil))))))))
      (pss_one (ps_ret pe_bl))))))))), ?_⟩
    have lp : ∀ n : Nat, n ≤ 20 → n ≤ sizeLine := fun n h => Nat.le_trans h (by decide)
    refine ⟨_, rfl, p, 5, rfl, by decide, by decide, lo, fun r H1 r0 r1 lo1 u1 => ?_⟩
    obtain ⟨n, rfl⟩ := Int.eq_ofNat_of_zero_le r0
    have n4 : n ≤ 4 := by omega
    refine ⟨_, _, rfl, rfl, lp 3 (by decide), fun ar nar => ?_⟩
    have sar : Same H1 (upd H1 ar (.lst [.str "x", .str "zzzzzzzz", .str "in"])) := grow nar
    have ear : (upd H1 ar (.lst [.str "x", .str "zzzzzzzz", .str "in"])) ar = some (.lst [.str "x", .str "zzzzzzzz", .str "in"]) := upd_same
    revert sar ear
    generalize upd H1 ar (.lst [.str "x", .str "zzzzzzzz", .str "in"]) = H2
    intro sar ear
    refine ⟨_, _, rfl, ?_⟩
    refine ⟨_, rfl, _, rfl, lp 1 (by decide), fun kn nkn => ?_⟩
    have skn : Same H2 (upd H2 kn (.lst [.str "a"])) := grow nkn
    have ekn : (upd H2 kn (.lst [.str "a"])) kn = some (.lst [.str "a"]) := upd_same
    revert skn ekn
    generalize upd H2 kn (.lst [.str "a"]) = H3
    intro skn ekn
    refine ⟨lp 2 (by decide), fun st nst => ?_⟩
    have sst : Same H3 (upd H3 st (.lst [.str "a", .str "sum"])) := grow nst
    have est : (upd H3 st (.lst [.str "a", .str "sum"])) st = some (.lst [.str "a", .str "sum"]) := upd_same
    revert sst est
    generalize upd H3 st (.lst [.str "a", .str "sum"]) = H4
    intro sst est
    have lo2 := lo1.same sar
    have lo3 := lo2.same skn
    have lo4 := lo3.same sst
    have u4 : But p H H4 := ((u1.trans (.of sar)).trans (.of skn)).trans (.of sst)
    have ls : Ls H4 p kn st ar := ⟨sst _ _ ekn, est, sst _ _ (skn _ _ ear), lo2.ne nkn, lo3.ne nst, lo1.ne nar⟩
    refine ⟨_, rfl, n, n4, p, kn, st, ar, ?_, lo4, ls, fun v H5 tv lo5 u5 => ?_⟩
    · have z1 : (1 : Int) + (n : Int) = ((n + 1 : Nat) : Int) := by omega
      show [V.ref p, V.int (1 + (n : Int)), V.ref kn, V.ref st, V.ref ar] = _
      rw [z1]
    refine ⟨_, rfl, p, rfl, lo5, fun pl x y H6 epl hx hy lo6 u6 => ?_⟩
    have tv6 := tv.kp (lo5.kp lo6 u6)
    have u06 := (u4.trans u5).trans u6
    refine ⟨_, rfl, _, rfl, lp 3 (by decide), fun q1 nq1 => ?_⟩
    have sq1 : Same H6 (upd H6 q1 (.tup [.str "set", .str "s", v])) := grow nq1
    have eq1 : (upd H6 q1 (.tup [.str "set", .str "s", v])) q1 = some (.tup [.str "set", .str "s", v]) := upd_same
    revert sq1 eq1
    generalize upd H6 q1 (.tup [.str "set", .str "s", v]) = H7
    intro sq1 eq1
    refine ⟨_, rfl, pl, _, 0, x, rfl, rfl, SqT.of (sq1 _ _ epl), atI_nat (j := 0) rfl, _, rfl, pl, _, 1, y, rfl, rfl, SqT.of (sq1 _ _ epl), atI_nat (j := 1) rfl, _, rfl, lp 6 (by decide), fun q2 nq2 => ?_⟩
    have sq2 : Same H7 (upd H7 q2 (.tup [.str "store", .str "s", .str "x", x, y, v])) := grow nq2
    have eq2 : (upd H7 q2 (.tup [.str "store", .str "s", .str "x", x, y, v])) q2 = some (.tup [.str "store", .str "s", .str "x", x, y, v]) := upd_same
    revert sq2 eq2
    generalize upd H7 q2 (.tup [.str "store", .str "s", .str "x", x, y, v]) = H8
    intro sq2 eq2
    refine ⟨_, rfl, lp 3 (by decide), fun q3 nq3 => ?_⟩
    have sq3 : Same H8 (upd H8 q3 (.tup [.str "op", .str "deep", v])) := grow nq3
    have eq3 : (upd H8 q3 (.tup [.str "op", .str "deep", v])) q3 = some (.tup [.str "op", .str "deep", v]) := upd_same
    revert sq3 eq3
    generalize upd H8 q3 (.tup [.str "op", .str "deep", v]) = H9
    intro sq3 eq3
    refine ⟨lp 4 (by decide), fun R nR => ?_⟩
    have sR : Same H9 (upd H9 R (.lst [v, .ref q1, .ref q2, .ref q3])) := grow nR
    have eR : (upd H9 R (.lst [v, .ref q1, .ref q2, .ref q3])) R = some (.lst [v, .ref q1, .ref q2, .ref q3]) := upd_same
    revert sR eR
    generalize upd H9 R (.lst [v, .ref q1, .ref q2, .ref q3]) = G
    intro sR eR
    have sG : Same H6 G := ((sq1.trans sq2).trans sq3).trans sR
    have loG := lo6.same sG
    have uG : But p H G := u06.trans (.of sG)
    have hs : ∀ z : String, (z : Str).length ≤ 100 → ∀ {m : Nat}, Tv G 8 m (.str z) := fun z h m => .str _ h
    have tvG : Tv G 8 6 v := ((tv6.kp (.of sG)).tv).upN (by omega)
    have rowsT : ∀ z ∈ [v, V.ref q1, .ref q2, .ref q3], Tp G 6 z := by
      intro z hz
      simp only [List.mem_cons, List.not_mem_nil, or_false] at hz
      rcases hz with rfl | rfl | rfl | rfl
      · exact (tv6.kp (.of sG)).upN (by omega)
      · refine tp_of (sR _ _ (sq3 _ _ (sq2 _ _ eq1))) (by simp) (by simp) fun w hw => ?_
        simp only [List.mem_cons, List.not_mem_nil, or_false] at hw
        rcases hw with rfl | rfl | rfl
        · exact .str _ (by decide +kernel)
        · exact .str _ (by decide +kernel)
        · exact tvG
      · refine tp_of (sR _ _ (sq3 _ _ eq2)) (by simp) (by simp) fun w hw => ?_
        simp only [List.mem_cons, List.not_mem_nil, or_false] at hw
        rcases hw with rfl | rfl | rfl | rfl | rfl | rfl
        · exact .str _ (by decide +kernel)
        · exact .str _ (by decide +kernel)
        · exact .str _ (by decide +kernel)
        · exact hx.tv
        · exact hy.tv
        · exact tvG
      · refine tp_of (sR _ _ eq3) (by simp) (by simp) fun w hw => ?_
        simp only [List.mem_cons, List.not_mem_nil, or_false] at hw
        rcases hw with rfl | rfl | rfl
        · exact .str _ (by decide +kernel)
        · exact .str _ (by decide +kernel)
        · exact tvG
    have Rp : R ≠ p := by
      obtain ⟨_, _, _, ep, _⟩ := lo6.same ((sq1.trans sq2).trans sq3)
      exact (ne_of_none ep nR).symm
    refine ⟨_, rfl, R, _, rfl, .inl (SqL.of eR), fun S nS => ?_⟩
    have loS := loG.same (grow (o := .lst [v, .ref q1, .ref q2, .ref q3]) nS)
    have Sp : S ≠ p := loG.ne nS
    refine ⟨_, rfl, R, rfl, ⟨_, SqL.of ((grow nS) _ _ eR)⟩, for_list (xs := [v, .ref q1, .ref q2, .ref q3]) (fun i σ H' => ∃ o7 S xs, σ = [some (.ref p), some (.int (1 + (n : Int))), some (.ref ar), some v, some (.ref pl), some (.ref R), some (.ref S), o7, none, none, none, none] ∧
      Loom H' p ∧ But p G H' ∧ S ≠ p ∧ H' S = some (.lst xs) ∧ xs.length = 4 + 6 * i ∧ ∀ z ∈ xs, Tv H' 20 9 z)
      ⟨none, S, _, rfl, loS, .of (grow nS), Sp, upd_same, rfl, fun z hz => ((((rowsT z hz).tv).wide (by decide)).upN (by decide)).same (grow nS)⟩ (fun i σ H' _ ⟨_, _, _, _, _, u, _⟩ => SqL.of (u _ Rp _ eR)) ?_ ?_⟩
    · rintro i z σ K1 hz ⟨o7, S1, xs, rfl, k1, b1, Sp1, eS1, l1, t1⟩
      have mz := List.mem_of_getElem? hz
      have li : i < 4 := by
        obtain ⟨h, _⟩ := List.getElem?_eq_some_iff.mp hz
        simpa using h
      have tz : Tp K1 6 z := (rowsT z mz).kp (loG.kp k1 b1)
      refine ⟨_, rfl, 6, rfl, by decide, by decide, fun D hD => lc_it walk_range (fun j H' => Loom H' p ∧ But p K1 H' ∧ ∃ acc, H' D = some (.lst acc) ∧ acc.length = j ∧ ∀ x ∈ acc, Tv H' 20 9 x)
        ⟨k1.same (grow hD), .of (grow hD), [], upd_same, rfl, fun x hx => by cases hx⟩ (fun _ _ _ _ => trivial) ?_ ?_⟩
      · rintro j w K2 K3 hj ⟨k2, b2, acc, ed, la, ha⟩ ⟨rfl, rfl⟩
        have Dp : D ≠ p := k1.ne hD
        refine ⟨rfl, _, rfl, _, rfl, 6, by decide, p, z, rfl, k2, tz.kp (k1.kp k2 b2), fun w K4 tw k4 b4 => ?_⟩
        have ed4 := b4 D Dp _ ed
        refine ⟨acc, ed4, by rw [la]; exact Nat.lt_of_lt_of_le hj (lp 6 (by decide)), ?_, ?_, acc ++ [w], upd_same, by simp [la], fun x hx => ?_⟩
        · obtain ⟨a, b, c, ep, r⟩ := k4
          exact ⟨a, b, c, by rw [upd_ne Dp.symm]; exact ep, r⟩
        · intro q hq o eo
          rw [upd_ne (ne_of_none eo hD)]
          exact b4 q hq o (b2 q hq o eo)
        · have kpD : Kp K4 (upd K4 D (.lst (acc ++ [w]))) := .upd ed4
          rcases List.mem_append.mp hx with hx | hx
          · exact ((ha x hx).kp (k2.kp k4 b4)).kp kpD
          · rw [List.mem_singleton] at hx
            subst hx
            exact (tw.upN (by decide)).kp kpD
      · rintro K2 ⟨k2, b2, acc, ed, la, ha⟩
        have eS2 := b2 _ Sp1 _ eS1
        refine ⟨S1, D, xs, acc, rfl, rfl, eS2, ed, ?_, fun p2 np2 => ?_⟩
        · have : (1000 : Nat) ≤ sizeLine := by decide
          omega
        · refine ⟨_, p2, xs ++ acc, rfl, k2.same (grow np2), (b1.trans b2).trans (.of (grow np2)), k2.ne np2, upd_same, ?_, fun x hx => ?_⟩
          · rw [List.length_append]
            omega
          · rcases List.mem_append.mp hx with hx | hx
            · exact ((t1 x hx).kp (k1.kp k2 b2)).same (grow np2)
            · exact (ha x hx).same (grow np2)
    · rintro σ K1 ⟨o7, S1, xs, rfl, k1, b1, Sp1, eS1, l1, t1⟩
      have bH : But p H K1 := uG.trans b1
      have tb1 := tabs_but tb bH lo.isL
      refine ⟨_, rfl, S1, rfl, ⟨_, SqL.of eS1⟩, for_list (xs := xs) (fun i σ H' => ∃ o8 o9 o10, σ = [some (.ref p), some (.int (1 + (n : Int))), some (.ref ar), some v, some (.ref pl), some (.ref R), some (.ref S1), o7, o8, o9, o10, none] ∧ LamX.ExtN K1 H' ∧ LamX.Tabs [(PT, lamQ)] H')
        ⟨none, none, none, rfl, LamX.ExtN.refl K1, tb1⟩ (fun i σ H' _ ⟨_, _, _, _, u, _⟩ => SqL.of (u _ _ eS1 (fun ps z => by cases z))) ?_ ?_⟩
      · rintro i z σ L1 hz ⟨o8, o9, o10, rfl, n1, tb2⟩
        have tz : Tv L1 20 9 z := (t1 z (List.mem_of_getElem? hz)).kp (.ext n1)
        obtain ⟨a1, a2, a3, a4⟩ := okd_of (okd_bool (tree4 L1 z))
        refine ⟨_, rfl, z, rfl, tz, fun L2 s12 => ?_⟩
        refine ⟨_, .bool (tree4 L1 z), rfl, .bl _, a1, a2, a3, a4, ?_⟩
        refine ⟨_, rfl, z, rfl, tz.same s12, fun L3 s23 => ?_⟩
        rw [show treeB L2 4 z = tree4 L1 z from tree4_same s12 tz]
        refine ⟨_, .bool (tree4 L1 z), rfl, .bl _, a1, a2, a3, a4, rfl, _, rfl, iteNS rfl ?_⟩
        have s13 := s12.trans s23
        obtain ⟨a1, a2, a3, a4⟩ := okd_of (okd_bool (stateB L3 z))
        refine ⟨_, rfl, z, rfl, tz.same s13, fun L4 s34 => ?_⟩
        have s14 := s13.trans s34
        refine ⟨_, .bool (stateB L3 z), rfl, .bl _, a1, a2, a3, a4, ?_⟩
        refine ⟨_, rfl, z, rfl, tz.same s14, fun L5 s45 => ?_⟩
        rw [show stateB L4 z = stateB L3 z from stateB_kp (.of s34) (tz.same s13)]
        refine ⟨_, .bool (stateB L3 z), rfl, .bl _, a1, a2, a3, a4, rfl, _, rfl, iteNS rfl ?_⟩
        cases cb : tree4 L1 z with
        | false =>
          have hz5 : tree4 L5 z = false := by rw [tree4_same s45 (tz.same s14), tree4_same s14 tz, cb]
          have tz5 := (tz.same s14).same s45
          have tb5 := (tb2.ext s14).ext s45
          have x05 : LamX.ExtN L1 L5 := .of (s14.trans s45)
          refine ⟨tb5, fun L6 n6 tb6 => ⟨_, rfl, z, rfl, tz5.kp (.ext n6), fun _ L7 s67 => ⟨true, eII, fun _ => ?_, fun q => by cases q⟩, fun cc _ _ => absurd cc (by rw [show tree4 L6 z = false from (treeB_kp (Kp.ext n6) tz5).trans hz5]; decide)⟩⟩
          have x57 : LamX.ExtN L5 L7 := n6.trans (.of s67)
          have tb7 := tb6.ext s67
          refine ⟨lp 1 (by decide), fun D nD => ?_⟩
          have s78 : Same L7 (upd L7 D (.lst [(.str "tree")])) := grow nD
          have eD : (upd L7 D (.lst [(.str "tree")])) D = some (.lst [(.str "tree")]) := upd_same
          revert s78 eD
          generalize upd L7 D (.lst [(.str "tree")]) = L8
          intro s78 eD
          have x58 : LamX.ExtN L5 L8 := x57.trans (.of s78)
          have tb8 := tb7.ext s78
          refine ⟨_, rfl, .inl ⟨rfl, _, SqL.of eD⟩, tb8, fun L9 n9 tb9 => ⟨_, rfl, z, rfl, tz5.kp (.ext (x58.trans n9)), fun _ L10 s910 => ⟨true, eII, fun _ => ?_, fun q => by cases q⟩, fun cc _ _ => absurd cc (by rw [show tree4 L9 z = false from (treeB_kp (Kp.ext (x58.trans n9)) tz5).trans hz5]; decide)⟩⟩
          have n810 : LamX.ExtN L8 L10 := n9.trans (.of s910)
          have tb10 := tb9.ext s910
          have eD10 := n810 _ _ eD (fun ps q => by cases q)
          refine ⟨D, _, _, rfl, rfl, eD10, lp 2 (by decide), ?_⟩
          have xn : LamX.ExtN L5 (upd L10 D (.lst ([(.str "tree")] ++ [(.str "tree")]))) := extn_put x57 nD (LamX.ExtN.trans (.of s78) n810)
          have tb11 : LamX.Tabs [(PT, lamQ)] (upd L10 D (.lst ([(.str "tree")] ++ [(.str "tree")]))) := tabs_but tb10 upd_but ⟨_, eD10⟩
          have eD11 : (upd L10 D (.lst ([(.str "tree")] ++ [(.str "tree")]))) D = some (.lst [(.str "tree"), (.str "tree")]) := upd_same
          revert xn tb11 eD11
          generalize upd L10 D (.lst ([(.str "tree")] ++ [(.str "tree")])) = L11
          intro xn tb11 eD11
          have tz11 := tz5.kp (.ext xn)
          refine ⟨_, rfl, z, rfl, tz11, fun L12 s12 => ⟨_, rfl, ?_⟩⟩
          have h11 : treeB L11 4 z = false := (treeB_kp (Kp.ext xn) tz5).trans hz5
          rw [h11]
          refine iteF ?_
          have s1114 := s12
          refine ⟨lp 2 (by decide), fun D2 nD2 => ?_⟩
          have s15 : Same L12 (upd L12 D2 (.lst [(.str "tree"), (.str "tree")])) := grow nD2
          have eD2 : (upd L12 D2 (.lst [(.str "tree"), (.str "tree")])) D2 = some (.lst [(.str "tree"), (.str "tree")]) := upd_same
          revert s15 eD2
          generalize upd L12 D2 (.lst [(.str "tree"), (.str "tree")]) = L15
          intro s15 eD2
          have sF := s1114.trans s15
          obtain ⟨q1, q2, q3, q4⟩ := okd_of (d := (.list [.str "tree", .str "tree"])) (okd_tree)
          refine ⟨_, rfl, _, (.list [.str "tree", .str "tree"]), rfl, .lst (SqL.of (sF _ _ eD11)) (.cons (.str _) (.cons (.str _) .nil)), q1, q2, q3, q4, ?_⟩
          refine ⟨_, rfl, _, (.list [.str "tree", .str "tree"]), rfl, .lst (SqL.of eD2) (.cons (.str _) (.cons (.str _) .nil)), q1, q2, q3, q4, rfl, _, rfl, iteNS rfl ?_⟩
          exact ⟨_, _, _, rfl, (n1.trans x05).trans (xn.trans (.of sF)), tb11.ext sF⟩
        | true =>
          have hz5 : tree4 L5 z = true := by rw [tree4_same s45 (tz.same s14), tree4_same s14 tz, cb]
          have tz5 := (tz.same s14).same s45
          have tb5 := (tb2.ext s14).ext s45
          have x05 : LamX.ExtN L1 L5 := .of (s14.trans s45)
          refine ⟨tb5, fun L6 n6 tb6 => ⟨_, rfl, z, rfl, tz5.kp (.ext n6), fun cc _ _ => absurd cc (by rw [show tree4 L6 z = true from (treeB_kp (Kp.ext n6) tz5).trans hz5]; decide), fun _ L7 s67 => ?_⟩⟩
          rw [show countN L6 4 z = countN L5 4 z from countN_kp (.ext n6) tz5]
          have x57 : LamX.ExtN L5 L7 := n6.trans (.of s67)
          have tb7 := tb6.ext s67
          refine ⟨lp 1 (by decide), fun D nD => ?_⟩
          have s78 : Same L7 (upd L7 D (.lst [(.int ((countN L5 4 z : Nat) : Int))])) := grow nD
          have eD : (upd L7 D (.lst [(.int ((countN L5 4 z : Nat) : Int))])) D = some (.lst [(.int ((countN L5 4 z : Nat) : Int))]) := upd_same
          revert s78 eD
          generalize upd L7 D (.lst [(.int ((countN L5 4 z : Nat) : Int))]) = L8
          intro s78 eD
          have x58 : LamX.ExtN L5 L8 := x57.trans (.of s78)
          have tb8 := tb7.ext s78
          refine ⟨_, rfl, .inl ⟨rfl, _, SqL.of eD⟩, tb8, fun L9 n9 tb9 => ⟨_, rfl, z, rfl, tz5.kp (.ext (x58.trans n9)), fun cc _ _ => absurd cc (by rw [show tree4 L9 z = true from (treeB_kp (Kp.ext (x58.trans n9)) tz5).trans hz5]; decide), fun _ L10 s910 => ?_⟩⟩
          rw [show workN L9 4 z = workN L5 4 z from workN_kp (.ext (x58.trans n9)) tz5]
          have n810 : LamX.ExtN L8 L10 := n9.trans (.of s910)
          have tb10 := tb9.ext s910
          have eD10 := n810 _ _ eD (fun ps q => by cases q)
          refine ⟨D, _, _, rfl, rfl, eD10, lp 2 (by decide), ?_⟩
          have xn : LamX.ExtN L5 (upd L10 D (.lst ([(.int ((countN L5 4 z : Nat) : Int))] ++ [(.int ((workN L5 4 z : Nat) : Int))]))) := extn_put x57 nD (LamX.ExtN.trans (.of s78) n810)
          have tb11 : LamX.Tabs [(PT, lamQ)] (upd L10 D (.lst ([(.int ((countN L5 4 z : Nat) : Int))] ++ [(.int ((workN L5 4 z : Nat) : Int))]))) := tabs_but tb10 upd_but ⟨_, eD10⟩
          have eD11 : (upd L10 D (.lst ([(.int ((countN L5 4 z : Nat) : Int))] ++ [(.int ((workN L5 4 z : Nat) : Int))]))) D = some (.lst [(.int ((countN L5 4 z : Nat) : Int)), (.int ((workN L5 4 z : Nat) : Int))]) := upd_same
          revert xn tb11 eD11
          generalize upd L10 D (.lst ([(.int ((countN L5 4 z : Nat) : Int))] ++ [(.int ((workN L5 4 z : Nat) : Int))])) = L11
          intro xn tb11 eD11
          have tz11 := tz5.kp (.ext xn)
          refine ⟨_, rfl, z, rfl, tz11, fun L12 s12 => ⟨_, rfl, ?_⟩⟩
          have h11 : treeB L11 4 z = true := (treeB_kp (Kp.ext xn) tz5).trans hz5
          rw [h11]
          have h12 : treeB L12 4 z = true := (treeB_kp (Kp.of s12) tz11).trans h11
          refine iteT ⟨_, rfl, z, rfl, tz11.same s12, h12, fun L13 s13 => ?_⟩
          have x513 : LamX.ExtN L5 L13 := (xn.trans (.of s12)).trans (.of s13)
          refine ⟨_, rfl, z, rfl, tz5.kp (.ext x513), (treeB_kp (Kp.ext x513) tz5).trans hz5, fun L14 s14' => ?_⟩
          rw [show countN L12 4 z = countN L5 4 z from countN_kp (.ext (xn.trans (.of s12))) tz5, show workN L13 4 z = workN L5 4 z from workN_kp (.ext x513) tz5]
          have s1114 := (s12.trans s13).trans s14'
          refine ⟨lp 2 (by decide), fun D2 nD2 => ?_⟩
          have s15 : Same L14 (upd L14 D2 (.lst [(.int ((countN L5 4 z : Nat) : Int)), (.int ((workN L5 4 z : Nat) : Int))])) := grow nD2
          have eD2 : (upd L14 D2 (.lst [(.int ((countN L5 4 z : Nat) : Int)), (.int ((workN L5 4 z : Nat) : Int))])) D2 = some (.lst [(.int ((countN L5 4 z : Nat) : Int)), (.int ((workN L5 4 z : Nat) : Int))]) := upd_same
          revert s15 eD2
          generalize upd L14 D2 (.lst [(.int ((countN L5 4 z : Nat) : Int)), (.int ((workN L5 4 z : Nat) : Int))]) = L15
          intro s15 eD2
          have sF := s1114.trans s15
          obtain ⟨q1, q2, q3, q4⟩ := okd_of (d := (.list [.int ((countN L5 4 z : Nat) : Int), .int ((workN L5 4 z : Nat) : Int)])) (okd_two (count_le) (work_le hz5))
          refine ⟨_, rfl, _, (.list [.int ((countN L5 4 z : Nat) : Int), .int ((workN L5 4 z : Nat) : Int)]), rfl, .lst (SqL.of (sF _ _ eD11)) (.cons (.int _) (.cons (.int _) .nil)), q1, q2, q3, q4, ?_⟩
          refine ⟨_, rfl, _, (.list [.int ((countN L5 4 z : Nat) : Int), .int ((workN L5 4 z : Nat) : Int)]), rfl, .lst (SqL.of eD2) (.cons (.int _) (.cons (.int _) .nil)), q1, q2, q3, q4, rfl, _, rfl, iteNS rfl ?_⟩
          exact ⟨_, _, _, rfl, (n1.trans x05).trans (xn.trans (.of sF)), tb11.ext sF⟩
      · rintro σ L1 ⟨o8, o9, o10, rfl, n1, tb2⟩
        exact k L1 (k1.ext n1) ((ButN.of bH).trans (.ext n1)) tb2
end
end K1
namespace K1
open PySem L2
open L2.My
theorem part_op {f : V → Bool} {nm : V} {rs : List V} (hn : nameB nm = true) (hl : rs.length ≤ 3) : partsB f (.str "op" :: nm :: rs) = rs.all f := by
  have e1 : isS (.str "op") "at" = false := by decide +kernel
  have e2 : isS (.str "op") "load" = false := by decide +kernel
  have e3 : isS (.str "op") "op" = true := by decide +kernel
  simp only [partsB, hn, e1, e2, e3, decide_eq_true hl, Bool.true_and, if_neg Bool.false_ne_true]
theorem part_long {f : V → Bool} {nm : V} {rs : List V} (hl : ¬ rs.length ≤ 3) : partsB f (.str "op" :: nm :: rs) = false := by
  have e1 : isS (.str "op") "at" = false := by decide +kernel
  have e2 : isS (.str "op") "load" = false := by decide +kernel
  simp only [partsB, e1, e2, decide_eq_false hl, Bool.and_false, Bool.false_and, if_neg Bool.false_ne_true]
theorem part_at {f : V → Bool} {nm : V} {rs : List V} (hn : nameB nm = true) : partsB f (.str "at" :: nm :: rs) = atB rs := by
  have e1 : isS (.str "at") "at" = true := by decide +kernel
  simp only [partsB, hn, e1, Bool.true_and, if_true]
theorem part_load {f : V → Bool} {nm : V} {rs : List V} (hn : nameB nm = true) : partsB f (.str "load" :: nm :: rs) = loadB rs := by
  have e1 : isS (.str "load") "at" = false := by decide +kernel
  have e2 : isS (.str "load") "load" = true := by decide +kernel
  simp only [partsB, hn, e1, e2, Bool.true_and, if_neg Bool.false_ne_true, if_true]
theorem kids_op {H : Hp} {a : Addr} {nm : V} {rs : List V} (e : H a = some (.tup (.str "op" :: nm :: rs))) : kids H (.ref a) = rs := by
  have e3 : isS (.str "op") "op" = true := by decide +kernel
  simp only [kids, tupV_of e, kidsOf, e3, if_true]
theorem kids_load {H : Hp} {a : Addr} {nm : V} {rs : List V} (e : H a = some (.tup (.str "load" :: nm :: rs))) : kids H (.ref a) = [] := by
  have e3 : isS (.str "load") "op" = false := by decide +kernel
  simp only [kids, tupV_of e, kidsOf, e3, if_neg Bool.false_ne_true]
theorem head_op {H : Hp} {a : Addr} {nm : V} {rs : List V} (e : H a = some (.tup (.str "op" :: nm :: rs))) : headAt H (.ref a) = false := by
  simp only [headAt, tupV_of e]
  decide +kernel
theorem head_load {H : Hp} {a : Addr} {nm : V} {rs : List V} (e : H a = some (.tup (.str "load" :: nm :: rs))) : headAt H (.ref a) = false := by
  simp only [headAt, tupV_of e]
  decide +kernel
theorem head_at {H : Hp} {a : Addr} {nm : V} {rs : List V} (e : H a = some (.tup (.str "at" :: nm :: rs))) : headAt H (.ref a) = true := by
  simp only [headAt, tupV_of e]
  decide +kernel
theorem treeB_op {H : Hp} {a : Addr} {nm : V} {rs : List V} {q : Nat} (e : H a = some (.tup (.str "op" :: nm :: rs))) (hn : nameB nm = true) (hl : rs.length ≤ 3) : treeB H (q + 1) (.ref a) = rs.all (treeB H q) := by
  rw [treeB_tup e, part_op hn hl]
theorem treeB_long {H : Hp} {a : Addr} {nm : V} {rs : List V} {q : Nat} (e : H a = some (.tup (.str "op" :: nm :: rs))) (hl : ¬ rs.length ≤ 3) : treeB H (q + 1) (.ref a) = false := by
  rw [treeB_tup e, part_long hl]
theorem treeB_at {H : Hp} {a : Addr} {nm : V} {rs : List V} {q : Nat} (e : H a = some (.tup (.str "at" :: nm :: rs))) (hn : nameB nm = true) : treeB H (q + 1) (.ref a) = atB rs := by
  rw [treeB_tup e, part_at hn]
theorem treeB_load {H : Hp} {a : Addr} {nm : V} {rs : List V} {q : Nat} (e : H a = some (.tup (.str "load" :: nm :: rs))) (hn : nameB nm = true) : treeB H (q + 1) (.ref a) = loadB rs := by
  rw [treeB_tup e, part_load hn]
theorem fn {p : V → Prop} : ∀ y ∈ ([] : List V), p y := fun y hy => by cases hy
theorem fc {p : V → Prop} {x : V} {xs : List V} (h : p x) (t : ∀ y ∈ xs, p y) : ∀ y ∈ x :: xs, p y := fun y hy => by
  rcases List.mem_cons.mp hy with rfl | hy
  · exact h
  · exact t y hy
theorem set_part {H : Hp} {nm r : V} {rs : List V} (hn : nameB nm = true) : bodyB H (.str "set" :: nm :: r :: rs) = setB H (r :: rs) := by
  have e1 : isS (.str "set") "set" = true := by decide +kernel
  simp only [bodyB, hn, e1, Bool.true_and, if_true]
theorem store_part {H : Hp} {nm r : V} {rs : List V} (hn : nameB nm = true) : bodyB H (.str "store" :: nm :: r :: rs) = storeB H (r :: rs) := by
  have e1 : isS (.str "store") "set" = false := by decide +kernel
  have e2 : isS (.str "store") "store" = true := by decide +kernel
  simp only [bodyB, hn, e1, e2, Bool.true_and, if_neg Bool.false_ne_true]
theorem nA : nameB (.str "a") = true := by decide +kernel
theorem nF : nameB (.str "f") = true := by decide +kernel
theorem nG : nameB (.str "g") = true := by decide +kernel
theorem nH : nameB (.str "h") = true := by decide +kernel
theorem nOne : nameB (.str "one") = true := by decide +kernel
theorem count_op {H : Hp} {a : Addr} {nm x : V} {q : Nat} (e : H a = some (.tup [.str "op", nm, x])) : countN H (q + 1) (.ref a) = 1 + countN H q x := by
  show 1 + ((kids H (.ref a)).map (countN H q)).foldr max 0 = _
  rw [kids_op e]
  simp
theorem count_one {H : Hp} {a : Addr} {nm : V} {q : Nat} (e : H a = some (.tup [.str "op", nm])) : countN H (q + 1) (.ref a) = 1 := by
  show 1 + ((kids H (.ref a)).map (countN H q)).foldr max 0 = _
  rw [kids_op e]
  rfl
theorem count_load {H : Hp} {a : Addr} {nm : V} {rs : List V} {q : Nat} (e : H a = some (.tup (.str "load" :: nm :: rs))) : countN H (q + 1) (.ref a) = 1 := by
  show 1 + ((kids H (.ref a)).map (countN H q)).foldr max 0 = _
  rw [kids_load e]
  rfl
theorem work_op {H : Hp} {a : Addr} {nm x : V} {q : Nat} (e : H a = some (.tup [.str "op", nm, x])) : workN H (q + 1) (.ref a) = 1 + workN H q x := by
  show (if headAt H (.ref a) = true then 0 else 1 + ((kids H (.ref a)).map (workN H q)).sum) = _
  rw [kids_op e, head_op e, if_neg Bool.false_ne_true]
  simp
theorem work_load {H : Hp} {a : Addr} {nm : V} {rs : List V} {q : Nat} (e : H a = some (.tup (.str "load" :: nm :: rs))) : workN H (q + 1) (.ref a) = 1 := by
  show (if headAt H (.ref a) = true then 0 else 1 + ((kids H (.ref a)).map (workN H q)).sum) = _
  rw [kids_load e, head_load e, if_neg Bool.false_ne_true]
  rfl
theorem work_at {H : Hp} {a : Addr} {nm : V} {rs : List V} {q : Nat} (e : H a = some (.tup (.str "at" :: nm :: rs))) : workN H (q + 1) (.ref a) = 0 := by
  show (if headAt H (.ref a) = true then 0 else 1 + ((kids H (.ref a)).map (workN H q)).sum) = _
  rw [head_at e, if_pos rfl]
theorem nameOk {z : String} (h : nameZ z = true) : nameB (.str z) = true := h
theorem dp_bools {K : PySem.W.Frag} {H : Hp} : ∀ bs : List Bool, DpAll K H (bs.map V.bl) (bs.map PyData.bool)
  | [] => .nil
  | b :: bs => .cons (.bl b) (dp_bools bs)
theorem seqL_ext {K : PySem.W.Frag} {H H' : Hp} {a : Addr} {xs : List V} (h : SqL K H a xs) (u : LamX.ExtN H H') : SqL K H' a xs := by
  rcases h with (h | ⟨o, h⟩) | h
  · exact .inl (.inl (u _ _ h (fun ps z => by cases z)))
  · exact .inl (.inr ⟨o, u _ _ h (fun ps z => by cases z)⟩)
  · exact .inr h
section
variable {P : Program} {w : World} {K : PySem.W.Frag} {mg : Str → Option Value} {base : Heap}
def spLaw (K : PySem.W.Frag) (Tb : List (Addr × Str)) : Sp := fun vs H Q _ => ∃ (a : Addr) (ns : List Int), vs = [.ref a] ∧ SqL K H a (ns.map V.int) ∧ LamX.Tabs Tb H ∧ ∀ H', Q (.bl true) H'
theorem scLaw : FnScope ["_law_script", "_law_spot", "_law_loom_here", "_law_turn_here", "_law_four", "_law_some", "_law_one"] ["_law_script"] (defScope tLaw) := ⟨rfl, rfl, rfl, by decide +kernel, rfl, by decide +kernel, by decide +kernel⟩
theorem ok_law {CI f : Addr} {fd : FuncData} {Tb : List (Addr × Str)} (F : Fun K "law" "law" tLaw f fd) (T : Bl mg) (hmin : mg "min" = none)
    {fO fR fI fS fL fN : Addr} {fdO fdR fdI fdS fdL fdN : FuncData}
    (dO : Dn P w K mg base CX0 "_law_loom" ["_law_script", "_law_spot"] 1 (spLoom K) fO fdO)
    (GR : FnG P w K mg base 14 fR fdR ["_law_loom_here"] (spRight Tb)) (kR : PySem.W.keepIn K (.ref fR) = true) (bR : Binds K fdR ["_law_loom_here"] []) (gR : mg "_law_cell_right" = some (.ref fR))
    (dI : Dn P w K mg base CX0 "is_tree" ["value"] 9 (spB 20 M9 tree4) fI fdI)
    (dS : Dn P w K mg base CX0 "is_statement" ["value"] 10 (spB 20 M9 stateB) fS fdS)
    (dL : Dn P w K mg base (L2.CX P w) "levels" ["tree"] 11 (spTold 20 M9 CI countN) fL fdL)
    (dN : Dn P w K mg base (L2.CX P w) "nodes" ["tree"] 11 (spTold 20 M9 CI workN) fN fdN) :
    FnG P w K mg base 15 f fd ["_law_script"] (spLaw K Tb) := by
  refine L2.My.Fun.okG F scLaw (fun vs H Q E h => ?_) (fun cdv A outer s H vs Q E _ hr gd h => ?_)
  · obtain ⟨a, ns, rfl, _⟩ := h
    rfl
  · obtain ⟨a, ns, rfl, hS, tb, k⟩ := h
    have hr1 : Room 1 _ := hr.mono (by decide : 1 ≤ 14)
    have hr9 : Room 9 _ := hr.mono (by decide : 9 ≤ 14)
    have hr10 : Room 10 _ := hr.mono (by decide : 10 ≤ 14)
    have hr11 : Room 11 _ := hr.mono (by decide : 11 ≤ 14)
    have hu : (A.deeper (PyProof.Rows.envOfC "law" (defScope tLaw) s.heap.objs.size f cdv)).units + 64 < cLine := by
      have := hr.un
      omega
    refine ⟨_, (pss_cons (ps_for PassesOwn.never rfl (pi_range1 rfl T.range (pa_cons (pe_callB (call_max2 rfl) (by rfl) T.max (by decide +kernel) (pa_cons pe_int (pa_cons (pe_callB (call_min2 rfl) (by rfl) hmin (by decide +kernel) (pa_cons pe_int (pa_cons (pe_callB call_len_seq (by rfl) T.len PySem.boot_len (pa_cons (pv 0) pa_nil)) pa_nil))) pa_nil))) pa_nil)) (pg_name (i := 1) scLaw.nd rfl (.inl rfl))
      (pss_cons (ps_set (i := 2) scLaw.nd rfl (.inl rfl) (pe_call dO.G hr1 rfl dO.g dO.kp dO.b .nil pass0 (pa_cons (pv 0) (pa_cons (pv 1) pa_nil))))
      (pss_one (ps_for PassesOwn.never rfl (pi_range1 rfl T.range (pa_cons pe_int pa_nil)) (pg_name (i := 3) scLaw.nd rfl (.inl rfl))
        (pss_one (ps_if (pt_not (pt_val (pe_callG GR hr gd rfl gR kR bR (pa_cons (pv 2) pa_nil)))) (pss_one (ps_ret pe_bl)) pss_nil))))))
      (pss_cons (ps_set (i := 4) scLaw.nd rfl (.inl rfl) (pe_tup (pa_cons pe_str (pa_cons pe_str (pa_cons (pe_tup (pa_cons pe_str (pa_cons pe_str (pa_cons (pe_tup (pa_cons pe_str (pa_cons pe_str (pa_cons (pe_tup (pa_cons pe_str (pa_cons pe_str (pa_cons (pe_op op_sub (pe_op op_pow pe_int pe_int) pe_int) (pa_cons (pe_op op_sub pe_int (pe_op op_pow pe_int pe_int)) pa_nil))))) pa_nil)))) pa_nil)))) pa_nil)))))
      (pss_cons (ps_set (i := 5) scLaw.nd rfl (.inl rfl) (pe_lst (pa_cons (pv 4) (pa_cons (pe_tup (pa_cons pe_str (pa_cons pe_str (pa_cons (pv 4) pa_nil)))) (pa_cons (pe_tup (pa_cons pe_str (pa_cons pe_str pa_nil))) (pa_cons (pe_tup (pa_cons pe_str (pa_cons pe_str (pa_cons pe_int pa_nil)))) (pa_cons (pe_tup (pa_cons pe_str (pa_cons pe_str (pa_cons pe_int pa_nil)))) (pa_cons (pe_tup (pa_cons pe_str (pa_cons pe_str (pa_cons pe_bl pa_nil)))) pa_nil))))))))
      (pss_cons (ps_set (i := 5) scLaw.nd rfl (.inl rfl) (pe_op op_cat (pv 5) (pe_lst (pa_cons (pe_tup (pa_cons pe_str (pa_cons pe_str (pa_cons pe_int pa_nil)))) (pa_cons (pe_tup (pa_cons pe_str (pa_cons pe_str (pa_cons (pe_op op_pow pe_int pe_int) (pa_cons pe_int pa_nil))))) (pa_cons (pe_tup (pa_cons pe_str (pa_cons pe_str (pa_cons pe_str pa_nil)))) (pa_cons (pe_lst (pa_cons pe_str (pa_cons pe_str pa_nil))) (pa_cons pe_non pa_nil))))))))
      (pss_cons (ps_expr (pe_bm PySem.F.plainAttrs_list PySem.F.slot_list_append PySem.F.type_list_append mt_append (pv 5) (pa_cons (pe_op op_catA (pe_tup (pa_cons pe_str (pa_cons pe_str pa_nil))) (pe_op op_repT (pe_tup (pa_cons (pe_tup (pa_cons pe_str (pa_cons pe_str (pa_cons pe_int pa_nil)))) pa_nil)) pe_int)) pa_nil)))
      (pss_cons (ps_if (pt_cmpR (op_neD hu) (pe_lc (own := [("_law_one", 6)]) (g := gName 6) (tt := tYes) (by rfl) scLaw.nd (pi_list (pv 5)) (blkOk_by (own := [("_law_one", 6)]) (N := ["_law_script", "_law_spot", "_law_loom_here", "_law_turn_here", "_law_four", "_law_some", "_law_one"]) (sc := defScope tLaw) (by decide +kernel)) (fun _ _ _ _ _ => pg_name (i := 6) scLaw.nd rfl (Or.inl rfl)) (fun _ _ _ _ _ => pts_nil) (fun _ _ _ _ _ => (pe_call dI.G hr9 rfl dI.g dI.kp dI.b .nil pass0 (pa_cons (pv 6) pa_nil)))) (pe_op op_cat (pe_lst (pa_cons pe_bl (pa_cons pe_bl (pa_cons pe_bl (pa_cons pe_bl pa_nil))))) (pe_op op_rep (pe_lst (pa_cons pe_bl pa_nil)) pe_int)) (nomark _)) (pss_one (ps_ret pe_bl)) pss_nil)
      (pss_cons (ps_set (i := 5) scLaw.nd rfl (.inl rfl) (pe_lst (pa_cons (pe_tup (pa_cons pe_str (pa_cons pe_str (pa_cons (pe_tup (pa_cons pe_str (pa_cons pe_str (pa_cons pe_int pa_nil)))) pa_nil)))) (pa_cons (pe_tup (pa_cons pe_str (pa_cons pe_str (pa_cons (pe_tup (pa_cons pe_str (pa_cons pe_str pa_nil))) pa_nil)))) (pa_cons (pe_tup (pa_cons pe_str (pa_cons pe_str (pa_cons pe_str (pa_cons pe_int (pa_cons pe_int (pa_cons (pe_tup (pa_cons pe_str (pa_cons pe_str pa_nil))) pa_nil))))))) pa_nil)))))
      (pss_cons (ps_set (i := 5) scLaw.nd rfl (.inl rfl) (pe_op op_cat (pv 5) (pe_lst (pa_cons (pe_tup (pa_cons pe_str (pa_cons pe_str (pa_cons pe_str (pa_cons (pe_un un_neg pe_int) (pa_cons pe_int (pa_cons (pe_tup (pa_cons pe_str (pa_cons pe_str (pa_cons pe_int pa_nil)))) pa_nil))))))) (pa_cons (pe_tup (pa_cons pe_str (pa_cons pe_str (pa_cons pe_int (pa_cons pe_int (pa_cons (pe_tup (pa_cons pe_str (pa_cons pe_str pa_nil))) pa_nil)))))) pa_nil)))))
      (pss_cons (ps_expr (pe_bm PySem.F.plainAttrs_list PySem.F.slot_list_append PySem.F.type_list_append mt_append (pv 5) (pa_cons (pe_tup (pa_cons pe_str (pa_cons pe_str (pa_cons (pv 4) (pa_cons (pv 4) pa_nil))))) pa_nil)))
      (pss_cons (ps_if (pt_cmpR (op_neD hu) (pe_lc (own := [("_law_one", 6)]) (g := gName 6) (tt := tYes) (by rfl) scLaw.nd (pi_list (pv 5)) (blkOk_by (own := [("_law_one", 6)]) (N := ["_law_script", "_law_spot", "_law_loom_here", "_law_turn_here", "_law_four", "_law_some", "_law_one"]) (sc := defScope tLaw) (by decide +kernel)) (fun _ _ _ _ _ => pg_name (i := 6) scLaw.nd rfl (Or.inl rfl)) (fun _ _ _ _ _ => pts_nil) (fun _ _ _ _ _ => (pe_call dS.G hr10 rfl dS.g dS.kp dS.b .nil pass0 (pa_cons (pv 6) pa_nil)))) (pe_lst (pa_cons pe_bl (pa_cons pe_bl (pa_cons pe_bl (pa_cons pe_bl (pa_cons pe_bl (pa_cons pe_bl pa_nil))))))) (nomark _)) (pss_one (ps_ret pe_bl)) pss_nil)
      (pss_one (ps_ret (pe_cmpR (op_eqD hu) (pe_lst (pa_cons (pe_call dL.G hr11 rfl dL.g dL.kp dL.b .nil passL (pa_cons (pv 4) pa_nil)) (pa_cons (pe_call dN.G hr11 rfl dN.g dN.kp dN.b .nil passL (pa_cons (pv 4) pa_nil)) (pa_cons (pe_call dN.G hr11 rfl dN.g dN.kp dN.b .nil passL (pa_cons (pe_tup (pa_cons pe_str (pa_cons pe_str (pa_cons pe_int pa_nil)))) pa_nil)) (pa_cons (pe_call dL.G hr11 rfl dL.g dL.kp dL.b .nil passL (pa_cons (pe_tup (pa_cons pe_str (pa_cons pe_str pa_nil))) pa_nil)) pa_nil))))) (pe_lst (pa_cons pe_int (pa_cons pe_int (pa_cons pe_int (pa_cons pe_int pa_nil))))) (nomark _)))))))))))))), ?_⟩
    refine ⟨_, rfl, a, _, rfl, .inl hS, _, _, rfl, _, _, rfl, _, rfl, ?_, ?_, for_it walk_range (fun i σ H' => ∃ o1 o2 o3, σ = [some (.ref a), o1, o2, o3, none, none, none] ∧ LamX.ExtN H H' ∧ LamX.Tabs Tb H')
      ⟨none, none, none, rfl, LamX.ExtN.refl H, tb⟩ (fun _ _ _ _ _ => trivial) ?_ ?_⟩
    · split <;> split <;> omega
    · split <;> split <;> omega
    · rintro i x σ K0 K1 hi ⟨o1, o2, o3, rfl, n0, tb0⟩ ⟨rfl, rfl⟩
      have i8 : i < 100 := by
        revert hi
        split <;> split <;> omega
      refine ⟨_, rfl, _, rfl, a, ns, i, ?_, seqL_ext hS n0, i8, fun p K2 np s02 lo => ?_⟩
      · have z : (0 : Int) + (i : Int) = (i : Int) := by omega
        show [V.ref a, V.int (0 + (i : Int))] = _
        rw [z]
      refine ⟨2, rfl, by decide, by decide, for_it walk_range (fun j σ H' => ∃ o3, σ = [some (.ref a), some (.int (0 + (i : Int))), some (.ref p), o3, none, none, none] ∧ Loom H' p ∧ LamX.ExtN K1 H' ∧ LamX.Tabs Tb H')
        ⟨o3, rfl, lo, .of s02, tb0.ext s02⟩ (fun _ _ _ _ _ => trivial) ?_ ?_⟩
      · rintro j x σ K3 K4 hj ⟨o3, rfl, lo3, n3, tb3⟩ ⟨rfl, rfl⟩
        refine ⟨_, rfl, p, rfl, lo3, tb3, fun K5 lo5 u5 tb5 => ⟨_, rfl, iteF ?_⟩⟩
        exact ⟨_, rfl, lo5, fun b o e t => u5 b (ne_of_none e np) o (n3 b o e t) t, tb5⟩
      · rintro σ K3 ⟨o3, rfl, lo3, n3, tb3⟩
        exact ⟨_, _, _, rfl, n0.trans n3, tb3⟩
    rintro σ G0 ⟨o1, o2, o3, rfl, n0, tb0⟩
    have lp : ∀ n : Nat, n ≤ 20 → n ≤ sizeLine := fun n h => Nat.le_trans h (by decide)
    refine ⟨_, _, rfl, rfl, ⟨by decide, by decide, by decide⟩, _, _, rfl, rfl, ?_⟩
    refine ⟨_, _, rfl, rfl, ⟨by decide, by decide, by decide⟩, _, _, rfl, rfl, ?_⟩
    refine ⟨lp 4 (by decide), fun t1 nt1 => ?_⟩
    have sG1 : Same G0 (upd G0 t1 (.tup [.str "load", .str "a", .int ((10 : Int) ^ (30 : Int).toNat - 1), .int (1 - (10 : Int) ^ (30 : Int).toNat)])) := grow nt1
    have et1 : (upd G0 t1 (.tup [.str "load", .str "a", .int ((10 : Int) ^ (30 : Int).toNat - 1), .int (1 - (10 : Int) ^ (30 : Int).toNat)])) t1 = some (.tup [.str "load", .str "a", .int ((10 : Int) ^ (30 : Int).toNat - 1), .int (1 - (10 : Int) ^ (30 : Int).toNat)]) := upd_same
    revert sG1 et1
    generalize (upd G0 t1 (.tup [.str "load", .str "a", .int ((10 : Int) ^ (30 : Int).toNat - 1), .int (1 - (10 : Int) ^ (30 : Int).toNat)])) = G1
    intro sG1 et1
    refine ⟨lp 3 (by decide), fun t2 nt2 => ?_⟩
    have sG2 : Same G1 (upd G1 t2 (.tup [.str "op", .str "h", .ref t1])) := grow nt2
    have et2 : (upd G1 t2 (.tup [.str "op", .str "h", .ref t1])) t2 = some (.tup [.str "op", .str "h", .ref t1]) := upd_same
    revert sG2 et2
    generalize (upd G1 t2 (.tup [.str "op", .str "h", .ref t1])) = G2
    intro sG2 et2
    have et1 := sG2 _ _ et1
    refine ⟨lp 3 (by decide), fun t3 nt3 => ?_⟩
    have sG3 : Same G2 (upd G2 t3 (.tup [.str "op", .str "g", .ref t2])) := grow nt3
    have et3 : (upd G2 t3 (.tup [.str "op", .str "g", .ref t2])) t3 = some (.tup [.str "op", .str "g", .ref t2]) := upd_same
    revert sG3 et3
    generalize (upd G2 t3 (.tup [.str "op", .str "g", .ref t2])) = G3
    intro sG3 et3
    have et1 := sG3 _ _ et1
    have et2 := sG3 _ _ et2
    refine ⟨lp 3 (by decide), fun t4 nt4 => ?_⟩
    have sG4 : Same G3 (upd G3 t4 (.tup [.str "op", .str "f", .ref t3])) := grow nt4
    have et4 : (upd G3 t4 (.tup [.str "op", .str "f", .ref t3])) t4 = some (.tup [.str "op", .str "f", .ref t3]) := upd_same
    revert sG4 et4
    generalize (upd G3 t4 (.tup [.str "op", .str "f", .ref t3])) = G4
    intro sG4 et4
    have et1 := sG4 _ _ et1
    have et2 := sG4 _ _ et2
    have et3 := sG4 _ _ et3
    obtain ⟨four, hfour⟩ : ∃ four, four = t4 := ⟨_, rfl⟩
    rw [← hfour]
    rw [← hfour] at et4
    have efour := et4
    clear et4
    refine ⟨_, rfl, ?_⟩
    refine ⟨_, rfl, ?_⟩
    refine ⟨lp 3 (by decide), fun t5 nt5 => ?_⟩
    have sG5 : Same G4 (upd G4 t5 (.tup [.str "op", .str "f", .ref four])) := grow nt5
    have et5 : (upd G4 t5 (.tup [.str "op", .str "f", .ref four])) t5 = some (.tup [.str "op", .str "f", .ref four]) := upd_same
    revert sG5 et5
    generalize (upd G4 t5 (.tup [.str "op", .str "f", .ref four])) = G5
    intro sG5 et5
    have et1 := sG5 _ _ et1
    have et2 := sG5 _ _ et2
    have et3 := sG5 _ _ et3
    have efour := sG5 _ _ efour
    refine ⟨lp 2 (by decide), fun t6 nt6 => ?_⟩
    have sG6 : Same G5 (upd G5 t6 (.tup [.str "op", .str "one"])) := grow nt6
    have et6 : (upd G5 t6 (.tup [.str "op", .str "one"])) t6 = some (.tup [.str "op", .str "one"]) := upd_same
    revert sG6 et6
    generalize (upd G5 t6 (.tup [.str "op", .str "one"])) = G6
    intro sG6 et6
    have et1 := sG6 _ _ et1
    have et2 := sG6 _ _ et2
    have et3 := sG6 _ _ et3
    have efour := sG6 _ _ efour
    have et5 := sG6 _ _ et5
    refine ⟨lp 3 (by decide), fun t7 nt7 => ?_⟩
    have sG7 : Same G6 (upd G6 t7 (.tup [.str "at", .str "a", .int 3])) := grow nt7
    have et7 : (upd G6 t7 (.tup [.str "at", .str "a", .int 3])) t7 = some (.tup [.str "at", .str "a", .int 3]) := upd_same
    revert sG7 et7
    generalize (upd G6 t7 (.tup [.str "at", .str "a", .int 3])) = G7
    intro sG7 et7
    have et1 := sG7 _ _ et1
    have et2 := sG7 _ _ et2
    have et3 := sG7 _ _ et3
    have efour := sG7 _ _ efour
    have et5 := sG7 _ _ et5
    have et6 := sG7 _ _ et6
    refine ⟨lp 3 (by decide), fun t8 nt8 => ?_⟩
    have sG8 : Same G7 (upd G7 t8 (.tup [.str "at", .str "a", .int 4])) := grow nt8
    have et8 : (upd G7 t8 (.tup [.str "at", .str "a", .int 4])) t8 = some (.tup [.str "at", .str "a", .int 4]) := upd_same
    revert sG8 et8
    generalize (upd G7 t8 (.tup [.str "at", .str "a", .int 4])) = G8
    intro sG8 et8
    have et1 := sG8 _ _ et1
    have et2 := sG8 _ _ et2
    have et3 := sG8 _ _ et3
    have efour := sG8 _ _ efour
    have et5 := sG8 _ _ et5
    have et6 := sG8 _ _ et6
    have et7 := sG8 _ _ et7
    refine ⟨lp 3 (by decide), fun t9 nt9 => ?_⟩
    have sG9 : Same G8 (upd G8 t9 (.tup [.str "at", .str "a", .bl true])) := grow nt9
    have et9 : (upd G8 t9 (.tup [.str "at", .str "a", .bl true])) t9 = some (.tup [.str "at", .str "a", .bl true]) := upd_same
    revert sG9 et9
    generalize (upd G8 t9 (.tup [.str "at", .str "a", .bl true])) = G9
    intro sG9 et9
    have et1 := sG9 _ _ et1
    have et2 := sG9 _ _ et2
    have et3 := sG9 _ _ et3
    have efour := sG9 _ _ efour
    have et5 := sG9 _ _ et5
    have et6 := sG9 _ _ et6
    have et7 := sG9 _ _ et7
    have et8 := sG9 _ _ et8
    refine ⟨lp 6 (by decide), fun t10 nt10 => ?_⟩
    have sG10 : Same G9 (upd G9 t10 (.lst [.ref four, .ref t5, .ref t6, .ref t7, .ref t8, .ref t9])) := grow nt10
    have et10 : (upd G9 t10 (.lst [.ref four, .ref t5, .ref t6, .ref t7, .ref t8, .ref t9])) t10 = some (.lst [.ref four, .ref t5, .ref t6, .ref t7, .ref t8, .ref t9]) := upd_same
    revert sG10 et10
    generalize (upd G9 t10 (.lst [.ref four, .ref t5, .ref t6, .ref t7, .ref t8, .ref t9])) = G10
    intro sG10 et10
    have et1 := sG10 _ _ et1
    have et2 := sG10 _ _ et2
    have et3 := sG10 _ _ et3
    have efour := sG10 _ _ efour
    have et5 := sG10 _ _ et5
    have et6 := sG10 _ _ et6
    have et7 := sG10 _ _ et7
    have et8 := sG10 _ _ et8
    have et9 := sG10 _ _ et9
    refine ⟨_, rfl, ?_⟩
    refine ⟨lp 3 (by decide), fun t11 nt11 => ?_⟩
    have sG11 : Same G10 (upd G10 t11 (.tup [.str "load", .str "a", .int 1])) := grow nt11
    have et11 : (upd G10 t11 (.tup [.str "load", .str "a", .int 1])) t11 = some (.tup [.str "load", .str "a", .int 1]) := upd_same
    revert sG11 et11
    generalize (upd G10 t11 (.tup [.str "load", .str "a", .int 1])) = G11
    intro sG11 et11
    have et1 := sG11 _ _ et1
    have et2 := sG11 _ _ et2
    have et3 := sG11 _ _ et3
    have efour := sG11 _ _ efour
    have et5 := sG11 _ _ et5
    have et6 := sG11 _ _ et6
    have et7 := sG11 _ _ et7
    have et8 := sG11 _ _ et8
    have et9 := sG11 _ _ et9
    have et10 := sG11 _ _ et10
    refine ⟨_, _, rfl, rfl, ⟨by decide, by decide, by decide⟩, ?_⟩
    refine ⟨lp 4 (by decide), fun t12 nt12 => ?_⟩
    have sG12 : Same G11 (upd G11 t12 (.tup [.str "load", .str "a", .int ((10 : Int) ^ (30 : Int).toNat), .int 0])) := grow nt12
    have et12 : (upd G11 t12 (.tup [.str "load", .str "a", .int ((10 : Int) ^ (30 : Int).toNat), .int 0])) t12 = some (.tup [.str "load", .str "a", .int ((10 : Int) ^ (30 : Int).toNat), .int 0]) := upd_same
    revert sG12 et12
    generalize (upd G11 t12 (.tup [.str "load", .str "a", .int ((10 : Int) ^ (30 : Int).toNat), .int 0])) = G12
    intro sG12 et12
    have et1 := sG12 _ _ et1
    have et2 := sG12 _ _ et2
    have et3 := sG12 _ _ et3
    have efour := sG12 _ _ efour
    have et5 := sG12 _ _ et5
    have et6 := sG12 _ _ et6
    have et7 := sG12 _ _ et7
    have et8 := sG12 _ _ et8
    have et9 := sG12 _ _ et9
    have et10 := sG12 _ _ et10
    have et11 := sG12 _ _ et11
    refine ⟨lp 3 (by decide), fun t13 nt13 => ?_⟩
    have sG13 : Same G12 (upd G12 t13 (.tup [.str "op", .str "f", .str "a"])) := grow nt13
    have et13 : (upd G12 t13 (.tup [.str "op", .str "f", .str "a"])) t13 = some (.tup [.str "op", .str "f", .str "a"]) := upd_same
    revert sG13 et13
    generalize (upd G12 t13 (.tup [.str "op", .str "f", .str "a"])) = G13
    intro sG13 et13
    have et1 := sG13 _ _ et1
    have et2 := sG13 _ _ et2
    have et3 := sG13 _ _ et3
    have efour := sG13 _ _ efour
    have et5 := sG13 _ _ et5
    have et6 := sG13 _ _ et6
    have et7 := sG13 _ _ et7
    have et8 := sG13 _ _ et8
    have et9 := sG13 _ _ et9
    have et10 := sG13 _ _ et10
    have et11 := sG13 _ _ et11
    have et12 := sG13 _ _ et12
    refine ⟨lp 2 (by decide), fun t14 nt14 => ?_⟩
    have sG14 : Same G13 (upd G13 t14 (.lst [.str "op", .str "one"])) := grow nt14
    have et14 : (upd G13 t14 (.lst [.str "op", .str "one"])) t14 = some (.lst [.str "op", .str "one"]) := upd_same
    revert sG14 et14
    generalize (upd G13 t14 (.lst [.str "op", .str "one"])) = G14
    intro sG14 et14
    have et1 := sG14 _ _ et1
    have et2 := sG14 _ _ et2
    have et3 := sG14 _ _ et3
    have efour := sG14 _ _ efour
    have et5 := sG14 _ _ et5
    have et6 := sG14 _ _ et6
    have et7 := sG14 _ _ et7
    have et8 := sG14 _ _ et8
    have et9 := sG14 _ _ et9
    have et10 := sG14 _ _ et10
    have et11 := sG14 _ _ et11
    have et12 := sG14 _ _ et12
    have et13 := sG14 _ _ et13
    refine ⟨lp 5 (by decide), fun t15 nt15 => ?_⟩
    have sG15 : Same G14 (upd G14 t15 (.lst [.ref t11, .ref t12, .ref t13, .ref t14, .non])) := grow nt15
    have et15 : (upd G14 t15 (.lst [.ref t11, .ref t12, .ref t13, .ref t14, .non])) t15 = some (.lst [.ref t11, .ref t12, .ref t13, .ref t14, .non]) := upd_same
    revert sG15 et15
    generalize (upd G14 t15 (.lst [.ref t11, .ref t12, .ref t13, .ref t14, .non])) = G15
    intro sG15 et15
    have et1 := sG15 _ _ et1
    have et2 := sG15 _ _ et2
    have et3 := sG15 _ _ et3
    have efour := sG15 _ _ efour
    have et5 := sG15 _ _ et5
    have et6 := sG15 _ _ et6
    have et7 := sG15 _ _ et7
    have et8 := sG15 _ _ et8
    have et9 := sG15 _ _ et9
    have et10 := sG15 _ _ et10
    have et11 := sG15 _ _ et11
    have et12 := sG15 _ _ et12
    have et13 := sG15 _ _ et13
    have et14 := sG15 _ _ et14
    refine ⟨_, _, _, _, rfl, rfl, et10, et15, (by show 11 ≤ sizeLine; decide), fun c1 nc1 => ?_⟩
    have sGC1 : Same G15 (upd G15 c1 (.lst ([.ref four, .ref t5, .ref t6, .ref t7, .ref t8, .ref t9] ++ [.ref t11, .ref t12, .ref t13, .ref t14, .non]))) := grow nc1
    have ec1 : (upd G15 c1 (.lst ([.ref four, .ref t5, .ref t6, .ref t7, .ref t8, .ref t9] ++ [.ref t11, .ref t12, .ref t13, .ref t14, .non]))) c1 = some (.lst [.ref four, .ref t5, .ref t6, .ref t7, .ref t8, .ref t9, .ref t11, .ref t12, .ref t13, .ref t14, .non]) := upd_same
    revert sGC1 ec1
    generalize (upd G15 c1 (.lst ([.ref four, .ref t5, .ref t6, .ref t7, .ref t8, .ref t9] ++ [.ref t11, .ref t12, .ref t13, .ref t14, .non]))) = GC1
    intro sGC1 ec1
    have et1 := sGC1 _ _ et1
    have et2 := sGC1 _ _ et2
    have et3 := sGC1 _ _ et3
    have efour := sGC1 _ _ efour
    have et5 := sGC1 _ _ et5
    have et6 := sGC1 _ _ et6
    have et7 := sGC1 _ _ et7
    have et8 := sGC1 _ _ et8
    have et9 := sGC1 _ _ et9
    have et10 := sGC1 _ _ et10
    have et11 := sGC1 _ _ et11
    have et12 := sGC1 _ _ et12
    have et13 := sGC1 _ _ et13
    have et14 := sGC1 _ _ et14
    have et15 := sGC1 _ _ et15
    refine ⟨_, rfl, .inl ⟨rfl, _, SqL.of ec1⟩, ?_⟩
    refine ⟨lp 2 (by decide), fun t16 nt16 => ?_⟩
    have sG16 : Same GC1 (upd GC1 t16 (.tup [.str "op", .str "f"])) := grow nt16
    have et16 : (upd GC1 t16 (.tup [.str "op", .str "f"])) t16 = some (.tup [.str "op", .str "f"]) := upd_same
    revert sG16 et16
    generalize (upd GC1 t16 (.tup [.str "op", .str "f"])) = G16
    intro sG16 et16
    have et1 := sG16 _ _ et1
    have et2 := sG16 _ _ et2
    have et3 := sG16 _ _ et3
    have efour := sG16 _ _ efour
    have et5 := sG16 _ _ et5
    have et6 := sG16 _ _ et6
    have et7 := sG16 _ _ et7
    have et8 := sG16 _ _ et8
    have et9 := sG16 _ _ et9
    have et10 := sG16 _ _ et10
    have et11 := sG16 _ _ et11
    have et12 := sG16 _ _ et12
    have et13 := sG16 _ _ et13
    have et14 := sG16 _ _ et14
    have et15 := sG16 _ _ et15
    have ec1 := sG16 _ _ ec1
    refine ⟨lp 3 (by decide), fun t17 nt17 => ?_⟩
    have sG17 : Same G16 (upd G16 t17 (.tup [.str "at", .str "a", .int 0])) := grow nt17
    have et17 : (upd G16 t17 (.tup [.str "at", .str "a", .int 0])) t17 = some (.tup [.str "at", .str "a", .int 0]) := upd_same
    revert sG17 et17
    generalize (upd G16 t17 (.tup [.str "at", .str "a", .int 0])) = G17
    intro sG17 et17
    have et1 := sG17 _ _ et1
    have et2 := sG17 _ _ et2
    have et3 := sG17 _ _ et3
    have efour := sG17 _ _ efour
    have et5 := sG17 _ _ et5
    have et6 := sG17 _ _ et6
    have et7 := sG17 _ _ et7
    have et8 := sG17 _ _ et8
    have et9 := sG17 _ _ et9
    have et10 := sG17 _ _ et10
    have et11 := sG17 _ _ et11
    have et12 := sG17 _ _ et12
    have et13 := sG17 _ _ et13
    have et14 := sG17 _ _ et14
    have et15 := sG17 _ _ et15
    have ec1 := sG17 _ _ ec1
    have et16 := sG17 _ _ et16
    refine ⟨lp 1 (by decide), fun t18 nt18 => ?_⟩
    have sG18 : Same G17 (upd G17 t18 (.tup [.ref t17])) := grow nt18
    have et18 : (upd G17 t18 (.tup [.ref t17])) t18 = some (.tup [.ref t17]) := upd_same
    revert sG18 et18
    generalize (upd G17 t18 (.tup [.ref t17])) = G18
    intro sG18 et18
    have et1 := sG18 _ _ et1
    have et2 := sG18 _ _ et2
    have et3 := sG18 _ _ et3
    have efour := sG18 _ _ efour
    have et5 := sG18 _ _ et5
    have et6 := sG18 _ _ et6
    have et7 := sG18 _ _ et7
    have et8 := sG18 _ _ et8
    have et9 := sG18 _ _ et9
    have et10 := sG18 _ _ et10
    have et11 := sG18 _ _ et11
    have et12 := sG18 _ _ et12
    have et13 := sG18 _ _ et13
    have et14 := sG18 _ _ et14
    have et15 := sG18 _ _ et15
    have ec1 := sG18 _ _ ec1
    have et16 := sG18 _ _ et16
    have et17 := sG18 _ _ et17
    refine ⟨_, _, _, rfl, rfl, SqT.of et18, by simp, by decide, by decide, by simp, fun c2 nc2 => ?_⟩
    have sGC2 : Same G18 (upd G18 c2 (.tup (List.replicate (4 : Int).toNat [.ref t17]).flatten)) := grow nc2
    have ec2 : (upd G18 c2 (.tup (List.replicate (4 : Int).toNat [.ref t17]).flatten)) c2 = some (.tup [.ref t17, .ref t17, .ref t17, .ref t17]) := upd_same
    revert sGC2 ec2
    generalize (upd G18 c2 (.tup (List.replicate (4 : Int).toNat [.ref t17]).flatten)) = GC2
    intro sGC2 ec2
    have et1 := sGC2 _ _ et1
    have et2 := sGC2 _ _ et2
    have et3 := sGC2 _ _ et3
    have efour := sGC2 _ _ efour
    have et5 := sGC2 _ _ et5
    have et6 := sGC2 _ _ et6
    have et7 := sGC2 _ _ et7
    have et8 := sGC2 _ _ et8
    have et9 := sGC2 _ _ et9
    have et10 := sGC2 _ _ et10
    have et11 := sGC2 _ _ et11
    have et12 := sGC2 _ _ et12
    have et13 := sGC2 _ _ et13
    have et14 := sGC2 _ _ et14
    have et15 := sGC2 _ _ et15
    have ec1 := sGC2 _ _ ec1
    have et16 := sGC2 _ _ et16
    have et17 := sGC2 _ _ et17
    have et18 := sGC2 _ _ et18
    refine ⟨_, _, _, _, rfl, rfl, SqT.of et16, SqT.of ec2, (by show 6 ≤ sizeLine; decide), fun z => absurd z (List.cons_ne_nil _ _), fun _ z => absurd z (List.cons_ne_nil _ _), fun _ _ c3 nc3 => ?_⟩
    have sGC3 : Same GC2 (upd GC2 c3 (.tup ([.str "op", .str "f"] ++ [.ref t17, .ref t17, .ref t17, .ref t17]))) := grow nc3
    have ec3 : (upd GC2 c3 (.tup ([.str "op", .str "f"] ++ [.ref t17, .ref t17, .ref t17, .ref t17]))) c3 = some (.tup [.str "op", .str "f", .ref t17, .ref t17, .ref t17, .ref t17]) := upd_same
    revert sGC3 ec3
    generalize (upd GC2 c3 (.tup ([.str "op", .str "f"] ++ [.ref t17, .ref t17, .ref t17, .ref t17]))) = GC3
    intro sGC3 ec3
    have et1 := sGC3 _ _ et1
    have et2 := sGC3 _ _ et2
    have et3 := sGC3 _ _ et3
    have efour := sGC3 _ _ efour
    have et5 := sGC3 _ _ et5
    have et6 := sGC3 _ _ et6
    have et7 := sGC3 _ _ et7
    have et8 := sGC3 _ _ et8
    have et9 := sGC3 _ _ et9
    have et10 := sGC3 _ _ et10
    have et11 := sGC3 _ _ et11
    have et12 := sGC3 _ _ et12
    have et13 := sGC3 _ _ et13
    have et14 := sGC3 _ _ et14
    have et15 := sGC3 _ _ et15
    have ec1 := sGC3 _ _ ec1
    have et16 := sGC3 _ _ et16
    have et17 := sGC3 _ _ et17
    have et18 := sGC3 _ _ et18
    have ec2 := sGC3 _ _ ec2
    refine ⟨_, _, _, rfl, rfl, ec1, lp 12 (by decide), ?_⟩
    have kpA : Kp GC3 (upd GC3 c1 (.lst ([.ref four, .ref t5, .ref t6, .ref t7, .ref t8, .ref t9, .ref t11, .ref t12, .ref t13, .ref t14, .non] ++ [.ref c3]))) := .upd ec1
    have et14 : (upd GC3 c1 (.lst ([.ref four, .ref t5, .ref t6, .ref t7, .ref t8, .ref t9, .ref t11, .ref t12, .ref t13, .ref t14, .non] ++ [.ref c3]))) t14 = some (.lst [.str "op", .str "one"]) := (upd_ne (fun z => by rw [z, ec1] at et14; simp at et14)).trans et14
    have ec1 : (upd GC3 c1 (.lst ([.ref four, .ref t5, .ref t6, .ref t7, .ref t8, .ref t9, .ref t11, .ref t12, .ref t13, .ref t14, .non] ++ [.ref c3]))) c1 = some (.lst [.ref four, .ref t5, .ref t6, .ref t7, .ref t8, .ref t9, .ref t11, .ref t12, .ref t13, .ref t14, .non, .ref c3]) := upd_same
    have et1 := kpA.tup _ _ et1
    have et2 := kpA.tup _ _ et2
    have et3 := kpA.tup _ _ et3
    have efour := kpA.tup _ _ efour
    have et5 := kpA.tup _ _ et5
    have et6 := kpA.tup _ _ et6
    have et7 := kpA.tup _ _ et7
    have et8 := kpA.tup _ _ et8
    have et9 := kpA.tup _ _ et9
    have et11 := kpA.tup _ _ et11
    have et12 := kpA.tup _ _ et12
    have et13 := kpA.tup _ _ et13
    have et16 := kpA.tup _ _ et16
    have et17 := kpA.tup _ _ et17
    have et18 := kpA.tup _ _ et18
    have ec2 := kpA.tup _ _ ec2
    have ec3 := kpA.tup _ _ ec3
    clear kpA
    revert et1 et2 et3 efour et5 et6 et7 et8 et9 et11 et12 et13 et14 et16 et17 et18 ec2 ec3 ec1
    generalize (upd GC3 c1 (.lst ([.ref four, .ref t5, .ref t6, .ref t7, .ref t8, .ref t9, .ref t11, .ref t12, .ref t13, .ref t14, .non] ++ [.ref c3]))) = GA
    intro et14 ec1 et1 et2 et3 efour et5 et6 et7 et8 et9 et11 et12 et13 et16 et17 et18 ec2 ec3
    have b1 : ∀ q, treeB GA (q + 1) (.ref t1) = true := fun q => by rw [treeB_load et1 nA]; decide +kernel
    have b2 : ∀ q, treeB GA (q + 1) (.ref t2) = treeB GA q (.ref t1) := fun q => by rw [treeB_op et2 nH (by simp)]; simp
    have b3 : ∀ q, treeB GA (q + 1) (.ref t3) = treeB GA q (.ref t2) := fun q => by rw [treeB_op et3 nG (by simp)]; simp
    have b4 : ∀ q, treeB GA (q + 1) (.ref four) = treeB GA q (.ref t3) := fun q => by rw [treeB_op efour nF (by simp)]; simp
    have f1 : tree4 GA (.ref four) = true := (b4 3).trans ((b3 2).trans ((b2 1).trans (b1 0)))
    have f2 : tree4 GA (.ref t5) = false := by rw [show tree4 GA (.ref t5) = treeB GA (3 + 1) (.ref t5) from rfl, treeB_op et5 nF (by simp)]; simp only [List.all_cons, List.all_nil, b4, b3, b2]; rfl
    have f3 : tree4 GA (.ref t6) = true := by rw [show tree4 GA (.ref t6) = treeB GA (3 + 1) (.ref t6) from rfl, treeB_op et6 nOne (by simp)]; rfl
    have f4 : tree4 GA (.ref t7) = true := by rw [show tree4 GA (.ref t7) = treeB GA (3 + 1) (.ref t7) from rfl, treeB_at et7 nA]; decide +kernel
    have f5 : tree4 GA (.ref t8) = false := by rw [show tree4 GA (.ref t8) = treeB GA (3 + 1) (.ref t8) from rfl, treeB_at et8 nA]; decide +kernel
    have f6 : tree4 GA (.ref t9) = false := by rw [show tree4 GA (.ref t9) = treeB GA (3 + 1) (.ref t9) from rfl, treeB_at et9 nA]; decide +kernel
    have f7 : tree4 GA (.ref t11) = false := by rw [show tree4 GA (.ref t11) = treeB GA (3 + 1) (.ref t11) from rfl, treeB_load et11 nA]; decide +kernel
    have f8 : tree4 GA (.ref t12) = false := by rw [show tree4 GA (.ref t12) = treeB GA (3 + 1) (.ref t12) from rfl, treeB_load et12 nA]; decide +kernel
    have f9 : tree4 GA (.ref t13) = false := by rw [show tree4 GA (.ref t13) = treeB GA (3 + 1) (.ref t13) from rfl, treeB_op et13 nF (by simp)]; rfl
    have f10 : tree4 GA (.ref t14) = false := treeB_none (by simp [tupV, et14])
    have f11 : tree4 GA .non = false := rfl
    have f12 : tree4 GA (.ref c3) = false := by rw [show tree4 GA (.ref c3) = treeB GA (3 + 1) (.ref c3) from rfl, treeB_long ec3 (by simp)]
    have tva : ∀ y ∈ [V.ref four, V.ref t5, V.ref t6, V.ref t7, V.ref t8, V.ref t9, V.ref t11, V.ref t12, V.ref t13, V.ref t14, V.non, V.ref c3], Tv GA 20 9 y := (fc (.tup efour (by simp) (fc (.str _ (by decide +kernel)) (fc (.str _ (by decide +kernel)) (fc (.tup et3 (by simp) (fc (.str _ (by decide +kernel)) (fc (.str _ (by decide +kernel)) (fc (.tup et2 (by simp) (fc (.str _ (by decide +kernel)) (fc (.str _ (by decide +kernel)) (fc (.tup et1 (by simp) (fc (.str _ (by decide +kernel)) (fc (.str _ (by decide +kernel)) (fc (.int _ (by decide +kernel)) (fc (.int _ (by decide +kernel)) fn))))) fn)))) fn)))) fn)))) (fc (.tup et5 (by simp) (fc (.str _ (by decide +kernel)) (fc (.str _ (by decide +kernel)) (fc (.tup efour (by simp) (fc (.str _ (by decide +kernel)) (fc (.str _ (by decide +kernel)) (fc (.tup et3 (by simp) (fc (.str _ (by decide +kernel)) (fc (.str _ (by decide +kernel)) (fc (.tup et2 (by simp) (fc (.str _ (by decide +kernel)) (fc (.str _ (by decide +kernel)) (fc (.tup et1 (by simp) (fc (.str _ (by decide +kernel)) (fc (.str _ (by decide +kernel)) (fc (.int _ (by decide +kernel)) (fc (.int _ (by decide +kernel)) fn))))) fn)))) fn)))) fn)))) fn)))) (fc (.tup et6 (by simp) (fc (.str _ (by decide +kernel)) (fc (.str _ (by decide +kernel)) fn))) (fc (.tup et7 (by simp) (fc (.str _ (by decide +kernel)) (fc (.str _ (by decide +kernel)) (fc (.int _ (by decide +kernel)) fn)))) (fc (.tup et8 (by simp) (fc (.str _ (by decide +kernel)) (fc (.str _ (by decide +kernel)) (fc (.int _ (by decide +kernel)) fn)))) (fc (.tup et9 (by simp) (fc (.str _ (by decide +kernel)) (fc (.str _ (by decide +kernel)) (fc (.bl _) fn)))) (fc (.tup et11 (by simp) (fc (.str _ (by decide +kernel)) (fc (.str _ (by decide +kernel)) (fc (.int _ (by decide +kernel)) fn)))) (fc (.tup et12 (by simp) (fc (.str _ (by decide +kernel)) (fc (.str _ (by decide +kernel)) (fc (.int _ (by decide +kernel)) (fc (.int _ (by decide +kernel)) fn))))) (fc (.tup et13 (by simp) (fc (.str _ (by decide +kernel)) (fc (.str _ (by decide +kernel)) (fc (.str _ (by decide +kernel)) fn)))) (fc (.lst et14) (fc .non (fc (.tup ec3 (by simp) (fc (.str _ (by decide +kernel)) (fc (.str _ (by decide +kernel)) (fc (.tup et17 (by simp) (fc (.str _ (by decide +kernel)) (fc (.str _ (by decide +kernel)) (fc (.int _ (by decide +kernel)) fn)))) (fc (.tup et17 (by simp) (fc (.str _ (by decide +kernel)) (fc (.str _ (by decide +kernel)) (fc (.int _ (by decide +kernel)) fn)))) (fc (.tup et17 (by simp) (fc (.str _ (by decide +kernel)) (fc (.str _ (by decide +kernel)) (fc (.int _ (by decide +kernel)) fn)))) (fc (.tup et17 (by simp) (fc (.str _ (by decide +kernel)) (fc (.str _ (by decide +kernel)) (fc (.int _ (by decide +kernel)) fn)))) fn))))))) fn))))))))))))
    refine ⟨_, rfl, c1, rfl, ⟨_, SqL.of ec1⟩, fun Da hDa => lc_list (xs := [V.ref four, V.ref t5, V.ref t6, V.ref t7, V.ref t8, V.ref t9, V.ref t11, V.ref t12, V.ref t13, V.ref t14, V.non, V.ref c3]) (fun i H' => Acc GA Da ((([V.ref four, V.ref t5, V.ref t6, V.ref t7, V.ref t8, V.ref t9, V.ref t11, V.ref t12, V.ref t13, V.ref t14, V.non, V.ref c3].take i).map (tree4 GA)).map V.bl) H') (Acc.start hDa) (fun i H' _ a => SqL.of (a.1 _ _ ec1)) ?_ ?_⟩
    · intro i y H3 hy a3
      refine ⟨rfl, _, rfl, y, rfl, (tva y (List.mem_of_getElem? hy)).same a3.1, fun H4 s4 => ?_⟩
      have a4 := a3.on s4
      refine ⟨_, a4.2.2, ?_, ?_⟩
      · rw [List.length_map, List.length_map, List.length_take]
        have : (20 : Nat) < sizeLine := by decide
        have l : [V.ref four, V.ref t5, V.ref t6, V.ref t7, V.ref t8, V.ref t9, V.ref t11, V.ref t12, V.ref t13, V.ref t14, V.non, V.ref c3].length ≤ 12 := by simp
        omega
      · rw [take_step _ hy, List.map_append]
        rw [show tree4 H3 y = tree4 GA y from treeB_kp (.of a3.1) (tva y (List.mem_of_getElem? hy))]
        exact a4.put
    intro GAx a3
    have hB : [V.ref four, V.ref t5, V.ref t6, V.ref t7, V.ref t8, V.ref t9, V.ref t11, V.ref t12, V.ref t13, V.ref t14, V.non, V.ref c3].map (tree4 GA) = [true, false, true, true, false, false, false, false, false, false, false, false] := by
      simp only [List.map_cons, List.map_nil, f1, f2, f3, f4, f5, f6, f7, f8, f9, f10, f11, f12]
    have a3 : Acc GA Da (([true, false, true, true, false, false, false, false, false, false, false, false] : List Bool).map V.bl) GAx := by
      rw [← hB]
      exact a3
    have et1 := a3.1 _ _ et1
    have et2 := a3.1 _ _ et2
    have et3 := a3.1 _ _ et3
    have efour := a3.1 _ _ efour
    have et5 := a3.1 _ _ et5
    have et6 := a3.1 _ _ et6
    have et7 := a3.1 _ _ et7
    have et8 := a3.1 _ _ et8
    have et9 := a3.1 _ _ et9
    have et11 := a3.1 _ _ et11
    have et12 := a3.1 _ _ et12
    have et13 := a3.1 _ _ et13
    have et14 := a3.1 _ _ et14
    have et16 := a3.1 _ _ et16
    have et17 := a3.1 _ _ et17
    have et18 := a3.1 _ _ et18
    have ec2 := a3.1 _ _ ec2
    have ec3 := a3.1 _ _ ec3
    have ec1 := a3.1 _ _ ec1
    have eDa := a3.2.2
    refine ⟨lp 4 (by decide), fun t19 nt19 => ?_⟩
    have sG19 : Same GAx (upd GAx t19 (.lst [.bl true, .bl false, .bl true, .bl true])) := grow nt19
    have et19 : (upd GAx t19 (.lst [.bl true, .bl false, .bl true, .bl true])) t19 = some (.lst [.bl true, .bl false, .bl true, .bl true]) := upd_same
    revert sG19 et19
    generalize (upd GAx t19 (.lst [.bl true, .bl false, .bl true, .bl true])) = G19
    intro sG19 et19
    have et1 := sG19 _ _ et1
    have et2 := sG19 _ _ et2
    have et3 := sG19 _ _ et3
    have efour := sG19 _ _ efour
    have et5 := sG19 _ _ et5
    have et6 := sG19 _ _ et6
    have et7 := sG19 _ _ et7
    have et8 := sG19 _ _ et8
    have et9 := sG19 _ _ et9
    have et11 := sG19 _ _ et11
    have et12 := sG19 _ _ et12
    have et13 := sG19 _ _ et13
    have et14 := sG19 _ _ et14
    have et16 := sG19 _ _ et16
    have et17 := sG19 _ _ et17
    have et18 := sG19 _ _ et18
    have ec2 := sG19 _ _ ec2
    have ec3 := sG19 _ _ ec3
    have ec1 := sG19 _ _ ec1
    have eDa := sG19 _ _ eDa
    refine ⟨lp 1 (by decide), fun t20 nt20 => ?_⟩
    have sG20 : Same G19 (upd G19 t20 (.lst [.bl false])) := grow nt20
    have et20 : (upd G19 t20 (.lst [.bl false])) t20 = some (.lst [.bl false]) := upd_same
    revert sG20 et20
    generalize (upd G19 t20 (.lst [.bl false])) = G20
    intro sG20 et20
    have et1 := sG20 _ _ et1
    have et2 := sG20 _ _ et2
    have et3 := sG20 _ _ et3
    have efour := sG20 _ _ efour
    have et5 := sG20 _ _ et5
    have et6 := sG20 _ _ et6
    have et7 := sG20 _ _ et7
    have et8 := sG20 _ _ et8
    have et9 := sG20 _ _ et9
    have et11 := sG20 _ _ et11
    have et12 := sG20 _ _ et12
    have et13 := sG20 _ _ et13
    have et14 := sG20 _ _ et14
    have et16 := sG20 _ _ et16
    have et17 := sG20 _ _ et17
    have et18 := sG20 _ _ et18
    have ec2 := sG20 _ _ ec2
    have ec3 := sG20 _ _ ec3
    have ec1 := sG20 _ _ ec1
    have eDa := sG20 _ _ eDa
    have et19 := sG20 _ _ et19
    refine ⟨_, _, _, rfl, rfl, et20, by decide, by decide, (by show 8 ≤ sizeLine; decide), fun y3 ny3 => ?_⟩
    have sGY3 : Same G20 (upd G20 y3 (.lst (List.replicate (8 : Int).toNat [.bl false]).flatten)) := grow ny3
    have ey3 : (upd G20 y3 (.lst (List.replicate (8 : Int).toNat [.bl false]).flatten)) y3 = some (.lst (List.replicate 8 (V.bl false))) := upd_same
    revert sGY3 ey3
    generalize (upd G20 y3 (.lst (List.replicate (8 : Int).toNat [.bl false]).flatten)) = GY3
    intro sGY3 ey3
    have et1 := sGY3 _ _ et1
    have et2 := sGY3 _ _ et2
    have et3 := sGY3 _ _ et3
    have efour := sGY3 _ _ efour
    have et5 := sGY3 _ _ et5
    have et6 := sGY3 _ _ et6
    have et7 := sGY3 _ _ et7
    have et8 := sGY3 _ _ et8
    have et9 := sGY3 _ _ et9
    have et11 := sGY3 _ _ et11
    have et12 := sGY3 _ _ et12
    have et13 := sGY3 _ _ et13
    have et14 := sGY3 _ _ et14
    have et16 := sGY3 _ _ et16
    have et17 := sGY3 _ _ et17
    have et18 := sGY3 _ _ et18
    have ec2 := sGY3 _ _ ec2
    have ec3 := sGY3 _ _ ec3
    have ec1 := sGY3 _ _ ec1
    have eDa := sGY3 _ _ eDa
    have et19 := sGY3 _ _ et19
    have et20 := sGY3 _ _ et20
    refine ⟨_, _, _, _, rfl, rfl, et19, ey3, (by show 12 ≤ sizeLine; decide), fun y4 ny4 => ?_⟩
    have sGY4 : Same GY3 (upd GY3 y4 (.lst ([.bl true, .bl false, .bl true, .bl true] ++ List.replicate 8 (V.bl false)))) := grow ny4
    have ey4 : (upd GY3 y4 (.lst ([.bl true, .bl false, .bl true, .bl true] ++ List.replicate 8 (V.bl false)))) y4 = some (.lst (([true, false, true, true, false, false, false, false, false, false, false, false] : List Bool).map V.bl)) := upd_same
    revert sGY4 ey4
    generalize (upd GY3 y4 (.lst ([.bl true, .bl false, .bl true, .bl true] ++ List.replicate 8 (V.bl false)))) = GY4
    intro sGY4 ey4
    have et1 := sGY4 _ _ et1
    have et2 := sGY4 _ _ et2
    have et3 := sGY4 _ _ et3
    have efour := sGY4 _ _ efour
    have et5 := sGY4 _ _ et5
    have et6 := sGY4 _ _ et6
    have et7 := sGY4 _ _ et7
    have et8 := sGY4 _ _ et8
    have et9 := sGY4 _ _ et9
    have et11 := sGY4 _ _ et11
    have et12 := sGY4 _ _ et12
    have et13 := sGY4 _ _ et13
    have et14 := sGY4 _ _ et14
    have et16 := sGY4 _ _ et16
    have et17 := sGY4 _ _ et17
    have et18 := sGY4 _ _ et18
    have ec2 := sGY4 _ _ ec2
    have ec3 := sGY4 _ _ ec3
    have ec1 := sGY4 _ _ ec1
    have eDa := sGY4 _ _ eDa
    have et19 := sGY4 _ _ et19
    have et20 := sGY4 _ _ et20
    have ey3 := sGY4 _ _ ey3
    have eqB1 : PyData.eqv (.list (([true, false, true, true, false, false, false, false, false, false, false, false] : List Bool).map PyData.bool)) (.list (([true, false, true, true, false, false, false, false, false, false, false, false] : List Bool).map PyData.bool)) = true := by decide +kernel
    refine ⟨.list (([true, false, true, true, false, false, false, false, false, false, false, false] : List Bool).map PyData.bool), .list (([true, false, true, true, false, false, false, false, false, false, false, false] : List Bool).map PyData.bool), .lst (SqL.of eDa) (dp_bools _), .lst (SqL.of ey4) (dp_bools _), by decide +kernel, by decide +kernel, _, rfl, ?_⟩
    rw [eqB1]
    refine iteF ?_
    refine ⟨lp 3 (by decide), fun t21 nt21 => ?_⟩
    have sG21 : Same GY4 (upd GY4 t21 (.tup [.str "at", .str "a", .int 1])) := grow nt21
    have et21 : (upd GY4 t21 (.tup [.str "at", .str "a", .int 1])) t21 = some (.tup [.str "at", .str "a", .int 1]) := upd_same
    revert sG21 et21
    generalize (upd GY4 t21 (.tup [.str "at", .str "a", .int 1])) = G21
    intro sG21 et21
    have et1 := sG21 _ _ et1
    have et2 := sG21 _ _ et2
    have et3 := sG21 _ _ et3
    have efour := sG21 _ _ efour
    have et5 := sG21 _ _ et5
    have et6 := sG21 _ _ et6
    have et7 := sG21 _ _ et7
    have et8 := sG21 _ _ et8
    have et9 := sG21 _ _ et9
    have et11 := sG21 _ _ et11
    have et12 := sG21 _ _ et12
    have et13 := sG21 _ _ et13
    have et14 := sG21 _ _ et14
    have et16 := sG21 _ _ et16
    have et17 := sG21 _ _ et17
    have et18 := sG21 _ _ et18
    have ec2 := sG21 _ _ ec2
    have ec3 := sG21 _ _ ec3
    have ec1 := sG21 _ _ ec1
    have eDa := sG21 _ _ eDa
    have et19 := sG21 _ _ et19
    have et20 := sG21 _ _ et20
    have ey3 := sG21 _ _ ey3
    have ey4 := sG21 _ _ ey4
    refine ⟨lp 3 (by decide), fun t22 nt22 => ?_⟩
    have sG22 : Same G21 (upd G21 t22 (.tup [.str "set", .str "a", .ref t21])) := grow nt22
    have et22 : (upd G21 t22 (.tup [.str "set", .str "a", .ref t21])) t22 = some (.tup [.str "set", .str "a", .ref t21]) := upd_same
    revert sG22 et22
    generalize (upd G21 t22 (.tup [.str "set", .str "a", .ref t21])) = G22
    intro sG22 et22
    have et1 := sG22 _ _ et1
    have et2 := sG22 _ _ et2
    have et3 := sG22 _ _ et3
    have efour := sG22 _ _ efour
    have et5 := sG22 _ _ et5
    have et6 := sG22 _ _ et6
    have et7 := sG22 _ _ et7
    have et8 := sG22 _ _ et8
    have et9 := sG22 _ _ et9
    have et11 := sG22 _ _ et11
    have et12 := sG22 _ _ et12
    have et13 := sG22 _ _ et13
    have et14 := sG22 _ _ et14
    have et16 := sG22 _ _ et16
    have et17 := sG22 _ _ et17
    have et18 := sG22 _ _ et18
    have ec2 := sG22 _ _ ec2
    have ec3 := sG22 _ _ ec3
    have ec1 := sG22 _ _ ec1
    have eDa := sG22 _ _ eDa
    have et19 := sG22 _ _ et19
    have et20 := sG22 _ _ et20
    have ey3 := sG22 _ _ ey3
    have ey4 := sG22 _ _ ey4
    have et21 := sG22 _ _ et21
    refine ⟨lp 2 (by decide), fun t23 nt23 => ?_⟩
    have sG23 : Same G22 (upd G22 t23 (.tup [.str "op", .str "one"])) := grow nt23
    have et23 : (upd G22 t23 (.tup [.str "op", .str "one"])) t23 = some (.tup [.str "op", .str "one"]) := upd_same
    revert sG23 et23
    generalize (upd G22 t23 (.tup [.str "op", .str "one"])) = G23
    intro sG23 et23
    have et1 := sG23 _ _ et1
    have et2 := sG23 _ _ et2
    have et3 := sG23 _ _ et3
    have efour := sG23 _ _ efour
    have et5 := sG23 _ _ et5
    have et6 := sG23 _ _ et6
    have et7 := sG23 _ _ et7
    have et8 := sG23 _ _ et8
    have et9 := sG23 _ _ et9
    have et11 := sG23 _ _ et11
    have et12 := sG23 _ _ et12
    have et13 := sG23 _ _ et13
    have et14 := sG23 _ _ et14
    have et16 := sG23 _ _ et16
    have et17 := sG23 _ _ et17
    have et18 := sG23 _ _ et18
    have ec2 := sG23 _ _ ec2
    have ec3 := sG23 _ _ ec3
    have ec1 := sG23 _ _ ec1
    have eDa := sG23 _ _ eDa
    have et19 := sG23 _ _ et19
    have et20 := sG23 _ _ et20
    have ey3 := sG23 _ _ ey3
    have ey4 := sG23 _ _ ey4
    have et21 := sG23 _ _ et21
    have et22 := sG23 _ _ et22
    refine ⟨lp 3 (by decide), fun t24 nt24 => ?_⟩
    have sG24 : Same G23 (upd G23 t24 (.tup [.str "set", .str "a", .ref t23])) := grow nt24
    have et24 : (upd G23 t24 (.tup [.str "set", .str "a", .ref t23])) t24 = some (.tup [.str "set", .str "a", .ref t23]) := upd_same
    revert sG24 et24
    generalize (upd G23 t24 (.tup [.str "set", .str "a", .ref t23])) = G24
    intro sG24 et24
    have et1 := sG24 _ _ et1
    have et2 := sG24 _ _ et2
    have et3 := sG24 _ _ et3
    have efour := sG24 _ _ efour
    have et5 := sG24 _ _ et5
    have et6 := sG24 _ _ et6
    have et7 := sG24 _ _ et7
    have et8 := sG24 _ _ et8
    have et9 := sG24 _ _ et9
    have et11 := sG24 _ _ et11
    have et12 := sG24 _ _ et12
    have et13 := sG24 _ _ et13
    have et14 := sG24 _ _ et14
    have et16 := sG24 _ _ et16
    have et17 := sG24 _ _ et17
    have et18 := sG24 _ _ et18
    have ec2 := sG24 _ _ ec2
    have ec3 := sG24 _ _ ec3
    have ec1 := sG24 _ _ ec1
    have eDa := sG24 _ _ eDa
    have et19 := sG24 _ _ et19
    have et20 := sG24 _ _ et20
    have ey3 := sG24 _ _ ey3
    have ey4 := sG24 _ _ ey4
    have et21 := sG24 _ _ et21
    have et22 := sG24 _ _ et22
    have et23 := sG24 _ _ et23
    refine ⟨lp 2 (by decide), fun t25 nt25 => ?_⟩
    have sG25 : Same G24 (upd G24 t25 (.tup [.str "op", .str "one"])) := grow nt25
    have et25 : (upd G24 t25 (.tup [.str "op", .str "one"])) t25 = some (.tup [.str "op", .str "one"]) := upd_same
    revert sG25 et25
    generalize (upd G24 t25 (.tup [.str "op", .str "one"])) = G25
    intro sG25 et25
    have et1 := sG25 _ _ et1
    have et2 := sG25 _ _ et2
    have et3 := sG25 _ _ et3
    have efour := sG25 _ _ efour
    have et5 := sG25 _ _ et5
    have et6 := sG25 _ _ et6
    have et7 := sG25 _ _ et7
    have et8 := sG25 _ _ et8
    have et9 := sG25 _ _ et9
    have et11 := sG25 _ _ et11
    have et12 := sG25 _ _ et12
    have et13 := sG25 _ _ et13
    have et14 := sG25 _ _ et14
    have et16 := sG25 _ _ et16
    have et17 := sG25 _ _ et17
    have et18 := sG25 _ _ et18
    have ec2 := sG25 _ _ ec2
    have ec3 := sG25 _ _ ec3
    have ec1 := sG25 _ _ ec1
    have eDa := sG25 _ _ eDa
    have et19 := sG25 _ _ et19
    have et20 := sG25 _ _ et20
    have ey3 := sG25 _ _ ey3
    have ey4 := sG25 _ _ ey4
    have et21 := sG25 _ _ et21
    have et22 := sG25 _ _ et22
    have et23 := sG25 _ _ et23
    have et24 := sG25 _ _ et24
    refine ⟨lp 6 (by decide), fun t26 nt26 => ?_⟩
    have sG26 : Same G25 (upd G25 t26 (.tup [.str "store", .str "a", .str "a", .int 0, .int 0, .ref t25])) := grow nt26
    have et26 : (upd G25 t26 (.tup [.str "store", .str "a", .str "a", .int 0, .int 0, .ref t25])) t26 = some (.tup [.str "store", .str "a", .str "a", .int 0, .int 0, .ref t25]) := upd_same
    revert sG26 et26
    generalize (upd G25 t26 (.tup [.str "store", .str "a", .str "a", .int 0, .int 0, .ref t25])) = G26
    intro sG26 et26
    have et1 := sG26 _ _ et1
    have et2 := sG26 _ _ et2
    have et3 := sG26 _ _ et3
    have efour := sG26 _ _ efour
    have et5 := sG26 _ _ et5
    have et6 := sG26 _ _ et6
    have et7 := sG26 _ _ et7
    have et8 := sG26 _ _ et8
    have et9 := sG26 _ _ et9
    have et11 := sG26 _ _ et11
    have et12 := sG26 _ _ et12
    have et13 := sG26 _ _ et13
    have et14 := sG26 _ _ et14
    have et16 := sG26 _ _ et16
    have et17 := sG26 _ _ et17
    have et18 := sG26 _ _ et18
    have ec2 := sG26 _ _ ec2
    have ec3 := sG26 _ _ ec3
    have ec1 := sG26 _ _ ec1
    have eDa := sG26 _ _ eDa
    have et19 := sG26 _ _ et19
    have et20 := sG26 _ _ et20
    have ey3 := sG26 _ _ ey3
    have ey4 := sG26 _ _ ey4
    have et21 := sG26 _ _ et21
    have et22 := sG26 _ _ et22
    have et23 := sG26 _ _ et23
    have et24 := sG26 _ _ et24
    have et25 := sG26 _ _ et25
    refine ⟨lp 3 (by decide), fun t27 nt27 => ?_⟩
    have sG27 : Same G26 (upd G26 t27 (.lst [.ref t22, .ref t24, .ref t26])) := grow nt27
    have et27 : (upd G26 t27 (.lst [.ref t22, .ref t24, .ref t26])) t27 = some (.lst [.ref t22, .ref t24, .ref t26]) := upd_same
    revert sG27 et27
    generalize (upd G26 t27 (.lst [.ref t22, .ref t24, .ref t26])) = G27
    intro sG27 et27
    have et1 := sG27 _ _ et1
    have et2 := sG27 _ _ et2
    have et3 := sG27 _ _ et3
    have efour := sG27 _ _ efour
    have et5 := sG27 _ _ et5
    have et6 := sG27 _ _ et6
    have et7 := sG27 _ _ et7
    have et8 := sG27 _ _ et8
    have et9 := sG27 _ _ et9
    have et11 := sG27 _ _ et11
    have et12 := sG27 _ _ et12
    have et13 := sG27 _ _ et13
    have et14 := sG27 _ _ et14
    have et16 := sG27 _ _ et16
    have et17 := sG27 _ _ et17
    have et18 := sG27 _ _ et18
    have ec2 := sG27 _ _ ec2
    have ec3 := sG27 _ _ ec3
    have ec1 := sG27 _ _ ec1
    have eDa := sG27 _ _ eDa
    have et19 := sG27 _ _ et19
    have et20 := sG27 _ _ et20
    have ey3 := sG27 _ _ ey3
    have ey4 := sG27 _ _ ey4
    have et21 := sG27 _ _ et21
    have et22 := sG27 _ _ et22
    have et23 := sG27 _ _ et23
    have et24 := sG27 _ _ et24
    have et25 := sG27 _ _ et25
    have et26 := sG27 _ _ et26
    refine ⟨_, rfl, ?_⟩
    refine ⟨_, rfl, ?_⟩
    refine ⟨lp 3 (by decide), fun t28 nt28 => ?_⟩
    have sG28 : Same G27 (upd G27 t28 (.tup [.str "at", .str "a", .int 1])) := grow nt28
    have et28 : (upd G27 t28 (.tup [.str "at", .str "a", .int 1])) t28 = some (.tup [.str "at", .str "a", .int 1]) := upd_same
    revert sG28 et28
    generalize (upd G27 t28 (.tup [.str "at", .str "a", .int 1])) = G28
    intro sG28 et28
    have et1 := sG28 _ _ et1
    have et2 := sG28 _ _ et2
    have et3 := sG28 _ _ et3
    have efour := sG28 _ _ efour
    have et5 := sG28 _ _ et5
    have et6 := sG28 _ _ et6
    have et7 := sG28 _ _ et7
    have et8 := sG28 _ _ et8
    have et9 := sG28 _ _ et9
    have et11 := sG28 _ _ et11
    have et12 := sG28 _ _ et12
    have et13 := sG28 _ _ et13
    have et14 := sG28 _ _ et14
    have et16 := sG28 _ _ et16
    have et17 := sG28 _ _ et17
    have et18 := sG28 _ _ et18
    have ec2 := sG28 _ _ ec2
    have ec3 := sG28 _ _ ec3
    have ec1 := sG28 _ _ ec1
    have eDa := sG28 _ _ eDa
    have et19 := sG28 _ _ et19
    have et20 := sG28 _ _ et20
    have ey3 := sG28 _ _ ey3
    have ey4 := sG28 _ _ ey4
    have et21 := sG28 _ _ et21
    have et22 := sG28 _ _ et22
    have et23 := sG28 _ _ et23
    have et24 := sG28 _ _ et24
    have et25 := sG28 _ _ et25
    have et26 := sG28 _ _ et26
    have et27 := sG28 _ _ et27
    refine ⟨lp 6 (by decide), fun t29 nt29 => ?_⟩
    have sG29 : Same G28 (upd G28 t29 (.tup [.str "store", .str "a", .str "a", .int (-1), .int 0, .ref t28])) := grow nt29
    have et29 : (upd G28 t29 (.tup [.str "store", .str "a", .str "a", .int (-1), .int 0, .ref t28])) t29 = some (.tup [.str "store", .str "a", .str "a", .int (-1), .int 0, .ref t28]) := upd_same
    revert sG29 et29
    generalize (upd G28 t29 (.tup [.str "store", .str "a", .str "a", .int (-1), .int 0, .ref t28])) = G29
    intro sG29 et29
    have et1 := sG29 _ _ et1
    have et2 := sG29 _ _ et2
    have et3 := sG29 _ _ et3
    have efour := sG29 _ _ efour
    have et5 := sG29 _ _ et5
    have et6 := sG29 _ _ et6
    have et7 := sG29 _ _ et7
    have et8 := sG29 _ _ et8
    have et9 := sG29 _ _ et9
    have et11 := sG29 _ _ et11
    have et12 := sG29 _ _ et12
    have et13 := sG29 _ _ et13
    have et14 := sG29 _ _ et14
    have et16 := sG29 _ _ et16
    have et17 := sG29 _ _ et17
    have et18 := sG29 _ _ et18
    have ec2 := sG29 _ _ ec2
    have ec3 := sG29 _ _ ec3
    have ec1 := sG29 _ _ ec1
    have eDa := sG29 _ _ eDa
    have et19 := sG29 _ _ et19
    have et20 := sG29 _ _ et20
    have ey3 := sG29 _ _ ey3
    have ey4 := sG29 _ _ ey4
    have et21 := sG29 _ _ et21
    have et22 := sG29 _ _ et22
    have et23 := sG29 _ _ et23
    have et24 := sG29 _ _ et24
    have et25 := sG29 _ _ et25
    have et26 := sG29 _ _ et26
    have et27 := sG29 _ _ et27
    have et28 := sG29 _ _ et28
    refine ⟨lp 2 (by decide), fun t30 nt30 => ?_⟩
    have sG30 : Same G29 (upd G29 t30 (.tup [.str "op", .str "one"])) := grow nt30
    have et30 : (upd G29 t30 (.tup [.str "op", .str "one"])) t30 = some (.tup [.str "op", .str "one"]) := upd_same
    revert sG30 et30
    generalize (upd G29 t30 (.tup [.str "op", .str "one"])) = G30
    intro sG30 et30
    have et1 := sG30 _ _ et1
    have et2 := sG30 _ _ et2
    have et3 := sG30 _ _ et3
    have efour := sG30 _ _ efour
    have et5 := sG30 _ _ et5
    have et6 := sG30 _ _ et6
    have et7 := sG30 _ _ et7
    have et8 := sG30 _ _ et8
    have et9 := sG30 _ _ et9
    have et11 := sG30 _ _ et11
    have et12 := sG30 _ _ et12
    have et13 := sG30 _ _ et13
    have et14 := sG30 _ _ et14
    have et16 := sG30 _ _ et16
    have et17 := sG30 _ _ et17
    have et18 := sG30 _ _ et18
    have ec2 := sG30 _ _ ec2
    have ec3 := sG30 _ _ ec3
    have ec1 := sG30 _ _ ec1
    have eDa := sG30 _ _ eDa
    have et19 := sG30 _ _ et19
    have et20 := sG30 _ _ et20
    have ey3 := sG30 _ _ ey3
    have ey4 := sG30 _ _ ey4
    have et21 := sG30 _ _ et21
    have et22 := sG30 _ _ et22
    have et23 := sG30 _ _ et23
    have et24 := sG30 _ _ et24
    have et25 := sG30 _ _ et25
    have et26 := sG30 _ _ et26
    have et27 := sG30 _ _ et27
    have et28 := sG30 _ _ et28
    have et29 := sG30 _ _ et29
    refine ⟨lp 5 (by decide), fun t31 nt31 => ?_⟩
    have sG31 : Same G30 (upd G30 t31 (.tup [.str "store", .str "a", .int 1, .int 0, .ref t30])) := grow nt31
    have et31 : (upd G30 t31 (.tup [.str "store", .str "a", .int 1, .int 0, .ref t30])) t31 = some (.tup [.str "store", .str "a", .int 1, .int 0, .ref t30]) := upd_same
    revert sG31 et31
    generalize (upd G30 t31 (.tup [.str "store", .str "a", .int 1, .int 0, .ref t30])) = G31
    intro sG31 et31
    have et1 := sG31 _ _ et1
    have et2 := sG31 _ _ et2
    have et3 := sG31 _ _ et3
    have efour := sG31 _ _ efour
    have et5 := sG31 _ _ et5
    have et6 := sG31 _ _ et6
    have et7 := sG31 _ _ et7
    have et8 := sG31 _ _ et8
    have et9 := sG31 _ _ et9
    have et11 := sG31 _ _ et11
    have et12 := sG31 _ _ et12
    have et13 := sG31 _ _ et13
    have et14 := sG31 _ _ et14
    have et16 := sG31 _ _ et16
    have et17 := sG31 _ _ et17
    have et18 := sG31 _ _ et18
    have ec2 := sG31 _ _ ec2
    have ec3 := sG31 _ _ ec3
    have ec1 := sG31 _ _ ec1
    have eDa := sG31 _ _ eDa
    have et19 := sG31 _ _ et19
    have et20 := sG31 _ _ et20
    have ey3 := sG31 _ _ ey3
    have ey4 := sG31 _ _ ey4
    have et21 := sG31 _ _ et21
    have et22 := sG31 _ _ et22
    have et23 := sG31 _ _ et23
    have et24 := sG31 _ _ et24
    have et25 := sG31 _ _ et25
    have et26 := sG31 _ _ et26
    have et27 := sG31 _ _ et27
    have et28 := sG31 _ _ et28
    have et29 := sG31 _ _ et29
    have et30 := sG31 _ _ et30
    refine ⟨lp 2 (by decide), fun t32 nt32 => ?_⟩
    have sG32 : Same G31 (upd G31 t32 (.lst [.ref t29, .ref t31])) := grow nt32
    have et32 : (upd G31 t32 (.lst [.ref t29, .ref t31])) t32 = some (.lst [.ref t29, .ref t31]) := upd_same
    revert sG32 et32
    generalize (upd G31 t32 (.lst [.ref t29, .ref t31])) = G32
    intro sG32 et32
    have et1 := sG32 _ _ et1
    have et2 := sG32 _ _ et2
    have et3 := sG32 _ _ et3
    have efour := sG32 _ _ efour
    have et5 := sG32 _ _ et5
    have et6 := sG32 _ _ et6
    have et7 := sG32 _ _ et7
    have et8 := sG32 _ _ et8
    have et9 := sG32 _ _ et9
    have et11 := sG32 _ _ et11
    have et12 := sG32 _ _ et12
    have et13 := sG32 _ _ et13
    have et14 := sG32 _ _ et14
    have et16 := sG32 _ _ et16
    have et17 := sG32 _ _ et17
    have et18 := sG32 _ _ et18
    have ec2 := sG32 _ _ ec2
    have ec3 := sG32 _ _ ec3
    have ec1 := sG32 _ _ ec1
    have eDa := sG32 _ _ eDa
    have et19 := sG32 _ _ et19
    have et20 := sG32 _ _ et20
    have ey3 := sG32 _ _ ey3
    have ey4 := sG32 _ _ ey4
    have et21 := sG32 _ _ et21
    have et22 := sG32 _ _ et22
    have et23 := sG32 _ _ et23
    have et24 := sG32 _ _ et24
    have et25 := sG32 _ _ et25
    have et26 := sG32 _ _ et26
    have et27 := sG32 _ _ et27
    have et28 := sG32 _ _ et28
    have et29 := sG32 _ _ et29
    have et30 := sG32 _ _ et30
    have et31 := sG32 _ _ et31
    refine ⟨_, _, _, _, rfl, rfl, et27, et32, (by show 5 ≤ sizeLine; decide), fun c4 nc4 => ?_⟩
    have sGC4 : Same G32 (upd G32 c4 (.lst ([.ref t22, .ref t24, .ref t26] ++ [.ref t29, .ref t31]))) := grow nc4
    have ec4 : (upd G32 c4 (.lst ([.ref t22, .ref t24, .ref t26] ++ [.ref t29, .ref t31]))) c4 = some (.lst [.ref t22, .ref t24, .ref t26, .ref t29, .ref t31]) := upd_same
    revert sGC4 ec4
    generalize (upd G32 c4 (.lst ([.ref t22, .ref t24, .ref t26] ++ [.ref t29, .ref t31]))) = GC4
    intro sGC4 ec4
    have et1 := sGC4 _ _ et1
    have et2 := sGC4 _ _ et2
    have et3 := sGC4 _ _ et3
    have efour := sGC4 _ _ efour
    have et5 := sGC4 _ _ et5
    have et6 := sGC4 _ _ et6
    have et7 := sGC4 _ _ et7
    have et8 := sGC4 _ _ et8
    have et9 := sGC4 _ _ et9
    have et11 := sGC4 _ _ et11
    have et12 := sGC4 _ _ et12
    have et13 := sGC4 _ _ et13
    have et14 := sGC4 _ _ et14
    have et16 := sGC4 _ _ et16
    have et17 := sGC4 _ _ et17
    have et18 := sGC4 _ _ et18
    have ec2 := sGC4 _ _ ec2
    have ec3 := sGC4 _ _ ec3
    have ec1 := sGC4 _ _ ec1
    have eDa := sGC4 _ _ eDa
    have et19 := sGC4 _ _ et19
    have et20 := sGC4 _ _ et20
    have ey3 := sGC4 _ _ ey3
    have ey4 := sGC4 _ _ ey4
    have et21 := sGC4 _ _ et21
    have et22 := sGC4 _ _ et22
    have et23 := sGC4 _ _ et23
    have et24 := sGC4 _ _ et24
    have et25 := sGC4 _ _ et25
    have et26 := sGC4 _ _ et26
    have et27 := sGC4 _ _ et27
    have et28 := sGC4 _ _ et28
    have et29 := sGC4 _ _ et29
    have et30 := sGC4 _ _ et30
    have et31 := sGC4 _ _ et31
    have et32 := sGC4 _ _ et32
    refine ⟨_, rfl, .inl ⟨rfl, _, SqL.of ec4⟩, ?_⟩
    refine ⟨_, rfl, ?_⟩
    refine ⟨_, rfl, ?_⟩
    refine ⟨lp 4 (by decide), fun t33 nt33 => ?_⟩
    have sG33 : Same GC4 (upd GC4 t33 (.tup [.str "set", .str "a", .ref four, .ref four])) := grow nt33
    have et33 : (upd GC4 t33 (.tup [.str "set", .str "a", .ref four, .ref four])) t33 = some (.tup [.str "set", .str "a", .ref four, .ref four]) := upd_same
    revert sG33 et33
    generalize (upd GC4 t33 (.tup [.str "set", .str "a", .ref four, .ref four])) = G33
    intro sG33 et33
    have et1 := sG33 _ _ et1
    have et2 := sG33 _ _ et2
    have et3 := sG33 _ _ et3
    have efour := sG33 _ _ efour
    have et5 := sG33 _ _ et5
    have et6 := sG33 _ _ et6
    have et7 := sG33 _ _ et7
    have et8 := sG33 _ _ et8
    have et9 := sG33 _ _ et9
    have et11 := sG33 _ _ et11
    have et12 := sG33 _ _ et12
    have et13 := sG33 _ _ et13
    have et14 := sG33 _ _ et14
    have et16 := sG33 _ _ et16
    have et17 := sG33 _ _ et17
    have et18 := sG33 _ _ et18
    have ec2 := sG33 _ _ ec2
    have ec3 := sG33 _ _ ec3
    have ec1 := sG33 _ _ ec1
    have eDa := sG33 _ _ eDa
    have et19 := sG33 _ _ et19
    have et20 := sG33 _ _ et20
    have ey3 := sG33 _ _ ey3
    have ey4 := sG33 _ _ ey4
    have et21 := sG33 _ _ et21
    have et22 := sG33 _ _ et22
    have et23 := sG33 _ _ et23
    have et24 := sG33 _ _ et24
    have et25 := sG33 _ _ et25
    have et26 := sG33 _ _ et26
    have et27 := sG33 _ _ et27
    have et28 := sG33 _ _ et28
    have et29 := sG33 _ _ et29
    have et30 := sG33 _ _ et30
    have et31 := sG33 _ _ et31
    have et32 := sG33 _ _ et32
    have ec4 := sG33 _ _ ec4
    refine ⟨_, _, _, rfl, rfl, ec4, lp 6 (by decide), ?_⟩
    have kpA : Kp G33 (upd G33 c4 (.lst ([.ref t22, .ref t24, .ref t26, .ref t29, .ref t31] ++ [.ref t33]))) := .upd ec4
    have ec4 : (upd G33 c4 (.lst ([.ref t22, .ref t24, .ref t26, .ref t29, .ref t31] ++ [.ref t33]))) c4 = some (.lst [.ref t22, .ref t24, .ref t26, .ref t29, .ref t31, .ref t33]) := upd_same
    have et1 := kpA.tup _ _ et1
    have et2 := kpA.tup _ _ et2
    have et3 := kpA.tup _ _ et3
    have efour := kpA.tup _ _ efour
    have et5 := kpA.tup _ _ et5
    have et6 := kpA.tup _ _ et6
    have et7 := kpA.tup _ _ et7
    have et8 := kpA.tup _ _ et8
    have et9 := kpA.tup _ _ et9
    have et11 := kpA.tup _ _ et11
    have et12 := kpA.tup _ _ et12
    have et13 := kpA.tup _ _ et13
    have et16 := kpA.tup _ _ et16
    have et17 := kpA.tup _ _ et17
    have et18 := kpA.tup _ _ et18
    have ec2 := kpA.tup _ _ ec2
    have ec3 := kpA.tup _ _ ec3
    have et21 := kpA.tup _ _ et21
    have et22 := kpA.tup _ _ et22
    have et23 := kpA.tup _ _ et23
    have et24 := kpA.tup _ _ et24
    have et25 := kpA.tup _ _ et25
    have et26 := kpA.tup _ _ et26
    have et28 := kpA.tup _ _ et28
    have et29 := kpA.tup _ _ et29
    have et30 := kpA.tup _ _ et30
    have et31 := kpA.tup _ _ et31
    have et33 := kpA.tup _ _ et33
    clear kpA
    revert et1 et2 et3 efour et5 et6 et7 et8 et9 et11 et12 et13 et16 et17 et18 ec2 ec3 et21 et22 et23 et24 et25 et26 et28 et29 et30 et31 et33 ec4
    generalize (upd G33 c4 (.lst ([.ref t22, .ref t24, .ref t26, .ref t29, .ref t31] ++ [.ref t33]))) = GB
    intro ec4 et1 et2 et3 efour et5 et6 et7 et8 et9 et11 et12 et13 et16 et17 et18 ec2 ec3 et21 et22 et23 et24 et25 et26 et28 et29 et30 et31 et33
    have o1' : tree4 GB (.ref t23) = true := by rw [show tree4 GB (.ref t23) = treeB GB (3 + 1) (.ref t23) from rfl, treeB_op et23 nOne (by simp)]; rfl
    have o3' : tree4 GB (.ref t28) = true := by rw [show tree4 GB (.ref t28) = treeB GB (3 + 1) (.ref t28) from rfl, treeB_at et28 nA]; decide +kernel
    have g1 : stateB GB (.ref t22) = false := by
      rw [stateB_tup et22, set_part nA]
      show (tree4 GB (.ref t21) && !headAt GB (.ref t21)) = false
      rw [head_at et21, Bool.not_true, Bool.and_false]
    have g2 : stateB GB (.ref t24) = true := by
      rw [stateB_tup et24, set_part nA]
      show (tree4 GB (.ref t23) && !headAt GB (.ref t23)) = true
      rw [head_op et23, o1']
      rfl
    have g3 : stateB GB (.ref t26) = false := by
      rw [stateB_tup et26, store_part nA]
      show (nameB (.str "a") && (integB (.int 0) && (!isZero (.int 0) && (integB (.int 0) && tree4 GB (.ref t25))))) = false
      rw [show (!isZero (.int 0)) = false from rfl, Bool.false_and, Bool.and_false, Bool.and_false]
    have g4 : stateB GB (.ref t29) = true := by
      rw [stateB_tup et29, store_part nA]
      show (nameB (.str "a") && (integB (.int (-1)) && (!isZero (.int (-1)) && (integB (.int 0) && tree4 GB (.ref t28))))) = true
      rw [nA, show integB (.int (-1)) = true by decide +kernel, show (!isZero (.int (-1))) = true from rfl, show integB (.int 0) = true by decide +kernel, o3']
      rfl
    have g5 : stateB GB (.ref t31) = false := by
      rw [stateB_tup et31, store_part nA]
      rfl
    have g6 : stateB GB (.ref t33) = false := by
      rw [stateB_tup et33, set_part nA]
      rfl
    have tvb : ∀ y ∈ [V.ref t22, V.ref t24, V.ref t26, V.ref t29, V.ref t31, V.ref t33], Tv GB 20 9 y := (fc (.tup et22 (by simp) (fc (.str _ (by decide +kernel)) (fc (.str _ (by decide +kernel)) (fc (.tup et21 (by simp) (fc (.str _ (by decide +kernel)) (fc (.str _ (by decide +kernel)) (fc (.int _ (by decide +kernel)) fn)))) fn)))) (fc (.tup et24 (by simp) (fc (.str _ (by decide +kernel)) (fc (.str _ (by decide +kernel)) (fc (.tup et23 (by simp) (fc (.str _ (by decide +kernel)) (fc (.str _ (by decide +kernel)) fn))) fn)))) (fc (.tup et26 (by simp) (fc (.str _ (by decide +kernel)) (fc (.str _ (by decide +kernel)) (fc (.str _ (by decide +kernel)) (fc (.int _ (by decide +kernel)) (fc (.int _ (by decide +kernel)) (fc (.tup et25 (by simp) (fc (.str _ (by decide +kernel)) (fc (.str _ (by decide +kernel)) fn))) fn))))))) (fc (.tup et29 (by simp) (fc (.str _ (by decide +kernel)) (fc (.str _ (by decide +kernel)) (fc (.str _ (by decide +kernel)) (fc (.int _ (by decide +kernel)) (fc (.int _ (by decide +kernel)) (fc (.tup et28 (by simp) (fc (.str _ (by decide +kernel)) (fc (.str _ (by decide +kernel)) (fc (.int _ (by decide +kernel)) fn)))) fn))))))) (fc (.tup et31 (by simp) (fc (.str _ (by decide +kernel)) (fc (.str _ (by decide +kernel)) (fc (.int _ (by decide +kernel)) (fc (.int _ (by decide +kernel)) (fc (.tup et30 (by simp) (fc (.str _ (by decide +kernel)) (fc (.str _ (by decide +kernel)) fn))) fn)))))) (fc (.tup et33 (by simp) (fc (.str _ (by decide +kernel)) (fc (.str _ (by decide +kernel)) (fc (.tup efour (by simp) (fc (.str _ (by decide +kernel)) (fc (.str _ (by decide +kernel)) (fc (.tup et3 (by simp) (fc (.str _ (by decide +kernel)) (fc (.str _ (by decide +kernel)) (fc (.tup et2 (by simp) (fc (.str _ (by decide +kernel)) (fc (.str _ (by decide +kernel)) (fc (.tup et1 (by simp) (fc (.str _ (by decide +kernel)) (fc (.str _ (by decide +kernel)) (fc (.int _ (by decide +kernel)) (fc (.int _ (by decide +kernel)) fn))))) fn)))) fn)))) fn)))) (fc (.tup efour (by simp) (fc (.str _ (by decide +kernel)) (fc (.str _ (by decide +kernel)) (fc (.tup et3 (by simp) (fc (.str _ (by decide +kernel)) (fc (.str _ (by decide +kernel)) (fc (.tup et2 (by simp) (fc (.str _ (by decide +kernel)) (fc (.str _ (by decide +kernel)) (fc (.tup et1 (by simp) (fc (.str _ (by decide +kernel)) (fc (.str _ (by decide +kernel)) (fc (.int _ (by decide +kernel)) (fc (.int _ (by decide +kernel)) fn))))) fn)))) fn)))) fn)))) fn))))) fn))))))
    refine ⟨_, rfl, c4, rfl, ⟨_, SqL.of ec4⟩, fun Db hDb => lc_list (xs := [V.ref t22, V.ref t24, V.ref t26, V.ref t29, V.ref t31, V.ref t33]) (fun i H' => Acc GB Db ((([V.ref t22, V.ref t24, V.ref t26, V.ref t29, V.ref t31, V.ref t33].take i).map (stateB GB)).map V.bl) H') (Acc.start hDb) (fun i H' _ a => SqL.of (a.1 _ _ ec4)) ?_ ?_⟩
    · intro i y H3 hy a3
      refine ⟨rfl, _, rfl, y, rfl, (tvb y (List.mem_of_getElem? hy)).same a3.1, fun H4 s4 => ?_⟩
      have a4 := a3.on s4
      refine ⟨_, a4.2.2, ?_, ?_⟩
      · rw [List.length_map, List.length_map, List.length_take]
        have : (20 : Nat) < sizeLine := by decide
        have l : [V.ref t22, V.ref t24, V.ref t26, V.ref t29, V.ref t31, V.ref t33].length ≤ 12 := by simp
        omega
      · rw [take_step _ hy, List.map_append]
        rw [show stateB H3 y = stateB GB y from stateB_kp (.of a3.1) (tvb y (List.mem_of_getElem? hy))]
        exact a4.put
    intro GBx a3
    have hB : [V.ref t22, V.ref t24, V.ref t26, V.ref t29, V.ref t31, V.ref t33].map (stateB GB) = [false, true, false, true, false, false] := by
      simp only [List.map_cons, List.map_nil, g1, g2, g3, g4, g5, g6]
    have a3 : Acc GB Db (([false, true, false, true, false, false] : List Bool).map V.bl) GBx := by
      rw [← hB]
      exact a3
    have et1 := a3.1 _ _ et1
    have et2 := a3.1 _ _ et2
    have et3 := a3.1 _ _ et3
    have efour := a3.1 _ _ efour
    have et5 := a3.1 _ _ et5
    have et6 := a3.1 _ _ et6
    have et7 := a3.1 _ _ et7
    have et8 := a3.1 _ _ et8
    have et9 := a3.1 _ _ et9
    have et11 := a3.1 _ _ et11
    have et12 := a3.1 _ _ et12
    have et13 := a3.1 _ _ et13
    have et16 := a3.1 _ _ et16
    have et17 := a3.1 _ _ et17
    have et18 := a3.1 _ _ et18
    have ec2 := a3.1 _ _ ec2
    have ec3 := a3.1 _ _ ec3
    have et21 := a3.1 _ _ et21
    have et22 := a3.1 _ _ et22
    have et23 := a3.1 _ _ et23
    have et24 := a3.1 _ _ et24
    have et25 := a3.1 _ _ et25
    have et26 := a3.1 _ _ et26
    have et28 := a3.1 _ _ et28
    have et29 := a3.1 _ _ et29
    have et30 := a3.1 _ _ et30
    have et31 := a3.1 _ _ et31
    have et33 := a3.1 _ _ et33
    have ec4 := a3.1 _ _ ec4
    have eDb := a3.2.2
    refine ⟨lp 6 (by decide), fun t34 nt34 => ?_⟩
    have sG34 : Same GBx (upd GBx t34 (.lst [.bl false, .bl true, .bl false, .bl true, .bl false, .bl false])) := grow nt34
    have et34 : (upd GBx t34 (.lst [.bl false, .bl true, .bl false, .bl true, .bl false, .bl false])) t34 = some (.lst [.bl false, .bl true, .bl false, .bl true, .bl false, .bl false]) := upd_same
    revert sG34 et34
    generalize (upd GBx t34 (.lst [.bl false, .bl true, .bl false, .bl true, .bl false, .bl false])) = G34
    intro sG34 et34
    have et1 := sG34 _ _ et1
    have et2 := sG34 _ _ et2
    have et3 := sG34 _ _ et3
    have efour := sG34 _ _ efour
    have et5 := sG34 _ _ et5
    have et6 := sG34 _ _ et6
    have et7 := sG34 _ _ et7
    have et8 := sG34 _ _ et8
    have et9 := sG34 _ _ et9
    have et11 := sG34 _ _ et11
    have et12 := sG34 _ _ et12
    have et13 := sG34 _ _ et13
    have et16 := sG34 _ _ et16
    have et17 := sG34 _ _ et17
    have et18 := sG34 _ _ et18
    have ec2 := sG34 _ _ ec2
    have ec3 := sG34 _ _ ec3
    have et21 := sG34 _ _ et21
    have et22 := sG34 _ _ et22
    have et23 := sG34 _ _ et23
    have et24 := sG34 _ _ et24
    have et25 := sG34 _ _ et25
    have et26 := sG34 _ _ et26
    have et28 := sG34 _ _ et28
    have et29 := sG34 _ _ et29
    have et30 := sG34 _ _ et30
    have et31 := sG34 _ _ et31
    have et33 := sG34 _ _ et33
    have ec4 := sG34 _ _ ec4
    have eDb := sG34 _ _ eDb
    have eqB2 : PyData.eqv (.list (([false, true, false, true, false, false] : List Bool).map PyData.bool)) (.list (([false, true, false, true, false, false] : List Bool).map PyData.bool)) = true := by decide +kernel
    refine ⟨.list (([false, true, false, true, false, false] : List Bool).map PyData.bool), .list (([false, true, false, true, false, false] : List Bool).map PyData.bool), .lst (SqL.of eDb) (dp_bools _), .lst (SqL.of et34) (dp_bools ([false, true, false, true, false, false] : List Bool)), by decide +kernel, by decide +kernel, _, rfl, ?_⟩
    rw [eqB2]
    refine iteF ?_
    have b1 : ∀ q, treeB G34 (q + 1) (.ref t1) = true := fun q => by rw [treeB_load et1 nA]; decide +kernel
    have b2 : ∀ q, treeB G34 (q + 1) (.ref t2) = treeB G34 q (.ref t1) := fun q => by rw [treeB_op et2 nH (by simp)]; simp
    have b3 : ∀ q, treeB G34 (q + 1) (.ref t3) = treeB G34 q (.ref t2) := fun q => by rw [treeB_op et3 nG (by simp)]; simp
    have b4 : ∀ q, treeB G34 (q + 1) (.ref four) = treeB G34 q (.ref t3) := fun q => by rw [treeB_op efour nF (by simp)]; simp
    have tr1 : tree4 G34 (.ref four) = true := (b4 3).trans ((b3 2).trans ((b2 1).trans (b1 0)))
    have v1 : countN G34 4 (.ref four) = 4 := by rw [count_op efour, count_op et3, count_op et2, count_load et1]
    refine ⟨_, rfl, ?_⟩
    refine ⟨.ref four, rfl, (.tup efour (by simp) (fc (.str _ (by decide +kernel)) (fc (.str _ (by decide +kernel)) (fc (.tup et3 (by simp) (fc (.str _ (by decide +kernel)) (fc (.str _ (by decide +kernel)) (fc (.tup et2 (by simp) (fc (.str _ (by decide +kernel)) (fc (.str _ (by decide +kernel)) (fc (.tup et1 (by simp) (fc (.str _ (by decide +kernel)) (fc (.str _ (by decide +kernel)) (fc (.int _ (by decide +kernel)) (fc (.int _ (by decide +kernel)) fn))))) fn)))) fn)))) fn)))), fun cc _ _ => absurd cc (by rw [tr1]; decide), fun _ N1 sN1 => ?_⟩
    rw [show countN G34 4 (.ref four) = 4 from v1]
    have et1 := sN1 _ _ et1
    have et2 := sN1 _ _ et2
    have et3 := sN1 _ _ et3
    have efour := sN1 _ _ efour
    have b1 : ∀ q, treeB N1 (q + 1) (.ref t1) = true := fun q => by rw [treeB_load et1 nA]; decide +kernel
    have b2 : ∀ q, treeB N1 (q + 1) (.ref t2) = treeB N1 q (.ref t1) := fun q => by rw [treeB_op et2 nH (by simp)]; simp
    have b3 : ∀ q, treeB N1 (q + 1) (.ref t3) = treeB N1 q (.ref t2) := fun q => by rw [treeB_op et3 nG (by simp)]; simp
    have b4 : ∀ q, treeB N1 (q + 1) (.ref four) = treeB N1 q (.ref t3) := fun q => by rw [treeB_op efour nF (by simp)]; simp
    have tr2 : tree4 N1 (.ref four) = true := (b4 3).trans ((b3 2).trans ((b2 1).trans (b1 0)))
    have v2 : workN N1 4 (.ref four) = 4 := by rw [work_op efour, work_op et3, work_op et2, work_load et1]
    refine ⟨_, rfl, ?_⟩
    refine ⟨.ref four, rfl, (.tup efour (by simp) (fc (.str _ (by decide +kernel)) (fc (.str _ (by decide +kernel)) (fc (.tup et3 (by simp) (fc (.str _ (by decide +kernel)) (fc (.str _ (by decide +kernel)) (fc (.tup et2 (by simp) (fc (.str _ (by decide +kernel)) (fc (.str _ (by decide +kernel)) (fc (.tup et1 (by simp) (fc (.str _ (by decide +kernel)) (fc (.str _ (by decide +kernel)) (fc (.int _ (by decide +kernel)) (fc (.int _ (by decide +kernel)) fn))))) fn)))) fn)))) fn)))), fun cc _ _ => absurd cc (by rw [tr2]; decide), fun _ N2 sN2 => ?_⟩
    rw [show workN N1 4 (.ref four) = 4 from v2]
    have et1 := sN2 _ _ et1
    have et2 := sN2 _ _ et2
    have et3 := sN2 _ _ et3
    have efour := sN2 _ _ efour
    refine ⟨lp 3 (by decide), fun t35 nt35 => ?_⟩
    have sG35 : Same N2 (upd N2 t35 (.tup [.str "at", .str "a", .int 0])) := grow nt35
    have et35 : (upd N2 t35 (.tup [.str "at", .str "a", .int 0])) t35 = some (.tup [.str "at", .str "a", .int 0]) := upd_same
    revert sG35 et35
    generalize (upd N2 t35 (.tup [.str "at", .str "a", .int 0])) = G35
    intro sG35 et35
    have et1 := sG35 _ _ et1
    have et2 := sG35 _ _ et2
    have et3 := sG35 _ _ et3
    have efour := sG35 _ _ efour
    have tr3 : tree4 G35 (.ref t35) = true := by rw [show tree4 G35 (.ref t35) = treeB G35 (3 + 1) (.ref t35) from rfl, treeB_at et35 nA]; decide +kernel
    have v3 : workN G35 4 (.ref t35) = 0 := work_at et35
    refine ⟨.ref t35, rfl, (.tup et35 (by simp) (fc (.str _ (by decide +kernel)) (fc (.str _ (by decide +kernel)) (fc (.int _ (by decide +kernel)) fn)))), fun cc _ _ => absurd cc (by rw [tr3]; decide), fun _ N3 sN3 => ?_⟩
    rw [show workN G35 4 (.ref t35) = 0 from v3]
    have et1 := sN3 _ _ et1
    have et2 := sN3 _ _ et2
    have et3 := sN3 _ _ et3
    have efour := sN3 _ _ efour
    have et35 := sN3 _ _ et35
    refine ⟨lp 2 (by decide), fun t36 nt36 => ?_⟩
    have sG36 : Same N3 (upd N3 t36 (.tup [.str "op", .str "one"])) := grow nt36
    have et36 : (upd N3 t36 (.tup [.str "op", .str "one"])) t36 = some (.tup [.str "op", .str "one"]) := upd_same
    revert sG36 et36
    generalize (upd N3 t36 (.tup [.str "op", .str "one"])) = G36
    intro sG36 et36
    have et1 := sG36 _ _ et1
    have et2 := sG36 _ _ et2
    have et3 := sG36 _ _ et3
    have efour := sG36 _ _ efour
    have et35 := sG36 _ _ et35
    have tr4 : tree4 G36 (.ref t36) = true := by rw [show tree4 G36 (.ref t36) = treeB G36 (3 + 1) (.ref t36) from rfl, treeB_op et36 nOne (by simp)]; rfl
    have v4 : countN G36 4 (.ref t36) = 1 := count_one et36
    refine ⟨.ref t36, rfl, (.tup et36 (by simp) (fc (.str _ (by decide +kernel)) (fc (.str _ (by decide +kernel)) fn))), fun cc _ _ => absurd cc (by rw [tr4]; decide), fun _ N4 sN4 => ?_⟩
    rw [show countN G36 4 (.ref t36) = 1 from v4]
    have et1 := sN4 _ _ et1
    have et2 := sN4 _ _ et2
    have et3 := sN4 _ _ et3
    have efour := sN4 _ _ efour
    have et35 := sN4 _ _ et35
    have et36 := sN4 _ _ et36
    refine ⟨lp 4 (by decide), fun t37 nt37 => ?_⟩
    have sG37 : Same N4 (upd N4 t37 (.lst [.int ((4 : Nat) : Int), .int ((4 : Nat) : Int), .int ((0 : Nat) : Int), .int ((1 : Nat) : Int)])) := grow nt37
    have et37 : (upd N4 t37 (.lst [.int ((4 : Nat) : Int), .int ((4 : Nat) : Int), .int ((0 : Nat) : Int), .int ((1 : Nat) : Int)])) t37 = some (.lst [.int ((4 : Nat) : Int), .int ((4 : Nat) : Int), .int ((0 : Nat) : Int), .int ((1 : Nat) : Int)]) := upd_same
    revert sG37 et37
    generalize (upd N4 t37 (.lst [.int ((4 : Nat) : Int), .int ((4 : Nat) : Int), .int ((0 : Nat) : Int), .int ((1 : Nat) : Int)])) = G37
    intro sG37 et37
    have et1 := sG37 _ _ et1
    have et2 := sG37 _ _ et2
    have et3 := sG37 _ _ et3
    have efour := sG37 _ _ efour
    have et35 := sG37 _ _ et35
    have et36 := sG37 _ _ et36
    refine ⟨lp 4 (by decide), fun t38 nt38 => ?_⟩
    have sG38 : Same G37 (upd G37 t38 (.lst [.int 4, .int 4, .int 0, .int 1])) := grow nt38
    have et38 : (upd G37 t38 (.lst [.int 4, .int 4, .int 0, .int 1])) t38 = some (.lst [.int 4, .int 4, .int 0, .int 1]) := upd_same
    revert sG38 et38
    generalize (upd G37 t38 (.lst [.int 4, .int 4, .int 0, .int 1])) = G38
    intro sG38 et38
    have et1 := sG38 _ _ et1
    have et2 := sG38 _ _ et2
    have et3 := sG38 _ _ et3
    have efour := sG38 _ _ efour
    have et35 := sG38 _ _ et35
    have et36 := sG38 _ _ et36
    have et37 := sG38 _ _ et37
    have eqF : PyData.eqv (.list [.int ((4 : Nat) : Int), .int ((4 : Nat) : Int), .int ((0 : Nat) : Int), .int ((1 : Nat) : Int)]) (.list [.int 4, .int 4, .int 0, .int 1]) = true := by decide +kernel
    refine ⟨.list [.int ((4 : Nat) : Int), .int ((4 : Nat) : Int), .int ((0 : Nat) : Int), .int ((1 : Nat) : Int)], .list [.int 4, .int 4, .int 0, .int 1], .lst (SqL.of et37) (.cons (.int _) (.cons (.int _) (.cons (.int _) (.cons (.int _) .nil)))), .lst (SqL.of et38) (.cons (.int _) (.cons (.int _) (.cons (.int _) (.cons (.int _) .nil)))), by decide +kernel, by decide +kernel, ?_⟩
    rw [eqF]
    exact k _
end
end K1
namespace K1
open PySem L2
open L2.My
/-! as L2.My.walkG, the top's own facts handed on -/
namespace E
open PySem PySem.Spec PyProof.Rows L2 L2.My
theorem walkT {l : PySem.W.OpenLaw} {n k : Nat} {q : Program} {loose : List Str} {XP : (Str → Option Value) → Heap → Prop} {YP : World → Heap → Prop} {d : DefRec} {K : Params → PySem.W.Frag} {x : Str}
    (hn : l.most = some n) (hn2 : n ≤ sizeLine) (hdf : d.params.defaults = []) (hr : Room k callerA) (hY : ∀ (w : World) (h : Heap), YP w h → (K w.params).In h)
    (F : ∀ (w : World) (mg mb : Str → Option Value) (mean : ExcName → Option Value) (fa : Addr) (h : Heap), PyProof.Rows.Top q (PySem.W.looseW q loose) mean mg mb h → YP w h → (K w.params).In h → h.Ns mainGlobals mg → mg d.name = some (.ref fa) → LawG l w (K w.params) k n x mg fa h) :
    PySem.W.WalkO q loose XP YP l.row.toRowW d [] (fun f vs => PySem.call f vs) := by
  refine Att.attach_callB hn hdf fun w s0 s1 mg mb fa o pm cd doc a vs ns G Y ho hd hcd hmg ha hi hlen hbits hg => ?_
  have KX := hY w _ Y
  obtain ⟨fd, cs, sp, hT, nT, hC, hb, hsp, hF⟩ := F w mg mb _ fa _ G.T Y KX G.T.g hmg
  have hl : ns.length ≤ sizeLine := Nat.le_trans hlen hn2
  have hTs : ∀ b ∈ cs.map (·.2), s1.heap.get? b = some tabO := by
    intro b hb
    obtain ⟨p, hp, rfl⟩ := List.mem_map.mp hb
    exact hT p hp
  have nTs : ∀ b ∈ cs.map (·.2), (K w.params).lookup b = none := by
    intro b hb
    obtain ⟨p, hp, rfl⟩ := List.mem_map.mp hb
    exact nT p hp
  have na : a ∉ cs.map (·.2) := by
    intro z
    cases ha.symm.trans (hTs a z)
  obtain ⟨H, B⟩ := begin_ex KX ha hi hl na
  have hok : HOk l.prog w H s1.heap := B.holds ha hi hl hTs
  have kin := B.kin KX nTs
  have gns := B.nsAt ha hTs G.T.g
  have tabs : ∀ p ∈ cs, H p.2 = some (.tbl #[]) := fun p hp => B.tab _ (List.mem_map.mpr ⟨p, hp, rfl⟩)
  have hM : Mod (K w.params) mg (hidT s1.heap H) := ⟨kin, gns, ⟨mb, B.nsAt ha hTs G.T.b, G.T.builtins⟩, let ⟨mc, h1, h2⟩ := G.T.nolimit; ⟨mc, B.nsAt ha hTs h1, h2⟩⟩
  have TB : ∀ p ∈ cs, LamX.TabB (hidT s1.heap H) mg p.1 p.2 := by
    intro p hp
    obtain ⟨oc, us, file, tf, flags, tg, inF, text, tt, e1, r1, r2, r3, r4, r5, r6, r7, r8, hne⟩ := hC p hp
    obtain ⟨bm, ob, b1, b2, b3, b4, b5, b6⟩ := G.T.bmain
    obtain ⟨og, es, ep, eg, dg, _⟩ := G.T.g
    refine ⟨⟨oc, us, file, tf, flags, tg, inF, text, tt, hidT_get e1 (B.off ha hTs e1 ?_ ?_), r1, r2, r3, r4, r5, r6, r7, r8, hne⟩, ⟨bm, ob, b1, b2, ?_, ?_, hidT_get b3 (B.off ha hTs b3 ?_ ?_), b4, b5, b6⟩, ?_⟩
    · rintro rfl
      cases r2
      simp at r3
    · rintro rfl
      cases r2
    · rintro rfl
      cases b3.symm.trans eg
      rw [b6] at dg
      cases dg
    · rintro rfl
      cases b3.symm.trans (hT p hp)
      cases b6
    · rintro rfl
      cases b6
    · rintro rfl
      cases b6
    · intro z
      rw [z] at eg
      cases eg.symm.trans (hT p hp)
      cases dg
  have e0 : Env0 l.prog w (K w.params) mg (hidT s1.heap H) callerA [] s1 H :=
    ⟨rfl, hM, fun b o e => of_hidT e, Nat.le_of_eq (hidT_size _ _), trivial, fun b hb => absurd (show b ∈ ([] : List Addr) from hb) (by simp), hok, .of_eq hg⟩
  refine codeAny_mono ((hF _ kin gns TB).run callerA [] s1 H ⟨[.ref a], []⟩ [.ref a] [.ref a] _ _ hr rfl e0 (hb s1 (.ref a)) (.cons rfl .nil) (hsp H a ns hlen hbits tabs B.scr)) fun r s2 hq => ?_
  match r, hq with
  | .error e, hq => exact (show False from hq).elim
  | .ok .next, hq => exact False.elim hq
  | .ok .brk, hq => exact False.elim hq
  | .ok .cont, hq => exact False.elim hq
  | .ok (.ret u), hq =>
    obtain ⟨v, H2, os, bare, un, hok2, rv, ev⟩ := hq
    obtain rfl : v = .bl true := ev
    obtain rfl : u = Value.bool true := rv
    have grown : ∀ b ∈ cs.map (·.2), ∃ more : Array Value, s2.heap.get? b = some { cls := .none, data := .fields more } := by
      intro b hb
      obtain ⟨more, z⟩ := un.tbls b #[] (B.tab b hb)
      exact ⟨_, hok2 b _ z⟩
    have same : ∀ b o, b ∉ cs.map (·.2) → s1.heap.get? b = some o → s2.heap.get? b = some o := by
      intro b o nb e
      cases qh : H b with
      | none => exact un.keep b o e qh (by intro z; exact absurd (show b ∈ ([] : List Addr) from z) (by simp)) (by simp)
      | some u =>
        rcases B.cas b u qh with ⟨hb, _⟩ | ⟨rfl, _, rfl⟩
        · exact absurd hb nb
        · have z2 := un.frzs b _ _ qh
          obtain ⟨e2, _⟩ := hok2 b _ z2
          cases e.symm.trans ha
          exact e2
    refine ⟨rfl, ⟨fun b o e => ?_, fun b o e => ?_⟩, os, bare⟩
    · by_cases hb : b ∈ cs.map (·.2)
      · obtain ⟨more, hm⟩ := grown b hb
        obtain ⟨p, hp, rfl⟩ := List.mem_map.mp hb
        cases e.symm.trans (hT p hp)
        exact .inr (.inl ⟨((hC p hp).tab (hT p hp)).isCodeTable, rfl, #[], more, rfl, by rw [Array.empty_append]; exact hm⟩)
      · exact .inl (same b o hb e)
    · by_cases hb : b ∈ cs.map (·.2)
      · obtain ⟨more, hm⟩ := grown b hb
        exact ⟨_, hm⟩
      · exact ⟨o, same b o hb e⟩
end E
structure AtTop (K : PySem.W.Frag) (x : Str) (st : Stmt) (f : Addr) (fd : FuncData) : Prop where
  ns : PySem.W.nsIn K mainGlobals x = some (some (.ref f))
  fn : Fun K x x st f fd
theorem atTop {K : PySem.W.Frag} {x : Str} {st : Stmt} {f : Addr} {oc : Value} {od an : Option Addr} {sl : Array (Option Value)} {kV dc pm cd ct : Value} (a : PySem.W.nsIn K mainGlobals x = some (some (.ref f)))
    (l : K.lookup f = some ⟨oc, od, .func (PySem.W.fnOf x x (defArgs st) (defBody st) (defScope st) .none kV dc pm an cd ct), sl⟩) (c : PySem.W.codeIn K cd x = true) (k : PySem.W.keepIn K (.ref f) = true) :
    AtTop K x st f (PySem.W.fnOf x x (defArgs st) (defBody st) (defScope st) .none kV dc pm an cd ct) := ⟨a, fun_mk (st := st) l c k⟩
structure AtTopC (K : PySem.W.Frag) (x : Str) (st : Stmt) (f : Addr) (fd : FuncData) (c : Addr) : Prop where
  ns : PySem.W.nsIn K mainGlobals x = some (some (.ref f))
  fn : FunC K x st f fd c
theorem atTopC {K : PySem.W.Frag} {x : Str} {st : Stmt} {f c : Addr} {oc : Value} {od an : Option Addr} {sl : Array (Option Value)} {kV dc pm ct : Value} (a : PySem.W.nsIn K mainGlobals x = some (some (.ref f)))
    (l : K.lookup f = some ⟨oc, od, .func (PySem.W.fnOf x x (defArgs st) (defBody st) (defScope st) .none kV dc pm an (.ref c) ct), sl⟩) (cc : PySem.W.codeIn K (.ref c) x = true) (k : PySem.W.keepIn K (.ref f) = true) :
    AtTopC K x st f (PySem.W.fnOf x x (defArgs st) (defBody st) (defScope st) .none kV dc pm an (.ref c) ct) c := ⟨a, ⟨oc, od, kV, dc, pm, an, ct, sl, rfl, l, cc⟩, k⟩
structure Cls (K : PySem.W.Frag) (CI : Addr) : Prop where
  nI : PySem.W.nsIn K mainGlobals "InvalidTree" = some (some (.ref CI))
  xI : PySem.W.excIn K CI mroV "ValueError.__new__" = true
  kI : PySem.W.keepIn K (.ref CI) = true
  bI : PySem.W.subIn K (.ref CI) (.type "BaseException") = some true
  tI : PySem.W.typeIn K (.ref CI) = some (.type "type")
  hI : PySem.W.hasDictIn K CI = true
  sI : PySem.W.subIn K (.ref CI) (.ref CI) = some true
structure Consts (K : PySem.W.Frag) : Prop where
  long : ∃ t, PySem.W.nsIn K mainGlobals "LONG" = some (some (.int (10 ^ 30) t))
  l8 : ∃ t, PySem.W.nsIn K mainGlobals "MAX_LETTERS" = some (some (.int 8 t))
  ls : ∃ t, PySem.W.nsIn K mainGlobals "LETTERS" = some (some (.str "abcdefghijklmnopqrstuvwxyz" t))
  tr : ∃ t, PySem.W.nsIn K mainGlobals "MAX_TREES" = some (some (.int 3 t))
  di : ∃ t, PySem.W.nsIn K mainGlobals "MAX_DISTANCE" = some (some (.int 3 t))
  lv : ∃ t, PySem.W.nsIn K mainGlobals "MAX_LEVELS" = some (some (.int 4 t))
theorem consts {K : PySem.W.Frag} {t1 t2 t3 t4 t5 t6 : Tok} (a : PySem.W.nsIn K mainGlobals "LONG" = some (some (.int (10 ^ 30) t1))) (b : PySem.W.nsIn K mainGlobals "MAX_LETTERS" = some (some (.int 8 t2))) (c : PySem.W.nsIn K mainGlobals "LETTERS" = some (some (.str "abcdefghijklmnopqrstuvwxyz" t3)))
    (d : PySem.W.nsIn K mainGlobals "MAX_TREES" = some (some (.int 3 t4))) (e : PySem.W.nsIn K mainGlobals "MAX_DISTANCE" = some (some (.int 3 t5))) (f : PySem.W.nsIn K mainGlobals "MAX_LEVELS" = some (some (.int 4 t6))) : Consts K := ⟨⟨_, a⟩, ⟨_, b⟩, ⟨_, c⟩, ⟨_, d⟩, ⟨_, e⟩, ⟨_, f⟩⟩
theorem all_mk {l : PySem.W.OpenLaw} {w : World} {K : PySem.W.Frag} {h : Heap} {mg : Str → Option Value} {fa CI cT PT : Addr} (X : K.In h) (G : h.Ns mainGlobals mg) (hfa : mg "law" = some (.ref fa)) (C : Cls K CI) (cs : Consts K)
    (hT : PySem.W.CodeHd h cT PT ∧ h.get? PT = some tabO) (nT : K.lookup PT = none)
    {f_nm f_wh f_ig f_bt f_tr f_wi f_st f_ck f_lv f_nd f_wk f_lo f_tu f_pi f_pl f_le f_gr f_wo f_nl f_ul f_tl f_sl f_be f_co f_wd f_ce f_la : Addr} {d_nm d_wh d_ig d_bt d_tr d_wi d_st d_ck d_lv d_nd d_wk d_lo d_tu d_pi d_pl d_le d_gr d_wo d_nl d_ul d_tl d_sl d_be d_co d_wd d_ce d_la : FuncData}
    (Dnm : AtTop K "is_name" tName f_nm d_nm) (Dwh : AtTop K "is_whole" tWhole f_wh d_wh) (Dig : AtTop K "is_integer" tInteger f_ig d_ig) (Dbt : AtTop K "is_between" tBetween f_bt d_bt) (Dtr : AtTop K "is_tree" tTree f_tr d_tr) (Dwi : AtTop K "is_tree_within" tWithin f_wi d_wi) (Dst : AtTop K "is_statement" tState f_st d_st) (Dck : AtTop K "check_tree" tCheck f_ck d_ck) (Dlv : AtTop K "levels" tLevels f_lv d_lv) (Dnd : AtTop K "nodes" tNodes f_nd d_nd) (Dwk : AtTop K "walked" tWalked f_wk d_wk) (Dlo : AtTop K "_law_loom" tLoom f_lo d_lo) (Dtu : AtTop K "_law_turn" tTurn f_tu d_tu) (Dpi : AtTop K "_law_pick" tPick f_pi d_pi) (Dpl : AtTop K "_law_place" tPlace f_pl d_pl) (Dle : AtTop K "_law_leaf" tLeaf f_le d_le) (Dgr : AtTop K "_law_tree" tGrow f_gr d_gr) (Dwo : AtTop K "_law_working" tWork f_wo d_wo) (Dnl : AtTop K "_law_is_name" tNameL f_nl d_nl) (Dul : AtTop K "_law_is_number" tNumL f_ul d_ul) (Dtl : AtTop K "_law_is_tree" tTreeL f_tl d_tl) (Dsl : AtTop K "_law_is_statement" tStateL f_sl d_sl) (Dbe : AtTop K "_law_bent" tBent f_be d_be) (Dco : AtTop K "_law_count" tCount f_co d_co) (Dwd : AtTop K "_law_word" tWord f_wd d_wd) (Dce : AtTopC K "_law_cell_right" tCell f_ce d_ce cT) (Dla : AtTop K "law" tLaw f_la d_la)
    (z0 : PySem.W.nsIn K mainGlobals "isinstance" = some none) (z1 : PySem.W.nsIn K mainGlobals "int" = some none) (z2 : PySem.W.nsIn K mainGlobals "bool" = some none) (z3 : PySem.W.nsIn K mainGlobals "str" = some none) (z4 : PySem.W.nsIn K mainGlobals "tuple" = some none) (z5 : PySem.W.nsIn K mainGlobals "list" = some none) (z6 : PySem.W.nsIn K mainGlobals "len" = some none) (z7 : PySem.W.nsIn K mainGlobals "all" = some none) (z8 : PySem.W.nsIn K mainGlobals "abs" = some none) (z9 : PySem.W.nsIn K mainGlobals "sum" = some none) (z10 : PySem.W.nsIn K mainGlobals "max" = some none) (z11 : PySem.W.nsIn K mainGlobals "enumerate" = some none) (z12 : PySem.W.nsIn K mainGlobals "range" = some none) (z13 : PySem.W.nsIn K mainGlobals "min" = some none) (z14 : PySem.W.nsIn K mainGlobals "repr" = some none)
    (hb : ∀ (s : Shared) (v : Value), BindsTo s d_la ⟨[v], []⟩ [("_law_script", v)]) :
    LawG l w K 15 63 "_law_script" mg fa h := by
  have e := hfa.symm.trans (PySem.W.mg_of X G Dla.ns)
  have e2 : f_la = fa := by
    cases e
    rfl
  subst e2
  refine ⟨d_la, [(cT, PT)], spLaw K [(PT, lamQ)], fun p hp => ?_, fun p hp => ?_, fun p hp => ?_, hb, fun H a ns _ _ ht hS => ⟨a, ns, rfl, hS, fun p hp => ?_, fun _ => rfl⟩, fun base _ _ tb => ?_⟩
  · rw [List.mem_singleton] at hp
    rw [hp]
    exact hT.2
  · rw [List.mem_singleton] at hp
    rw [hp]
    exact nT
  · rw [List.mem_singleton] at hp
    rw [hp]
    exact hT.1
  · rw [List.mem_singleton] at hp
    rw [hp]
    exact LamX.TabS.nil (ht (cT, PT) (List.mem_singleton.mpr rfl))
  have TB := tb (cT, PT) (List.mem_singleton.mpr rfl)
  obtain ⟨⟨t1, c1⟩, ⟨t2, c2⟩, ⟨t3, c3⟩, ⟨t4, c4⟩, ⟨t5, c5⟩, ⟨t6, c6⟩⟩ := cs
  have T1 : Txt mg := ⟨(PySem.W.mg_none_of X G z0), (PySem.W.mg_none_of X G z1), (PySem.W.mg_none_of X G z2), (PySem.W.mg_none_of X G z3), (PySem.W.mg_none_of X G z4), (PySem.W.mg_none_of X G z5), (PySem.W.mg_none_of X G z6), (PySem.W.mg_none_of X G z7), (PySem.W.mg_none_of X G z8), ⟨t1, PySem.W.mg_of X G c1⟩, ⟨t2, PySem.W.mg_of X G c2⟩, ⟨t3, PySem.W.mg_of X G c3⟩⟩
  have T2 : Txt2 mg := ⟨⟨t4, PySem.W.mg_of X G c4⟩, ⟨t5, PySem.W.mg_of X G c5⟩, ⟨t6, PySem.W.mg_of X G c6⟩⟩
  have T3 : Txt3 mg := ⟨(PySem.W.mg_none_of X G z9), (PySem.W.mg_none_of X G z10), (PySem.W.mg_none_of X G z11)⟩
  have TBl : Bl mg := ⟨(PySem.W.mg_none_of X G z1), (PySem.W.mg_none_of X G z8), (PySem.W.mg_none_of X G z10), (PySem.W.mg_none_of X G z12), (PySem.W.mg_none_of X G z6), (PySem.W.mg_none_of X G z4), (PySem.W.mg_none_of X G z5), (PySem.W.mg_none_of X G z0)⟩
  have R : Errs K mg CI := ⟨PySem.W.mg_of X G C.nI, C.xI, C.kI, C.bI, C.tI⟩
  have eII : PySem.W.exmOne K (.ref CI) (.ref CI) = some true := PySem.W.exm_ref C.bI C.hI C.tI C.sI
  have g_nm : mg "is_name" = some (.ref f_nm) := PySem.W.mg_of X G Dnm.ns
  have b_nm := Dnm.fn.binds (ps := ["value"]) fun _ _ _ _ _ _ us hl => match us, hl with | [_], _ => rfl
  have k_nm := Dnm.fn.kp
  have g_wh : mg "is_whole" = some (.ref f_wh) := PySem.W.mg_of X G Dwh.ns
  have b_wh := Dwh.fn.binds (ps := ["value"]) fun _ _ _ _ _ _ us hl => match us, hl with | [_], _ => rfl
  have k_wh := Dwh.fn.kp
  have g_ig : mg "is_integer" = some (.ref f_ig) := PySem.W.mg_of X G Dig.ns
  have b_ig := Dig.fn.binds (ps := ["value"]) fun _ _ _ _ _ _ us hl => match us, hl with | [_], _ => rfl
  have k_ig := Dig.fn.kp
  have g_bt : mg "is_between" = some (.ref f_bt) := PySem.W.mg_of X G Dbt.ns
  have b_bt := Dbt.fn.binds (ps := ["value", "least", "most"]) fun _ _ _ _ _ _ us hl => match us, hl with | [_, _, _], _ => rfl
  have k_bt := Dbt.fn.kp
  have g_tr : mg "is_tree" = some (.ref f_tr) := PySem.W.mg_of X G Dtr.ns
  have b_tr := Dtr.fn.binds (ps := ["value"]) fun _ _ _ _ _ _ us hl => match us, hl with | [_], _ => rfl
  have k_tr := Dtr.fn.kp
  have g_wi : mg "is_tree_within" = some (.ref f_wi) := PySem.W.mg_of X G Dwi.ns
  have b_wi := Dwi.fn.binds (ps := ["value", "room"]) fun _ _ _ _ _ _ us hl => match us, hl with | [_, _], _ => rfl
  have k_wi := Dwi.fn.kp
  have g_st : mg "is_statement" = some (.ref f_st) := PySem.W.mg_of X G Dst.ns
  have b_st := Dst.fn.binds (ps := ["value"]) fun _ _ _ _ _ _ us hl => match us, hl with | [_], _ => rfl
  have k_st := Dst.fn.kp
  have g_ck : mg "check_tree" = some (.ref f_ck) := PySem.W.mg_of X G Dck.ns
  have b_ck := Dck.fn.binds (ps := ["value"]) fun _ _ _ _ _ _ us hl => match us, hl with | [_], _ => rfl
  have k_ck := Dck.fn.kp
  have g_lv : mg "levels" = some (.ref f_lv) := PySem.W.mg_of X G Dlv.ns
  have b_lv := Dlv.fn.binds (ps := ["tree"]) fun _ _ _ _ _ _ us hl => match us, hl with | [_], _ => rfl
  have k_lv := Dlv.fn.kp
  have g_nd : mg "nodes" = some (.ref f_nd) := PySem.W.mg_of X G Dnd.ns
  have b_nd := Dnd.fn.binds (ps := ["tree"]) fun _ _ _ _ _ _ us hl => match us, hl with | [_], _ => rfl
  have k_nd := Dnd.fn.kp
  have g_wk : mg "walked" = some (.ref f_wk) := PySem.W.mg_of X G Dwk.ns
  have b_wk := Dwk.fn.binds (ps := ["tree", "path"]) fun _ _ _ _ _ _ us hl => match us, hl with | [_, _], _ => rfl
  have k_wk := Dwk.fn.kp
  have g_lo : mg "_law_loom" = some (.ref f_lo) := PySem.W.mg_of X G Dlo.ns
  have b_lo := Dlo.fn.binds (ps := ["_law_script", "_law_spot"]) fun _ _ _ _ _ _ us hl => match us, hl with | [_, _], _ => rfl
  have k_lo := Dlo.fn.kp
  have g_tu : mg "_law_turn" = some (.ref f_tu) := PySem.W.mg_of X G Dtu.ns
  have b_tu := Dtu.fn.binds (ps := ["_law_loom_here", "_law_total"]) fun _ _ _ _ _ _ us hl => match us, hl with | [_, _], _ => rfl
  have k_tu := Dtu.fn.kp
  have g_pi : mg "_law_pick" = some (.ref f_pi) := PySem.W.mg_of X G Dpi.ns
  have b_pi := Dpi.fn.binds (ps := ["_law_loom_here", "_law_items"]) fun _ _ _ _ _ _ us hl => match us, hl with | [_, _], _ => rfl
  have k_pi := Dpi.fn.kp
  have g_pl : mg "_law_place" = some (.ref f_pl) := PySem.W.mg_of X G Dpl.ns
  have b_pl := Dpl.fn.binds (ps := ["_law_loom_here"]) fun _ _ _ _ _ _ us hl => match us, hl with | [_], _ => rfl
  have k_pl := Dpl.fn.kp
  have g_le : mg "_law_leaf" = some (.ref f_le) := PySem.W.mg_of X G Dle.ns
  have b_le := Dle.fn.binds (ps := ["_law_loom_here", "_law_known", "_law_sets", "_law_arrays"]) fun _ _ _ _ _ _ us hl => match us, hl with | [_, _, _, _], _ => rfl
  have k_le := Dle.fn.kp
  have g_gr : mg "_law_tree" = some (.ref f_gr) := PySem.W.mg_of X G Dgr.ns
  have b_gr := Dgr.fn.binds (ps := ["_law_loom_here", "_law_deep", "_law_known", "_law_sets", "_law_arrays"]) fun _ _ _ _ _ _ us hl => match us, hl with | [_, _, _, _, _], _ => rfl
  have k_gr := Dgr.fn.kp
  have g_wo : mg "_law_working" = some (.ref f_wo) := PySem.W.mg_of X G Dwo.ns
  have b_wo := Dwo.fn.binds (ps := ["_law_tree_here"]) fun _ _ _ _ _ _ us hl => match us, hl with | [_], _ => rfl
  have k_wo := Dwo.fn.kp
  have g_nl : mg "_law_is_name" = some (.ref f_nl) := PySem.W.mg_of X G Dnl.ns
  have b_nl := Dnl.fn.binds (ps := ["_law_value"]) fun _ _ _ _ _ _ us hl => match us, hl with | [_], _ => rfl
  have k_nl := Dnl.fn.kp
  have g_ul : mg "_law_is_number" = some (.ref f_ul) := PySem.W.mg_of X G Dul.ns
  have b_ul := Dul.fn.binds (ps := ["_law_value"]) fun _ _ _ _ _ _ us hl => match us, hl with | [_], _ => rfl
  have k_ul := Dul.fn.kp
  have g_tl : mg "_law_is_tree" = some (.ref f_tl) := PySem.W.mg_of X G Dtl.ns
  have b_tl := Dtl.fn.binds (ps := ["_law_value", "_law_most"]) fun _ _ _ _ _ _ us hl => match us, hl with | [_, _], _ => rfl
  have k_tl := Dtl.fn.kp
  have g_sl : mg "_law_is_statement" = some (.ref f_sl) := PySem.W.mg_of X G Dsl.ns
  have b_sl := Dsl.fn.binds (ps := ["_law_value"]) fun _ _ _ _ _ _ us hl => match us, hl with | [_], _ => rfl
  have k_sl := Dsl.fn.kp
  have g_be : mg "_law_bent" = some (.ref f_be) := PySem.W.mg_of X G Dbe.ns
  have b_be := Dbe.fn.binds (ps := ["_law_loom_here", "_law_value"]) fun _ _ _ _ _ _ us hl => match us, hl with | [_, _], _ => rfl
  have k_be := Dbe.fn.kp
  have g_co : mg "_law_count" = some (.ref f_co) := PySem.W.mg_of X G Dco.ns
  have b_co := Dco.fn.binds (ps := ["_law_tree_here"]) fun _ _ _ _ _ _ us hl => match us, hl with | [_], _ => rfl
  have k_co := Dco.fn.kp
  have g_wd : mg "_law_word" = some (.ref f_wd) := PySem.W.mg_of X G Dwd.ns
  have b_wd := Dwd.fn.binds (ps := ["_law_call"]) fun _ _ _ _ _ _ us hl => match us, hl with | [_], _ => rfl
  have k_wd := Dwd.fn.kp
  have g_ce : mg "_law_cell_right" = some (.ref f_ce) := PySem.W.mg_of X G Dce.ns
  have b_ce := Dce.fn.fn.binds (ps := ["_law_loom_here"]) fun _ _ _ _ _ _ us hl => match us, hl with | [_], _ => rfl
  have k_ce := Dce.fn.fn.kp
  have g_la : mg "law" = some (.ref f_la) := PySem.W.mg_of X G Dla.ns
  have b_la := Dla.fn.binds (ps := ["_law_script"]) fun _ _ _ _ _ _ us hl => match us, hl with | [_], _ => rfl
  have k_la := Dla.fn.kp
  have Gnm : FnOk l.prog w K mg base CX0 1 f_nm d_nm ["value"] (spV 20 M9 nameB) := ok_name Dnm.fn T1
  have Gig : FnOk l.prog w K mg base CX0 2 f_ig d_ig ["value"] (spV 20 M9 integB) := ok_integer Dig.fn T1 Dwh.fn b_wh g_wh
  have Gbt : FnOk l.prog w K mg base CX0 3 f_bt d_bt ["value", "least", "most"] (spBetween 20 M9) := ok_between Dbt.fn Gig k_ig b_ig g_ig
  have Gwi : ∀ r, FnOk l.prog w K mg base CX0 (3 + r + 1) f_wi d_wi ["value", "room"] (spWithin 20 M9 r) := ok_within (by decide) Dwi.fn T1 T2 b_wi g_wi Gnm k_nm b_nm g_nm Gbt k_bt b_bt g_bt Gig k_ig b_ig g_ig
  have Gtr : FnOk l.prog w K mg base CX0 9 f_tr d_tr ["value"] (spB 20 M9 tree4) := ok_tree Dtr.fn T2 (Gwi 4) k_wi b_wi g_wi
  have Gst : FnOk l.prog w K mg base CX0 10 f_st d_st ["value"] (spB 20 M9 stateB) := ok_state (by decide) Dst.fn T1 Gnm k_nm b_nm g_nm Gig k_ig b_ig g_ig Gtr k_tr b_tr g_tr
  have Gck : FnOk l.prog w K mg base (L2.CX l.prog w) 10 f_ck d_ck ["value"] (spCheck 20 M9 CI) := ok_check Dck.fn R Gtr k_tr b_tr g_tr
  have Gwk : FnOk l.prog w K mg base CX0 4 f_wk d_wk ["tree", "path"] (spWalked 20 M9 4) := ok_walked Dwk.fn T3 b_wk g_wk 3
  have Glv : FnOk l.prog w K mg base (L2.CX l.prog w) 11 f_lv d_lv ["tree"] (spTold 20 M9 CI countN) := ok_levels Dlv.fn T3 T1 Gck k_ck b_ck g_ck Gwk k_wk b_wk g_wk
  have Gnd : FnOk l.prog w K mg base (L2.CX l.prog w) 11 f_nd d_nd ["tree"] (spTold 20 M9 CI workN) := ok_nodes Dnd.fn T3 T1 Gck k_ck b_ck g_ck Gwk k_wk b_wk g_wk
  have Glo : FnOk l.prog w K mg base CX0 1 f_lo d_lo ["_law_script", "_law_spot"] (spLoom K) := ok_loom Dlo.fn TBl
  have Gtu : FnOk l.prog w K mg base CX0 1 f_tu d_tu ["_law_loom_here", "_law_total"] spTurn := ok_turn Dtu.fn TBl
  have Gpi : FnOk l.prog w K mg base CX0 2 f_pi d_pi ["_law_loom_here", "_law_items"] spPick := ok_pick Dpi.fn TBl Gtu k_tu b_tu g_tu
  have Gpl : FnOk l.prog w K mg base CX0 3 f_pl d_pl ["_law_loom_here"] spPlace := ok_place Dpl.fn Gtu k_tu b_tu g_tu Gpi k_pi b_pi g_pi
  have Gle : FnOk l.prog w K mg base CX0 4 f_le d_le ["_law_loom_here", "_law_known", "_law_sets", "_law_arrays"] spLeaf := ok_leaf Dle.fn Gtu k_tu b_tu g_tu Gpi k_pi b_pi g_pi Gpl k_pl b_pl g_pl
  have Ggr : FnOk l.prog w K mg base CX0 9 f_gr d_gr ["_law_loom_here", "_law_deep", "_law_known", "_law_sets", "_law_arrays"] (spAny 4 fun n => spGrow (n + 1)) := fnok_ex (kk := fun n => 4 + n + 1) (ok_grow Dgr.fn TBl b_gr g_gr Gtu k_tu b_tu g_tu Gpi k_pi b_pi g_pi Gle k_le b_le g_le) (fun n hn => by omega)
  have Gnl : FnOk l.prog w K mg base CX0 1 f_nl d_nl ["_law_value"] (spV 20 M9 nameB) := ok_nameL Dnl.fn T1
  have Gul : FnOk l.prog w K mg base CX0 1 f_ul d_ul ["_law_value"] (spV 20 M9 integB) := ok_numL Dul.fn T1
  have Gtl : FnOk l.prog w K mg base CX0 8 f_tl d_tl ["_law_value", "_law_most"] (spWithin 20 M9 4) := ok_treeL (by decide) Dtl.fn T1 b_tl g_tl Gnl k_nl b_nl g_nl Gul k_ul b_ul g_ul 4
  have Gsl : FnOk l.prog w K mg base CX0 9 f_sl d_sl ["_law_value"] (spB 20 M9 stateB) := ok_stateL (by decide) Dsl.fn T1 Gnl k_nl b_nl g_nl Gul k_ul b_ul g_ul Gtl k_tl b_tl g_tl
  have Gbe : FnOk l.prog w K mg base CX0 10 f_be d_be ["_law_loom_here", "_law_value"] (spAny 7 spBent) := fnok_ex (kk := fun n => 2 + n + 1) (ok_bent Dbe.fn TBl b_be g_be Gtu k_tu b_tu g_tu Gpi k_pi b_pi g_pi) (fun n hn => by omega)
  have Gco : FnOk l.prog w K mg base CX0 4 f_co d_co ["_law_tree_here"] (spN 20 M9 4 countN) := ok_count Dco.fn T3 b_co g_co 3
  have Gwo : FnOk l.prog w K mg base CX0 4 f_wo d_wo ["_law_tree_here"] (spN 20 M9 4 workN) := ok_work Dwo.fn T3 b_wo g_wo 3
  have Gce : FnG l.prog w K mg base 14 f_ce d_ce ["_law_loom_here"] (spRight [(PT, lamQ)]) := ok_cell Dce.fn TB TBl (PySem.W.mg_none_of X G z14) R eII ⟨Gtu, k_tu, b_tu, g_tu⟩ ⟨Ggr, k_gr, b_gr, g_gr⟩ ⟨Gpl, k_pl, b_pl, g_pl⟩ ⟨Gbe, k_be, b_be, g_be⟩ ⟨Gtr, k_tr, b_tr, g_tr⟩ ⟨Gtl, k_tl, b_tl, g_tl⟩ ⟨Gst, k_st, b_st, g_st⟩ ⟨Gsl, k_sl, b_sl, g_sl⟩ ⟨Glv, k_lv, b_lv, g_lv⟩ ⟨Gnd, k_nd, b_nd, g_nd⟩ ⟨Gco, k_co, b_co, g_co⟩ ⟨Gwo, k_wo, b_wo, g_wo⟩ Dwd.fn g_wd b_wd
  exact ok_law Dla.fn TBl (PySem.W.mg_none_of X G z13) ⟨Glo, k_lo, b_lo, g_lo⟩ Gce k_ce b_ce g_ce ⟨Gtr, k_tr, b_tr, g_tr⟩ ⟨Gst, k_st, b_st, g_st⟩ ⟨Glv, k_lv, b_lv, g_lv⟩ ⟨Gnd, k_nd, b_nd, g_nd⟩
end K1
open PySem PySem.W PyProof.Rows
set_option maxRecDepth 100000 in
set_option maxHeartbeats 0 in
theorem PySem.Challenge.cw_loopfoundry_k01_trees_and_statements_jud_holds : PySem.Challenge.rw_loopfoundry_k01_trees_and_statements_jud.Holds := by
  w_on; o_law; k_head; (case hw => w_witness2)
  k_fill
  refine K1.E.walkT (l := PySem.Challenge.rw_loopfoundry_k01_trees_and_statements_jud) (n := 63) (k := 15) (x := "_law_script") rfl (by decide) rfl ⟨rfl, by decide, by decide⟩ (fun w h Y => PySem.W.km_in_of Y) ?F
  case F =>
    intro w mg mb mean fa h TT Y KX G hmg
    refine' K1.all_mk KX G hmg ?C (K1.consts ?q1 ?q2 ?q3 ?q4 ?q5 ?q6) ⟨PySem.W.codeHd_of_K KX ?ch, PySem.W.km_tabs_of Y _ (List.mem_cons_self ..)⟩ ?nT (K1.atTop ?anm ?lnm ?cnm ?knm) (K1.atTop ?awh ?lwh ?cwh ?kwh) (K1.atTop ?aig ?lig ?cig ?kig) (K1.atTop ?abt ?lbt ?cbt ?kbt) (K1.atTop ?atr ?ltr ?ctr ?ktr) (K1.atTop ?awi ?lwi ?cwi ?kwi) (K1.atTop ?ast ?lst ?cst ?kst) (K1.atTop ?ack ?lck ?cck ?kck) (K1.atTop ?alv ?llv ?clv ?klv) (K1.atTop ?and ?lnd ?cnd ?knd) (K1.atTop ?awk ?lwk ?cwk ?kwk) (K1.atTop ?alo ?llo ?clo ?klo) (K1.atTop ?atu ?ltu ?ctu ?ktu) (K1.atTop ?api ?lpi ?cpi ?kpi) (K1.atTop ?apl ?lpl ?cpl ?kpl) (K1.atTop ?ale ?lle ?cle ?kle) (K1.atTop ?agr ?lgr ?cgr ?kgr) (K1.atTop ?awo ?lwo ?cwo ?kwo) (K1.atTop ?anl ?lnl ?cnl ?knl) (K1.atTop ?aul ?lul ?cul ?kul) (K1.atTop ?atl ?ltl ?ctl ?ktl) (K1.atTop ?asl ?lsl ?csl ?ksl) (K1.atTop ?abe ?lbe ?cbe ?kbe) (K1.atTop ?aco ?lco ?cco ?kco) (K1.atTop ?awd ?lwd ?cwd ?kwd) (K1.atTopC ?ace ?lce ?cce ?kce) (K1.atTop ?ala ?lla ?cla ?kla) ?z0 ?z1 ?z2 ?z3 ?z4 ?z5 ?z6 ?z7 ?z8 ?z9 ?z10 ?z11 ?z12 ?z13 ?z14 ?hb
    case C =>
      refine' ⟨?nI, ?xI, ?kI, ?bI, ?tI, ?hI, ?sI⟩
      (case nI => k_is); (case xI => k_exc); (case kI => k_is); (case bI => k_is); (case tI => k_is); (case hI => k_is); (case sI => first | rfl | k_is)
    (case q1 => k_is); (case q2 => k_is); (case q3 => k_is); (case q4 => k_is); (case q5 => k_is); (case q6 => k_is)
    (case anm => k_is); (case lnm => k_is); (case cnm => k_is); (case knm => k_is)
    (case awh => k_is); (case lwh => k_is); (case cwh => k_is); (case kwh => k_is)
    (case aig => k_is); (case lig => k_is); (case cig => k_is); (case kig => k_is)
    (case abt => k_is); (case lbt => k_is); (case cbt => k_is); (case kbt => k_is)
    (case atr => k_is); (case ltr => k_is); (case ctr => k_is); (case ktr => k_is)
    (case awi => k_is); (case lwi => k_is); (case cwi => k_is); (case kwi => k_is)
    (case ast => k_is); (case lst => k_is); (case cst => k_is); (case kst => k_is)
    (case ack => k_is); (case lck => k_is); (case cck => k_is); (case kck => k_is)
    (case alv => k_is); (case llv => k_is); (case clv => k_is); (case klv => k_is)
    (case and => k_is); (case lnd => k_is); (case cnd => k_is); (case knd => k_is)
    (case awk => k_is); (case lwk => k_is); (case cwk => k_is); (case kwk => k_is)
    (case alo => k_is); (case llo => k_is); (case clo => k_is); (case klo => k_is)
    (case atu => k_is); (case ltu => k_is); (case ctu => k_is); (case ktu => k_is)
    (case api => k_is); (case lpi => k_is); (case cpi => k_is); (case kpi => k_is)
    (case apl => k_is); (case lpl => k_is); (case cpl => k_is); (case kpl => k_is)
    (case ale => k_is); (case lle => k_is); (case cle => k_is); (case kle => k_is)
    (case agr => k_is); (case lgr => k_is); (case cgr => k_is); (case kgr => k_is)
    (case awo => k_is); (case lwo => k_is); (case cwo => k_is); (case kwo => k_is)
    (case anl => k_is); (case lnl => k_is); (case cnl => k_is); (case knl => k_is)
    (case aul => k_is); (case lul => k_is); (case cul => k_is); (case kul => k_is)
    (case atl => k_is); (case ltl => k_is); (case ctl => k_is); (case ktl => k_is)
    (case asl => k_is); (case lsl => k_is); (case csl => k_is); (case ksl => k_is)
    (case abe => k_is); (case lbe => k_is); (case cbe => k_is); (case kbe => k_is)
    (case aco => k_is); (case lco => k_is); (case cco => k_is); (case kco => k_is)
    (case awd => k_is); (case lwd => k_is); (case cwd => k_is); (case kwd => k_is)
    (case ace => k_is); (case lce => k_is); (case cce => k_is); (case kce => k_is)
    (case ala => k_is); (case lla => k_is); (case cla => k_is); (case kla => k_is)
    (case z0 => k_is); (case z1 => k_is); (case z2 => k_is); (case z3 => k_is); (case z4 => k_is); (case z5 => k_is); (case z6 => k_is); (case z7 => k_is); (case z8 => k_is); (case z9 => k_is); (case z10 => k_is); (case z11 => k_is); (case z12 => k_is); (case z13 => k_is); (case z14 => k_is)
    (case ch => first | k_is | kernel_rfl)
    (case nT => first | k_is | kernel_rfl)
    (case hb => exact fun s v => .of_eq rfl)
