import PyProof.Rows.All
import Wide.All
import OpenK.AllK
import Wide.FinOn
import PyProof.ReprRoads
import PyProof.CallFns
import HandS.ForMost
import HandS.ForExc
import HandS.Lambda
import HandS.EndBits
import HandS.EndTab
import PyProof.NeKinds
import PyProof.NeData
import PyProof.FactsAll.dict_1
import PyProof.FactsAll.dict_2
import PyProof.FactsAll.subtypes
import HandS.Zip
import HandS.Walk
import KE.DataCmp
import PyProof.ReprLoop
import PyProof.ReprReads
import HandS.Words
import HandS.Flow
import HandS.DictComp
import HandS.ListItems
import HandS.Conv
import KE.KDictOf
import KE.KEqDict
import HandS.NoneIn
import HandS.Star
import HandS.Wide
import HandS.IsInst
import HandS.TupLe
import HandS.Style
import HandS.FStr
import HandS.Property
import HandS.GenList
import HandS.List
import HandS.Dict
import HandS.Text
import HandS.Evl
import HandS.OwnEq
import HandS.More
import HandS.Ends
import KE.KOpsOwn
import HandS.IterVal
import HandS.IterNext
import HandS.GenYield
import HandS.SlotsOwn
import OpenK.KMeth
import KE.KCallOwn
import HandS.TupSets
import HandS.DictTup
import HandS.SetFor
import HandS.Strs
import PyProof.Rows.SetFrom
import HandS.Deep
import PySem.Challenge.RW_loopfoundry_k56_lives_counted_round_by_r
set_option Elab.async false
set_option linter.all false
set_option maxRecDepth 100000
set_option maxHeartbeats 4000000
/-! defs that are told that no repr is under way around them; repr of data; the end of a law for them -/
namespace L2.My
open PySem PySem.Spec PyProof.Rows
/-- as FnOk, where the guards around are none -/
structure FnG (P : Program) (w : World) (K : PySem.W.Frag) (mg : Str → Option Value) (base : Heap) (k : Nat) (f : Addr) (fd : FuncData) (ps : List Str) (sp : Sp) : Prop where
  len : ∀ vs H Q E, sp vs H Q E → vs.length = ps.length
  run : ∀ (A : Around) (outer : List Env) (s : Shared) (H : Hp) (args : Args) (us : List Value) (vs : List V) (Q : VK) (E : XK), Room k A → A.guards = some [] → Env0 P w K mg base A outer s H →
    BindsTo s fd args (ps.zip us) → Vals vs us → sp vs H Q E → codeAny (model P w) A (.call (.ref f) args) (CR CX0 outer P w H s Q E) s
theorem guards_deeper {A : Around} {env : Env} (h : A.guards = some []) : (A.deeper env).guards = some [] := h
section
variable {P : Program} {w : World} {K : PySem.W.Frag} {mg : Str → Option Value} {base : Heap}
theorem Fun.okG {x qual : Str} {st : Stmt} {f : Addr} {fd : FuncData} {N ps : List Str} {k : Nat} {sp : Sp} (F : Fun K x qual st f fd) (S : FnScope N ps (defScope st)) (len : ∀ vs H Q E, sp vs H Q E → vs.length = ps.length)
    (hbody : ∀ (cdv : Value) (A : Around) (outer : List Env) (s : Shared) (H : Hp) (vs : List V) (Q : VK) (E : XK), PySem.W.codeIn K cdv qual = true → Room k (A.deeper (envOfC qual (defScope st) s.heap.objs.size f cdv)) → A.guards = some [] → sp vs H Q E →
      ∃ t, PSs (cxOf CX0 P w K mg base N qual (defScope st) f cdv A outer s H E).nox (defBody st) t ∧ t { nx := fun _ H' => Q .non H', rt := Q } (start N vs) H) : FnG P w K mg base (k + 1) f fd ps sp := by
  obtain ⟨oc, od, kV, doc, pm, an, cdv, ct, osl, rfl, lk, hcd⟩ := F.ex
  refine ⟨len, fun A outer s H args us vs Q E hr hg e0 hb r h => ?_⟩
  refine LamX.run_ofS lk hcd S hr e0 hb r (len _ _ _ _ h) fun hr' => ?_
  obtain ⟨t, ht, q⟩ := hbody cdv A outer s H vs Q E hcd hr' hg h
  exact ⟨t, ht.nox, q⟩
end
section
variable {X : Cx}
/-- f(e, ..), f such a def -/
theorem pe_callG {k : Nat} {f : Addr} {fd : FuncData} {ps : List Str} {sp : Sp} {x : Str} {p pos : Pos} {e : Expr} {es : List Expr} {t : TA} (F : FnG X.prog X.w X.K X.mg X.base k f fd ps sp) (hr : Room k X.A) (gd : X.A.guards = some []) (hg : Gl X x) (hm : X.mg x = some (.ref f))
    (hk : PySem.W.keepIn X.K (.ref f) = true) (hb : Binds X.K fd ps []) (ha : PA X (e :: es) t) (hdb : (x == ("__debug__" : Str)) = false := by decide)
    (he : starEach (e :: es) X.env = (false, eval e X.env) :: starEach es X.env := by rfl) (hpl : (backTo pos (starEach es X.env)).any (·.1) = false := by rfl) :
    PE X (.Call (.Name x p) (e :: es) [] pos) (tCall sp [] E0 t) := by
  refine ⟨fun pins s σ H Q I h => wpAny_Call_Name_kw (ld_glob I hg hm (PySem.W.callWith_K (h₀ := X.base) I.ok.mod.kin hk (thn (ha.run pos pins s σ H _ I h) fun us s1 hh => ?_) he hpl) hdb)⟩
  obtain ⟨vs, H1, I1, r, q⟩ := hh
  rw [List.append_nil] at q
  have hl : us.length = ps.length := by rw [← r.length]; exact F.len _ _ _ _ q
  have hb2 := hb s1 us I1.kIn (by rw [List.append_nil]; exact hl)
  rw [List.append_nil] at hb2
  refine ⟨I1.kIn, wpAny_call (codeAny_mono (F.run X.A X.stack s1 H1 ⟨us, []⟩ us vs Q E0 hr gd I1.env0 hb2 r q) fun r2 s2 hq => ?_)⟩
  match r2, hq with
  | .error e, hq => exact (show False from hq).elim
  | .ok (.ret u), hq => exact I1.after hq
  | .ok .next, hq => exact False.elim hq
  | .ok .brk, hq => exact False.elim hq
  | .ok .cont, hq => exact False.elim hq
/-- repr(v) of data without dicts -/
def rRepr (K : PySem.W.Frag) : List V → Hp → VK → Prop := fun xs H Q => ∃ v d, xs = [v] ∧ Dp K H v d ∧ d.showable = true ∧ d.hasDict = false ∧ d.depth ≤ 64 ∧ d.shown.length ≤ sizeLine ∧ Q (.str d.shown) H
theorem call_repr (gd : X.A.guards = some []) (hu : X.A.units + 70 < cLine) : CallR X (.builtin "repr") (rRepr X.K) := by
  intro pins s σ H xs us Q I r h
  obtain ⟨v, d, rfl, dp, sh, nd, dd, sz, q⟩ := h
  obtain ⟨u, rfl, ru⟩ : ∃ u, us = [u] ∧ RelV v u := by
    cases r with
    | cons ra rn =>
      cases rn
      exact ⟨_, rfl, ra⟩
  have done : ∀ t tk, EP X pins σ Q (.str d.shown t) { s with toks := tk } := fun t tk => ⟨.str d.shown, H, I.tok tk, ⟨t, rfl⟩, q⟩
  obtain ⟨as, rd⟩ := Dp.reads I d v u dp ru
  cases rd with
  | none => exact PySem.P.repr_of_none (done _ _)
  | bool b => exact PySem.P.repr_of_bool (done _ _)
  | int i t => exact PySem.P.repr_of_int (by simpa [PyData.showable] using sh) (done _ _)
  | str x t => exact PySem.P.repr_of_str (done _ _) sz
  | list e1 e2 e3 ra =>
    refine repr_of_reads' (.list e1 e2 e3 ra) sh (PyData.noDict_hsm nd) gd (by omega) (fun _ _ e => e) (fun h' t tk hk => ?_) sz
    exact ⟨.str _, H, I.kept (t' := tk) hk, ⟨t, rfl⟩, q⟩
  | tuple e1 e2 e3 ra =>
    refine repr_of_reads' (.tuple e1 e2 e3 ra) sh (PyData.noDict_hsm nd) gd (by omega) (fun _ _ e => e) (fun h' t tk hk => ?_) sz
    exact ⟨.str _, H, I.kept (t' := tk) hk, ⟨t, rfl⟩, q⟩
  | dict => cases nd
end
end L2.My
/-! the end of a law for such defs, with tables of code objects -/
namespace L2.My
open PySem PySem.Spec PyProof.Rows
abbrev scrO (vs : List Value) : Obj := { cls := .type "list", data := .seq vs.toArray }
abbrev tabO : Obj := { cls := .none, data := .fields #[] }
/-- the abstract heap at the law's entry: the tables, and the script if it is no object of the module -/
structure Begin (K : PySem.W.Frag) (a : Addr) (vs : List Value) (ns : List Int) (ts : List Addr) (H : Hp) : Prop where
  tab : ∀ b ∈ ts, H b = some (.tbl #[])
  cas : ∀ b u, H b = some u → (b ∈ ts ∧ u = .tbl #[]) ∨ (b = a ∧ K.lookup a = none ∧ u = .frz (scrO vs) (.lst (ns.map V.int)))
  scr : SqL K H a (ns.map V.int)
theorem begin_ex {K : PySem.W.Frag} {h : Heap} {a : Addr} {vs : List Value} {ns : List Int} {ts : List Addr} (KX : K.In h) (ha : h.get? a = some (scrO vs)) (hi : IntsAre vs ns) (hl : ns.length ≤ sizeLine) (na : a ∉ ts) : ∃ H, Begin K a vs ns ts H := by
  cases hk : K.lookup a with
  | some o =>
    have e := (KX a o hk).symm.trans ha
    cases e
    have sz : vs.toArray.size ≤ sizeLine := by rw [List.size_toArray, hi.length]; exact hl
    refine ⟨fun b => if b ∈ ts then some (.tbl #[]) else none, fun b hb => if_pos hb, fun b u e => ?_, .inr ⟨_, vs.toArray, _, hk, rfl, rfl, rfl, sz, by simpa using vals_ints hi⟩⟩
    by_cases hb : b ∈ ts
    · exact .inl ⟨hb, (Option.some.inj ((if_pos hb).symm.trans e)).symm⟩
    · cases (if_neg hb).symm.trans e
  | none =>
    refine ⟨fun b => if b ∈ ts then some (.tbl #[]) else if b = a then some (.frz (scrO vs) (.lst (ns.map V.int))) else none, fun b hb => if_pos hb, fun b u e => ?_, .inl (.inr ⟨scrO vs, (if_neg na).trans (if_pos rfl)⟩)⟩
    by_cases hb : b ∈ ts
    · exact .inl ⟨hb, (Option.some.inj ((if_pos hb).symm.trans e)).symm⟩
    · have e2 := (if_neg hb).symm.trans e
      by_cases h2 : b = a
      · exact .inr ⟨h2, hk, (Option.some.inj ((if_pos h2).symm.trans e2)).symm⟩
      · cases (if_neg h2).symm.trans e2
section
variable {P : Program} {w : World} {K : PySem.W.Frag} {h : Heap} {a : Addr} {vs : List Value} {ns : List Int} {ts : List Addr} {H : Hp}
theorem Begin.holds (B : Begin K a vs ns ts H) (ha : h.get? a = some (scrO vs)) (hi : IntsAre vs ns) (hl : ns.length ≤ sizeLine) (hT : ∀ b ∈ ts, h.get? b = some tabO) : HOk P w H h := by
  intro b u e
  rcases B.cas b u e with ⟨hb, rfl⟩ | ⟨rfl, _, rfl⟩
  · exact hT b hb
  · exact ⟨ha, by rw [List.length_map]; exact hl, vs, _, vals_ints hi, ha⟩
/-- an object that is neither a table nor the script's list is not tracked -/
theorem Begin.off (B : Begin K a vs ns ts H) (ha : h.get? a = some (scrO vs)) (hT : ∀ b ∈ ts, h.get? b = some tabO) {b : Addr} {o : Obj} (e : h.get? b = some o) (h1 : o ≠ tabO) (h2 : o ≠ scrO vs) : H b = none := by
  cases q : H b with
  | none => rfl
  | some u =>
    rcases B.cas b u q with ⟨hb, _⟩ | ⟨rfl, _, _⟩
    · exact absurd (Option.some.inj (e.symm.trans (hT b hb))) h1
    · exact absurd (Option.some.inj (e.symm.trans ha)) h2
theorem Begin.kin (B : Begin K a vs ns ts H) (KX : K.In h) (nT : ∀ b ∈ ts, K.lookup b = none) : K.In (hidT h H) := by
  intro b o e
  refine hidT_get (KX b o e) ?_
  cases q : H b with
  | none => rfl
  | some u =>
    rcases B.cas b u q with ⟨hb, _⟩ | ⟨rfl, hk, _⟩
    · rw [nT b hb] at e
      cases e
    · rw [hk] at e
      cases e
theorem Begin.nsAt (B : Begin K a vs ns ts H) (ha : h.get? a = some (scrO vs)) (hT : ∀ b ∈ ts, h.get? b = some tabO) {b : Addr} {m : Str → Option Value} (n : h.Ns b m) : (hidT h H).Ns b m := by
  obtain ⟨o, es, ep, e, d, r⟩ := n
  refine ⟨o, es, ep, hidT_get e (B.off ha hT e ?_ ?_), d, r⟩
  · rintro rfl
    cases d
  · rintro rfl
    cases d
end
/-- what is known of the law's promise behind the top -/
def LawG (l : PySem.W.OpenLaw) (w : World) (K : PySem.W.Frag) (k n : Nat) (x : Str) (mg : Str → Option Value) (fa : Addr) (h : Heap) : Prop :=
  ∃ (fd : FuncData) (cs : List (Addr × Addr)) (sp : Sp), (∀ p ∈ cs, h.get? p.2 = some tabO) ∧ (∀ p ∈ cs, K.lookup p.2 = none) ∧ (∀ p ∈ cs, PySem.W.CodeHd h p.1 p.2) ∧ (∀ (s : Shared) (u : Value), BindsTo s fd ⟨[u], []⟩ [(x, u)]) ∧
    (∀ (H : Hp) (a : Addr) (ns : List Int), ns.length ≤ n → (∀ z ∈ ns, Builtin.Int.intBits z ≤ 1048576) → (∀ p ∈ cs, H p.2 = some (.tbl #[])) → SqL K H a (ns.map V.int) → sp [.ref a] H (fun v _ => v = .bl true) E0) ∧
    ∀ base : Heap, K.In base → base.Ns mainGlobals mg → (∀ p ∈ cs, LamX.TabB base mg p.1 p.2) → FnG l.prog w K mg base k fa fd [x] sp
theorem walkG {l : PySem.W.OpenLaw} {n k : Nat} {q : Program} {loose : List Str} {XP : (Str → Option Value) → Heap → Prop} {YP : World → Heap → Prop} {d : DefRec} {K : Params → PySem.W.Frag} {x : Str}
    (hn : l.most = some n) (hn2 : n ≤ sizeLine) (hdf : d.params.defaults = []) (hr : Room k callerA) (hY : ∀ (w : World) (h : Heap), YP w h → (K w.params).In h)
    (F : ∀ (w : World) (mg : Str → Option Value) (fa : Addr) (h : Heap), YP w h → (K w.params).In h → h.Ns mainGlobals mg → mg d.name = some (.ref fa) → LawG l w (K w.params) k n x mg fa h) :
    PySem.W.WalkO q loose XP YP l.row.toRowW d [] (fun f vs => PySem.call f vs) := by
  refine Att.attach_callB hn hdf fun w s0 s1 mg mb fa o pm cd doc a vs ns G Y ho hd hcd hmg ha hi hlen hbits hg => ?_
  have KX := hY w _ Y
  obtain ⟨fd, cs, sp, hT, nT, hC, hb, hsp, hF⟩ := F w mg fa _ Y KX G.T.g hmg
  have hl : ns.length ≤ sizeLine := Nat.le_trans hlen hn2
  have hTs : ∀ b ∈ cs.map (·.2), s1.heap.get? b = some tabO := by
    intro b hb
    obtain ⟨p, hp, rfl⟩ := List.mem_map.mp hb
    exact hT p hp
  have nTs : ∀ b ∈ cs.map (·.2), (K w.params).lookup b = none := by
    intro b hb
    obtain ⟨p, hp, rfl⟩ := List.mem_map.mp hb
    exact nT p hp
  have na : a ∉ cs.map (·.2) := by
    intro z
    cases ha.symm.trans (hTs a z)
  obtain ⟨H, B⟩ := begin_ex KX ha hi hl na
  have hok : HOk l.prog w H s1.heap := B.holds ha hi hl hTs
  have kin := B.kin KX nTs
  have gns := B.nsAt ha hTs G.T.g
  have tabs : ∀ p ∈ cs, H p.2 = some (.tbl #[]) := fun p hp => B.tab _ (List.mem_map.mpr ⟨p, hp, rfl⟩)
  have hM : Mod (K w.params) mg (hidT s1.heap H) := ⟨kin, gns, ⟨mb, B.nsAt ha hTs G.T.b, G.T.builtins⟩, let ⟨mc, h1, h2⟩ := G.T.nolimit; ⟨mc, B.nsAt ha hTs h1, h2⟩⟩
  have TB : ∀ p ∈ cs, LamX.TabB (hidT s1.heap H) mg p.1 p.2 := by
    intro p hp
    obtain ⟨oc, us, file, tf, flags, tg, inF, text, tt, e1, r1, r2, r3, r4, r5, r6, r7, r8, hne⟩ := hC p hp
    obtain ⟨bm, ob, b1, b2, b3, b4, b5, b6⟩ := G.T.bmain
    obtain ⟨og, es, ep, eg, dg, _⟩ := G.T.g
    refine ⟨⟨oc, us, file, tf, flags, tg, inF, text, tt, hidT_get e1 (B.off ha hTs e1 ?_ ?_), r1, r2, r3, r4, r5, r6, r7, r8, hne⟩, ⟨bm, ob, b1, b2, ?_, ?_, hidT_get b3 (B.off ha hTs b3 ?_ ?_), b4, b5, b6⟩, ?_⟩
    · rintro rfl
      cases r2
      simp at r3
    · rintro rfl
      cases r2
    · rintro rfl
      cases b3.symm.trans eg
      rw [b6] at dg
      cases dg
    · rintro rfl
      cases b3.symm.trans (hT p hp)
      cases b6
    · rintro rfl
      cases b6
    · rintro rfl
      cases b6
    · intro z
      rw [z] at eg
      cases eg.symm.trans (hT p hp)
      cases dg
  have e0 : Env0 l.prog w (K w.params) mg (hidT s1.heap H) callerA [] s1 H :=
    ⟨rfl, hM, fun b o e => of_hidT e, Nat.le_of_eq (hidT_size _ _), trivial, fun b hb => absurd (show b ∈ ([] : List Addr) from hb) (by simp), hok, .of_eq hg⟩
  refine codeAny_mono ((hF _ kin gns TB).run callerA [] s1 H ⟨[.ref a], []⟩ [.ref a] [.ref a] _ _ hr rfl e0 (hb s1 (.ref a)) (.cons rfl .nil) (hsp H a ns hlen hbits tabs B.scr)) fun r s2 hq => ?_
  match r, hq with
  | .error e, hq => exact (show False from hq).elim
  | .ok .next, hq => exact False.elim hq
  | .ok .brk, hq => exact False.elim hq
  | .ok .cont, hq => exact False.elim hq
  | .ok (.ret u), hq =>
    obtain ⟨v, H2, os, bare, un, hok2, rv, ev⟩ := hq
    obtain rfl : v = .bl true := ev
    obtain rfl : u = Value.bool true := rv
    have grown : ∀ b ∈ cs.map (·.2), ∃ more : Array Value, s2.heap.get? b = some { cls := .none, data := .fields more } := by
      intro b hb
      obtain ⟨more, z⟩ := un.tbls b #[] (B.tab b hb)
      exact ⟨_, hok2 b _ z⟩
    have same : ∀ b o, b ∉ cs.map (·.2) → s1.heap.get? b = some o → s2.heap.get? b = some o := by
      intro b o nb e
      cases qh : H b with
      | none => exact un.keep b o e qh (by intro z; exact absurd (show b ∈ ([] : List Addr) from z) (by simp)) (by simp)
      | some u =>
        rcases B.cas b u qh with ⟨hb, _⟩ | ⟨rfl, _, rfl⟩
        · exact absurd hb nb
        · have z2 := un.frzs b _ _ qh
          obtain ⟨e2, _⟩ := hok2 b _ z2
          cases e.symm.trans ha
          exact e2
    refine ⟨rfl, ⟨fun b o e => ?_, fun b o e => ?_⟩, os, bare⟩
    · by_cases hb : b ∈ cs.map (·.2)
      · obtain ⟨more, hm⟩ := grown b hb
        obtain ⟨p, hp, rfl⟩ := List.mem_map.mp hb
        cases e.symm.trans (hT p hp)
        exact .inr (.inl ⟨((hC p hp).tab (hT p hp)).isCodeTable, rfl, #[], more, rfl, by rw [Array.empty_append]; exact hm⟩)
      · exact .inl (same b o hb e)
    · by_cases hb : b ∈ cs.map (·.2)
      · obtain ⟨more, hm⟩ := grown b hb
        exact ⟨_, hm⟩
      · exact ⟨o, same b o hb e⟩
end L2.My
/-! == and != of a text with data of any kind; of lists with the empty one; great powers -/
namespace PySem.SeqAt
open MeetsSeq
open AutoSeq1 (wpAny_loadPart')
theorem dict_eq_no_str (l : Addr) (es : Array DictEntry) (n : Nat) (dd : Option Addr) (sl : Array (Option Value)) (b : Str) (u : Tok) :
    Meets (Builtin.«dict.__eq__» ⟨[.ref l, .str b u], []⟩) (fun _ R s => s.heap.get? l = some { cls := .type "dict", dict := dd, data := .dict es n, slots := sl } ∧ R (.ok (.ret .notImplemented)) s) :=
  .of_wp fun prog w A R s h => by
    obtain ⟨hp, g, d, tk, os⟩ := s
    obtain ⟨hl, h⟩ := h
    have f1 := F.sub_str_dict
    wp_walk using wpAny_loadPart' hl
    exact ⟨_, rfl, h⟩
theorem dict_ne_no_str (l : Addr) (es : Array DictEntry) (n : Nat) (dd : Option Addr) (sl : Array (Option Value)) (b : Str) (u : Tok) :
    Meets (Builtin.«dict.__ne__» ⟨[.ref l, .str b u], []⟩) (fun _ R s => s.heap.get? l = some { cls := .type "dict", dict := dd, data := .dict es n, slots := sl } ∧ R (.ok (.ret .notImplemented)) s) :=
  .of_wp fun prog w A R s h => by
    obtain ⟨hp, g, d, tk, os⟩ := s
    obtain ⟨hl, h⟩ := h
    have f1 := F.sub_str_dict
    wp_walk using wpAny_loadPart' hl
    exact ⟨_, rfl, h⟩
theorem str_eq_no_dict (b : Str) (u : Tok) (l : Addr) (es : Array DictEntry) (n : Nat) (dd : Option Addr) (sl : Array (Option Value)) :
    Meets (Builtin.«str.__eq__» ⟨[.str b u, .ref l], []⟩) (fun _ R s => s.heap.get? l = some { cls := .type "dict", dict := dd, data := .dict es n, slots := sl } ∧ R (.ok (.ret .notImplemented)) s) :=
  .of_wp fun prog w A R s h => by
    obtain ⟨hp, g, d, tk, os⟩ := s
    obtain ⟨hl, h⟩ := h
    wp_walk using wpAny_loadPart' hl, wpAny_load hl
    exact ⟨_, rfl, h⟩
theorem str_ne_no_dict (b : Str) (u : Tok) (l : Addr) (es : Array DictEntry) (n : Nat) (dd : Option Addr) (sl : Array (Option Value)) :
    Meets (Builtin.«str.__ne__» ⟨[.str b u, .ref l], []⟩) (fun _ R s => s.heap.get? l = some { cls := .type "dict", dict := dd, data := .dict es n, slots := sl } ∧ R (.ok (.ret .notImplemented)) s) :=
  .of_wp fun prog w A R s h => by
    obtain ⟨hp, g, d, tk, os⟩ := s
    obtain ⟨hl, h⟩ := h
    wp_walk using wpAny_loadPart' hl, wpAny_load hl
    exact ⟨_, rfl, h⟩
section
variable {A : Around} {s : Shared}
theorem RcAt.dict_str {l : Addr} {es : Array DictEntry} {n : Nat} {dd : Option Addr} {sl : Array (Option Value)} (b : Str) (u : Tok) (ho : s.heap.get? l = some { cls := .type "dict", dict := dd, data := .dict es n, slots := sl }) (hu : A.units < cLine) : RcAt A s (.ref l) (.str b u) false :=
  fun prog w E Q h => rc_eq_decline_or (k := false) ⟨_, ho, rfl⟩ (typeIs_str s b u) (by decide) F.sub_str_dict F.slot_dict_eq F.slot_str_eq_refl
    (fun _ hq => call_meets F.slot_dict_eq ⟨_, ho, rfl⟩ F.entry_dict_eq (F.args_dict_eq_2 _ _) (dict_eq_no_str l es n dd sl b u) ⟨ho, hq⟩)
    (fun _ hq => call_meets F.slot_str_eq_refl (typeIs_str s b u) F.entry_str_eq (F.args_str_eq_2 _ _) (str_eq_no_dict b u l es n dd sl) ⟨ho, hq⟩)
    (fun _ hq => wpAny_of_eq (rfl : isSame (.ref l) (.str b u) = pure false) hq) (.inr hu) h
theorem RcNeAt.dict_str {l : Addr} {es : Array DictEntry} {n : Nat} {dd : Option Addr} {sl : Array (Option Value)} (b : Str) (u : Tok) (ho : s.heap.get? l = some { cls := .type "dict", dict := dd, data := .dict es n, slots := sl }) (hu : A.units < cLine) : RcNeAt A s (.ref l) (.str b u) true :=
  fun prog w E Q h => rc_ne_decline_or (k := false) ⟨_, ho, rfl⟩ (typeIs_str s b u) (by decide) F.sub_str_dict F.slot_dict_ne F.slot_str_ne_refl
    (fun _ hq => call_meets F.slot_dict_ne ⟨_, ho, rfl⟩ F.entry_dict_ne (F.args_dict_ne_2 _ _) (dict_ne_no_str l es n dd sl b u) ⟨ho, hq⟩)
    (fun _ hq => call_meets F.slot_str_ne_refl (typeIs_str s b u) F.entry_str_ne (F.args_str_ne_2 _ _) (str_ne_no_dict b u l es n dd sl) ⟨ho, hq⟩)
    (fun _ hq => wpAny_of_eq (rfl : isSame (.ref l) (.str b u) = pure false) hq) (.inr hu) h
end
end PySem.SeqAt
namespace L2.My
open PySem PySem.Spec PyProof.Rows
/-- a value as a text sees it: the text that it is, or none -/
inductive AsText (H : Hp) : V → Option Str → Prop
  | str (z : Str) : AsText H (.str z) (some z)
  | non : AsText H .non none
  | bl (b : Bool) : AsText H (.bl b) none
  | int (i : Int) : AsText H (.int i) none
  | lst {a : Addr} {xs : List V} (e : H a = some (.lst xs)) : AsText H (.ref a) none
  | tup {a : Addr} {xs : List V} (e : H a = some (.tup xs)) : AsText H (.ref a) none
  | dic {a : Addr} {kvs : List (Key × V)} (e : H a = some (.dK kvs)) : AsText H (.ref a) none
section
variable {X : Cx} {pins : List (Addr × Obj)} {σ : L2.St} {H : Hp} {s : Shared}
theorem dict_get (I : Inv X pins σ H s) {a : Addr} {kvs : List (Key × V)} (e : H a = some (.dK kvs)) : ∃ dd es n sl, s.heap.get? a = some { cls := .type "dict", dict := dd, data := .dict es n, slots := sl } := by
  obtain ⟨_, _, vs, _, o, es, ep, h1, h2, h3, _⟩ := (show ObjOk X.prog X.w H s.heap a (.dK kvs) from I.hok a _ e)
  obtain ⟨oc, od, dt, sl⟩ := o
  obtain ⟨c1, _⟩ := h2
  simp only at c1 h3
  subst c1 h3
  exact ⟨od, es, ep, sl, h1⟩
def rEqX : R2 := fun x y H Q => ∃ k z, y = .str z ∧ AsText H x k ∧ Q (.bl (decide (k = some z))) H
def rNeX : R2 := fun x y H Q => ∃ k z, y = .str z ∧ AsText H x k ∧ Q (.bl (!decide (k = some z))) H
theorem some_eq (a b : Str) : decide ((some a : Option Str) = some b) = (a == b) := by
  by_cases e : a = b
  · subst e
    simp
  · simp [e]
theorem op_eqX (hu : X.A.units < cLine) : OpR X (compareOp .Eq) rEqX := by
  intro pins s σ H x y v u Q I rx ry h
  obtain ⟨k, z, rfl, tx, q⟩ := h
  obtain ⟨t, rfl⟩ := ry
  have done : ∀ b : Bool, decide (k = some z) = b → EP X pins σ Q (.bool b) s := fun b e => ⟨.bl b, H, I, rfl, e ▸ q⟩
  cases tx with
  | str z' =>
    obtain ⟨t', rfl⟩ := rx
    exact SeqAt.RcAt.str_str z' t' z t _ _ _ _ (done _ (some_eq z' z))
  | non =>
    cases rx
    exact SeqAt.RcAt.none_str z t _ _ _ _ (done _ (by simp))
  | bl b =>
    cases rx
    exact SeqAt.RcAt.bool_str b z t _ _ _ _ (done _ (by simp))
  | int i =>
    obtain ⟨t', rfl⟩ := rx
    exact SeqAt.RcAt.int_str i t' z t _ _ _ _ (done _ (by simp))
  | @lst a xs e =>
    cases rx
    obtain ⟨_, its, n, _, h1⟩ := (show ObjOk X.prog X.w H s.heap a (.lst xs) from I.hok a _ e)
    exact SeqAt.RcAt.list_str z t ⟨_, h1, rfl, n, rfl⟩ hu _ _ _ _ (done _ (by simp))
  | @tup a xs e =>
    cases rx
    obtain ⟨_, its, _, o, h1, h2, n, h3⟩ := (show ObjOk X.prog X.w H s.heap a (.tup xs) from I.hok a _ e)
    exact SeqAt.RcAt.tuple_str z t ⟨_, h1, h2, n, h3⟩ hu _ _ _ _ (done _ (by simp))
  | @dic a kvs e =>
    cases rx
    obtain ⟨dd, es, n, sl, h1⟩ := dict_get I e
    exact SeqAt.RcAt.dict_str z t h1 hu _ _ _ _ (done _ (by simp))
theorem op_neX (hu : X.A.units < cLine) : OpR X (compareOp .NotEq) rNeX := by
  intro pins s σ H x y v u Q I rx ry h
  obtain ⟨k, z, rfl, tx, q⟩ := h
  obtain ⟨t, rfl⟩ := ry
  have done : ∀ b : Bool, (!decide (k = some z)) = b → EP X pins σ Q (.bool b) s := fun b e => ⟨.bl b, H, I, rfl, e ▸ q⟩
  cases tx with
  | str z' =>
    obtain ⟨t', rfl⟩ := rx
    exact SeqAt.RcNeAt.str_str z' t' z t _ _ _ _ (done _ (by rw [some_eq z' z]))
  | non =>
    cases rx
    exact SeqAt.RcNeAt.none_str z t _ _ _ _ (done _ (by simp))
  | bl b =>
    cases rx
    exact SeqAt.RcNeAt.bool_str b z t _ _ _ _ (done _ (by simp))
  | int i =>
    obtain ⟨t', rfl⟩ := rx
    exact SeqAt.RcNeAt.int_str i t' z t _ _ _ _ (done _ (by simp))
  | @lst a xs e =>
    cases rx
    obtain ⟨_, its, n, _, h1⟩ := (show ObjOk X.prog X.w H s.heap a (.lst xs) from I.hok a _ e)
    exact SeqAt.RcNeAt.list_str z t ⟨_, h1, rfl, n, rfl⟩ hu _ _ _ _ (done _ (by simp))
  | @tup a xs e =>
    cases rx
    obtain ⟨_, its, _, o, h1, h2, n, h3⟩ := (show ObjOk X.prog X.w H s.heap a (.tup xs) from I.hok a _ e)
    exact SeqAt.RcNeAt.tuple_str z t ⟨_, h1, h2, n, h3⟩ hu _ _ _ _ (done _ (by simp))
  | @dic a kvs e =>
    cases rx
    obtain ⟨dd, es, n, sl, h1⟩ := dict_get I e
    exact SeqAt.RcNeAt.dict_str z t h1 hu _ _ _ _ (done _ (by simp))
/-- xs == [] -/
def rEqNil : R2 := fun x y H Q => ∃ a b xs, x = .ref a ∧ y = .ref b ∧ H a = some (.lst xs) ∧ H b = some (.lst []) ∧ Q (.bl xs.isEmpty) H
theorem op_eqNil (hu : X.A.units < cLine) : OpR X (compareOp .Eq) rEqNil := by
  intro pins s σ H x y v u Q I rx ry h
  obtain ⟨a, b, xs, rfl, rfl, ea, eb, q⟩ := h
  cases rx
  cases ry
  obtain ⟨_, its, n, r1, h1⟩ := (show ObjOk X.prog X.w H s.heap a (.lst xs) from I.hok a _ ea)
  obtain ⟨_, its2, n2, r2, h2⟩ := (show ObjOk X.prog X.w H s.heap b (.lst []) from I.hok b _ eb)
  cases r2
  have la : s.heap.IsList a its.toArray := ⟨_, h1, rfl, n, rfl⟩
  have lb : s.heap.IsList b #[] := ⟨_, h2, rfl, n2, rfl⟩
  cases r1 with
  | nil => exact SeqAt.RcAt.lists (e := fun _ => true) la lb rfl hu (fun j h1 _ => absurd h1 (by simp)) _ _ _ _ ⟨.bl true, H, I, rfl, q⟩
  | cons r t => exact SeqAt.RcAt.lists_lengths la lb (by simp) hu _ _ _ _ ⟨.bl false, H, I, rfl, q⟩
/-- t != () -/
def rNeUnit : R2 := fun x y H Q => ∃ a b xs, x = .ref a ∧ y = .ref b ∧ H a = some (.tup xs) ∧ H b = some (.tup []) ∧ Q (.bl (!xs.isEmpty)) H
theorem op_neUnit (hu : X.A.units < cLine) : OpR X (compareOp .NotEq) rNeUnit := by
  intro pins s σ H x y v u Q I rx ry h
  obtain ⟨a, b, xs, rfl, rfl, ea, eb, q⟩ := h
  cases rx
  cases ry
  obtain ⟨_, its, r1, o, h1, h2, n, h3⟩ := (show ObjOk X.prog X.w H s.heap a (.tup xs) from I.hok a _ ea)
  obtain ⟨_, its2, r2, o2, g1, g2, n2, g3⟩ := (show ObjOk X.prog X.w H s.heap b (.tup []) from I.hok b _ eb)
  cases r2
  have la : s.heap.IsTuple a its.toArray := ⟨_, h1, h2, n, h3⟩
  have lb : s.heap.IsTuple b #[] := ⟨_, g1, g2, n2, g3⟩
  refine SeqAt.RcNeAt.tuples (e := fun _ => true) la lb hu (fun j _ h2 => absurd h2 (by simp)) _ _ _ _ ?_
  cases r1 with
  | nil => exact ⟨.bl false, H, I, rfl, q⟩
  | cons r t => exact ⟨.bl true, H, I, by simp [RelV], q⟩
/-- a great power -/
def CPowW (i j : Int) : Prop := 0 ≤ j ∧ (Builtin.Int.intBits i : Int) * j ≤ 2 ^ 27
theorem op_powW : OpR X (binaryOp .Pow) (rI CPowW fun i j => .int (i ^ j.toNat)) := opI fun _ _ _ _ _ _ _ hc q => pow_int hc.1 hc.2 q
end
end L2.My
/-! a tuple of any data compared with a tuple of one text -/
namespace L2.My
open PySem PySem.Spec PyProof.Rows
section
variable {A : Around} {s : Shared}
/-- what == tells of a text, where the two are not the same object -/
theorem eqAt_of {x : Value} {z : Str} {t : Tok} {k : Bool} (ne : x ≠ .str z t) (h : SeqAt.RcAt A s x (.str z t) k) : SeqAt.EqAt A s x (.str z t) k := fun prog w E Q q => by
  unfold eqBool
  refine wpAny_holding (wpAny_ite_split (fun c => absurd (eq_of_beq c) ne) fun _ => ?_)
  cases x <;> exact wpAny_bind (h prog w E _ (wpAny_truthy_bool q))
end
section
variable {X : Cx} {pins : List (Addr × Obj)} {σ : L2.St} {H : Hp} {s : Shared}
/-- one item against a text -/
theorem item_text (I : Inv X pins σ H s) {v : V} {u : Value} {k : Option Str} (r : RelV v u) (t : AsText H v k) (z : Str) (tk : Tok) {A : Around} (hu : A.units < cLine) : SeqAt.EqAt A s u (.str z tk) (decide (k = some z)) := by
  cases t with
  | str z' =>
    obtain ⟨t', rfl⟩ := r
    rw [some_eq]
    exact SeqAt.EqAt.str_str z' t' z tk
  | non =>
    cases r
    exact eqAt_of (by intro e; cases e) (SeqAt.RcAt.none_str z tk)
  | bl b =>
    cases r
    exact eqAt_of (by intro e; cases e) (SeqAt.RcAt.bool_str b z tk)
  | int i =>
    obtain ⟨t', rfl⟩ := r
    exact eqAt_of (by intro e; cases e) (SeqAt.RcAt.int_str i t' z tk)
  | @lst a xs e =>
    cases r
    obtain ⟨_, its, n, _, h1⟩ := (show ObjOk X.prog X.w H s.heap a (.lst xs) from I.hok a _ e)
    exact eqAt_of (by intro e; cases e) (SeqAt.RcAt.list_str z tk ⟨_, h1, rfl, n, rfl⟩ hu)
  | @tup a xs e =>
    cases r
    obtain ⟨_, its, _, o, h1, h2, n, h3⟩ := (show ObjOk X.prog X.w H s.heap a (.tup xs) from I.hok a _ e)
    exact eqAt_of (by intro e; cases e) (SeqAt.RcAt.tuple_str z tk ⟨_, h1, h2, n, h3⟩ hu)
  | @dic a kvs e =>
    cases r
    obtain ⟨dd, es, n, sl, h1⟩ := dict_get I e
    exact eqAt_of (by intro e; cases e) (SeqAt.RcAt.dict_str z tk h1 hu)
/-- the tuple is (z,) -/
def isTag : List (Option Str) → Str → Bool
  | [k], z => decide (k = some z)
  | _, _ => false
/-- items as a text sees them -/
inductive Texts (H : Hp) : List V → List (Option Str) → Prop
  | nil : Texts H [] []
  | cons {v : V} {k : Option Str} {vs : List V} {ks : List (Option Str)} (t : AsText H v k) (r : Texts H vs ks) : Texts H (v :: vs) (k :: ks)
def rEqTag : R2 := fun x y H Q => ∃ a b xs ks z, x = .ref a ∧ y = .ref b ∧ H a = some (.tup xs) ∧ H b = some (.tup [.str z]) ∧ Texts H xs ks ∧ Q (.bl (isTag ks z)) H
theorem op_eqTag (hu : X.A.units + 1 < cLine) : OpR X (compareOp .Eq) rEqTag := by
  intro pins s σ H x y v u Q I rx ry h
  obtain ⟨a, b, xs, ks, z, rfl, rfl, ea, eb, tx, q⟩ := h
  cases rx
  cases ry
  obtain ⟨_, its, r1, o, h1, h2, n, h3⟩ := (show ObjOk X.prog X.w H s.heap a (.tup xs) from I.hok a _ ea)
  obtain ⟨_, its2, r2, o2, g1, g2, n2, g3⟩ := (show ObjOk X.prog X.w H s.heap b (.tup [.str z]) from I.hok b _ eb)
  have la : s.heap.IsTuple a its.toArray := ⟨_, h1, h2, n, h3⟩
  cases r2 with
  | @cons _ w _ ws rz rn =>
    cases rn
    obtain ⟨tk, rfl⟩ := rz
    have lb : s.heap.IsTuple b #[.str z tk] := ⟨_, g1, g2, n2, g3⟩
    refine SeqAt.RcAt.tuples (e := fun _ => isTag [ks.headD none] z) la lb (Nat.lt_of_succ_lt hu) (fun j j1 j2 => ?_) _ _ _ _ ?_
    · have j0 : j = 0 := by
        have : j < 1 := j2
        omega
      subst j0
      cases r1 with
      | nil => exact absurd j1 (by simp)
      | @cons v w vs ws r t =>
        cases tx with
        | cons t0 tr => exact item_text I r t0 z tk hu
    · cases r1 with
      | nil =>
        cases tx
        exact ⟨.bl false, H, I, rfl, q⟩
      | @cons v w vs ws r t =>
        cases tx with
        | @cons _ k _ kr t0 tr =>
          cases t with
          | nil =>
            cases tr
            exact ⟨.bl _, H, I, by simp [RelV, List.range_succ], q⟩
          | cons r' t' =>
            cases tr
            exact ⟨.bl false, H, I, by simp [RelV], q⟩
end
end L2.My
/-! repr of an empty dict -/
namespace L2.My
open PySem PySem.Spec PyProof.Rows
section
variable {X : Cx} {pins : List (Addr × Obj)} {σ : L2.St} {H : Hp} {s : Shared}
theorem dict_nil (I : Inv X pins σ H s) {a : Addr} (e : H a = some (.dK [])) : (a == sysModules) = false ∧ ∃ o n, s.heap.get? a = some o ∧ o.cls = .type "dict" ∧ o.data = .dict #[] n := by
  obtain ⟨_, q0, vs, q1, o, es, ep, h1, h2, h3, h4⟩ := (show ObjOk X.prog X.w H s.heap a (.dK []) from I.hok a _ e)
  cases q1
  have z : es = #[] := by
    have p := h4.2.1
    have p2 : es.toList = [] := by
      cases q : es.toList with
      | nil => rfl
      | cons x r =>
        rw [q] at p
        cases p
    exact Array.ext' p2
  subst z
  exact ⟨q0, o, ep, h1, h2.1, h3⟩
/-- repr(d) of an empty dict -/
def rReprNil : List V → Hp → VK → Prop := fun xs H Q => ∃ a, xs = [.ref a] ∧ H a = some (.dK []) ∧ Q (.str "{}") H
theorem call_reprNil (gd : X.A.guards = some []) (hu : X.A.units + 70 < cLine) : CallR X (.builtin "repr") rReprNil := by
  intro pins s σ H xs us Q I r h
  obtain ⟨a, rfl, e, q⟩ := h
  obtain ⟨ne, o, n, h1, h2, h3⟩ := dict_nil I e
  cases r with
  | cons ra rn =>
    cases rn
    cases ra
    have rd : Reads s.heap (.ref a) (.dict []) ([a] ++ []) := .dict h1 h2 h3 (by simpa using ReadsAll.nil) (by simpa using ReadsAll.nil)
    refine repr_of_reads' rd (by rfl) (fun _ hm => ?_) gd (by show X.A.units + (_ + 1) < cLine; have : (PyData.dict []).depth = 1 := rfl; omega) (fun _ _ e => e) (fun h' t tk hk => ?_) (by decide +kernel)
    · have hm2 : sysModules = a := by simpa using hm
      rw [hm2] at ne
      simp at ne
    · have z : (PyData.dict []).shown = "{}" := by decide +kernel
      rw [z]
      exact ⟨.str _, H, I.kept (t' := tk) hk, ⟨t, rfl⟩, q⟩
end
end L2.My
/-! zip of two tuples walked; < of data; in a tuple of one-text tuples; repr of data or of an empty dict -/
namespace PySem.SeqAt
section
variable {A : Around} {s : Shared}
theorem RcAt.str_dict (b : Str) (u : Tok) {l : Addr} {es : Array DictEntry} {n : Nat} {dd : Option Addr} {sl : Array (Option Value)} (ho : s.heap.get? l = some { cls := .type "dict", dict := dd, data := .dict es n, slots := sl }) (hu : A.units < cLine) : RcAt A s (.str b u) (.ref l) false :=
  fun prog w E Q h => rc_eq_decline_or (k := false) (typeIs_str s b u) ⟨_, ho, rfl⟩ (by decide) F.sub_dict_str F.slot_str_eq_refl F.slot_dict_eq
    (fun _ hq => call_meets F.slot_str_eq_refl (typeIs_str s b u) F.entry_str_eq (F.args_str_eq_2 _ _) (str_eq_no_dict b u l es n dd sl) ⟨ho, hq⟩)
    (fun _ hq => call_meets F.slot_dict_eq ⟨_, ho, rfl⟩ F.entry_dict_eq (F.args_dict_eq_2 _ _) (dict_eq_no_str l es n dd sl b u) ⟨ho, hq⟩)
    (fun _ hq => wpAny_of_eq (rfl : isSame (.str b u) (.ref l) = pure false) hq) (.inr hu) h
theorem eqAt_back {x : Value} {z : Str} {t : Tok} {k : Bool} (ne : x ≠ .str z t) (h : SeqAt.RcAt A s (.str z t) x k) : SeqAt.EqAt A s (.str z t) x k := fun prog w E Q q => by
  unfold eqBool
  refine wpAny_holding (wpAny_ite_split (fun c => absurd (eq_of_beq c).symm ne) fun _ => ?_)
  cases x <;> exact wpAny_bind (h prog w E _ (wpAny_truthy_bool q))
end
end PySem.SeqAt
namespace L2.My
open PySem PySem.Spec PyProof.Rows L2
section
variable {K : PySem.W.Frag} {a b : Addr} {xs ys : List V}
theorem walk_zipT {n : Nat} (hn : n = min xs.length ys.length) : Walk (RZ.ItzT K a b) n (fun H => SqT K H a xs ∧ SqT K H b ys) (YPair (fun i => xs[i]?) (fun i => ys[i]?)) := by
  refine ⟨fun i H hi q => ?_, fun H q => ⟨xs, ys, q.1, q.2, by omega⟩, fun i H v H' _ q y => ?_⟩
  · obtain ⟨x, hx⟩ : ∃ x, xs[i]? = some x := ⟨_, List.getElem?_eq_getElem (by omega)⟩
    obtain ⟨y, hy⟩ : ∃ y, ys[i]? = some y := ⟨_, List.getElem?_eq_getElem (by omega)⟩
    exact ⟨xs, ys, x, y, q.1, q.2, hx, hy⟩
  · obtain ⟨T, x, z, h1, h2, h3, h4, h5⟩ := y
    exact ⟨T, x, z, h1, h2, h3, h4 xs q.1, h5 ys q.2⟩
end
section
variable {X : Cx} {pins : List (Addr × Obj)} {σ : L2.St} {H : Hp} {s : Shared}
/-- x < y, both data -/
def rLtD (K : PySem.W.Frag) : R2 := fun x y H Q => ∃ d e, Dp K H x d ∧ Dp K H y e ∧ PySem.W.alike d e = true ∧ d ≠ .none ∧ d.depth ≤ 60 ∧ Q (.bl (PySem.W.dataLt d e)) H
theorem op_ltD (hu : X.A.units + 64 < cLine) : OpR X (compareOp .Lt) (rLtD X.K) := by
  intro pins s σ H x y v u Q I rx ry h
  obtain ⟨d, e, hd, he, al, ne, dp, q⟩ := h
  obtain ⟨as, r1⟩ := Dp.reads I d x v hd rx
  obtain ⟨bs, r2⟩ := Dp.reads I e y u he ry
  exact PySem.W.lt_data r1 r2 al ne (by have := Nat.min_le_left d.depth e.depth; omega) ⟨.bl _, H, I, rfl, q⟩
/-- a text against an item -/
theorem text_item (I : Inv X pins σ H s) {v : V} {u : Value} {k : Option Str} (r : RelV v u) (t : AsText H v k) (z : Str) (tk : Tok) {A : Around} (hu : A.units < cLine) : SeqAt.EqAt A s (.str z tk) u (decide (k = some z)) := by
  cases t with
  | str z' =>
    obtain ⟨t', rfl⟩ := r
    have e : decide (some z' = some z) = (z == z') := by
      rw [some_eq]
      by_cases c : z' = z
      · subst c
        simp
      · rw [beq_eq_false_iff_ne.mpr c, beq_eq_false_iff_ne.mpr fun q => c q.symm]
    rw [e]
    exact SeqAt.EqAt.str_str z tk z' t'
  | non =>
    cases r
    exact SeqAt.eqAt_back (by intro e; cases e) (SeqAt.RcAt.str_none z tk)
  | bl b =>
    cases r
    exact SeqAt.eqAt_back (by intro e; cases e) (SeqAt.RcAt.str_bool z tk b)
  | int i =>
    obtain ⟨t', rfl⟩ := r
    exact SeqAt.eqAt_back (by intro e; cases e) (SeqAt.RcAt.str_int z tk i t')
  | @lst a xs e =>
    cases r
    obtain ⟨_, its, n, _, h1⟩ := (show ObjOk X.prog X.w H s.heap a (.lst xs) from I.hok a _ e)
    exact SeqAt.eqAt_back (by intro e; cases e) (SeqAt.RcAt.str_list z tk ⟨_, h1, rfl, n, rfl⟩ hu)
  | @tup a xs e =>
    cases r
    obtain ⟨_, its, _, o, h1, h2, n, h3⟩ := (show ObjOk X.prog X.w H s.heap a (.tup xs) from I.hok a _ e)
    exact SeqAt.eqAt_back (by intro e; cases e) (SeqAt.RcAt.str_tuple z tk ⟨_, h1, h2, n, h3⟩ hu)
  | @dic a kvs e =>
    cases r
    obtain ⟨dd, es, n, sl, h1⟩ := dict_get I e
    exact SeqAt.eqAt_back (by intro e; cases e) (SeqAt.RcAt.str_dict z tk h1 hu)
/-- t in ((z,), ..), t a tuple -/
def rInTags : R2 := fun x y H Q => ∃ a b xs ks ts zs, x = .ref a ∧ y = .ref b ∧ H a = some (.tup xs) ∧ H b = some (.tup (ts.map V.ref)) ∧ Texts H xs ks ∧ List.length ts = List.length zs ∧ (∀ p ∈ ts.zip zs, H p.1 = some (.tup [.str p.2])) ∧ Q (.bl (zs.any (isTag ks))) H
theorem tagV (I : Inv X pins σ H s) {a t : Addr} {xs : List V} {ks : List (Option Str)} {z : Str} (ea : H a = some (.tup xs)) (et : H t = some (.tup [.str z])) (tx : Texts H xs ks) {A : Around} (hu : A.units + 1 < cLine) : SeqAt.EqAt A s (.ref t) (.ref a) (isTag ks z) := by
  obtain ⟨_, its, r1, o, h1, h2, n, h3⟩ := (show ObjOk X.prog X.w H s.heap a (.tup xs) from I.hok a _ ea)
  obtain ⟨_, its2, r2, o2, g1, g2, n2, g3⟩ := (show ObjOk X.prog X.w H s.heap t (.tup [.str z]) from I.hok t _ et)
  have la : s.heap.IsTuple a its.toArray := ⟨_, h1, h2, n, h3⟩
  cases r2 with
  | @cons _ w _ ws rz rn =>
    cases rn
    obtain ⟨tk, rfl⟩ := rz
    have lb : s.heap.IsTuple t #[.str z tk] := ⟨_, g1, g2, n2, g3⟩
    by_cases same : t = a
    · subst same
      rw [ea] at et
      cases et
      cases tx with
      | cons t0 tr =>
        cases tr
        cases t0
        have z1 : isTag [some z] z = true := by simp [isTag]
        rw [z1]
        exact SeqAt.EqAt.same _
    have core : SeqAt.RcAt A s (.ref t) (.ref a) (isTag ks z) := by
      have c := SeqAt.RcAt.tuples (e := fun _ => isTag [ks.headD none] z) (A := A) lb la (Nat.lt_of_succ_lt hu) (fun j j1 j2 => ?_)
      · have e : ((List.range (min (#[Value.str z tk] : Array Value).size its.toArray.size)).all (fun _ => isTag [ks.headD none] z) && (#[Value.str z tk] : Array Value).size == its.toArray.size) = isTag ks z := by
          cases r1 with
          | nil =>
            cases tx
            simp [isTag]
          | @cons v w vs ws r t =>
            cases tx with
            | @cons _ k _ kr t0 tr =>
              cases t with
              | nil =>
                cases tr
                simp [List.range_succ]
              | cons r' t' =>
                cases tr
                simp [isTag]
        rw [e] at c
        exact c
      · have j0 : j = 0 := by
          have : j < 1 := j1
          omega
        subst j0
        cases r1 with
        | nil => exact absurd j2 (by simp)
        | @cons v w vs ws r t =>
          cases tx with
          | cons t0 tr => exact text_item I r t0 z tk hu
    exact SeqAt.EqAt.of_refs same core
theorem op_inTags (hu : X.A.units + 2 < cLine) : OpR X (compareOp .In) rInTags := by
  intro pins s σ H x y v u Q I rx ry h
  obtain ⟨a, b, xs, ks, ts, zs, rfl, rfl, ea, eb, tx, ll, et, q⟩ := h
  cases rx
  cases ry
  obtain ⟨_, its, r1, o, h1, h2, n, h3⟩ := (show ObjOk X.prog X.w H s.heap b (.tup (ts.map V.ref)) from I.hok b _ eb)
  have its_ : its = ts.map Value.ref := by
    clear eb h3 et ll
    revert r1
    generalize ts = ts
    intro r1
    induction ts generalizing its with
    | nil =>
      cases r1
      rfl
    | cons t ts ih =>
      cases r1 with
      | cons r rr =>
        cases r
        rw [ih _ rr]
        rfl
  subst its_
  have lb : s.heap.IsTuple b (ts.map Value.ref).toArray := ⟨_, h1, h2, n, h3⟩
  let e : Value → Bool := fun v => match v with
    | .ref t => (match (ts.zip zs).find? fun p => p.1 == t with
      | some p => isTag ks p.2
      | none => false)
    | _ => false
  have he : ∀ p ∈ ts.zip zs, e (.ref p.1) = isTag ks p.2 := fun p hp => by
    show (match (ts.zip zs).find? fun q => q.1 == p.1 with
      | some p => isTag ks p.2
      | none => false) = _
    cases f : (ts.zip zs).find? fun q => q.1 == p.1 with
    | none => exact absurd (List.find?_eq_none.mp f p hp) (by simp)
    | some q' =>
      have m := List.mem_of_find?_eq_some f
      have c : q'.1 = p.1 := by
        have z := List.find?_some f
        simpa using z
      have e1 := et q' m
      have e2 := et p hp
      rw [c, e2] at e1
      injection e1 with e1
      injection e1 with e1
      injection e1 with e1 _
      injection e1 with e1
      show isTag ks q'.2 = _
      rw [e1]
  refine SeqAt.in_tupleAt e lb (fun w hw => ?_) ⟨.bl _, H, I, rfl, ?_⟩
  · obtain ⟨t, ht, rfl⟩ := List.mem_map.mp (by simpa using hw : w ∈ ts.map Value.ref)
    obtain ⟨j, hj⟩ := List.mem_iff_getElem?.mp ht
    obtain ⟨z, hz⟩ : ∃ z, zs[j]? = some z := by
      obtain ⟨l, _⟩ := List.getElem?_eq_some_iff.mp hj
      exact ⟨_, List.getElem?_eq_getElem (ll ▸ l)⟩
    have hp : (t, z) ∈ ts.zip zs := List.mem_iff_getElem?.mpr ⟨j, by rw [List.getElem?_zip_eq_some]; exact ⟨hj, hz⟩⟩
    rw [he _ hp]
    exact tagV I ea (et _ hp) tx (A := X.A.in1) (by show X.A.in1.units + 1 < cLine; have z : X.A.in1.units ≤ X.A.units + 1 := by simp [Around.in1]
                                                    omega)
  · have z : (ts.map Value.ref).toArray.any e = zs.any (isTag ks) := by
      rw [List.any_toArray]
      clear eb h3 lb h1 h2 r1
      have key : ∀ (ts : List Addr) (zs : List Str), ts.length = zs.length → (∀ p ∈ ts.zip zs, e (.ref p.1) = isTag ks p.2) → (ts.map Value.ref).any e = zs.any (isTag ks) := by
        intro ts
        induction ts with
        | nil =>
          intro zs l _
          cases zs with
          | nil => rfl
          | cons _ _ => cases l
        | cons t ts ih =>
          intro zs l h
          cases zs with
          | nil => cases l
          | cons z zs =>
            rw [List.map_cons, List.any_cons, List.any_cons, h (t, z) (by simp), ih zs (Nat.succ.inj l) fun p hp => h p (by rw [List.zip_cons_cons]; exact List.mem_cons_of_mem _ hp)]
      exact key ts zs ll he
    rw [z]
    exact q
/-- repr of data, or of an empty dict -/
theorem call_reprE (gd : X.A.guards = some []) (hu : X.A.units + 70 < cLine) : CallR X (.builtin "repr") (fun xs H Q => rRepr X.K xs H Q ∨ rReprNil xs H Q) := by
  intro pins s σ H xs us Q I r h
  rcases h with h | h
  · exact call_repr gd hu pins s σ H xs us Q I r h
  · exact call_reprNil gd hu pins s σ H xs us Q I r h
end
end L2.My
/-! displays of written things and names, in one piece; data that is known to have a short repr -/
namespace L2.My
open PySem PySem.Spec PyProof.Rows L2
/-- a written display; v k: the value of slot k -/
inductive Lit where
  | s (z : Str)
  | i (n : Int)
  | b (k : Bool)
  | n
  | v (k : Nat)
  | t (xs : List Lit)
  | l (xs : List Lit)
mutual
def Lit.ok (σ : L2.St) : Lit → Prop
  | .v k => ∃ v, σ[k]? = some (some v)
  | .t xs => xs.length ≤ 1000 ∧ Lit.okA σ xs
  | .l xs => xs.length ≤ 1000 ∧ Lit.okA σ xs
  | .s _ => True
  | .i _ => True
  | .b _ => True
  | .n => True
def Lit.okA (σ : L2.St) : List Lit → Prop
  | [] => True
  | x :: xs => Lit.ok σ x ∧ Lit.okA σ xs
end
mutual
/-- v is what the display gives, all of its objects new since H0 -/
inductive LitAt (σ : L2.St) (H0 H : Hp) : V → Lit → Prop
  | s (z : Str) : LitAt σ H0 H (.str z) (.s z)
  | i (n : Int) : LitAt σ H0 H (.int n) (.i n)
  | b (k : Bool) : LitAt σ H0 H (.bl k) (.b k)
  | n : LitAt σ H0 H .non .n
  | v {k : Nat} {u : V} (e : σ[k]? = some (some u)) : LitAt σ H0 H u (.v k)
  | t {a : Addr} {vs : List V} {xs : List Lit} (n : H0 a = none) (e : H a = some (.tup vs)) (h : LitAll σ H0 H vs xs) : LitAt σ H0 H (.ref a) (.t xs)
  | l {a : Addr} {vs : List V} {xs : List Lit} (n : H0 a = none) (e : H a = some (.lst vs)) (h : LitAll σ H0 H vs xs) : LitAt σ H0 H (.ref a) (.l xs)
inductive LitAll (σ : L2.St) (H0 H : Hp) : List V → List Lit → Prop
  | nil : LitAll σ H0 H [] []
  | cons {u : V} {x : Lit} {vs : List V} {xs : List Lit} (h : LitAt σ H0 H u x) (r : LitAll σ H0 H vs xs) : LitAll σ H0 H (u :: vs) (x :: xs)
end
theorem same_none {H0 H1 : Hp} (s : Same H0 H1) {a : Addr} (n : H1 a = none) : H0 a = none := by
  cases q : H0 a with
  | none => rfl
  | some o =>
    rw [s a o q] at n
    cases n
mutual
theorem LitAt.mono {σ : L2.St} {H0 H1 H H' : Hp} (s0 : Same H0 H1) (s : Same H H') : ∀ {u : V} {x : Lit}, LitAt σ H1 H u x → LitAt σ H0 H' u x
  | _, _, .s z => .s z
  | _, _, .i n => .i n
  | _, _, .b k => .b k
  | _, _, .n => .n
  | _, _, .v e => .v e
  | _, _, .t n e h => .t (same_none s0 n) (s _ _ e) (LitAll.mono s0 s h)
  | _, _, .l n e h => .l (same_none s0 n) (s _ _ e) (LitAll.mono s0 s h)
theorem LitAll.mono {σ : L2.St} {H0 H1 H H' : Hp} (s0 : Same H0 H1) (s : Same H H') : ∀ {vs : List V} {xs : List Lit}, LitAll σ H1 H vs xs → LitAll σ H0 H' vs xs
  | _, _, .nil => .nil
  | _, _, .cons h r => .cons (LitAt.mono s0 s h) (LitAll.mono s0 s r)
end
theorem LitAll.len {σ : L2.St} {H0 H : Hp} : ∀ {vs : List V} {xs : List Lit}, LitAll σ H0 H vs xs → vs.length = xs.length
  | _, _, .nil => rfl
  | _, _, .cons _ r => by rw [List.length_cons, List.length_cons, r.len]
def tLit (x : Lit) : TE := fun σ H Q => Lit.ok σ x ∧ ∀ u H', Same H H' → LitAt σ H H' u x → Q u H'
def tLits (xs : List Lit) : TA := fun σ H Q => Lit.okA σ xs ∧ ∀ us H', Same H H' → LitAll σ H H' us xs → Q us H'
theorem PE.of {X : Cx} {e : Expr} {t t' : TE} (h : PE X e t) (i : ∀ σ H Q, t' σ H Q → t σ H Q) : PE X e t' := ⟨fun pins s σ H Q I q => h.run pins s σ H Q I (i σ H Q q)⟩
theorem PA.of {X : Cx} {es : List Expr} {t t' : TA} (h : PA X es t) (i : ∀ σ H Q, t' σ H Q → t σ H Q) : PA X es t' := ⟨fun pos pins s σ H Q I q => h.run pos pins s σ H Q I (i σ H Q q)⟩
section
variable {X : Cx}
theorem pl_int {i : Int} {j pos} : PE X (.Constant (.int i) j pos) (tLit (.i i)) := PE.of pe_int fun _ H _ q => q.2 _ H (Same.refl H) (.i _)
theorem pl_neg {i : Int} {j pos pos2} : PE X (.UnaryOp .USub (.Constant (.int i) j pos) pos2) (tLit (.i (-i))) := PE.of (pe_un un_neg pe_int) fun _ H _ q => ⟨_, rfl, q.2 _ H (Same.refl H) (.i _)⟩
theorem pl_bl {k : Bool} {j pos} : PE X (.Constant (.bool k) j pos) (tLit (.b k)) := PE.of pe_bl fun _ H _ q => q.2 _ H (Same.refl H) (.b _)
theorem pl_non {j pos} : PE X (.Constant .none j pos) (tLit .n) := PE.of pe_non fun _ H _ q => q.2 _ H (Same.refl H) .n
theorem pl_str {z : Str} {j pos} : PE X (.Constant (.str z) j pos) (tLit (.s z)) := PE.of pe_str fun _ H _ q => q.2 _ H (Same.refl H) (.s _)
theorem pl_v (k : Nat) {e : Expr} (h : PE X e (tVar k)) : PE X e (tLit (.v k)) := PE.of h fun σ H Q q => by
  obtain ⟨v, e⟩ : ∃ v, σ[k]? = some (some v) := by
    have z := q.1
    rw [Lit.ok] at z
    exact z
  exact ⟨v, e, q.2 v H (Same.refl H) (.v e)⟩
theorem pl_nil : PA X [] (tLits []) := PA.of pa_nil fun _ H _ q => q.2 [] H (Same.refl H) .nil
theorem pl_cons {e : Expr} {es : List Expr} {x : Lit} {xs : List Lit} (h : PE X e (tLit x)) (r : PA X es (tLits xs)) (hs : starEach (e :: es) X.env = (false, eval e X.env) :: starEach es X.env := by rfl) : PA X (e :: es) (tLits (x :: xs)) :=
  PA.of (pa_cons h r hs) fun σ H Q q => by
    obtain ⟨ok, k⟩ := q
    rw [Lit.okA] at ok
    exact ⟨ok.1, fun u H1 s1 a1 => ⟨ok.2, fun us H2 s2 a2 => k (u :: us) H2 (s1.trans s2) (.cons (a1.mono (Same.refl _) s2) (a2.mono s1 (Same.refl _)))⟩⟩
theorem line1000 : 1000 ≤ sizeLine := by decide
theorem pl_tup {es : List Expr} {xs : List Lit} {x1 pos} (h : PA X es (tLits xs)) : PE X (.Tuple es x1 pos) (tLit (.t xs)) := PE.of (pe_tup h) fun σ H Q q => by
  obtain ⟨ok, k⟩ := q
  rw [Lit.ok] at ok
  refine ⟨ok.2, fun us H1 s1 a1 => ⟨?_, fun p np => k _ _ (s1.trans fun b u e => ?_) (.t (same_none s1 np) upd_same (a1.mono (Same.refl _) fun b u e => ?_))⟩⟩
  · rw [a1.len]
    exact Nat.le_trans ok.1 line1000
  · rw [upd_ne (ne_of_none e np)]
    exact e
  · rw [upd_ne (ne_of_none e np)]
    exact e
theorem pl_lst {es : List Expr} {xs : List Lit} {pos} (h : PA X es (tLits xs)) : PE X (.List es pos) (tLit (.l xs)) := PE.of (pe_lst h) fun σ H Q q => by
  obtain ⟨ok, k⟩ := q
  rw [Lit.ok] at ok
  refine ⟨ok.2, fun us H1 s1 a1 => ⟨?_, fun p np => k _ _ (s1.trans fun b u e => ?_) (.l (same_none s1 np) upd_same (a1.mono (Same.refl _) fun b u e => ?_))⟩⟩
  · rw [a1.len]
    exact Nat.le_trans ok.1 line1000
  · rw [upd_ne (ne_of_none e np)]
    exact e
  · rw [upd_ne (ne_of_none e np)]
    exact e
end
/-! ### data with a bound on its repr -/
/-- none of its lists and tuples stands at p; at most N items each, n levels, a repr of at most c signs -/
inductive Dv (H : Hp) (p : Addr) (N : Nat) : Nat → Nat → V → Prop
  | non {n c : Nat} (hc : 40 ≤ c) : Dv H p N n c .non
  | bl {n c : Nat} (b : Bool) (hc : 40 ≤ c) : Dv H p N n c (.bl b)
  | int {n c : Nat} (i : Int) (h : i.natAbs < 10 ^ 39) (g : (PyData.int i).shown.length ≤ 40) (hc : 40 ≤ c) : Dv H p N n c (.int i)
  | str {n c : Nat} (z : Str) (h : z.length ≤ 100) (g : (PyData.str z).shown.length ≤ 40) (hc : 40 ≤ c) : Dv H p N n c (.str z)
  | tup {n b c : Nat} {a : Addr} {xs : List V} (e : H a = some (.tup xs)) (ap : a ≠ p) (l : xs.length ≤ N) (h : ∀ x ∈ xs, Dv H p N n b x) (hc : 4 + xs.length * (b + 2) ≤ c) : Dv H p N (n + 1) c (.ref a)
  | lst {n b c : Nat} {a : Addr} {xs : List V} (e : H a = some (.lst xs)) (ap : a ≠ p) (l : xs.length ≤ N) (h : ∀ x ∈ xs, Dv H p N n b x) (hc : 4 + xs.length * (b + 2) ≤ c) : Dv H p N (n + 1) c (.ref a)
theorem Dv.wk {H : Hp} {p : Addr} {N M n c : Nat} {v : V} (t : Dv H p N n c v) (hN : N ≤ M) : ∀ {m d : Nat}, n ≤ m → c ≤ d → Dv H p M m d v := by
  induction t with
  | non hc => exact fun _ h => .non (Nat.le_trans hc h)
  | bl b hc => exact fun _ h => .bl b (Nat.le_trans hc h)
  | int i h g hc => exact fun _ k => .int i h g (Nat.le_trans hc k)
  | str z h g hc => exact fun _ k => .str z h g (Nat.le_trans hc k)
  | tup e ap l _ hc ih =>
    intro m d hm hd
    match m, hm with
    | m + 1, hm => exact .tup e ap (Nat.le_trans l hN) (fun x hx => ih x hx (Nat.le_of_succ_le_succ hm) (Nat.le_refl _)) (Nat.le_trans hc hd)
  | lst e ap l _ hc ih =>
    intro m d hm hd
    match m, hm with
    | m + 1, hm => exact .lst e ap (Nat.le_trans l hN) (fun x hx => ih x hx (Nat.le_of_succ_le_succ hm) (Nat.le_refl _)) (Nat.le_trans hc hd)
theorem Dv.keep {H H' : Hp} {p : Addr} {N n c : Nat} {v : V} (t : Dv H p N n c v) (s : ∀ q, q ≠ p → ∀ o, H q = some o → H' q = some o) : Dv H' p N n c v := by
  induction t with
  | non hc => exact .non hc
  | bl b hc => exact .bl b hc
  | int i h g hc => exact .int i h g hc
  | str z h g hc => exact .str z h g hc
  | tup e ap l _ hc ih => exact .tup (s _ ap _ e) ap l ih hc
  | lst e ap l _ hc ih => exact .lst (s _ ap _ e) ap l ih hc
/-- the bound of n levels of at most five items each -/
def fz : Nat → Nat
  | 0 => 40
  | n + 1 => 4 + 5 * (fz n + 2)
theorem fz_up {n m : Nat} (h : n ≤ m) : fz n ≤ fz m := by
  induction h with
  | refl => exact Nat.le_refl _
  | step _ ih => exact Nat.le_trans ih (by show _ ≤ 4 + 5 * (_ + 2); omega)
theorem fz40 : ∀ n, 40 ≤ fz n
  | 0 => Nat.le_refl _
  | n + 1 => by
    have := fz40 n
    show 40 ≤ 4 + 5 * (fz n + 2)
    omega
mutual
/-- at most n levels of at most five items, short ints and texts; g k: the levels of slot k's value -/
def Lit.fit (g : Nat → Option Nat) : Nat → Lit → Bool
  | _, .s z => decide (z.length ≤ 100) && decide ((PyData.str z).shown.length ≤ 40)
  | _, .i k => decide (k.natAbs < 10 ^ 39) && decide ((PyData.int k).shown.length ≤ 40)
  | _, .b _ => true
  | _, .n => true
  | m, .v k => match g k with
    | some j => decide (j ≤ m)
    | none => false
  | 0, .t _ => false
  | 0, .l _ => false
  | m + 1, .t xs => decide (xs.length ≤ 5) && Lit.fits g m xs
  | m + 1, .l xs => decide (xs.length ≤ 5) && Lit.fits g m xs
def Lit.fits (g : Nat → Option Nat) : Nat → List Lit → Bool
  | _, [] => true
  | m, x :: xs => Lit.fit g m x && Lit.fits g m xs
end
mutual
theorem LitAt.dv {σ : L2.St} {H0 H : Hp} {p : Addr} {o : HO} (np : H0 p = some o) {g : Nat → Option Nat} (hg : ∀ k j u, g k = some j → σ[k]? = some (some u) → Dv H p 5 j (fz j) u) : ∀ {m : Nat} {u : V} {x : Lit}, LitAt σ H0 H u x → Lit.fit g m x = true → Dv H p 5 m (fz m) u
  | m, _, _, .s z, f => by
    rw [Lit.fit, Bool.and_eq_true, decide_eq_true_eq, decide_eq_true_eq] at f
    exact .str z f.1 f.2 (fz40 m)
  | m, _, _, .i n, f => by
    rw [Lit.fit, Bool.and_eq_true, decide_eq_true_eq, decide_eq_true_eq] at f
    exact .int n f.1 f.2 (fz40 m)
  | m, _, _, .b k, _ => .bl k (fz40 m)
  | m, _, _, .n, _ => .non (fz40 m)
  | m, _, _, .v (k := k) e, f => by
    rw [Lit.fit] at f
    cases q : g k with
    | none =>
      rw [q] at f
      cases f
    | some j =>
      rw [q] at f
      have jm : j ≤ m := of_decide_eq_true f
      exact (hg k j _ q e).wk (Nat.le_refl _) jm (fz_up jm)
  | 0, _, _, .t n e h, f => by
    rw [Lit.fit] at f
    cases f
  | 0, _, _, .l n e h, f => by
    rw [Lit.fit] at f
    cases f
  | m + 1, _, _, .t (vs := vs) n e h, f => by
    rw [Lit.fit, Bool.and_eq_true, decide_eq_true_eq] at f
    have l : vs.length ≤ 5 := h.len ▸ f.1
    refine .tup e (fun z => by rw [z, np] at n; cases n) l (LitAll.dv np hg h f.2) ?_
    have := Nat.mul_le_mul_right (fz m + 2) l
    show _ ≤ 4 + 5 * (fz m + 2)
    omega
  | m + 1, _, _, .l (vs := vs) n e h, f => by
    rw [Lit.fit, Bool.and_eq_true, decide_eq_true_eq] at f
    have l : vs.length ≤ 5 := h.len ▸ f.1
    refine .lst e (fun z => by rw [z, np] at n; cases n) l (LitAll.dv np hg h f.2) ?_
    have := Nat.mul_le_mul_right (fz m + 2) l
    show _ ≤ 4 + 5 * (fz m + 2)
    omega
theorem LitAll.dv {σ : L2.St} {H0 H : Hp} {p : Addr} {o : HO} (np : H0 p = some o) {g : Nat → Option Nat} (hg : ∀ k j u, g k = some j → σ[k]? = some (some u) → Dv H p 5 j (fz j) u) : ∀ {m : Nat} {vs : List V} {xs : List Lit}, LitAll σ H0 H vs xs → Lit.fits g m xs = true → ∀ u ∈ vs, Dv H p 5 m (fz m) u
  | _, _, _, .nil, _ => fun u hu => by cases hu
  | m, _, _, .cons h r, f => by
    rw [Lit.fits, Bool.and_eq_true] at f
    intro u hu
    rcases List.mem_cons.mp hu with rfl | hu
    · exact LitAt.dv np hg h f.1
    · exact LitAll.dv np hg r f.2 u hu
end
theorem textFrom_up : ∀ (ts : List Str) (k : Nat) (acc : Str), (textFrom k acc ts).length ≤ acc.length + piled ts
  | [], _, acc => Nat.le_add_right _ _
  | t :: ts, k, acc => by
    have h := textFrom_up ts (k + 1) (acc ++ (if k > 0 then ", " else "" : String) ++ t)
    have e : (acc ++ (if k > 0 then ", " else "" : String) ++ t).length ≤ acc.length + 2 + t.length := by
      rw [Str.length_append, Str.length_append]
      split
      · exact Nat.le_refl _
      · exact Nat.add_le_add_right (Nat.add_le_add_left (Nat.zero_le _) _) _
    rw [piled_cons]
    show (textFrom (k + 1) _ ts).length ≤ _
    omega
theorem listText_up (ts : List Str) : (listText ts).length ≤ 2 + piled ts := by
  have h := textFrom_up ts 0 "["
  unfold listText
  rw [Str.length_append]
  have e1 : (("[" : String) : Str).length = 1 := rfl
  have e2 : (("]" : String) : Str).length = 1 := rfl
  omega
theorem tupleText_up (ts : List Str) : (tupleText ts).length ≤ 3 + piled ts := by
  unfold tupleText
  rw [Str.length_append, Str.length_append]
  have e1 : (("(" : String) : Str).length = 1 := rfl
  have e2 : ((if ts.length == 1 then ",)" else ")" : String) : Str).length ≤ 2 := by
    split
    · exact Nat.le_refl _
    · exact Nat.le_succ _
  cases ts with
  | nil =>
    have e3 : (Str.join ", " ([] : List Str)).length = 0 := rfl
    omega
  | cons t r =>
    have := join_length_add (t :: r) (by simp)
    omega
/-- what is told of data -/
structure Told (d : PyData) (n c : Nat) : Prop where
  sh : d.showable = true
  nd : d.hasDict = false
  dp : d.depth ≤ n
  le : d.shown.length ≤ c
theorem Dv.data {K : PySem.W.Frag} {H : Hp} {p : Addr} {N n c : Nat} {v : V} (t : Dv H p N n c v) : ∃ d, Dp K H v d ∧ Told d n c := by
  induction t with
  | non hc => exact ⟨_, .non, by simp [PyData.showable], by simp [PyData.hasDict], by simp [PyData.depth], Nat.le_trans (by decide +kernel) hc⟩
  | bl b hc => exact ⟨_, .bl b, by simp [PyData.showable], by simp [PyData.hasDict], by simp [PyData.depth], Nat.le_trans (by cases b <;> decide +kernel) hc⟩
  | int i h g hc =>
    refine ⟨_, .int i, ?_, by simp [PyData.hasDict], by simp [PyData.depth], Nat.le_trans g hc⟩
    have z : i.natAbs < 2 ^ 130 := Nat.lt_trans h (by decide)
    have z2 : i.natAbs.log2 < 130 := by
      by_cases e : i.natAbs = 0
      · rw [e]
        decide
      · exact (Nat.log2_lt e).mpr z
    rw [PyData.showable]
    exact decide_eq_true (by omega)
  | str z h g hc => exact ⟨_, .str z, by simp [PyData.showable], by simp [PyData.hasDict], by simp [PyData.depth], Nat.le_trans g hc⟩
  | @tup n b c a xs e ap l h hc ih =>
    have all : ∀ ys : List V, (∀ y ∈ ys, y ∈ xs) → ∃ ds, DpAll K H ys ds ∧ PyData.showableAll ds = true ∧ PyData.hasDictAll ds = false ∧ PyData.depthAll ds ≤ n ∧ piled (PyData.shownAll ds) ≤ ys.length * (b + 2) := by
      intro ys
      induction ys with
      | nil => exact fun _ => ⟨[], .nil, by simp [PyData.showableAll], by simp [PyData.hasDictAll], by simp [PyData.depthAll], by simp [PyData.shownAll, piled]⟩
      | cons y ys ihy =>
        intro hy
        obtain ⟨d, h1, h2⟩ := ih y (hy y (List.mem_cons_self ..))
        obtain ⟨ds, g1, g2, g3, g4, g5⟩ := ihy fun z hz => hy z (List.mem_cons_of_mem _ hz)
        refine ⟨d :: ds, .cons h1 g1, by simp [PyData.showableAll, h2.sh, g2], by simp [PyData.hasDictAll, h2.nd, g3], ?_, ?_⟩
        · rw [PyData.depthAll]
          exact Nat.max_le.mpr ⟨h2.dp, g4⟩
        · rw [PyData.shownAll, piled_cons, List.length_cons, Nat.succ_mul]
          have := h2.le
          omega
    obtain ⟨ds, g1, g2, g3, g4, g5⟩ := all xs fun _ h => h
    refine ⟨.tuple ds, .tup (SqT.of e) g1, by simpa [PyData.showable] using g2, by simpa [PyData.hasDict] using g3, ?_, ?_⟩
    · rw [PyData.depth]
      omega
    · rw [PyData.shown]
      have := tupleText_up (PyData.shownAll ds)
      omega
  | @lst n b c a xs e ap l h hc ih =>
    have all : ∀ ys : List V, (∀ y ∈ ys, y ∈ xs) → ∃ ds, DpAll K H ys ds ∧ PyData.showableAll ds = true ∧ PyData.hasDictAll ds = false ∧ PyData.depthAll ds ≤ n ∧ piled (PyData.shownAll ds) ≤ ys.length * (b + 2) := by
      intro ys
      induction ys with
      | nil => exact fun _ => ⟨[], .nil, by simp [PyData.showableAll], by simp [PyData.hasDictAll], by simp [PyData.depthAll], by simp [PyData.shownAll, piled]⟩
      | cons y ys ihy =>
        intro hy
        obtain ⟨d, h1, h2⟩ := ih y (hy y (List.mem_cons_self ..))
        obtain ⟨ds, g1, g2, g3, g4, g5⟩ := ihy fun z hz => hy z (List.mem_cons_of_mem _ hz)
        refine ⟨d :: ds, .cons h1 g1, by simp [PyData.showableAll, h2.sh, g2], by simp [PyData.hasDictAll, h2.nd, g3], ?_, ?_⟩
        · rw [PyData.depthAll]
          exact Nat.max_le.mpr ⟨h2.dp, g4⟩
        · rw [PyData.shownAll, piled_cons, List.length_cons, Nat.succ_mul]
          have := h2.le
          omega
    obtain ⟨ds, g1, g2, g3, g4, g5⟩ := all xs fun _ h => h
    refine ⟨.list ds, .lst (SqL.of e) g1, by simpa [PyData.showable] using g2, by simpa [PyData.hasDict] using g3, ?_, ?_⟩
    · rw [PyData.depth]
      omega
    · rw [PyData.shown]
      have := listText_up (PyData.shownAll ds)
      omega
theorem sameT {K : PySem.W.Frag} {H H' : Hp} {a : Addr} {xs : List V} (s : Same H H') (h : SqT K H a xs) : SqT K H' a xs := by
  rcases h with h | h
  · rcases h with h | ⟨o, h⟩
    · exact .inl (.inl (s _ _ h))
    · exact .inl (.inr ⟨o, s _ _ h⟩)
  · exact .inr h
mutual
theorem Dp.on {K : PySem.W.Frag} {H H' : Hp} (s : Same H H') : ∀ {v : V} {d : PyData}, Dp K H v d → Dp K H' v d
  | _, _, .non => .non
  | _, _, .bl b => .bl b
  | _, _, .int i => .int i
  | _, _, .str x => .str x
  | _, _, .lst h r => .lst (Same.seq s h) (DpAll.on s r)
  | _, _, .tup h r => .tup (sameT s h) (DpAll.on s r)
theorem DpAll.on {K : PySem.W.Frag} {H H' : Hp} (s : Same H H') : ∀ {vs : List V} {ds : List PyData}, DpAll K H vs ds → DpAll K H' vs ds
  | _, _, .nil => .nil
  | _, _, .cons h r => .cons (Dp.on s h) (DpAll.on s r)
end
end L2.My
/-! a statement's rest by what holds behind it; a choice of two numbers -/
namespace L2
theorem seq_asg {te : TE} {g : TG} {u : TS} {D : Ends} {σ : L2.St} {H : Hp} (R : V → Hp → Prop) (k : ∀ Q : VK, (∀ v H', R v H' → Q v H') → te σ H Q) (h : ∀ v H', R v H' → g v σ H' (u D)) : tSeq (tAsg te g) u D σ H := k _ h
theorem seq_if {c : TT} {a b u : TS} {D : Ends} {σ : L2.St} {H : Hp} (R : L2.St → Hp → Prop) (k : ∀ D' : Ends, D'.rt = D.rt → (∀ σ' H', R σ' H' → D'.nx σ' H') → tIfS c a b D' σ H) (h : ∀ σ' H', R σ' H' → u D σ' H') : tSeq (tIfS c a b) u D σ H := k { D with nx := u D } rfl h
theorem tIf_int {tt : TT} {ta tb : TE} {σ : L2.St} {H : Hp} {Q : VK} {x y : Int} {c : Prop} [Decidable c] (ht : ∀ R : Bool → Hp → Prop, R (decide c) H → tt σ H R) (ha : ∀ Q : VK, Q (.int x) H → ta σ H Q) (hb : ∀ Q : VK, Q (.int y) H → tb σ H Q) (k : Q (.int (if c then x else y)) H) : tIf tt ta tb σ H Q := by
  refine ht _ ?_
  by_cases h : c
  · rw [if_pos h] at k
    rw [decide_eq_true h]
    exact iteT (ha _ k)
  · rw [if_neg h] at k
    rw [decide_eq_false h]
    exact iteF (hb _ k)
end L2
/-! tuple(d), list(d.values()), dict(d), == and != of dicts with data in them; a dict comprehension over any walk -/
namespace L2.My
open PySem PySem.Spec PyProof.Rows L2
section
variable {P : Program} {w : World} {A : Around} {E : Value → Shared → Prop} {s : Shared} {d : Addr} {vs : List (Key × Value)} {ep : Nat}
/-- the keys of a dict, gathered -/
theorem collect_keys {Q : List Value → Shared → Prop} (calm : A.handled = none) (lo : (d == sysModules) = false) (at_ : s.heap.DictAt (mixKind P w) d vs ep) (small : vs.length ≤ sizeLine)
    (done : ∀ (h' : Heap) (tk : Nat) (out : Array Value), (∀ b o, s.heap.get? b = some o → h'.get? b = some o) → ItemsOf (fun i v => ∃ k x, vs[i]? = some (k, x) ∧ (mixKind P w).is k v = true) out vs.length → Q out.toList { s with heap := h', toks := tk }) :
    wpAny (model P w) A (collect (.ref d)) Q E s := by
  unfold collect
  refine wpAny_bind (wpAny_runValue (codeAny_builtin F.entry_proto_collect ?_))
  rw [Around.under_plainId F.plain_proto_collect _]
  show wpAny _ A.in1 (newList [] >>= fun l => again (.builtin "list.__iadd__" ⟨[l, .ref d], []⟩)) _ _ s
  apply wpAny_bind
  refine wpAny_newObj_type ?_
  refine wpAny_pure ⟨plainId_quiet F.plain_list_iadd _, codeAny_builtin F.entry_list_iadd ?_⟩
  rw [Around.under_plainId F.plain_list_iadd _]
  show wpAny _ A.in1 (Builtin.List.listExtendWith (.ref s.heap.objs.size) (.ref d) (.ref s.heap.objs.size)) _ _ _
  have new : (s.heap.push { cls := .type "list", data := .seq ([] : List Value).toArray }).get? s.heap.objs.size = some { cls := .type "list", data := .seq #[] 0 } := Heap.get?_push_size _ rfl
  have dl := at_.lt_size
  have apart : s.heap.objs.size ≠ d := Nat.ne_of_gt dl
  have dict1 : (s.heap.push { cls := .type "list", data := .seq ([] : List Value).toArray }).DictAt (mixKind P w) d vs ep := at_.push _
  refine wpAny_mono (PySem.W.kdl_extend (A := A) (R := fun r s2 => r = .ok (.ret (.ref s.heap.objs.size)) ∧ ∃ (h' : Heap) (tk : Nat) (out : Array Value) (c : Nat), s2 = { s with heap := h', toks := tk } ∧
      (∀ b o, s.heap.get? b = some o → h'.get? b = some o) ∧ h'.get? s.heap.objs.size = some { cls := .type "list", dict := none, data := .seq out c, slots := #[] } ∧ ItemsOf (fun i v => ∃ k x, vs[i]? = some (k, x) ∧ (mixKind P w).is k v = true) out vs.length)
    (s := { s with heap := s.heap.push { cls := .type "list", data := .seq ([] : List Value).toArray } }) (PySem.W.kdl_dict (knd := mixKind P w) (kvs := vs) (ep := ep) lo) calm dict1 s.heap.objs.size apart apart _ 0 new
    (fun h' tk out c kp e it => ⟨rfl, h', tk, out, c, rfl, fun b o q => kp b o (Nat.ne_of_lt (Heap.lt_size q)) (Heap.get?_push_of_some _ q), e, it⟩) small) (fun fin s2 h => ?_) (fun e s2 h => ?_)
  · cases fin with
    | done f =>
      obtain ⟨e, h', tk, out, c, rfl, kp, e2, it⟩ := h
      cases e
      show wpAny _ A (load s.heap.objs.size >>= _) _ _ _
      exact wpAny_bind (wpAny_load e2 (wpAny_pure (done h' tk out kp it)))
    | again c2 =>
      refine ⟨h.1, codeAny_mono h.2 fun r s3 hr => ?_⟩
      obtain ⟨rfl, h', tk, out, c, rfl, kp, e2, it⟩ := hr
      show wpAny _ A (load s.heap.objs.size >>= _) _ _ _
      exact wpAny_bind (wpAny_load e2 (wpAny_pure (done h' tk out kp it)))
  · exact absurd h.1 (by simp)
theorem tuple_new_keys {Q : Value → Shared → Prop} (calm : A.handled = none) (lo : (d == sysModules) = false) (at_ : s.heap.DictAt (mixKind P w) d vs ep) (small : vs.length ≤ sizeLine)
    (done : ∀ (h' : Heap) (tk : Nat) (out : Array Value), (∀ b o, s.heap.get? b = some o → h'.get? b = some o) → ItemsOf (fun i v => ∃ k x, vs[i]? = some (k, x) ∧ (mixKind P w).is k v = true) out vs.length →
      Q (.ref h'.objs.size) { s with heap := h'.push { cls := .type "tuple", data := .seq out }, toks := tk }) :
    codeAny (model P w) A (.call (.builtin "tuple.__new__") ⟨[.type "tuple", .ref d], []⟩) (wants Q E) s := by
  refine codeAny_of_tree ?_
  show wpAny _ A.in1 (do checkBuiltinCall "tuple.__new__" ⟨[.type "tuple", .ref d], []⟩; again (.builtin "tuple.__new__" ⟨[.type "tuple", .ref d], []⟩)) _ _ s
  refine wpAny_bind (wpAny_of_eq (F.newCall_tuple_1 _) (wpAny_pure ⟨plainId_quiet F.plain_tuple_new _, codeAny_builtin F.entry_tuple_new ?_⟩))
  rw [Around.under_plainId F.plain_tuple_new _]
  have z1 := sub_tuple_self
  have z2 := init_tuple_lookup
  have z3 := madeHere_tuple
  have ty : s.TypeIs (.ref d) "dict" := at_.dictOf.typeIs
  have calm1 : A.in1.handled = none := calm
  wp_walk using wpAny_typeOf ty, collect_keys (A := A.in1) calm1 lo at_ small
  intro h' tk out kp it
  show wpAny _ _ (Builtin.Tuple.tupleExact out.toList.toArray >>= fun v => ret v) _ _ _
  unfold Builtin.Tuple.tupleExact
  refine wpAny_bind (wpAny_newObj_type ?_ (by show out.toList.toArray.size ≤ sizeLine; simp only [Array.toArray_toList]; rw [it.1]; exact small))
  refine wpAny_pure ?_
  rw [show out.toList.toArray = out by simp]
  exact done h' tk out kp it
end
section
variable {X : Cx}
theorem keys_vals {kvs : List (Key × V)} {vs : List (Key × Value)} {out : Array Value} {P : Program} {w : World} (rk : KV kvs vs) (it : ItemsOf (fun i v => ∃ k x, vs[i]? = some (k, x) ∧ (mixKind P w).is k v = true) out vs.length) : Vals (kvs.map fun kv => kV kv.1) out.toList := by
  have el : out.toList.length = kvs.length := by rw [Array.length_toList, it.1, rk.length]
  refine vals_of_at (by rw [List.length_map, el]) fun j x v h1 h2 => ?_
  obtain ⟨k, y, hky, is_k⟩ := it.2 j v (by rw [← Array.getElem?_toList]; exact h2)
  have e1 : (kvs.map (·.1))[j]? = some k := by
    rw [KV.keys rk, List.getElem?_map, hky]
    rfl
  rw [List.getElem?_map] at h1 e1
  cases hj : kvs[j]? with
  | none =>
    rw [hj] at h1
    cases h1
  | some kv =>
    rw [hj] at h1 e1
    cases h1
    cases e1
    exact keyIs_rel is_k
def rTupD : List V → Hp → VK → Prop := fun xs H Q => ∃ p kvs, xs = [.ref p] ∧ H p = some (.dK kvs) ∧ ∀ q, H q = none → Q (.ref q) (upd H q (.tup (kvs.map fun kv => kV kv.1)))
/-- tuple(d) -/
theorem call_tupD (hc : X.calm = true) : CallR X (.type "tuple") rTupD := by
  intro pins s σ H xs us Q I r h
  obtain ⟨p, kvs, rfl, hk, q⟩ := h
  rw [Vals.ref1 r]
  obtain ⟨z, lo, vs, rk, hd⟩ := (show ObjOk X.prog X.w H s.heap p (.dK kvs) from I.hok p _ hk)
  obtain ⟨ep, at_⟩ := hd.dictAt
  refine callType_codes (Q₁ := fun obj s1 => s1.TypeIs obj "tuple" ∧ EP X pins σ Q obj s1) F.called_tuple (F.typeCall_tuple_1 _) F.entry_object_init
    (tuple_new_keys (A := X.A.in1) (I.ok.hd hc) lo at_ (by rw [← rk.length]; exact z) fun h' tk out kp it => ⟨⟨_, Heap.get?_push_size _ rfl, rfl⟩, ?_⟩) fun obj s1 h1 => ?_
  · have I1 : Inv X pins σ H { s with heap := h', toks := tk } := I.kept (t' := tk) kp
    have I2 : Inv X pins σ (upd H h'.objs.size (.tup (kvs.map fun kv => kV kv.1))) { s with heap := h'.push { cls := .type "tuple", data := .seq out }, toks := tk } :=
      I1.laid (t' := tk) (fun b o e => Heap.get?_push_of_some _ e) (Nat.le_refl _) (show ObjOk X.prog X.w _ _ _ (.tup (kvs.map fun kv => kV kv.1)) from ⟨by rw [List.length_map]; exact z, out.toList, keys_vals rk it, by rw [Array.toArray_toList]; exact IsTup.new _ _⟩)
    exact ⟨.ref h'.objs.size, _, I2, rfl, q _ (I1.hok.fresh (Nat.le_refl _))⟩
  · exact ⟨h1.1, F.args_object_init_2 obj _, object_init_meets F.called_tuple.init.lookup F.called_tuple.made (by decide) X.prog X.w X.A.in1 _ s1 ⟨h1.1, rfl, h1.2⟩⟩
def rDictD : List V → Hp → VK → Prop := fun xs H Q => ∃ p kvs, xs = [.ref p] ∧ H p = some (.dK kvs) ∧ ∀ q, H q = none → Q (.ref q) (upd H q (.dK kvs))
/-- dict(d) -/
theorem call_dictD (hc : X.calm = true) : CallR X (.type "dict") rDictD := by
  intro pins s σ H xs us Q I r h
  obtain ⟨p, kvs, rfl, hk, q⟩ := h
  rw [Vals.ref1 r]
  obtain ⟨z, lo, vs, rk, hd⟩ := (show ObjOk X.prog X.w H s.heap p (.dK kvs) from I.hok p _ hk)
  refine kt_call_dict (knd := mixKind X.prog X.w) lo hd (by rw [← rk.length]; exact z) fun h' dd sb => ?_
  have kp : ∀ b o, s.heap.get? b = some o → h'.get? b = some o := fun b o e => by
    rw [sb.2 b (Nat.ne_of_lt (Heap.lt_size e))]
    exact Heap.get?_push_of_some _ e
  have big := I.big
  exact ⟨.ref s.heap.objs.size, upd H s.heap.objs.size (.dK kvs), I.laid (t' := s.toks) kp (Nat.le_refl _) (dk_new z (beq_eq_false_iff_ne.mpr (Ne.symm (Nat.ne_of_lt big))) rk dd), rfl, q _ (I.hok.fresh (Nat.le_refl _))⟩
/-! ### list(d.values()) -/
def tListVals (te : TE) : TE := fun σ H Q => te σ H fun x H1 => ∃ (d : Addr) (kvs : List (Key × V)), x = .ref d ∧ H1 d = some (.dK kvs) ∧ ∀ p, H1 p = none → Q (.ref p) (upd H1 p (.lst (kvs.map Prod.snd)))
theorem vals_snd : ∀ {kvs : List (Key × V)} {vs : List (Key × Value)}, KV kvs vs → Vals (kvs.map Prod.snd) (vs.map Prod.snd)
  | _, _, .nil => .nil
  | _, _, .cons h t => .cons h.2 (vals_snd t)
variable {e : Expr} {te : TE} {p apos cpos pos : Pos}
theorem pe_listVals (hc : X.calm = true) (he : PE X e te) (hg : Gl X "list") (hm : X.mg "list" = none) (hv : bootBuiltins "list" = some (.type "list")) (hbase : attributeBase e "values" X.env (eval e X.env) = eval e X.env := by rfl) (hline : (apos.endLine == cpos.line) = true := by rfl)
    (hs : starEach [.Call (.Attribute e "values" apos) [] [] cpos] X.env = (false, eval (.Call (.Attribute e "values" apos) [] [] cpos) X.env) :: starEach [] X.env := by rfl) :
    PE X (.Call (.Name "list" p) [.Call (.Attribute e "values" apos) [] [] cpos] [] pos) (tListVals te) := by
  refine ⟨fun pins s σ H Q I hq => ?_⟩
  refine wpAny_Call_Name_kw (ld_blt I hg hm hv ?_)
  refine PyProof.Rows.callWith_type1 ?_ hs rfl
  rw [hs]
  show wpAny _ _ (spliced ((false, eval (.Call (.Attribute e "values" apos) [] [] cpos) X.env) :: backTo pos (starEach [] X.env))) _ _ s
  refine Calls.spliced_cons ?_
  refine wpAny_Call_method (T := "dict") (id := "dict.values") hbase rfl hline F.plainAttrs_dict F.slot_dict_values F.type_dict_values (thn (he.run pins s σ H _ I hq) fun u s1 ⟨x, H1, I1, rx, d, kvs, ex, hd, q⟩ => ?_)
  subst ex
  obtain rfl : u = Value.ref d := rx
  obtain ⟨hz, lo, vs, kv, hdo⟩ := I1.hok d _ hd
  obtain ⟨ep, at_⟩ := hdo.dictAt
  have len : kvs.length = vs.length := Paired.length kv
  refine ⟨hdo.typeIs, hdo.mapOf.noDict, ?_⟩
  show wpAny _ _ (callWith cpos (.builtin "dict.values") [.ref d] [] []) _ X.xe s1
  refine method_meetsIn F.slot_dict_values F.entry_dict_values rfl (PySem.evalArgs_none ⟨rfl, hdo.typeIs, F.args_dict_values_1 _, _, meets_dict_values (mixKind X.prog X.w) d lo, ⟨vs, hdo⟩, ?_⟩)
  refine Calls.spliced_nil ?_
  have I2 : Inv X pins σ H1 { s1 with heap := s1.heap.push { cls := .type "dict_values", data := .fields #[.ref d] } } := I1.kept (t' := s1.toks) fun b o z => Heap.get?_push_of_some _ z
  refine PySem.W.kdl_call (PySem.W.kdl_values (knd := mixKind X.prog X.w) (kvs := vs) (ep := ep)) (I1.ok.hd hc) ⟨⟨_, Heap.get?_push_size _ rfl, rfl, rfl⟩, at_.push _⟩ (by rw [← len]; exact hz) fun h' tk acc c kp hS it => ?_
  have all : acc.toList = vs.map Prod.snd := PySem.W.kdl_vals_eq acc.toList (by rw [Array.length_toList, it.1]) fun j v hj => it.2 j v (by rw [← Array.getElem?_toList]; exact hj)
  refine ⟨.ref _, upd H1 _ (.lst (kvs.map Prod.snd)), I2.laid (t' := tk) kp (Nat.le_refl _) ⟨by rw [List.length_map]; exact hz, acc.toList, c, by rw [all]; exact vals_snd kv, by rw [Array.toArray_toList]; exact hS⟩, rfl, q _ (I2.hok.fresh (Nat.le_refl _))⟩
end
/-! ### == -/
/-- what the values of a dict tell -/
def DpK (K : PySem.W.Frag) (H : Hp) : List (Key × V) → List (Key × PyData) → Prop := Paired fun p q => p.1 = q.1 ∧ Dp K H p.2 q.2
def dAt (ds : List (Key × PyData)) (k : Key) : Option PyData := (ds.find? fun p => decide (p.1 = k)).map Prod.snd
def hitsD (es : List (Key × PyData)) : List (Key × PyData) → Bool
  | [] => true
  | p :: r => match dAt es p.1 with
    | none => false
    | some d => PyData.eqv p.2 d && hitsD es r
section
variable {X : Cx}
theorem dAt_val {K : PySem.W.Frag} {H : Hp} (k : Key) : ∀ {ls : List (Key × V)} {ds : List (Key × PyData)} {vs : List (Key × Value)}, DpK K H ls ds → KV ls vs →
    (dAt ds k = none ∧ valueAt vs k = none) ∨ ∃ d x u, dAt ds k = some d ∧ valueAt vs k = some u ∧ Dp K H x d ∧ RelV x u ∧ (k, d) ∈ ds
  | _, _, _, .nil, .nil => .inl ⟨rfl, rfl⟩
  | _, _, _, .cons (l₂ := r) (b := q) (a := p) ⟨e1, h1⟩ t1, .cons (b := z) ⟨e2, h2⟩ t2 => by
    by_cases c : p.1 = k
    · have c1 : q.1 = k := e1.symm.trans c
      have c2 : z.1 = k := e2.symm.trans c
      refine .inr ⟨q.2, p.2, z.2, ?_, ?_, h1, h2, ?_⟩
      · unfold dAt
        rw [List.find?_cons_of_pos (by simpa using c1)]
        rfl
      · unfold valueAt
        rw [List.find?_cons_of_pos (by simpa using c2)]
        rfl
      · rw [← c1]
        exact List.mem_cons_self ..
    · have c1 : ¬ q.1 = k := fun z => c (e1.trans z)
      have c2 : ¬ z.1 = k := fun y => c (e2.trans y)
      have n1 : dAt (q :: r) k = dAt r k := by
        unfold dAt
        rw [List.find?_cons_of_neg (by simpa using c1)]
      rw [n1]
      unfold valueAt
      rw [List.find?_cons_of_neg (by simpa using c2)]
      rcases dAt_val k t1 t2 with h | ⟨d, x, u, a1, a2, a3, a4, a5⟩
      · exact .inl h
      · exact .inr ⟨d, x, u, a1, a2, a3, a4, List.mem_cons_of_mem _ a5⟩
theorem hits_of {pins : List (Addr × Obj)} {σ : L2.St} {H : Hp} {s : Shared} {A : Around} (I : Inv X pins σ H s) (hu : A.in1.units + 64 < cLine) {ls : List (Key × V)} {es : List (Key × PyData)} {us : List (Key × Value)} (de : DpK X.K H ls es) (ru : KV ls us) (se : ∀ p ∈ es, SeqAt.shaped p.2 = true) :
    ∀ {ks : List (Key × V)} {ds : List (Key × PyData)} {vs : List (Key × Value)}, DpK X.K H ks ds → KV ks vs → (∀ p ∈ ds, SeqAt.shaped p.2 = true) → PySem.W.KeqHits A.in1 s us vs (hitsD es ds)
  | _, _, _, .nil, .nil, _ => .nil
  | _, _, _, .cons (l₂ := r) (b := q) (a := p) ⟨e1, h1⟩ t1, .cons (b := z) ⟨e2, h2⟩ t2, sh => by
    have zk : z = (q.1, z.2) := by rw [← e1, e2]
    rw [zk]
    unfold hitsD
    rcases dAt_val q.1 de ru with ⟨n1, n2⟩ | ⟨d, x, u, a1, a2, a3, a4, a5⟩
    · rw [n1]
      exact .miss n2
    · rw [a1]
      dsimp only
      obtain ⟨as, ra⟩ := Dp.reads I _ _ _ h1 h2
      obtain ⟨bs, rb⟩ := Dp.reads I _ _ _ a3 a4
      exact .hit a2 (PySem.W.keq_at ra rb (sh _ (List.mem_cons_self ..)) (se _ a5) hu) (hits_of I hu de ru se t1 t2 fun p hp => sh p (List.mem_cons_of_mem _ hp))
def eqvD (ds es : List (Key × PyData)) : Bool := ds.length == es.length && hitsD es ds
def rEqDD (K : PySem.W.Frag) (g : Bool → Bool) : R2 := fun x y H Q => ∃ a b ks ls ds es, x = .ref a ∧ y = .ref b ∧ H a = some (.dK ks) ∧ H b = some (.dK ls) ∧ DpK K H ks ds ∧ DpK K H ls es ∧ (∀ p ∈ ds, SeqAt.shaped p.2 = true) ∧ (∀ p ∈ es, SeqAt.shaped p.2 = true) ∧ Q (.bl (g (eqvD ds es))) H
theorem op_eqDD (hu : X.A.units + 65 < cLine) : OpR X (compareOp .Eq) (rEqDD X.K id) := by
  intro pins s σ H x y v u Q I rx ry h
  obtain ⟨a, b, ks, ls, ds, es, rfl, rfl, ea, eb, da, db, sa, sb, q⟩ := h
  obtain rfl : v = Value.ref a := rx
  obtain rfl : u = Value.ref b := ry
  obtain ⟨_, ya, va, ra, oa⟩ := (show ObjOk X.prog X.w H s.heap a (.dK ks) from I.hok a _ ea)
  obtain ⟨_, yb, vb, rb, ob⟩ := (show ObjOk X.prog X.w H s.heap b (.dK ls) from I.hok b _ eb)
  have l1 : va.length = ds.length := ra.length.symm.trans (Paired.length da)
  have l2 : vb.length = es.length := rb.length.symm.trans (Paired.length db)
  have hu2 : X.A.in1.units + 64 < cLine := by
    have z : X.A.in1.units ≤ X.A.units + 1 := by simp [Around.in1]
    omega
  refine PySem.W.keq_eq (knd := mixKind X.prog X.w) (r := hitsD es ds) ya yb oa ob (by omega) (fun _ => hits_of I hu2 db rb sb da ra sa) ?_
  rw [l1, l2]
  exact ⟨.bl (eqvD ds es), H, I, rfl, q⟩
theorem op_neDD (hu : X.A.units + 65 < cLine) : OpR X (compareOp .NotEq) (rEqDD X.K (fun b => !b)) := by
  intro pins s σ H x y v u Q I rx ry h
  obtain ⟨a, b, ks, ls, ds, es, rfl, rfl, ea, eb, da, db, sa, sb, q⟩ := h
  obtain rfl : v = Value.ref a := rx
  obtain rfl : u = Value.ref b := ry
  obtain ⟨_, ya, va, ra, oa⟩ := (show ObjOk X.prog X.w H s.heap a (.dK ks) from I.hok a _ ea)
  obtain ⟨_, yb, vb, rb, ob⟩ := (show ObjOk X.prog X.w H s.heap b (.dK ls) from I.hok b _ eb)
  have l1 : va.length = ds.length := ra.length.symm.trans (Paired.length da)
  have l2 : vb.length = es.length := rb.length.symm.trans (Paired.length db)
  have hu2 : X.A.in1.units + 64 < cLine := by
    have z : X.A.in1.units ≤ X.A.units + 1 := by simp [Around.in1]
    omega
  refine PySem.W.keq_ne (knd := mixKind X.prog X.w) (r := hitsD es ds) ya yb oa ob (by omega) (fun _ => hits_of I hu2 db rb sb da ra sa) ?_
  rw [l1, l2]
  exact ⟨.bl (!eqvD ds es), H, I, rfl, q⟩
end
/-! ### a dict comprehension over any walk -/
section
variable {J : It} {n : Nat} {G : Hp → Prop} {Y : Nat → Hp → V → Hp → Prop}
theorem dc_it (w : Walk J n G Y) {g : TG} {tt : L2.TT} {tk tv : TE} {vs : List Nat} {σ : L2.St} {H1 : Hp} {D : Addr} {Qd : Hp → Prop} (Pv : Nat → Hp → Prop) (h0 : Pv 0 (upd H1 D (.dK []))) (hG : ∀ i H, i ≤ n → Pv i H → G H)
    (hs : ∀ i x H H', i < n → Pv i H → Y i H x H' → g x (wipe σ vs) H' fun σ2 H2 => wipe σ2 vs = wipe σ vs ∧ tt σ2 H2 fun b H3 =>
      if b = true then tk σ2 H3 fun y H4 => tv σ2 H4 fun z H5 => ∃ kvs k, y = kV k ∧ H5 D = some (.dK kvs) ∧ kvs.length < sizeLine ∧ Pv (i + 1) (upd H5 D (.dK (putK kvs k z))) else Pv (i + 1) H3) (hd : ∀ H, Pv n H → Qd H) :
    ∃ W : Nat → Nat → Hp → Prop, (∃ m, W 0 m (upd H1 D (.dK []))) ∧ ∀ i m H, W i m H →
      (J.stop i H ∧ Qd H) ∨ (J.go i H ∧ ∃ Nx : Hp → Prop, (∀ H', Nx H' → ∃ m', m' < m ∧ W (i + 1) m' H') ∧ ∀ x H', J.yld i H x H' → g x (wipe σ vs) H' fun σ2 H2 => wipe σ2 vs = wipe σ vs ∧ tt σ2 H2 fun b H3 =>
        if b = true then tk σ2 H3 fun y H4 => tv σ2 H4 fun z H5 => ∃ kvs k, y = kV k ∧ H5 D = some (.dK kvs) ∧ kvs.length < sizeLine ∧ Nx (upd H5 D (.dK (putK kvs k z))) else Nx H3) := by
  refine ⟨fun i m H => i ≤ n ∧ m = n - i ∧ Pv i H, ⟨n, Nat.zero_le _, (Nat.sub_zero n).symm, h0⟩, ?_⟩
  rintro i m H ⟨il, rfl, pv⟩
  have hg := hG i H il pv
  rcases Nat.lt_or_ge i n with lt | ge
  · exact .inr ⟨w.goes i H lt hg, Pv (i + 1), fun H' z => ⟨n - (i + 1), by omega, lt, rfl, z⟩, fun x H' y => hs i x H H' lt pv (w.yields i H x H' lt hg y)⟩
  · obtain rfl : i = n := Nat.le_antisymm il ge
    exact .inl ⟨w.stops H hg, hd H pv⟩
end
end L2.My
/-! what texts of several laws share: heaps that grow, numbers by powers of two, lists and dicts under way, defs, methods and properties as their callers see them -/
namespace L2
theorem Room.one_up {k : Nat} {A : PySem.Around} (r : Room k A) : A.units + 1 < PySem.cLine := by have := r.un; omega
theorem Room.u65 {k : Nat} {A : PySem.Around} (r : Room k A) : A.units + 65 < PySem.cLine := by have := r.un; omega
end L2
namespace L2.My
open PySem PySem.Spec PyProof.Rows L2
theorem iteTe {c : Bool} {A B : Prop} (h : c = true) (a : A) : if c = true then A else B := by
  rw [if_pos h]
  exact a
theorem iteFe {c : Bool} {A B : Prop} (h : c = false) (b : B) : if c = true then A else B := by
  rw [h]
  exact iteF b
/-! ### heaps -/
theorem grow {H : Hp} {p : Addr} {o : HO} (hp : H p = none) : Same H (upd H p o) := fun b u e => by rw [upd_ne (ne_of_none e hp)]; exact e
theorem mk_at {H : Hp} {p : Addr} {o : HO} (n : H p = none) : ∃ H', upd H p o = H' ∧ Same H H' ∧ H' p = some o := ⟨_, rfl, grow n, upd_same⟩
theorem unlock_same {H H' : Hp} {D : Addr} {u v : HO} (e : H D = some u) (s : Same (upd H D v) H') : Same H (upd H' D u) := fun b o h => by
  by_cases c : b = D
  · subst c
    rw [e] at h
    cases h
    exact upd_same
  · rw [upd_ne c]
    exact s b o (by rw [upd_ne c]; exact h)
/-- what is true of a heap is true of the one where an object is locked, if it speaks of tuples alone -/
theorem lock_tup {H : Hp} {D t : Addr} {u : HO} {xs : List V} {o : Obj} (e : H D = some u) (nt : ∀ ys, u ≠ .tup ys) (h : H t = some (.tup xs)) : (upd H D (.frz o u)) t = some (.tup xs) := by
  rw [upd_ne]
  · exact h
  · rintro rfl
    rw [e] at h
    exact nt _ (Option.some.inj h)
/-! ### numbers -/
def B (n : Nat) (i : Int) : Prop := i.natAbs < 2 ^ n
theorem B.up {n m : Nat} {i : Int} (h : B n i) (l : n ≤ m := by omega) : B m i := Nat.lt_of_lt_of_le h (Nat.pow_le_pow_right (by decide) l)
theorem B.add {n : Nat} {i j : Int} (h : B n i) (g : B n j) : B (n + 1) (i + j) := by
  unfold B at *
  rw [Nat.pow_succ]
  generalize 2 ^ n = t at *
  omega
theorem B.sub {n : Nat} {i j : Int} (h : B n i) (g : B n j) : B (n + 1) (i - j) := by
  unfold B at *
  rw [Nat.pow_succ]
  generalize 2 ^ n = t at *
  omega
theorem B.neg {n : Nat} {i : Int} (h : B n i) : B n (-i) := by
  unfold B at *
  omega
def CDivV (_ j : Int) : Prop := j ≠ 0 ∧ j.natAbs.log2 < 9000
theorem op_fdivV {X : Cx} : OpR X (PySem.binaryOp .FloorDiv) (rI CDivV fun i j => .int (i.fdiv j)) := opI fun _ _ _ _ _ _ _ hc q => PyProof.Rows.floordiv_int hc.1 q (.inl (PyProof.noPylong_of_log2 hc.2))
theorem B.dv {n : Nat} {i j : Int} (h : B n j) (nz : j ≠ 0) (l : n ≤ 9000 := by decide) (p : 0 < n := by decide) : CDivV i j := ⟨nz, by
  have := PySem.Flt.log2_lt_of p h
  omega⟩
theorem B.dw {n : Nat} {i j : Int} (h : B n j) (nz : 0 < j) (l : n ≤ 9000 := by decide) (p : 0 < n := by decide) : CDivW i j := ⟨nz, by
  have := PySem.Flt.log2_lt_of p h
  omega⟩
theorem B.ml {n m : Nat} {i j : Int} (h : B n i) (g : B m j) (p : 0 < n := by decide) (q : 0 < m := by decide) (l : n + m ≤ 1000000 := by decide) : CMulW i j := wide_mul h g p q l
/-! ### lists and dicts under way -/
def Acc (H0 : Hp) (D : Addr) (xs : List V) (H : Hp) : Prop := Same H0 H ∧ H0 D = none ∧ H D = some (.lst xs)
theorem Acc.start {H0 : Hp} {D : Addr} (hD : H0 D = none) : Acc H0 D [] (upd H0 D (.lst [])) := ⟨grow hD, hD, upd_same⟩
theorem Acc.put {H0 H : Hp} {D : Addr} {xs ys : List V} (a : Acc H0 D xs H) : Acc H0 D ys (upd H D (.lst ys)) :=
  ⟨fun q o e => by rw [upd_ne (ne_of_none e a.2.1)]; exact a.1 q o e, a.2.1, upd_same⟩
theorem Acc.on {H0 H H' : Hp} {D : Addr} {xs : List V} (a : Acc H0 D xs H) (s : Same H H') : Acc H0 D xs H' := ⟨fun q o e => s _ _ (a.1 q o e), a.2.1, s _ _ a.2.2⟩
def AccK (H0 : Hp) (D : Addr) (kvs : List (Key × V)) (H : Hp) : Prop := Same H0 H ∧ H0 D = none ∧ H D = some (.dK kvs)
theorem AccK.start {H0 : Hp} {D : Addr} (hD : H0 D = none) : AccK H0 D [] (upd H0 D (.dK [])) := ⟨grow hD, hD, upd_same⟩
theorem AccK.put {H0 H : Hp} {D : Addr} {xs ys : List (Key × V)} (a : AccK H0 D xs H) : AccK H0 D ys (upd H D (.dK ys)) :=
  ⟨fun q o e => by rw [upd_ne (ne_of_none e a.2.1)]; exact a.1 q o e, a.2.1, upd_same⟩
theorem AccK.on {H0 H H' : Hp} {D : Addr} {xs : List (Key × V)} (a : AccK H0 D xs H) (s : Same H H') : AccK H0 D xs H' := ⟨fun q o e => s _ _ (a.1 q o e), a.2.1, s _ _ a.2.2⟩
/-- a list made while an object was locked -/
theorem acc_lock {H2 H3 : Hp} {L D : Addr} {xs : List V} {u o : HO} (a : Acc H2 L xs H3) (e : H2 D = some u) : (upd H3 D o) L = some (.lst xs) := by
  rw [upd_ne]
  · exact a.2.2
  · rintro rfl
    rw [a.2.1] at e
    cases e
theorem accK_lock {H2 H3 : Hp} {L D : Addr} {xs : List (Key × V)} {u o : HO} (a : AccK H2 L xs H3) (e : H2 D = some u) : (upd H3 D o) L = some (.dK xs) := by
  rw [upd_ne]
  · exact a.2.2
  · rintro rfl
    rw [a.2.1] at e
    cases e
theorem take_step {α : Type} {xs : List α} {i : Nat} {x : α} (h : xs[i]? = some x) : xs.take (i + 1) = xs.take i ++ [x] := by
  rw [List.take_add_one, h]
  rfl
theorem n_line {xs : List V} (h : xs.length ≤ 1000 := by simp) : xs.length ≤ sizeLine := Nat.le_trans h (by decide)
theorem lt_line {n : Nat} (h : n ≤ 1000) : n < sizeLine := Nat.lt_of_le_of_lt h (by decide)
theorem ixt_at {K : PySem.W.Frag} {X : Cx} (e : X.K = K) : IxR X (rIxT K) := e ▸ ix_tup
theorem ixl_at {K : PySem.W.Frag} {X : Cx} (e : X.K = K) : IxR X (rIxL K) := e ▸ ix_list
theorem op_at {K : PySem.W.Frag} {X : Cx} {f : Value → Value → Sem Value} {r : PySem.W.Frag → R2} (e : X.K = K) (h : OpR X f (r X.K)) : OpR X f (r K) := e ▸ h
theorem call_at {K : PySem.W.Frag} {X : Cx} {f : Value} {r : PySem.W.Frag → List V → Hp → VK → Prop} (e : X.K = K) (h : CallR X f (r X.K)) : CallR X f (r K) := e ▸ h
theorem pe_fldA {K : PySem.W.Frag} {X : Cx} {o : Expr} {f : Str} {pos : Pos} {ta : TE} (e : X.K = K) (ho : PE X o ta) (hb : attributeBase o f X.env (eval o X.env) = eval o X.env) : PE X (.Attribute o f pos) (tFld K ta f) := e ▸ pe_fld ho hb
theorem in_at {K : PySem.W.Frag} {X : Cx} (e : X.K = K) : OpR X (compareOp .In) (rIn K false) := e ▸ op_in_seq
theorem notIn_at {K : PySem.W.Frag} {X : Cx} (e : X.K = K) : OpR X (compareOp .NotIn) (rIn K true) := e ▸ op_notIn_seq
theorem gName_eq {i : Nat} {v : V} {σ : L2.St} {H : Hp} {Q : L2.St → Hp → Prop} : gName i v σ H Q = Q (σ.set i (some v)) H := rfl
theorem ints_at {xs : List Int} {i : Nat} {v : V} (h : (xs.map V.int)[i]? = some v) : ∃ n, v = .int n ∧ xs[i]? = some n := by
  rw [List.getElem?_map] at h
  cases e : xs[i]? with
  | none =>
    rw [e] at h
    cases h
  | some n =>
    rw [e] at h
    exact ⟨n, (Option.some.inj h).symm, rfl⟩
theorem strs_at2 {xs : List Str} {i : Nat} {v : V} (h : (xs.map V.str)[i]? = some v) : ∃ n, v = .str n ∧ xs[i]? = some n := by
  rw [List.getElem?_map] at h
  cases e : xs[i]? with
  | none =>
    rw [e] at h
    cases h
  | some n =>
    rw [e] at h
    exact ⟨n, (Option.some.inj h).symm, rfl⟩
/-! ### defs, methods, properties as their callers see them -/
structure Dn (P : Program) (w : World) (K : PySem.W.Frag) (mg : Str → Option Value) (base : Heap) (CX : CXT) (x : Str) (ps : List Str) (k : Nat) (sp : Sp) (f : Addr) (fd : FuncData) : Prop where
  G : FnOk P w K mg base CX k f fd ps sp
  kp : PySem.W.keepIn K (.ref f) = true
  b : Binds K fd ps []
  g : mg x = some (.ref f)
/-- a def that is told that no repr is under way -/
structure DnG (P : Program) (w : World) (K : PySem.W.Frag) (mg : Str → Option Value) (base : Heap) (x : Str) (ps : List Str) (k : Nat) (sp : Sp) (f : Addr) (fd : FuncData) : Prop where
  G : FnG P w K mg base k f fd ps sp
  kp : PySem.W.keepIn K (.ref f) = true
  b : Binds K fd ps []
  g : mg x = some (.ref f)
/-- a method -/
structure Mn (P : Program) (w : World) (K : PySem.W.Frag) (mg : Str → Option Value) (base : Heap) (C : Addr) (x : Str) (ps : List Str) (k : Nat) (sp : Sp) (f : Addr) (fd : FuncData) : Prop where
  G : FnOk P w K mg base CX0 k f fd ps sp
  m : Meth K C x f
  b : Binds K fd ps []
/-- a method with a star parameter -/
structure Vn (P : Program) (w : World) (K : PySem.W.Frag) (mg : Str → Option Value) (base : Heap) (C : Addr) (x : Str) (k : Nat) (sp : Sp) (f : Addr) : Prop where
  G : FnR P w K mg base CX0 k f sp
  m : Meth K C x f
/-- a method that the language itself calls -/
structure Sn (P : Program) (w : World) (K : PySem.W.Frag) (mg : Str → Option Value) (base : Heap) (C : Addr) (x : Str) (ps : List Str) (k : Nat) (sp : Sp) (f : Addr) (fd : FuncData) : Prop where
  G : FnOk P w K mg base CX0 k f fd ps sp
  b : Binds K fd ps []
  hs : PySem.W.findIn K (.ref C) x = some (some (.ref f))
  hf : PySem.W.isFn K (.ref f) = true
/-- a property -/
structure Pn (P : Program) (w : World) (K : PySem.W.Frag) (mg : Str → Option Value) (base : Heap) (C : Addr) (x : Str) (sp : Sp) (p g : Addr) (fd : FuncData) : Prop where
  G : FnOk P w K mg base CX0 1 g fd ["self"] sp
  h : PropOf K C x p g
  b : Binds K fd ["self"] []
abbrev trues (i : Nat) : List V := (List.replicate i true).map V.bl
theorem trues_succ (i : Nat) : trues (i + 1) = trues i ++ [.bl true] := by
  unfold trues
  rw [List.replicate_succ', List.map_append]
  rfl
theorem trues_len (i : Nat) : (trues i).length = i := by simp [trues]
theorem trues_all (i : Nat) : (List.replicate i true).all id = true := by simp
/-! ### (a, b) = a tuple or a list -/
def gSeq (K : PySem.W.Frag) (n : Nat) (t : TGs) : TG := fun v σ H Q => gTup K n t v σ H Q ∨ gUnl K n t v σ H Q
theorem pg_seq {X : Cx} {es : List Expr} {k : Nat} {t : TGs} {n : Nat} {pos : Pos} (hc : X.calm = true) (h : PGs X es t)
    (hn : (assignEach es X.env).length = n := by rfl) (hst : (assignEach es X.env).findIdx? (·.1) = none := by rfl) : PG X (.Tuple es k pos) (gSeq X.K n t) :=
  ⟨fun pins s σ H v u Q I r hw => hw.elim (fun z => (pg_tup hc h hn hst).run pins s σ H v u Q I r z) fun z => (pg_unl hc h hn hst).run pins s σ H v u Q I r z⟩
/-! ### star methods -/
/-- o.m() by a positional promise -/
theorem pe_methR0 {X : Cx} {CX : CXT} {k : Nat} {C f : Addr} {m : Str} {sp : Sp} {E : XK} {o : Expr} {ta : TE} {apos pos : Pos} {pl : Sem Bool} (he : PE X o ta) (c : Cls X.K C) (hm : Meth X.K C m f)
    (F : FnR X.prog X.w X.K X.mg X.base CX k f sp) (hr : Room k X.A) (hx : Passes CX X E)
    (ht : eval (.Call (.Attribute o m apos) [] [] pos) X.env = (do
      let v ← eval o X.env
      standAt apos.atName
      let (g, first) ← holding [v] (getMethod v m pl)
      callWith pos g first (backTo pos (starEach [] X.env)) (backToKw pos (keywordEach [] X.env))) := by rfl) :
    PE X (.Call (.Attribute o m apos) [] [] pos) (tMethR C m sp E ta tNil) := by
  refine ⟨fun pins s σ H Q I h => ?_⟩
  refine PySem.W.methodCall_KW (pl := pl) (thn (he.run pins s σ H _ I h) fun u s1 ⟨x, H1, I1, rx, a, dx, fs, ex, ea, l, q⟩ => ?_) ht
  subst ex
  obtain rfl : u = Value.ref a := rx
  refine getmeth_ok I1 ea c hm l ?_
  exact PySem.W.callWith_K0 (first := [.ref a]) I1.kIn hm.kp (wpAny_call (run_fnR (us := [.ref a]) (vs := [.ref a]) F hr hx I1 (.cons rfl .nil) q))
/-- what is left over of the arguments is a new tuple -/
def spStar (n : Nat) (sp : Sp) : Sp := fun vs H Q E => ∃ ws rest, vs = ws ++ rest ∧ ws.length = n ∧ rest.length ≤ sizeLine ∧ ∀ p, H p = none → sp (ws ++ [V.ref p]) (upd H p (.tup rest)) Q E
theorem star_ok {P : Program} {w : World} {K : PySem.W.Frag} {mg : Str → Option Value} {base : Heap} {x qual pv : Str} {st : Stmt} {f : Addr} {fd : FuncData} {N ps : List Str} {k : Nat} {sp : Sp} (F : Fun K x qual st f fd) (S : FnScope N (ps ++ [pv]) (defScope st))
    (hb : ∀ (kV doc pm : Value) (an : Option Addr) (cdv ct : Value) (us rest : List Value), us.length = ps.length → bindArgs (PySem.W.fnOf x qual (defArgs st) (defBody st) (defScope st) .none kV doc pm an cdv ct) ⟨us ++ rest, []⟩ = (newTuple rest >>= fun t => pure (ps.zip us ++ [(pv, t)])))
    (hbody : ∀ (cdv : Value) (A : Around) (outer : List Env) (s : Shared) (H : Hp) (vs : List V) (Q : VK) (E : XK), Room k (A.deeper (envOfC qual (defScope st) s.heap.objs.size f cdv)) → sp vs H Q E →
      ∃ t, PSs (cxOf CX0 P w K mg base N qual (defScope st) f cdv A outer s H E).nox (defBody st) t ∧ t { nx := fun _ H' => Q .non H', rt := Q } (start N vs) H) : FnR P w K mg base CX0 (k + 1) f (spStar ps.length sp) := by
  obtain ⟨oc, od, kV, doc, pm, an, cdv, ct, osl, rfl, lk, hcd⟩ := F.ex
  exact StX.fn_star (sp := sp) lk hcd S StX.cxUp_none (hb kV doc pm an cdv ct) fun A outer s H vs Q E hr hsp => by
    obtain ⟨t, h, q⟩ := hbody cdv A outer s H vs Q E hr hsp
    exact ⟨t, h.nox, q⟩
end L2.My
/-! lives: how many values are alive, by floors (pure) -/
namespace Liv
abbrev Lf := Int × Int
theorem fd {a n : Int} (h : 0 < n) : a.fdiv n = a / n := Int.fdiv_eq_ediv_of_nonneg _ (Int.le_of_lt h)
theorem fm {a n : Int} (h : 0 < n) : a.fmod n = a % n := Int.fmod_eq_emod_of_nonneg _ (Int.le_of_lt h)
theorem le_fl {k a n : Int} (h : 0 < n) : k ≤ a / n ↔ k * n ≤ a := Int.le_ediv_iff_mul_le h
theorem fl_lt {k a n : Int} (h : 0 < n) : a / n < k ↔ a < k * n := Int.ediv_lt_iff_lt_mul h
theorem eq_le {x y : Int} (h : ∀ k : Int, k ≤ x ↔ k ≤ y) : x = y := by
  have a := (h x).mp (Int.le_refl _)
  have b := (h y).mpr (Int.le_refl _)
  omega
theorem fl_neg {y n : Int} (h : 0 < n) : (-y - 1) / n = -(y / n) - 1 := by
  refine eq_le fun k => ?_
  rw [le_fl h]
  constructor
  · intro a
    have : y < (-k) * n := by rw [Int.neg_mul]; omega
    have := (fl_lt h).mpr this
    omega
  · intro a
    have : y / n < -k := by omega
    have := (fl_lt h).mp this
    rw [Int.neg_mul] at this
    omega
/-- the last turn that has begun at t, and the first one that has not ended -/
def hi (n : Int) (l : Lf) (t : Int) : Int := (t - l.1) / n
def lo (n : Int) (l : Lf) (t : Int) : Int := (t - l.2) / n + 1
theorem le_hi {n : Int} (h : 0 < n) (l : Lf) (t k : Int) : k ≤ hi n l t ↔ l.1 ≤ t - n * k := by
  unfold hi
  rw [le_fl h, Int.mul_comm]
  omega
theorem lo_le {n : Int} (h : 0 < n) (l : Lf) (t k : Int) : lo n l t ≤ k ↔ t - n * k < l.2 := by
  unfold lo
  have z : (t - l.2) / n + 1 ≤ k ↔ (t - l.2) / n < k := by omega
  rw [z, fl_lt h, Int.mul_comm]
  omega
def alive (n : Int) (l : Lf) (t : Int) : Int := (t - l.1).fdiv n + (l.2 - 1 - t).fdiv n + 1
def across (n : Int) (l : Lf) (m : Int) : Int := (m - 1 - l.1).fdiv n + (l.2 - 1 - m).fdiv n + 1
theorem last_neg {n : Int} (h : 0 < n) (l : Lf) (t : Int) : (l.2 - 1 - t).fdiv n = -lo n l t := by
  have e : l.2 - 1 - t = -(t - l.2) - 1 := by omega
  rw [fd h, e, fl_neg h]
  unfold lo
  omega
theorem alive_eq {n : Int} (h : 0 < n) (l : Lf) (t : Int) : alive n l t = hi n l t - lo n l t + 1 := by
  unfold alive
  rw [last_neg h, fd h]
  unfold hi
  omega
theorem across_eq {n : Int} (h : 0 < n) (l : Lf) (m : Int) : across n l m = hi n l (m - 1) - lo n l m + 1 := by
  unfold across
  rw [last_neg h, fd h]
  unfold hi
  omega
theorem mono {a b n : Int} (h : 0 < n) (l : a ≤ b) : a / n ≤ b / n := Int.ediv_le_ediv h l
theorem alive_nn {n : Int} (h : 0 < n) {l : Lf} (g : l.1 < l.2) (t : Int) : 0 ≤ alive n l t := by
  rw [alive_eq h]
  unfold hi lo
  have := mono h (show t - l.2 ≤ t - l.1 by omega)
  omega
theorem across_nn {n : Int} (h : 0 < n) {l : Lf} (g : l.1 < l.2) (t : Int) : 0 ≤ across n l t := by
  rw [across_eq h]
  unfold hi lo
  have := mono h (show t - l.2 ≤ t - 1 - l.1 by omega)
  omega
/-! ### the turns at a tick, one by one -/
def run (a : Int) (m : Nat) : List Int := (List.range m).map fun i : Nat => a + (i : Int)
def turns (n : Int) (l : Lf) (t : Int) : List Int := run (lo n l t) (hi n l t - lo n l t + 1).toNat
theorem run_zero (a : Int) : run a 0 = [] := rfl
theorem run_succ (a : Int) (m : Nat) : run a (m + 1) = a :: run (a + 1) m := by
  unfold run
  rw [List.range_succ_eq_map, List.map_cons, List.map_map]
  congr 1
  · simp
  · refine List.map_congr_left fun i _ => ?_
    show a + ((i + 1 : Nat) : Int) = a + 1 + (i : Int)
    omega
theorem run_snoc (a : Int) (m : Nat) : run a (m + 1) = run a m ++ [a + m] := by
  unfold run
  rw [List.range_succ, List.map_append]
  rfl
theorem mem_run {a k : Int} {m : Nat} : k ∈ run a m ↔ a ≤ k ∧ k < a + m := by
  unfold run
  rw [List.mem_map]
  constructor
  · rintro ⟨i, hi, rfl⟩
    have := List.mem_range.mp hi
    omega
  · rintro ⟨h1, h2⟩
    exact ⟨(k - a).toNat, List.mem_range.mpr (by omega), by omega⟩
theorem run_len (a : Int) (m : Nat) : (run a m).length = m := by
  unfold run
  rw [List.length_map, List.length_range]
/-- what lies between two numbers, picked out of a run that holds them all -/
theorem run_filter (p q : Int) : ∀ (m : Nat) (a : Int), a ≤ p → q < a + m → (run a m).filter (fun k => decide (p ≤ k ∧ k ≤ q)) = run p (q - p + 1).toNat
  | 0, a, h1, h2 => by
    rw [run_zero, List.filter_nil, show (q - p + 1).toNat = 0 by omega]
    rfl
  | m + 1, a, h1, h2 => by
    rw [run_succ, List.filter_cons]
    by_cases c : p ≤ a
    · have e : a = p := by omega
      subst e
      by_cases d : a ≤ q
      · rw [if_pos (by simp [d]), show (q - a + 1).toNat = (q - a).toNat + 1 by omega, run_succ]
        congr 1
        by_cases z : a + 1 ≤ q
        · have ih := run_filter (a + 1) q m (a + 1) (Int.le_refl _) (by omega)
          rw [show (q - (a + 1) + 1).toNat = (q - a).toNat by omega] at ih
          rw [← ih]
          refine List.filter_congr fun k hk => ?_
          have := (mem_run.mp hk).1
          by_cases y : k ≤ q <;> simp [y] <;> omega
        · rw [show (q - a).toNat = 0 by omega, run_zero, List.filter_eq_nil_iff]
          intro k hk
          have := (mem_run.mp hk).1
          simp
          omega
      · rw [if_neg (by simp; omega), show (q - a + 1).toNat = 0 by omega, run_zero, List.filter_eq_nil_iff]
        intro k hk
        have := (mem_run.mp hk).1
        simp
        omega
    · rw [if_neg (by simp; omega)]
      exact run_filter p q m (a + 1) (by omega) (by omega)
theorem turns_len {n : Int} (h : 0 < n) {l : Lf} (g : l.1 < l.2) (t : Int) : ((turns n l t).length : Int) = alive n l t := by
  have := alive_nn h g t
  unfold turns
  rw [run_len, ← alive_eq h]
  omega
/-- the law's way: six turns near the tick are looked at -/
theorem near_turns {n : Int} (h : 0 < n) {l : Lf} (g : l.1 < l.2) (s : l.2 - l.1 ≤ 4 * n) (t : Int) :
    (run (hi n l t - 4) 6).filter (fun k => decide (l.1 ≤ t - n * k) && decide (t - n * k < l.2)) = turns n l t := by
  have e : (fun k => decide (l.1 ≤ t - n * k) && decide (t - n * k < l.2)) = fun k => decide (lo n l t ≤ k ∧ k ≤ hi n l t) := by
    funext k
    rw [Bool.decide_and, Bool.and_comm, decide_eq_decide.mpr (lo_le h l t k), decide_eq_decide.mpr (le_hi h l t k)]
  rw [e]
  refine run_filter _ _ 6 _ ?_ (by omega)
  have z : (t - l.1) / n ≤ (t - l.2) / n + 5 := by
    have a : (t - l.1) / n < (t - l.2) / n + 6 := by
      rw [fl_lt h]
      have b : t - l.2 < ((t - l.2) / n + 1) * n := (fl_lt h).mp (by omega)
      have c : ((t - l.2) / n + 6) * n = ((t - l.2) / n + 1) * n + 5 * n := by
        rw [← Int.add_mul]
        congr 1
        omega
      omega
    omega
  unfold hi lo
  omega
/-- turns that are there at both ticks -/
theorem both_turns {n : Int} (h : 0 < n) {l : Lf} (g : l.1 < l.2) (m : Int) : (turns n l (m - 1)).filter (fun k => decide (k ∈ turns n l m)) = run (lo n l m) (across n l m).toNat := by
  have a0 := across_nn h g m
  have m1 : lo n l (m - 1) ≤ lo n l m := by
    unfold lo
    have := mono h (show m - 1 - l.2 ≤ m - l.2 by omega)
    omega
  have m2 : hi n l (m - 1) ≤ hi n l m := by
    unfold hi
    exact mono h (by omega)
  have q0 := across_eq h l m
  have e : (turns n l (m - 1)).filter (fun k => decide (k ∈ turns n l m)) = (turns n l (m - 1)).filter (fun k => decide (lo n l m ≤ k ∧ k ≤ hi n l (m - 1))) := by
    refine List.filter_congr fun k hk => ?_
    unfold turns at hk
    have z := mem_run.mp hk
    refine decide_eq_decide.mpr ?_
    unfold turns
    rw [mem_run]
    constructor
    · rintro ⟨a, b⟩
      exact ⟨a, by omega⟩
    · rintro ⟨a, b⟩
      exact ⟨a, by omega⟩
  rw [e]
  unfold turns
  rw [run_filter _ _ _ _ m1 (by omega), q0]
/-! ### counted by slots -/
theorem slot_one {n : Int} (h : 0 < n) {l : Lf} (g : l.1 < l.2) (s : Int) : (l.2 - l.1).fdiv n + (if (s - l.1) % n < (l.2 - l.1) % n then 1 else 0) = alive n l s := by
  rw [alive_eq h]
  unfold hi lo
  rw [fd h]
  have e1 := Int.mul_ediv_add_emod (s - l.1) n
  have e2 := Int.mul_ediv_add_emod (l.2 - l.1) n
  have r1 := Int.emod_nonneg (s - l.1) (Int.ne_of_gt h)
  have r2 := Int.emod_lt_of_pos (s - l.1) h
  have r3 := Int.emod_nonneg (l.2 - l.1) (Int.ne_of_gt h)
  have r4 := Int.emod_lt_of_pos (l.2 - l.1) h
  generalize hu : (s - l.1) / n = u at *
  generalize hq : (l.2 - l.1) / n = q at *
  generalize hx : (s - l.1) % n = x at *
  generalize hy : (l.2 - l.1) % n = y at *
  have z : (s - l.2) / n = u - q + (if x < y then -1 else 0) := by
    have c : s - l.2 = (x - y) + n * (u - q) := by rw [Int.mul_sub]; omega
    rw [c, Int.add_mul_ediv_left _ _ (Int.ne_of_gt h)]
    have d : (x - y) / n = if x < y then -1 else 0 := by
      by_cases k : x < y
      · rw [if_pos k]
        refine eq_le fun j => ?_
        rw [le_fl h]
        constructor
        · intro a
          apply Classical.byContradiction
          intro b
          have : 0 * n ≤ j * n := Int.mul_le_mul_of_nonneg_right (by omega) (by omega)
          omega
        · intro a
          have : j * n ≤ (-1) * n := Int.mul_le_mul_of_nonneg_right a (by omega)
          omega
      · rw [if_neg k]
        exact Int.ediv_eq_zero_of_lt (by omega) (by omega)
    rw [d]
    omega
  rw [z]
  by_cases k : x < y
  · rw [if_pos k, if_pos k]
    omega
  · rw [if_neg k, if_neg k]
    omega
/-- a step's slot -/
theorem slot_step {n b s : Int} (h : 0 < n) {k : Int} (k0 : 0 ≤ k) (kn : k < n) (s0 : 0 ≤ s) (sn : s < n) : (s - b) % n = k ↔ s = (b + k) % n := by
  constructor
  · intro e
    rw [← e, Int.add_emod_emod, show b + (s - b) = s by omega, Int.emod_eq_of_lt s0 sn]
  · intro e
    rw [e, Int.emod_sub_emod, show b + k - b = k by omega, Int.emod_eq_of_lt k0 kn]
/-! ### many lives -/
def sumA (n : Int) (ls : List Lf) (t : Int) : Int := (ls.map fun l => alive n l t).sum
def sumX (n : Int) (ls : List Lf) (m : Int) : Int := (ls.map fun l => across n l m).sum
def counts (n : Int) (ls : List Lf) : List Int := (List.range n.toNat).map fun s : Nat => sumA n ls s
def most (n : Int) (ls : List Lf) : Int := (counts n ls).foldl max 0
theorem foldl_max_le {m : Int} : ∀ (xs : List Int) (a : Int), a ≤ m → (∀ x ∈ xs, x ≤ m) → xs.foldl max a ≤ m
  | [], a, h, _ => h
  | x :: xs, a, h, g => foldl_max_le xs (max a x) (by have := g x (List.mem_cons_self ..); omega) fun y hy => g y (List.mem_cons_of_mem _ hy)
theorem le_foldl_max : ∀ (xs : List Int) (a : Int), a ≤ xs.foldl max a ∧ ∀ x ∈ xs, x ≤ xs.foldl max a
  | [], a => ⟨Int.le_refl _, fun x hx => by cases hx⟩
  | x :: xs, a => by
    obtain ⟨h1, h2⟩ := le_foldl_max xs (max a x)
    refine ⟨by rw [List.foldl_cons]; omega, fun y hy => ?_⟩
    rw [List.foldl_cons]
    rcases List.mem_cons.mp hy with rfl | hy
    · omega
    · exact h2 y hy
theorem max_one {xs : List Int} {m : Int} (h1 : m ∈ xs) (h2 : ∀ x ∈ xs, x ≤ m) (h0 : ∀ x ∈ xs, 0 ≤ x) : m = xs.foldl max 0 := by
  have a := foldl_max_le xs 0 (h0 m h1) h2
  have b := (le_foldl_max xs 0).2 m h1
  omega
theorem sum_nn {xs : List Int} (h : ∀ x ∈ xs, 0 ≤ x) : 0 ≤ xs.sum := by
  induction xs with
  | nil => exact Int.le_refl _
  | cons x xs ih =>
    have a := h x (List.mem_cons_self ..)
    have b := ih fun y hy => h y (List.mem_cons_of_mem _ hy)
    rw [List.sum_cons]
    omega
theorem sumA_nn {n : Int} (h : 0 < n) {ls : List Lf} (g : ∀ l ∈ ls, l.1 < l.2) (t : Int) : 0 ≤ sumA n ls t := by
  refine sum_nn fun x hx => ?_
  obtain ⟨l, hl, rfl⟩ := List.mem_map.mp hx
  exact alive_nn h (g l hl) t
theorem counts_nn {n : Int} (h : 0 < n) {ls : List Lf} (g : ∀ l ∈ ls, l.1 < l.2) : ∀ x ∈ counts n ls, 0 ≤ x := fun x hx => by
  obtain ⟨s, _, rfl⟩ := List.mem_map.mp hx
  exact sumA_nn h g s
theorem counts_len (n : Int) (ls : List Lf) : (counts n ls).length = n.toNat := by
  unfold counts
  rw [List.length_map, List.length_range]
theorem most_of {n m : Int} (h : 0 < n) {ls : List Lf} (g : ∀ l ∈ ls, l.1 < l.2) (h1 : m ∈ counts n ls) (h2 : ∀ x ∈ counts n ls, x ≤ m) : m = most n ls := max_one h1 h2 (counts_nn h g)
/-! ### the program's table of counts, as it is filled -/
/-- the slots behind i whole lives and k further steps of the next one -/
def part (n : Int) (always : Int) (ls : List Lf) (s : Int) : Int := always + (ls.map fun l => if (s - l.1) % n < (l.2 - l.1) % n then (1 : Int) else 0).sum
def step (b : Int) (n : Int) (k : Int) (s : Int) : Int := if (s - b) % n < k then 1 else 0
theorem part_nil (n always s : Int) : part n always [] s = always := by
  unfold part
  simp
theorem part_snoc (n always s : Int) (ls : List Lf) (l : Lf) : part n always (ls ++ [l]) s = part n always ls s + step l.1 n ((l.2 - l.1) % n) s := by
  unfold part step
  rw [List.map_append, List.sum_append]
  simp
  omega
theorem step_zero {n b s : Int} (h : 0 < n) : step b n 0 s = 0 := by
  unfold step
  have := Int.emod_nonneg (s - b) (Int.ne_of_gt h)
  rw [if_neg (by omega)]
theorem step_next {n b s k : Int} (h : 0 < n) (k0 : 0 ≤ k) (kn : k < n) (s0 : 0 ≤ s) (sn : s < n) : step b n (k + 1) s = step b n k s + (if s = (b + k) % n then 1 else 0) := by
  have q := slot_step (b := b) h k0 kn s0 sn
  unfold step
  by_cases c : s = (b + k) % n
  · rw [if_pos c]
    have e := q.mpr c
    rw [if_pos (by omega), if_neg (by omega)]
    rfl
  · rw [if_neg c]
    have e : (s - b) % n ≠ k := fun z => c (q.mp z)
    by_cases d : (s - b) % n < k
    · rw [if_pos d, if_pos (by omega)]
      rfl
    · rw [if_neg d, if_neg (by omega)]
      rfl
theorem part_all {n : Int} (h : 0 < n) {ls : List Lf} (g : ∀ l ∈ ls, l.1 < l.2) (s : Int) : part n (ls.map fun l => (l.2 - l.1).fdiv n).sum ls s = sumA n ls s := by
  unfold part sumA
  induction ls with
  | nil => rfl
  | cons l ls ih =>
    rw [List.map_cons, List.map_cons, List.map_cons, List.sum_cons, List.sum_cons, List.sum_cons, ← slot_one h (g l (List.mem_cons_self ..)) s, ← ih fun x hx => g x (List.mem_cons_of_mem _ hx)]
    omega
end Liv
/-! texts in order; rows of lives (pure) -/
namespace Liv
open PySem PySem.Spec PyProof.Rows
abbrev cps (x : Str) : List Nat := x.cps.toList
theorem cps_inj {x y : Str} (h : cps x = cps y) : x = y := by
  cases x
  cases y
  congr
  exact Array.toList_inj.mp h
theorem not_lt {x y : Str} (h : ltCps (cps y) (cps x) = false) : cps x ≤ cps y := by
  rw [ltCps_eq, decide_eq_false_iff_not] at h
  exact h
theorem rising_pw : ∀ (p : Str) (l : List Str), risingS p l = true → (p :: l).Pairwise fun a b => cps a ≤ cps b
  | p, [], _ => by simp
  | p, x :: r, h => by
    have h : (!ltCps x.cps.toList p.cps.toList && risingS x r) = true := h
    rw [Bool.and_eq_true, Bool.not_eq_true'] at h
    have ih := rising_pw x r h.2
    have px := not_lt h.1
    refine List.pairwise_cons.mpr ⟨fun y hy => ?_, ih⟩
    rcases List.mem_cons.mp hy with rfl | hy
    · exact px
    · exact List.le_trans px ((List.pairwise_cons.mp ih).1 y hy)
theorem sorted_pw : ∀ {l : List Str}, sortedS l = true → l.Pairwise fun a b => cps a ≤ cps b
  | [], _ => List.Pairwise.nil
  | x :: r, h => rising_pw x r h
theorem sorted_one {a b : List Str} (p : a.Perm b) (ha : sortedS a = true) (hb : sortedS b = true) : a = b := by
  refine p.eq_of_pairwise (le := fun a b => cps a ≤ cps b) (fun x y _ _ h1 h2 => cps_inj (List.le_antisymm h1 h2)) (sorted_pw ha) (sorted_pw hb)
theorem pw_sorted {l : List Str} (h : l.Pairwise fun a b => cps a ≤ cps b) : sortedS l = true := sortedS_of_pairwise l (h.imp fun {a b} z => by
  rw [ltCps_eq, decide_eq_false_iff_not]
  exact z)
theorem sorted_filter {l : List Str} (p : Str → Bool) (h : sortedS l = true) : sortedS (l.filter p) = true := pw_sorted ((sorted_pw h).filter p)
/-- the only order of some texts -/
def srt (l : List Str) : List Str := l.mergeSort fun a b => decide (cps a ≤ cps b)
theorem srt_perm (l : List Str) : (srt l).Perm l := List.mergeSort_perm ..
theorem srt_sorted (l : List Str) : sortedS (srt l) = true := by
  refine pw_sorted ?_
  have z := List.pairwise_mergeSort (le := fun a b : Str => decide (cps a ≤ cps b)) (fun a b c h1 h2 => by
    rw [decide_eq_true_iff] at *
    exact List.le_trans h1 h2) (fun a b => by
    rw [Bool.or_eq_true, decide_eq_true_iff, decide_eq_true_iff]
    exact List.le_total _ _) l
  exact z.imp fun {a b} h => by rwa [decide_eq_true_iff] at h
theorem srt_of {l ys : List Str} (p : ys.Perm l) (h : sortedS ys = true) : ys = srt l := sorted_one (p.trans (srt_perm l).symm) h (srt_sorted l)
theorem perm_lift {α β : Type} {f : α → β} {vs us : List β} (p : vs.Perm us) : ∀ {L : List α}, us = L.map f → ∃ L1 : List α, vs = L1.map f ∧ L1.Perm L := by
  induction p with
  | nil =>
    intro L e
    exact ⟨[], rfl, by
      cases L with
      | nil => exact .nil
      | cons x r => cases e⟩
  | cons x _ ih =>
    intro L e
    cases L with
    | nil => cases e
    | cons y r =>
      rw [List.map_cons] at e
      injection e with e1 e2
      obtain ⟨L1, f1, f2⟩ := ih e2
      exact ⟨y :: L1, by rw [List.map_cons, e1, f1], f2.cons _⟩
  | swap x y l =>
    intro L e
    match L, e with
    | a :: b :: r, e =>
      rw [List.map_cons, List.map_cons] at e
      injection e with e1 e2
      injection e2 with e2 e3
      exact ⟨b :: a :: r, by rw [List.map_cons, List.map_cons, e1, e2, e3], .swap a b r⟩
  | trans _ _ ih1 ih2 =>
    intro L e
    obtain ⟨L2, f1, f2⟩ := ih2 e
    obtain ⟨L1, g1, g2⟩ := ih1 f1
    exact ⟨L1, g1, g2.trans f2⟩
/-! ### rows -/
abbrev Row := Str × Lf
abbrev keys (R : List Row) : List Str := R.map Prod.fst
abbrev lives (R : List Row) : List Lf := R.map Prod.snd
theorem lives_app (a b : List Row) : lives (a ++ b) = lives a ++ lives b := List.map_append
theorem keys_app (a b : List Row) : keys (a ++ b) = keys a ++ keys b := List.map_append
/-- rows with keys of their own, in the order of the keys -/
structure Ord (R : List Row) : Prop where
  nd : (keys R).Nodup
  so : sortedS (keys R) = true
def look (R : List Row) (k : Str) : Option Lf := (R.find? fun r => decide (r.1 = k)).map Prod.snd
theorem look_mem {R : List Row} (nd : (keys R).Nodup) {r : Row} (h : r ∈ R) : look R r.1 = some r.2 := by
  induction R with
  | nil => cases h
  | cons x R ih =>
    unfold look
    rcases List.mem_cons.mp h with rfl | h
    · rw [List.find?_cons_of_pos (by simp)]
      rfl
    · have n : x.1 ≠ r.1 := fun e => (List.nodup_cons.mp nd).1 (by rw [e]; exact List.mem_map_of_mem h)
      rw [List.find?_cons_of_neg (by simpa using n)]
      exact ih (List.nodup_cons.mp nd).2 h
/-- the rows of some names -/
def sel (R : List Row) (ns : List Str) : List Row := R.filter fun r => decide (r.1 ∈ ns)
theorem sel_keys (R : List Row) (ns : List Str) : keys (sel R ns) = (keys R).filter fun k => decide (k ∈ ns) := by
  unfold sel keys
  rw [List.filter_map]
  rfl
theorem sel_ord {R : List Row} (o : Ord R) (ns : List Str) : Ord (sel R ns) := by
  refine ⟨?_, ?_⟩
  · rw [sel_keys]
    exact o.nd.filter _
  · rw [sel_keys]
    exact sorted_filter _ o.so
/-- the names of a set, in order, are the chosen keys -/
theorem sel_names {R : List Row} (o : Ord R) {ns ys : List Str} (sub : ∀ x ∈ ns, x ∈ keys R) (nd : ys.Nodup) (same : ∀ x, x ∈ ys ↔ x ∈ ns) (so : sortedS ys = true) : ys = keys (sel R ns) := by
  refine sorted_one ?_ so (sel_ord o ns).so
  refine (List.perm_ext_iff_of_nodup nd (sel_ord o ns).nd).mpr fun x => ?_
  rw [same, sel_keys, List.mem_filter, decide_eq_true_iff]
  exact ⟨fun h => ⟨sub x h, h⟩, fun h => h.2⟩
theorem sel_all {R : List Row} {ns : List Str} (h : ∀ k ∈ keys R, k ∈ ns) : sel R ns = R := by
  unfold sel
  rw [List.filter_eq_self]
  intro r hr
  simpa using h r.1 (List.mem_map_of_mem hr)
end Liv
namespace K56
open PySem L2
open L2.My
open Liv
def top (i : Nat) : Stmt := PySem.Challenge.pw_loopfoundry_k56_lives_counted_round_by_r.main.body.getD i (.Pass ⟨0, 0, 0, 0⟩)
/-- the builtin names -/
structure Txt (mg : Str → Option Value) : Prop where
  isi : mg "isinstance" = none
  int : mg "int" = none
  bool : mg "bool" = none
  tuple : mg "tuple" = none
  str : mg "str" = none
  list : mg "list" = none
  dict : mg "dict" = none
  set : mg "set" = none
  len : mg "len" = none
  abs : mg "abs" = none
  sum : mg "sum" = none
  all : mg "all" = none
  any : mg "any" = none
  max : mg "max" = none
  min : mg "min" = none
  range : mg "range" = none
  sorted : mg "sorted" = none
  iter : mg "iter" = none
  repr : mg "repr" = none
theorem blT {b : Bool} {Q : VK} {H : Hp} (h : b = true) (k : Q (.bl true) H) : Q (.bl b) H := by
  rw [h]
  exact k
abbrev great : Int := 10 ^ 30
/-! ### lives in the heap -/
def LifeAt (H : Hp) (t : Addr) (l : Lf) : Prop := H t = some (.tup [.int l.1, .int l.2])
/-- a dict's pairs are these rows -/
def Rv (H : Hp) : List (Key × V) → List Row → Prop := Paired fun p r => p.1 = Sum.inr r.1 ∧ ∃ t, p.2 = .ref t ∧ LifeAt H t r.2
def RowsAt (H : Hp) (D : Addr) (R : List Row) : Prop := ∃ kvs, H D = some (.dK kvs) ∧ Rv H kvs R
theorem Rv.mono {H H' : Hp} (k : ∀ t l, LifeAt H t l → LifeAt H' t l) : ∀ {kvs : List (Key × V)} {R : List Row}, Rv H kvs R → Rv H' kvs R
  | _, _, .nil => .nil
  | _, _, .cons ⟨e, t, ev, h⟩ r => .cons ⟨e, t, ev, k _ _ h⟩ (Rv.mono k r)
theorem Rv.same {H H' : Hp} {kvs : List (Key × V)} {R : List Row} (h : Rv H kvs R) (s : Same H H') : Rv H' kvs R := h.mono fun t l e => s _ _ e
theorem Rv.len {H : Hp} {kvs : List (Key × V)} {R : List Row} (h : Rv H kvs R) : kvs.length = R.length := Paired.length h
theorem Rv.at {H : Hp} : ∀ {kvs : List (Key × V)} {R : List Row}, Rv H kvs R → ∀ {i : Nat} {k : Key} {v : V}, kvs[i]? = some (k, v) → ∃ r t, R[i]? = some r ∧ k = Sum.inr r.1 ∧ v = .ref t ∧ LifeAt H t r.2
  | _, _, .nil, i, _, _, h => by cases h
  | _, _, .cons (b := r) ⟨e, t, ev, x⟩ _, 0, _, _, h => by
    cases h
    exact ⟨r, t, rfl, e, ev, x⟩
  | _, _, .cons _ q, i + 1, _, _, h => Rv.at q h
theorem Rv.keys {H : Hp} : ∀ {kvs : List (Key × V)} {R : List Row}, Rv H kvs R → kvs.map (·.1) = (keys R).map Sum.inr
  | _, _, .nil => rfl
  | _, _, .cons (b := r) ⟨e, _⟩ q => by
    rw [List.map_cons, Rv.keys q, e]
    rfl
theorem Rv.lock {H : Hp} {D : Addr} {kvs ks : List (Key × V)} {R : List Row} {o : Obj} (h : Rv H ks R) (e : H D = some (.dK kvs)) : Rv (upd H D (.frz o (.dK kvs))) ks R := h.mono fun t l x => lock_tup e (fun ys z => by cases z) x
/-- an entry that a walk over the items hands out -/
theorem Rv.item {Hr H H' : Hp} {kvs : List (Key × V)} {R : List Row} {i : Nat} {v : V} (rv : Rv Hr kvs R) (y : YPair (fun i => kvs[i]?.map fun kv => kV kv.1) (fun i => kvs[i]?.map Prod.snd) i H v H') :
    ∃ T r t, v = .ref T ∧ H T = none ∧ H' = upd H T (.tup [.str r.1, .ref t]) ∧ R[i]? = some r ∧ LifeAt Hr t r.2 := by
  obtain ⟨T, x, z, ev, nT, eH, hx, hz⟩ := y
  dsimp only at hx hz
  cases hk : kvs[i]? with
  | none =>
    rw [hk] at hx
    cases hx
  | some kv =>
    rw [hk] at hx hz
    cases hx
    cases hz
    obtain ⟨r, t, hr, ek, et, el⟩ := rv.at (k := kv.1) (v := kv.2) hk
    refine ⟨T, r, t, ev, nT, ?_, hr, el⟩
    rw [eH]
    dsimp only
    rw [ek, et]
    rfl
theorem Rv.value {Hr H H' : Hp} {kvs : List (Key × V)} {R : List Row} {i : Nat} {v : V} (rv : Rv Hr kvs R) (y : H' = H ∧ ∃ k, kvs[i]? = some (k, v)) : H' = H ∧ ∃ r t, v = .ref t ∧ R[i]? = some r ∧ LifeAt Hr t r.2 := by
  obtain ⟨eH, k, hk⟩ := y
  obtain ⟨r, t, hr, _, et, el⟩ := rv.at hk
  exact ⟨eH, r, t, et, hr, el⟩
theorem Rv.key {Hr H H' : Hp} {kvs : List (Key × V)} {R : List Row} {i : Nat} {x : V} (rv : Rv Hr kvs R) (y : H' = H ∧ ∃ k v, kvs[i]? = some (k, v) ∧ x = kV k) : H' = H ∧ ∃ r, x = .str r.1 ∧ R[i]? = some r := by
  obtain ⟨eH, k, v, hk, ex⟩ := y
  obtain ⟨r, t, hr, ek, et, el⟩ := rv.at hk
  refine ⟨eH, r, ?_, hr⟩
  rw [ex, ek]
  rfl
/-- the value at a key -/
theorem Rv.get {H : Hp} : ∀ {kvs : List (Key × V)} {R : List Row}, Rv H kvs R → (Liv.keys R).Nodup → ∀ {r : Row}, r ∈ R → ∃ t, valV kvs (Sum.inr r.1) = some (.ref t) ∧ LifeAt H t r.2
  | _, _, .nil, _, _, h => by cases h
  | _, _, .cons (a := p) (b := x) (l₂ := R) ⟨e, t, ev, el⟩ q, nd, r, h => by
    unfold valV
    rcases List.mem_cons.mp h with rfl | h
    · refine ⟨t, ?_, el⟩
      rw [List.find?_cons_of_pos (by simpa using e), Option.map_some, ev]
    · have n : x.1 ≠ r.1 := fun z => (List.nodup_cons.mp nd).1 (by rw [z]; exact List.mem_map_of_mem h)
      rw [List.find?_cons_of_neg (by rw [e]; simpa using n)]
      exact Rv.get q (List.nodup_cons.mp nd).2 h
theorem Rv.none {H : Hp} {kvs : List (Key × V)} {R : List Row} (rv : Rv H kvs R) {x : Str} (h : x ∉ Liv.keys R) : valV kvs (Sum.inr x) = none := by
  unfold valV
  rw [List.find?_eq_none.mpr, Option.map_none]
  intro kv hk
  have m : kv.1 ∈ kvs.map (·.1) := List.mem_map_of_mem hk
  rw [rv.keys] at m
  obtain ⟨y, hy, e⟩ := List.mem_map.mp m
  rw [decide_eq_true_iff]
  intro z
  rw [← e] at z
  exact h (by rw [← Sum.inr.inj z]; exact hy)
theorem RowsAt.same {H H' : Hp} {D : Addr} {R : List Row} (h : RowsAt H D R) (s : Same H H') : RowsAt H' D R := by
  obtain ⟨kvs, e, v⟩ := h
  exact ⟨kvs, s _ _ e, v.same s⟩
/-- a text that is a key -/
structure IsKey (x : Str) : Prop where
  l1 : 1 ≤ x.length
  l2 : x.length ≤ 30
  sg : ∀ c ∈ x.cps.toList, c ∈ ("abcdefghijklmnopqrstuvwxyz0123456789.:" : Str).cps.toList
structure IsLife (l : Lf) : Prop where
  lt : l.1 < l.2
  b0 : -great < l.1
  b1 : l.1 < great
  e0 : -great < l.2
  e1 : l.2 < great
structure IsRows (R : List Row) : Prop where
  few : R.length ≤ 48
  key : ∀ r ∈ R, IsKey r.1
  life : ∀ r ∈ R, IsLife r.2
theorem great_b : B 100 great := by
  unfold B
  decide
theorem IsLife.B1 {l : Lf} (h : IsLife l) : B 100 l.1 := by
  obtain ⟨_, a, b, _, _⟩ := h
  have := great_b
  unfold B at *
  have e : great.natAbs = great.toNat := rfl
  omega
theorem IsLife.B2 {l : Lf} (h : IsLife l) : B 100 l.2 := by
  obtain ⟨_, _, _, a, b⟩ := h
  have := great_b
  unfold B at *
  omega
section
variable {P : Program} {w : World} {K : PySem.W.Frag} {mg : Str → Option Value} {base : Heap}
/-! ### numbers -/
def spWhole : Sp := fun vs H Q _ => ∃ i : Int, vs = [.int i] ∧ Q (.bl true) H
abbrev tWhole : Stmt := top 9
abbrev n_wh : List Str := ["value"]
theorem sl_wh : FnScope n_wh ["value"] (defScope tWhole) := ⟨rfl, rfl, rfl, by decide +kernel, rfl, by decide +kernel, by decide +kernel⟩
theorem ok_wh {f  : Addr} {fd  : FuncData} (F : Fun K "is_whole" "is_whole" tWhole f fd) (T : Txt mg)  : FnOk P w K mg base CX0 1 f fd ["value"] spWhole := by
  refine F.ok sl_wh (fun vs H Q E h => ?_) (fun cdv A outer s H vs Q E hr h => ?_)
  · obtain ⟨i, rfl, _⟩ := h
    rfl
  · obtain ⟨i, rfl, k⟩ := h
    refine ⟨_, pss_one (ps_ret (pe_and (pe_callB call_isi (by rfl) T.isi (by decide +kernel) (pa_cons (pv 0) (pa_cons (pe_bltn (v := .ty "int") (by rfl) T.int (by decide +kernel) rfl) pa_nil))) (pe_one (pe_not (pe_callB call_isi (by rfl) T.isi (by decide +kernel) (pa_cons (pv 0) (pa_cons (pe_bltn (v := .ty "bool") (by rfl) T.bool (by decide +kernel) rfl) pa_nil))))))), ?_⟩
    refine ⟨_, rfl, _, _, _, _, _, rfl, ClsV.ty _, .base (.int i), kit_ty (r := true) (by decide +kernel), _, rfl, iteT ?_⟩
    exact ⟨_, rfl, _, _, _, _, _, rfl, ClsV.ty _, .base (.int i), kit_ty (r := false) (by decide +kernel), _, rfl, k⟩
def spInt : Sp := fun vs H Q _ => ∃ i : Int, vs = [.int i] ∧ -great < i ∧ i < great ∧ Q (.bl true) H
abbrev tInt : Stmt := top 10
abbrev n_it : List Str := ["value"]
theorem sl_it : FnScope n_it ["value"] (defScope tInt) := ⟨rfl, rfl, rfl, by decide +kernel, rfl, by decide +kernel, by decide +kernel⟩
theorem ok_it {f fwh : Addr} {fd fdwh : FuncData} (F : Fun K "is_integer" "is_integer" tInt f fd) {tL : Tok} (hL : mg "LONG" = some (.int (10 ^ 30) tL)) (dwh : Dn P w K mg base CX0 "is_whole" ["value"] 1 spWhole fwh fdwh) : FnOk P w K mg base CX0 2 f fd ["value"] spInt := by
  refine F.ok sl_it (fun vs H Q E h => ?_) (fun cdv A outer s H vs Q E hr h => ?_)
  · obtain ⟨i, rfl, _⟩ := h
    rfl
  · obtain ⟨i, rfl, h0, h1, k⟩ := h
    refine ⟨_, pss_one (ps_ret (pe_and (pe_call dwh.G hr rfl dwh.g dwh.kp dwh.b .nil pass0 (pa_cons (pv 0) pa_nil)) (pe_one (pe_chain op_lt op_lt (pe_un un_neg (pe_glob (v := .int (10 ^ 30)) rfl hL ⟨_, rfl⟩)) (pv 0) (pe_glob (v := .int (10 ^ 30)) rfl hL ⟨_, rfl⟩))))), ?_⟩
    refine ⟨_, rfl, i, rfl, _, rfl, iteT ?_⟩
    refine ⟨_, rfl, _, rfl, _, _, rfl, rfl, _, rfl, iteTe (decide_eq_true h0) ⟨_, _, rfl, rfl, ?_⟩⟩
    exact blT (decide_eq_true h1) k
def spBtw : Sp := fun vs H Q _ => ∃ i a b : Int, vs = [.int i, .int a, .int b] ∧ -great < i ∧ i < great ∧ a ≤ i ∧ i ≤ b ∧ Q (.bl true) H
abbrev tBtw : Stmt := top 11
abbrev n_bw : List Str := ["value", "least", "most"]
theorem sl_bw : FnScope n_bw ["value", "least", "most"] (defScope tBtw) := ⟨rfl, rfl, rfl, by decide +kernel, rfl, by decide +kernel, by decide +kernel⟩
theorem ok_bw {f fit : Addr} {fd fdit : FuncData} (F : Fun K "is_between" "is_between" tBtw f fd)  (dit : Dn P w K mg base CX0 "is_integer" ["value"] 2 spInt fit fdit) : FnOk P w K mg base CX0 3 f fd ["value", "least", "most"] spBtw := by
  refine F.ok sl_bw (fun vs H Q E h => ?_) (fun cdv A outer s H vs Q E hr h => ?_)
  · obtain ⟨i, a, b, rfl, _⟩ := h
    rfl
  · obtain ⟨i, a, b, rfl, h0, h1, h2, h3, k⟩ := h
    refine ⟨_, pss_one (ps_ret (pe_and (pe_call dit.G hr rfl dit.g dit.kp dit.b .nil pass0 (pa_cons (pv 0) pa_nil)) (pe_and (pe_cmpR op_le (pv 1) (pv 0) (nomark _)) (pe_one (pe_or (pe_cmpR op_isN (pv 2) pe_non (nomark _)) (pe_one (pe_cmpR op_le (pv 0) (pv 2) (nomark _)))))))), ?_⟩
    refine ⟨_, rfl, i, rfl, h0, h1, _, rfl, iteT ⟨_, rfl, _, rfl, _, _, rfl, rfl, _, rfl, iteTe (decide_eq_true h2) ⟨_, rfl, rfl, _, rfl, iteFe rfl ⟨_, rfl, _, rfl, _, _, rfl, rfl, ?_⟩⟩⟩⟩
    exact blT (decide_eq_true h3) k
/-- raises, where the number is none of these: not here -/
def spChkN : Sp := fun vs H Q _ => ∃ i a b : Int, vs = [.int i, .int a, .int b] ∧ -great < i ∧ i < great ∧ a ≤ i ∧ i ≤ b ∧ Q .non H
abbrev tChkN : Stmt := top 12
abbrev n_cn : List Str := ["value", "least", "most"]
theorem sl_cn : FnScope n_cn ["value", "least", "most"] (defScope tChkN) := ⟨rfl, rfl, rfl, by decide +kernel, rfl, by decide +kernel, by decide +kernel⟩
theorem ok_cn {f fbw : Addr} {fd fdbw : FuncData} (F : Fun K "check_number" "check_number" tChkN f fd)  (dbw : Dn P w K mg base CX0 "is_between" ["value", "least", "most"] 3 spBtw fbw fdbw) : FnOk P w K mg base CX0 4 f fd ["value", "least", "most"] spChkN := by
  refine F.ok sl_cn (fun vs H Q E h => ?_) (fun cdv A outer s H vs Q E hr h => ?_)
  · obtain ⟨i, a, b, rfl, _⟩ := h
    rfl
  · obtain ⟨i, a, b, rfl, h0, h1, h2, h3, k⟩ := h
    refine ⟨_, pss_one (ps_if (pt_not (pt_val (pe_call dbw.G hr rfl dbw.g dbw.kp dbw.b .nil pass0 (pa_cons (pv 0) (pa_cons (pv 1) (pa_cons (pv 2) pa_nil)))))) pss_never pss_nil), ?_⟩
    exact ⟨_, rfl, _, rfl, _, rfl, i, a, b, rfl, h0, h1, h2, h3, _, rfl, iteF k⟩
def spChkI : Sp := fun vs H Q _ => ∃ i : Int, vs = [.int i] ∧ -great < i ∧ i < great ∧ Q .non H
abbrev tChkI : Stmt := top 13
abbrev n_ci : List Str := ["value"]
theorem sl_ci : FnScope n_ci ["value"] (defScope tChkI) := ⟨rfl, rfl, rfl, by decide +kernel, rfl, by decide +kernel, by decide +kernel⟩
theorem ok_ci {f fit : Addr} {fd fdit : FuncData} (F : Fun K "check_integer" "check_integer" tChkI f fd)  (dit : Dn P w K mg base CX0 "is_integer" ["value"] 2 spInt fit fdit) : FnOk P w K mg base CX0 3 f fd ["value"] spChkI := by
  refine F.ok sl_ci (fun vs H Q E h => ?_) (fun cdv A outer s H vs Q E hr h => ?_)
  · obtain ⟨i, rfl, _⟩ := h
    rfl
  · obtain ⟨i, rfl, h0, h1, k⟩ := h
    refine ⟨_, pss_one (ps_if (pt_not (pt_val (pe_call dit.G hr rfl dit.g dit.kp dit.b .nil pass0 (pa_cons (pv 0) pa_nil)))) pss_never pss_nil), ?_⟩
    exact ⟨_, rfl, i, rfl, h0, h1, _, rfl, iteF k⟩
theorem in_strs {x : Str} {xs : List Str} (h : x ∈ xs) : inV (.str x) (xs.map V.str) = true := by
  unfold inV
  rw [List.any_eq_true]
  exact ⟨.str x, List.mem_map_of_mem h, by simp [eqV]⟩
def spKnown : Sp := fun vs H Q _ => ∃ (x : Str) (N : Addr) (xs : List Str), vs = [.str x, .ref N] ∧ H N = some (.tup (xs.map V.str)) ∧ x ∈ xs ∧ Q .non H
abbrev tKnown : Stmt := top 14
abbrev n_ck : List Str := ["name", "known"]
theorem sl_ck : FnScope n_ck ["name", "known"] (defScope tKnown) := ⟨rfl, rfl, rfl, by decide +kernel, rfl, by decide +kernel, by decide +kernel⟩
theorem ok_ck {f  : Addr} {fd  : FuncData} (F : Fun K "check_known" "check_known" tKnown f fd)   : FnOk P w K mg base CX0 1 f fd ["name", "known"] spKnown := by
  refine F.ok sl_ck (fun vs H Q E h => ?_) (fun cdv A outer s H vs Q E hr h => ?_)
  · obtain ⟨x, N, xs, rfl, _⟩ := h
    rfl
  · obtain ⟨x, N, xs, rfl, eN, hx, k⟩ := h
    refine ⟨_, pss_one (ps_if (pt_cmpR op_notIn_seq (pv 0) (pv 1) (by rfl)) pss_never pss_nil), ?_⟩
    refine ⟨_, rfl, _, rfl, N, _, rfl, .inr (SqT.of eN), rfl, by simp [flatV], _, rfl, iteFe ?_ k⟩
    rw [in_strs hx]
    rfl
end
end K56
namespace K56
open PySem L2
open L2.My
open Liv
section
variable {P : Program} {w : World} {K : PySem.W.Frag} {mg : Str → Option Value} {base : Heap}
/-! ### keys, lives, rows -/
def spKey : Sp := fun vs H Q _ => ∃ x : Str, vs = [.str x] ∧ IsKey x ∧ ∀ H', Same H H' → Q (.bl true) H'
abbrev tKey : Stmt := top 19
abbrev n_ky : List Str := ["value", "sign"]
theorem sl_ky : FnScope n_ky ["value"] (defScope tKey) := ⟨rfl, rfl, rfl, by decide +kernel, rfl, by decide +kernel, by decide +kernel⟩
theorem ok_ky {f  : Addr} {fd  : FuncData} (F : Fun K "is_key" "is_key" tKey f fd) (T : Txt mg) {tS tG : Tok} (hS : mg "MAX_SIGNS" = some (.int 30 tS)) (hG : mg "SIGNS" = some (.str "abcdefghijklmnopqrstuvwxyz0123456789.:" tG))  : FnOk P w K mg base CX0 1 f fd ["value"] spKey := by
  refine F.ok sl_ky (fun vs H Q E h => ?_) (fun cdv A outer s H vs Q E hr h => ?_)
  · obtain ⟨x, rfl, _⟩ := h
    rfl
  · obtain ⟨x, rfl, kx, k⟩ := h
    refine ⟨_, pss_cons (ps_if (PW.pt (pw_or (pt_not (pt_val (pe_callB call_isi (by rfl) T.isi (by decide +kernel) (pa_cons (pv 0) (pa_cons (pe_bltn (v := .ty "str") (by rfl) T.str (by decide +kernel) rfl) pa_nil))))) (pw_or1 (pt_not (pt_chain op_le op_le pe_int (pe_callB call_len_str (by rfl) T.len PySem.boot_len (pa_cons (pv 0) pa_nil)) (pe_glob (v := .int 30) rfl hS ⟨_, rfl⟩)))))) (pss_one (ps_ret pe_bl)) pss_nil) (pss_one (ps_ret (pe_callB (cr_all (by rfl)) (by rfl) T.all (by decide +kernel) (pa_cons (pe_lc (own := [("sign", 1)]) (g := gName 1) (tt := tYes) (by rfl) sl_ky.nd (pi_str (pv 0)) (blkOk_by (own := [("sign", 1)]) (N := n_ky) (sc := defScope tKey) (by decide +kernel)) (fun _ _ _ _ _ => pg_name (i := 1) sl_ky.nd rfl (Or.inl rfl)) (fun _ _ _ _ _ => pts_nil) (fun _ _ _ _ _ => pe_cmpR op_in_sign (pv 1) (pe_glob (v := .str "abcdefghijklmnopqrstuvwxyz0123456789.:") rfl hG ⟨_, rfl⟩) (by rfl))) pa_nil)))), ?_⟩
    obtain ⟨l1, l2, sg⟩ := kx
    refine ⟨_, rfl, _, _, _, _, _, rfl, ClsV.ty _, .base (.str x), kit_ty (r := true) (by decide +kernel), _, rfl, iteFe rfl ?_⟩
    refine ⟨_, rfl, x, rfl, Nat.le_trans l2 (by decide), _, _, rfl, rfl, _, rfl, iteTe (decide_eq_true (by omega)) ⟨_, _, rfl, rfl, _, rfl, iteFe (by simp; omega) ?_⟩⟩
    refine ⟨_, rfl, x, rfl, fun L nL => lc_it walk_str (fun i H' => Acc H L (trues i) H') (Acc.start nL) (fun i H' _ a => trivial) ?_ ?_⟩
    · rintro i v H0 H3 hi a3 ⟨rfl, c, hc, rfl⟩
      refine ⟨rfl, _, rfl, _, _, rfl, rfl, trues i, a3.2.2, by rw [trues_len]; exact lt_line (by have : i < x.cps.size := hi; have : x.length = x.cps.size := rfl; omega), ?_⟩
      rw [decide_eq_true (sg c (by have := Array.mem_of_getElem? hc; simpa using this)), ← trues_succ]
      exact a3.put
    · intro H3 a3
      refine ⟨L, _, rfl, SqL.of a3.2.2, ?_⟩
      rw [trues_all]
      exact k _ a3.1
def spLife : Sp := fun vs H Q _ => ∃ t l, vs = [.ref t] ∧ LifeAt H t l ∧ IsLife l ∧ ∀ H', Same H H' → Q (.bl true) H'
abbrev tLife : Stmt := top 20
abbrev n_lf : List Str := ["value", "tick"]
theorem sl_lf : FnScope n_lf ["value"] (defScope tLife) := ⟨rfl, rfl, rfl, by decide +kernel, rfl, by decide +kernel, by decide +kernel⟩
theorem ok_lf {f fit : Addr} {fd fdit : FuncData} (F : Fun K "is_life" "is_life" tLife f fd) (T : Txt mg) (dit : Dn P w K mg base CX0 "is_integer" ["value"] 2 spInt fit fdit) : FnOk P w K mg base CX0 3 f fd ["value"] spLife := by
  refine F.ok sl_lf (fun vs H Q E h => ?_) (fun cdv A outer s H vs Q E hr h => ?_)
  · obtain ⟨t, l, rfl, _⟩ := h
    rfl
  · obtain ⟨t, l, rfl, el, gl, k⟩ := h
    refine ⟨_, pss_cons (ps_if (PW.pt (pw_or (pt_not (pt_val (pe_callB call_isi (by rfl) T.isi (by decide +kernel) (pa_cons (pv 0) (pa_cons (pe_bltn (v := .ty "tuple") (by rfl) T.tuple (by decide +kernel) rfl) pa_nil))))) (pw_or (pt_cmpR op_ne (pe_callB call_len_seq (by rfl) T.len PySem.boot_len (pa_cons (pv 0) pa_nil)) pe_int (nomark _)) (pw_or1 (pt_not (pt_val (pe_callB (cr_all (by rfl)) (by rfl) T.all (by decide +kernel) (pa_cons (pe_lc (own := [("tick", 1)]) (g := gName 1) (tt := tYes) (by rfl) sl_lf.nd (pi_tup (pv 0)) (blkOk_by (own := [("tick", 1)]) (N := n_lf) (sc := defScope tLife) (by decide +kernel)) (fun _ _ _ _ _ => pg_name (i := 1) sl_lf.nd rfl (Or.inl rfl)) (fun _ _ _ _ _ => pts_nil) (fun _ _ _ _ _ => pe_call dit.G hr rfl dit.g dit.kp dit.b .nil pass0 (pa_cons (pv 1) pa_nil))) pa_nil)))))))) (pss_one (ps_ret pe_bl)) pss_nil) (pss_one (ps_ret (pe_cmpR op_lt (pe_ix ix_tup (pv 0) pe_int (fun _ _ => rfl)) (pe_ix ix_tup (pv 0) pe_int (fun _ _ => rfl)) (nomark _)))), ?_⟩
    refine ⟨_, rfl, _, _, _, _, _, rfl, ClsV.ty _, .base (.tup el), kit_ty (r := true) (by decide +kernel), _, rfl, iteFe rfl ?_⟩
    refine ⟨_, rfl, t, _, rfl, .inr (SqT.of el), rfl, _, rfl, iteFe rfl ?_⟩
    refine ⟨_, rfl, t, rfl, ⟨_, SqT.of el⟩, fun L nL => lc_it walk_tup (fun i H' => Acc H L (trues i) H') (Acc.start nL) (fun i H' _ a => SqT.of (a.1 _ _ el)) ?_ ?_⟩
    · rintro i v H0 H3 hi a3 ⟨rfl, hv⟩
      have hi : i < 2 := hi
      obtain ⟨j, rfl, j0, j1⟩ : ∃ j : Int, v = .int j ∧ -great < j ∧ j < great := by
        obtain rfl | rfl : i = 0 ∨ i = 1 := by omega
        · cases hv
          exact ⟨_, rfl, gl.b0, gl.b1⟩
        · cases hv
          exact ⟨_, rfl, gl.e0, gl.e1⟩
      refine ⟨rfl, _, rfl, j, rfl, j0, j1, trues i, a3.2.2, by rw [trues_len]; exact lt_line (by omega), ?_⟩
      rw [← trues_succ]
      exact a3.put
    · intro H3 a3
      refine ⟨L, _, rfl, SqL.of a3.2.2, ?_⟩
      rw [trues_all]
      refine ⟨_, rfl, iteFe rfl ?_⟩
      have e3 := a3.1 _ _ el
      refine ⟨_, rfl, t, _, 0, _, rfl, rfl, SqT.of e3, atI_nat (j := 0) rfl, _, rfl, t, _, 1, _, rfl, rfl, SqT.of e3, atI_nat (j := 1) rfl, _, _, rfl, rfl, ?_⟩
      exact blT (decide_eq_true gl.lt) (k _ a3.1)
def spRows : Sp := fun vs H Q _ => ∃ D R, vs = [.ref D] ∧ RowsAt H D R ∧ IsRows R ∧ ∀ H', Same H H' → Q (.bl true) H'
abbrev tRows : Stmt := top 21
abbrev n_rw : List Str := ["value", "key", "life"]
theorem sl_rw : FnScope n_rw ["value"] (defScope tRows) := ⟨rfl, rfl, rfl, by decide +kernel, rfl, by decide +kernel, by decide +kernel⟩
theorem ok_rw {f flf fky : Addr} {fd fdlf fdky : FuncData} (F : Fun K "is_rows" "is_rows" tRows f fd) (T : Txt mg) {tK : Tok} (hK : mg "MAX_KEYS" = some (.int 48 tK)) (dlf : Dn P w K mg base CX0 "is_life" ["value"] 3 spLife flf fdlf) (dky : Dn P w K mg base CX0 "is_key" ["value"] 1 spKey fky fdky) : FnOk P w K mg base CX0 4 f fd ["value"] spRows := by
  refine F.ok sl_rw (fun vs H Q E h => ?_) (fun cdv A outer s H vs Q E hr h => ?_)
  · obtain ⟨D, R, rfl, _⟩ := h
    rfl
  · obtain ⟨D, R, rfl, er, gr, k⟩ := h
    have hr1 : Room 1 _ := hr.mono (by decide)
    refine ⟨_, pss_cons (ps_if (PW.pt (pw_or (pt_not (pt_val (pe_callB call_isi (by rfl) T.isi (by decide +kernel) (pa_cons (pv 0) (pa_cons (pe_bltn (v := .ty "dict") (by rfl) T.dict (by decide +kernel) rfl) pa_nil))))) (pw_or1 (pt_cmpR op_gt (pe_callB call_lenD (by rfl) T.len PySem.boot_len (pa_cons (pv 0) pa_nil)) (pe_glob (v := .int 48) rfl hK ⟨_, rfl⟩) (nomark _))))) (pss_one (ps_ret pe_bl)) pss_nil) (pss_one (ps_ret (pe_callB (cr_all (by rfl)) (by rfl) T.all (by decide +kernel) (pa_cons (pe_lock (pe_lc (own := [("key", 1), ("life", 2)]) (g := gTup K 2 (gCons (gName 1) (gCons (gName 2) gNil))) (tt := tYes) (by rfl) sl_rw.nd (pi_items (pv 0)) (blkOk_by (own := [("key", 1), ("life", 2)]) (N := n_rw) (sc := defScope tRows) (by decide +kernel)) (fun _ _ _ _ _ => pg_tup rfl (pgs_cons (pg_name (i := 1) sl_rw.nd rfl (Or.inl rfl)) (pgs_cons (pg_name (i := 2) sl_rw.nd rfl (Or.inl rfl)) pgs_nil))) (fun _ _ _ _ _ => pts_nil) (fun _ _ _ _ _ => pe_and (pe_call dky.G hr1 rfl dky.g dky.kp dky.b .nil pass0 (pa_cons (pv 1) pa_nil)) (pe_one (pe_call dlf.G hr rfl dlf.g dlf.kp dlf.b .nil pass0 (pa_cons (pv 2) pa_nil)))))) pa_nil)))), ?_⟩
    obtain ⟨kvs, ed, rv⟩ := er
    refine ⟨_, rfl, _, _, _, _, _, rfl, ClsV.ty _, .base (.dK ed), kit_ty (r := true) (by decide +kernel), _, rfl, iteFe rfl ?_⟩
    refine ⟨_, rfl, D, kvs, rfl, ed, _, _, rfl, rfl, _, rfl, iteFe (decide_eq_false (by have := rv.len; have := gr.few; omega)) ?_⟩
    refine ⟨D, _, ed, trivial, fun od => ?_⟩
    have rv2 := rv.lock (o := od) ed
    have fz : (upd H D (.frz od (.dK kvs))) D = some (.frz od (.dK kvs)) := upd_same
    have fin : ∀ H', Same (upd H D (.frz od (.dK kvs))) H' → Same H (upd H' D (.dK kvs)) := fun H' s' => unlock_same ed s'
    generalize upd H D (.frz od (.dK kvs)) = H2 at rv2 fz fin ⊢
    refine ⟨_, rfl, D, od, kvs, rfl, fz, fun L nL => lc_it walk_items (fun i H' => Acc H2 L (trues i) H') (Acc.start nL) (fun i H' _ a => a.1 _ _ fz) ?_ ?_⟩
    · intro i v H0 H3 hi a3 y
      obtain ⟨t, r, tl, rfl, nt, rfl, hr, el⟩ := rv2.item y
      have mr := List.mem_of_getElem? hr
      have i1 : i < 48 := by have := gr.few; have := (List.getElem?_eq_some_iff.mp hr).1; omega
      have s1 : Same H0 (upd H0 t (.tup [.str r.1, .ref tl])) := grow nt
      refine ⟨t, _, rfl, SqT.of upd_same, rfl, _, _, rfl, _, _, rfl, rfl, rfl, _, rfl, r.1, rfl, gr.key r mr, fun H4 s4 => ⟨_, rfl, iteT ⟨_, rfl, tl, r.2, rfl, s4 _ _ (s1 _ _ (a3.1 _ _ el)), gr.life r mr, fun H5 s5 => ?_⟩⟩⟩
      have a5 := (a3.on s1).on (s4.trans s5)
      refine ⟨trues i, a5.2.2, by rw [trues_len]; exact lt_line (by omega), ?_⟩
      rw [← trues_succ]
      exact a5.put
    · intro H3 a3
      refine ⟨a3.1 _ _ fz, L, _, rfl, SqL.of (acc_lock a3 fz), ?_⟩
      rw [trues_all]
      exact k _ (fin _ a3.1)
/-! ### counts -/
def spCnt (f : Int → Lf → Int → Int) : Sp := fun vs H Q _ => ∃ t l n m, vs = [.ref t, .int n, .int m] ∧ LifeAt H t l ∧ 0 < n ∧ B 100 n ∧ Q (.int (f n l m)) H
abbrev tCa : Stmt := top 22
abbrev n_ca : List Str := ["life", "interval", "tick", "begin", "end"]
theorem sl_ca : FnScope n_ca ["life", "interval", "tick"] (defScope tCa) := ⟨rfl, rfl, rfl, by decide +kernel, rfl, by decide +kernel, by decide +kernel⟩
theorem ok_ca {f  : Addr} {fd  : FuncData} (F : Fun K "count_alive" "count_alive" tCa f fd)   : FnOk P w K mg base CX0 1 f fd ["life", "interval", "tick"] (spCnt alive) := by
  refine F.ok sl_ca (fun vs H Q E h => ?_) (fun cdv A outer s H vs Q E hr h => ?_)
  · obtain ⟨t, l, n, m, rfl, _⟩ := h
    rfl
  · obtain ⟨t, l, n, m, rfl, el, n0, bn, k⟩ := h
    refine ⟨_, pss_cons (ps_asg (pv 0) (pg_tup rfl (pgs_cons (pg_name (i := 3) sl_ca.nd rfl (.inl rfl)) (pgs_cons (pg_name (i := 4) sl_ca.nd rfl (.inl rfl)) pgs_nil)))) (pss_one (ps_ret (pe_op op_add (pe_op op_add (pe_op op_fdivV (pe_op op_sub (pv 2) (pv 3)) (pv 1)) (pe_op op_fdivV (pe_op op_sub (pe_op op_sub (pv 4) pe_int) (pv 2)) (pv 1))) pe_int))), ?_⟩
    refine ⟨_, rfl, t, _, rfl, SqT.of el, rfl, _, _, rfl, _, _, rfl, rfl, ?_⟩
    refine ⟨_, rfl, _, rfl, _, _, rfl, rfl, _, rfl, _, _, rfl, rfl, B.dv bn (by omega), ?_⟩
    refine ⟨_, rfl, _, _, rfl, rfl, _, rfl, _, _, rfl, rfl, _, rfl, _, _, rfl, rfl, B.dv bn (by omega), _, _, rfl, rfl, _, _, rfl, rfl, k⟩
abbrev tCx : Stmt := top 23
abbrev n_cx : List Str := ["life", "interval", "moment", "begin", "end"]
theorem sl_cx : FnScope n_cx ["life", "interval", "moment"] (defScope tCx) := ⟨rfl, rfl, rfl, by decide +kernel, rfl, by decide +kernel, by decide +kernel⟩
theorem ok_cx {f  : Addr} {fd  : FuncData} (F : Fun K "count_across" "count_across" tCx f fd)   : FnOk P w K mg base CX0 1 f fd ["life", "interval", "moment"] (spCnt across) := by
  refine F.ok sl_cx (fun vs H Q E h => ?_) (fun cdv A outer s H vs Q E hr h => ?_)
  · obtain ⟨t, l, n, m, rfl, _⟩ := h
    rfl
  · obtain ⟨t, l, n, m, rfl, el, n0, bn, k⟩ := h
    refine ⟨_, pss_cons (ps_asg (pv 0) (pg_tup rfl (pgs_cons (pg_name (i := 3) sl_cx.nd rfl (.inl rfl)) (pgs_cons (pg_name (i := 4) sl_cx.nd rfl (.inl rfl)) pgs_nil)))) (pss_one (ps_ret (pe_op op_add (pe_op op_add (pe_op op_fdivV (pe_op op_sub (pe_op op_sub (pv 2) pe_int) (pv 3)) (pv 1)) (pe_op op_fdivV (pe_op op_sub (pe_op op_sub (pv 4) pe_int) (pv 2)) (pv 1))) pe_int))), ?_⟩
    refine ⟨_, rfl, t, _, rfl, SqT.of el, rfl, _, _, rfl, _, _, rfl, rfl, ?_⟩
    refine ⟨_, rfl, _, _, rfl, rfl, _, rfl, _, _, rfl, rfl, _, rfl, _, _, rfl, rfl, B.dv bn (by omega), ?_⟩
    refine ⟨_, rfl, _, _, rfl, rfl, _, rfl, _, _, rfl, rfl, _, rfl, _, _, rfl, rfl, B.dv bn (by omega), _, _, rfl, rfl, _, _, rfl, rfl, k⟩
/-- a list of lives -/
def Lvs (H : Hp) (L : Addr) (ls : List Lf) : Prop := ∃ ts : List Addr, H L = some (.lst (ts.map V.ref)) ∧ Paired (fun t l => LifeAt H t l) ts ls
theorem lvs_at {H : Hp} : ∀ {ts : List Addr} {ls : List Lf}, Paired (fun t l => LifeAt H t l) ts ls → ∀ {i : Nat} {v : V}, (ts.map V.ref)[i]? = some v → ∃ t l, v = .ref t ∧ ls[i]? = some l ∧ LifeAt H t l
  | _, _, .nil, i, _, h => by cases h
  | _, _, .cons (b := l) e _, 0, _, h => by
    cases h
    exact ⟨_, l, rfl, rfl, e⟩
  | _, _, .cons _ r, i + 1, _, h => lvs_at r h
theorem Lvs.same {H H' : Hp} {L : Addr} {ls : List Lf} (h : Lvs H L ls) (s : Same H H') : Lvs H' L ls := by
  obtain ⟨ts, e, p⟩ := h
  refine ⟨ts, s _ _ e, ?_⟩
  clear e
  induction p with
  | nil => exact .nil
  | cons x _ ih => exact .cons (s _ _ x) ih
def spAll : Sp := fun vs H Q _ => ∃ L ls n m, vs = [.ref L, .int n, .int m] ∧ Lvs H L ls ∧ ls.length ≤ 48 ∧ 0 < n ∧ B 100 n ∧ ∀ H', Same H H' → Q (.int (sumX n ls m)) H'
abbrev tAx : Stmt := top 24
abbrev n_ax : List Str := ["rows", "interval", "moment", "life"]
theorem sl_ax : FnScope n_ax ["rows", "interval", "moment"] (defScope tAx) := ⟨rfl, rfl, rfl, by decide +kernel, rfl, by decide +kernel, by decide +kernel⟩
theorem ok_ax {f fcx : Addr} {fd fdcx : FuncData} (F : Fun K "all_across" "all_across" tAx f fd) (T : Txt mg) (dcx : Dn P w K mg base CX0 "count_across" ["life", "interval", "moment"] 1 (spCnt across) fcx fdcx) : FnOk P w K mg base CX0 2 f fd ["rows", "interval", "moment"] spAll := by
  refine F.ok sl_ax (fun vs H Q E h => ?_) (fun cdv A outer s H vs Q E hr h => ?_)
  · obtain ⟨L, ls, n, m, rfl, _⟩ := h
    rfl
  · obtain ⟨L, ls, n, m, rfl, el, few, n0, bn, k⟩ := h
    refine ⟨_, pss_one (ps_ret (pe_callB (cr_sum rfl) (by rfl) T.sum (by decide +kernel) (pa_cons (pe_lc (own := [("life", 3)]) (g := gName 3) (tt := tYes) (by rfl) sl_ax.nd (pi_list (pv 0)) (blkOk_by (own := [("life", 3)]) (N := n_ax) (sc := defScope tAx) (by decide +kernel)) (fun _ _ _ _ _ => pg_name (i := 3) sl_ax.nd rfl (Or.inl rfl)) (fun _ _ _ _ _ => pts_nil) (fun _ _ _ _ _ => pe_call dcx.G hr rfl dcx.g dcx.kp dcx.b .nil pass0 (pa_cons (pv 3) (pa_cons (pv 1) (pa_cons (pv 2) pa_nil))))) pa_nil))), ?_⟩
    obtain ⟨ts, eL, pr⟩ := el
    have len : ts.length = ls.length := Paired.length pr
    refine ⟨_, rfl, L, rfl, ⟨_, SqL.of eL⟩, fun D nD => lc_it walk_list (fun i H' => Acc H D (((ls.take i).map fun l => across n l m).map V.int) H') (Acc.start nD) (fun i H' _ a => SqL.of (a.1 _ _ eL)) ?_ ?_⟩
    · rintro i v H0 H3 hi a3 ⟨rfl, hv⟩
      obtain ⟨t, l, rfl, hl, elf⟩ := lvs_at pr hv
      have elf := a3.1 _ _ elf
      refine ⟨rfl, _, rfl, _, rfl, _, rfl, t, l, n, m, rfl, elf, n0, bn, _, a3.2.2, ?_, ?_⟩
      · rw [List.length_map, List.length_map]
        exact lt_line (by have := List.length_take_le' i ls; omega)
      · rw [take_step hl, List.map_append, List.map_append]
        exact a3.put
    · intro H3 a3
      rw [List.length_map, len, List.take_length] at a3
      exact ⟨D, _, rfl, SqL.of a3.2.2, k _ a3.1⟩
end
end K56
namespace K56
open PySem L2
open L2.My
open Liv
section
variable {P : Program} {w : World} {K : PySem.W.Frag} {mg : Str → Option Value} {base : Heap}
/-- a list of lives that are lives -/
structure Lvg (ls : List Lf) : Prop where
  few : ls.length ≤ 48
  life : ∀ l ∈ ls, IsLife l
theorem Lvg.lt {ls : List Lf} (g : Lvg ls) : ∀ l ∈ ls, l.1 < l.2 := fun l h => (g.life l h).lt
abbrev Cv (n : Nat) (f : Int → Int) : List V := ((List.range n).map fun s : Nat => f s).map V.int
theorem cv_len (n : Nat) (f : Int → Int) : (Cv n f).length = n := by simp [Cv]
theorem cv_next (n : Nat) (f : Int → Int) : Cv (n + 1) f = Cv n f ++ [.int (f n)] := by
  unfold Cv
  rw [List.range_succ, List.map_append, List.map_append]
  rfl
theorem cv_at {n u : Nat} {f : Int → Int} (h : u < n) : (Cv n f)[u]? = some (.int (f u)) := by
  unfold Cv
  rw [List.map_map, List.getElem?_map, List.getElem?_range h]
  rfl
theorem cv_set {n u : Nat} {f g : Int → Int} {x : Int} (h : u < n) (e : x = g u) (o : ∀ s : Nat, s < n → s ≠ u → f s = g s) : (Cv n f).set u (.int x) = Cv n g := by
  refine List.ext_getElem? fun s => ?_
  by_cases c : s < n
  · rw [cv_at c, List.getElem?_set]
    by_cases d : u = s
    · subst d
      rw [if_pos rfl, if_pos (by rw [cv_len]; exact c), e]
    · rw [if_neg d, cv_at c, o s c (Ne.symm d)]
  · rw [List.getElem?_eq_none (by rw [List.length_set, cv_len]; omega), List.getElem?_eq_none (by rw [cv_len]; omega)]
def spCounts : Sp := fun vs H Q _ => ∃ L ls n, vs = [.ref L, .int (n : Nat)] ∧ Lvs H L ls ∧ Lvg ls ∧ 0 < n ∧ n ≤ 32 ∧ ∀ D H', Same H H' → H D = none → H' D = some (.lst ((counts n ls).map V.int)) → Q (.ref D) H'
abbrev tAc : Stmt := top 26
abbrev n_ac : List Str := ["rows", "interval", "always", "counts", "begin", "end", "step", "slot", "_"]
theorem sl_ac : FnScope n_ac ["rows", "interval"] (defScope tAc) := ⟨rfl, rfl, rfl, by decide +kernel, rfl, by decide +kernel, by decide +kernel⟩
theorem ok_ac {f  : Addr} {fd  : FuncData} (F : Fun K "alive_counts" "alive_counts" tAc f fd) (T : Txt mg)  : FnOk P w K mg base CX0 1 f fd ["rows", "interval"] spCounts := by
  refine F.ok sl_ac (fun vs H Q E h => ?_) (fun cdv A outer s H vs Q E hr h => ?_)
  · obtain ⟨L, ls, n, rfl, _⟩ := h
    rfl
  · obtain ⟨L, ls, n, rfl, el, gl, n0, n1, k⟩ := h
    refine ⟨_, pss_cons (ps_set (i := 2) sl_ac.nd rfl (.inr rfl) (pe_callB (cr_sum rfl) (by rfl) T.sum (by decide +kernel) (pa_cons (pe_lc (own := [("begin", 4), ("end", 5)]) (g := gTup K 2 (gCons (gName 4) (gCons (gName 5) gNil))) (tt := tYes) (by rfl) sl_ac.nd (pi_list (pv 0)) (blkOk_by (own := [("begin", 4), ("end", 5)]) (N := n_ac) (sc := defScope tAc) (by decide +kernel)) (fun _ _ _ _ _ => pg_tup rfl (pgs_cons (pg_name (i := 4) sl_ac.nd rfl (Or.inl rfl)) (pgs_cons (pg_name (i := 5) sl_ac.nd rfl (Or.inl rfl)) pgs_nil))) (fun _ _ _ _ _ => pts_nil) (fun _ _ _ _ _ => pe_op op_fdivV (pe_op op_sub (pv 5) (pv 4)) (pv 1))) pa_nil))) (pss_cons (ps_setLc (i := 3) (own := [("_", 8)]) (g := gName 8) (tt := tYes) (by rfl) sl_ac.nd rfl rfl (sw_true rfl rfl rfl (by decide +kernel)) (pi_range1 rfl T.range (pa_cons (pv 1) pa_nil)) (blkOk_by (own := [("_", 8)]) (N := n_ac) (sc := defScope tAc) (by decide +kernel)) (fun _ _ _ _ _ => pg_name (i := 8) sl_ac.nd rfl (Or.inl rfl)) (fun _ _ _ _ _ => pts_nil) (fun _ _ _ _ _ => pv 2)) (pss_cons (ps_for PassesOwn.never rfl (pi_list (pv 0)) (pg_tup rfl (pgs_cons (pg_name (i := 4) sl_ac.nd rfl (.inl rfl)) (pgs_cons (pg_name (i := 5) sl_ac.nd rfl (.inl rfl)) pgs_nil))) (pss_one (ps_for PassesOwn.never rfl (pi_range1 rfl T.range (pa_cons (pe_op op_modN (pe_op op_sub (pv 5) (pv 4)) (pv 1)) pa_nil)) (pg_name (i := 6) sl_ac.nd rfl (.inl rfl)) (pss_cons (ps_set (i := 7) sl_ac.nd rfl (.inl rfl) (pe_op op_modN (pe_op op_add (pv 4) (pv 6)) (pv 1))) (pss_one (ps_asg (pe_op op_add (pe_ix ix_list (pv 3) (pv 7) (fun _ _ => rfl)) pe_int) (pg_sub (pv 3) (pv 7) set_list))))))) (pss_one (ps_ret (pv 3))))), ?_⟩
    obtain ⟨ts, eL, pr⟩ := id el
    have len : ts.length = ls.length := Paired.length pr
    have nz : (n : Int) ≠ 0 := by omega
    have bn : B 100 (n : Int) := by unfold B; have : (33 : Nat) < 2 ^ 100 := by decide
                                    omega
    refine ⟨_, rfl, L, rfl, ⟨_, SqL.of eL⟩, fun D nD => lc_it walk_list (fun i H' => Acc H D (((ls.take i).map fun l => (l.2 - l.1).fdiv n).map V.int) H') (Acc.start nD) (fun i H' _ a => SqL.of (a.1 _ _ eL)) ?_ ?_⟩
    · rintro i v H0 H3 hi a3 ⟨rfl, hv⟩
      obtain ⟨t, l, rfl, hl, elf⟩ := lvs_at pr hv
      have elf := a3.1 _ _ elf
      refine ⟨t, _, rfl, SqT.of elf, rfl, _, _, rfl, _, _, rfl, rfl, rfl, _, rfl, _, rfl, _, _, rfl, rfl, _, rfl, _, _, rfl, rfl, B.dv bn nz, _, a3.2.2, ?_, ?_⟩
      · rw [List.length_map, List.length_map]
        exact lt_line (by have := List.length_take_le' i ls; have := gl.few; omega)
      · rw [take_step hl, List.map_append, List.map_append]
        exact a3.put
    intro H1 a1
    rw [List.length_map, len, List.take_length] at a1
    refine ⟨D, _, rfl, SqL.of a1.2.2, ?_⟩
    have s1 := a1.1
    have el1 := el.same s1
    clear a1 nD
    generalize hal : (ls.map fun l => (l.2 - l.1).fdiv (n : Int)).sum = al
    refine ⟨_, rfl, n, rfl, by omega, by omega, fun C nC => lc_range (n := n) (fun i H' => Acc H1 C (Cv i fun _ => al) H') (Acc.start nC) ?_ ?_⟩
    · intro i H0 hi a3
      refine ⟨rfl, _, rfl, _, a3.2.2, by rw [cv_len]; exact lt_line (by omega), ?_⟩
      rw [← cv_next]
      exact a3.put
    intro H2 a2
    obtain ⟨ts, eL, pr⟩ := el1
    have len : ts.length = ls.length := Paired.length pr
    refine ⟨_, rfl, L, rfl, ⟨_, SqL.of (a2.1 _ _ eL)⟩, for_list (xs := ts.map V.ref) (fun i σ H' => ∃ v4 v5 v6 v7 v8, σ = [some (.ref L), some (.int n), some (.int al), some (.ref C), v4, v5, v6, v7, v8] ∧ Acc H1 C (Cv n (part n al (ls.take i))) H') ⟨_, _, _, _, _, rfl, ?_⟩
      (fun i σ H' _ h => SqL.of (by obtain ⟨_, _, _, _, _, _, a⟩ := h; exact a.1 _ _ eL)) ?_ ?_⟩
    · rw [List.take_zero, show part n al [] = fun _ => al from funext fun s => part_nil _ _ _]
      exact a2
    · rintro i v σ H3 hv ⟨v4, v5, v6, v7, v8, rfl, a3⟩
      obtain ⟨t, l, rfl, hl, elf⟩ := lvs_at pr hv
      have elf := a3.1 _ _ elf
      have i1 : i < 48 := by have := gl.few; have := (List.getElem?_eq_some_iff.mp hl).1; omega
      have mod : (l.2 - l.1).fmod n = (l.2 - l.1) % n := fm (by omega)
      have m0 := Int.emod_nonneg (l.2 - l.1) nz
      have m1 := Int.emod_lt_of_pos (l.2 - l.1) (show (0 : Int) < n by omega)
      obtain ⟨r, hr⟩ : ∃ r : Nat, (l.2 - l.1) % (n : Int) = r := ⟨_, (Int.toNat_of_nonneg m0).symm⟩
      refine ⟨t, _, rfl, SqT.of elf, rfl, _, _, rfl, _, _, rfl, rfl, ?_⟩
      refine ⟨_, rfl, _, rfl, _, _, rfl, rfl, _, rfl, _, _, rfl, rfl, nz, r, (by show [V.int ((l.2 - l.1).fmod n)] = _; rw [mod, hr]), by omega, by omega, ?_⟩
      refine for_range (n := r) (fun j σ H' => ∃ v6 v7, σ = [some (.ref L), some (.int n), some (.int al), some (.ref C), some (.int l.1), some (.int l.2), v6, v7, v8] ∧ Acc H1 C (Cv n fun s => part n al (ls.take i) s + step l.1 n j s) H') ⟨_, _, rfl, ?_⟩ ?_ ?_
      · have e : (fun s => part n al (ls.take i) s + step l.1 n ((0 : Nat) : Int) s) = part n al (ls.take i) := funext fun s => by
          have := step_zero (b := l.1) (s := s) (show (0 : Int) < n by omega)
          show part n al (ls.take i) s + step l.1 n 0 s = _
          omega
        rw [e]
        exact a3
      · rintro j σ H4 hj ⟨v6, v7, rfl, a4⟩
        have mod2 : (l.1 + (0 + (j : Int))).fmod n = (l.1 + j) % n := by rw [fm (by omega), Int.zero_add]
        have q0 := Int.emod_nonneg (l.1 + j) nz
        have q1 := Int.emod_lt_of_pos (l.1 + j) (show (0 : Int) < n by omega)
        obtain ⟨u, hu⟩ : ∃ u : Nat, (l.1 + (j : Int)) % (n : Int) = u := ⟨_, (Int.toNat_of_nonneg q0).symm⟩
        have un : u < n := by omega
        refine ⟨_, rfl, _, rfl, _, _, rfl, rfl, _, rfl, _, _, rfl, rfl, nz, ?_⟩
        show gName 7 (V.int ((l.1 + (0 + (j : Int))).fmod n)) _ _ _
        rw [mod2, hu]
        refine ⟨_, rfl, _, rfl, C, _, (u : Int), _, rfl, rfl, SqL.of a4.2.2, atI_nat (j := u) (cv_at un), _, _, rfl, rfl, _, rfl, _, rfl, C, _, _, u, rfl, rfl, a4.2.2, Evl.ixN_nat (by rw [cv_len]; exact un), ?_⟩
        refine ⟨_, _, rfl, ?_⟩
        have e : (Cv n fun s => part n al (ls.take i) s + step l.1 n j s).set u (.int (part n al (ls.take i) u + step l.1 n j u + 1)) = Cv n fun s => part n al (ls.take i) s + step l.1 n ((j + 1 : Nat) : Int) s := by
          refine cv_set un ?_ fun s sn su => ?_
          · have z := step_next (b := l.1) (s := (u : Int)) (k := (j : Int)) (show (0 : Int) < n by omega) (by omega) (by omega) (by omega) (by omega)
            rw [if_pos hu.symm] at z
            show _ = _ + step l.1 n ((j : Int) + 1) _
            omega
          · have z := step_next (b := l.1) (s := (s : Int)) (k := (j : Int)) (show (0 : Int) < n by omega) (by omega) (by omega) (by omega) (by omega)
            rw [if_neg (by rw [hu]; omega)] at z
            show _ + step l.1 n (j : Int) _ = _ + step l.1 n ((j : Int) + 1) _
            omega
        rw [← e]
        exact a4.put
      · rintro σ H4 ⟨v6, v7, rfl, a4⟩
        refine ⟨_, _, _, _, _, rfl, ?_⟩
        have e : (fun s => part n al (ls.take i) s + step l.1 n r s) = part n al (ls.take (i + 1)) := funext fun s => by
          rw [take_step hl, part_snoc, hr]
        rw [← e]
        exact a4
    · rintro σ H3 ⟨v4, v5, v6, v7, v8, rfl, a3⟩
      rw [List.length_map, len, List.take_length] at a3
      refine ⟨_, rfl, k C H3 (s1.trans a3.1) ?_ ?_⟩
      · cases z : H C with
        | none => rfl
        | some o =>
          have := s1 _ _ z
          rw [a3.2.1] at this
          cases this
      · rw [a3.2.2]
        congr 2
        unfold Cv counts
        rw [List.map_map, List.map_map]
        refine List.map_congr_left fun s _ => ?_
        show V.int (part n al ls s) = V.int (sumA n ls s)
        rw [← hal, part_all (by omega) gl.lt]
def spMost : Sp := fun vs H Q _ => ∃ L ls n, vs = [.ref L, .int (n : Nat)] ∧ Lvs H L ls ∧ Lvg ls ∧ 0 < n ∧ n ≤ 32 ∧ ∀ H', Same H H' → Q (.int (most n ls)) H'
abbrev tMo : Stmt := top 27
abbrev n_mo : List Str := ["rows", "interval"]
theorem sl_mo : FnScope n_mo ["rows", "interval"] (defScope tMo) := ⟨rfl, rfl, rfl, by decide +kernel, rfl, by decide +kernel, by decide +kernel⟩
theorem ok_mo {f fac : Addr} {fd fdac : FuncData} (F : Fun K "most_alive" "most_alive" tMo f fd) (T : Txt mg) (dac : Dn P w K mg base CX0 "alive_counts" ["rows", "interval"] 1 spCounts fac fdac) : FnOk P w K mg base CX0 2 f fd ["rows", "interval"] spMost := by
  refine F.ok sl_mo (fun vs H Q E h => ?_) (fun cdv A outer s H vs Q E hr h => ?_)
  · obtain ⟨L, ls, n, rfl, _⟩ := h
    rfl
  · obtain ⟨L, ls, n, rfl, el, gl, n0, n1, k⟩ := h
    refine ⟨_, pss_one (ps_ret (pe_callB (cr_max rfl) (by rfl) T.max (by decide +kernel) (pa_cons (pe_call dac.G hr rfl dac.g dac.kp dac.b .nil pass0 (pa_cons (pv 0) (pa_cons (pv 1) pa_nil))) pa_nil))), ?_⟩
    refine ⟨_, rfl, _, rfl, L, ls, n, rfl, el, gl, n0, n1, fun D H' s' nD e => ?_⟩
    refine ⟨D, _, rfl, SqL.of e, by rw [counts_len]; omega, fun m h1 h2 => ?_⟩
    rw [most_of (by omega) gl.lt h1 h2]
    exact k _ s'
def isFull (n : Int) (ls : List Lf) (m : Int) : Bool := decide (sumX n ls m = most n ls)
def spFull : Sp := fun vs H Q _ => ∃ L ls n, vs = [.ref L, .int (n : Nat)] ∧ Lvs H L ls ∧ Lvg ls ∧ 0 < n ∧ n ≤ 32 ∧ ∀ D H', Same H H' → H' D = some (.lst ((((List.range n).map fun s : Nat => (s : Int)).filter fun m => isFull n ls m).map V.int)) → Q (.ref D) H'
abbrev tFm : Stmt := top 25
abbrev n_fm : List Str := ["rows", "interval", "most", "moment"]
theorem sl_fm : FnScope n_fm ["rows", "interval"] (defScope tFm) := ⟨rfl, rfl, rfl, by decide +kernel, rfl, by decide +kernel, by decide +kernel⟩
theorem ok_fm {f fmo fax : Addr} {fd fdmo fdax : FuncData} (F : Fun K "full_moments" "full_moments" tFm f fd) (T : Txt mg) (dmo : Dn P w K mg base CX0 "most_alive" ["rows", "interval"] 2 spMost fmo fdmo) (dax : Dn P w K mg base CX0 "all_across" ["rows", "interval", "moment"] 2 spAll fax fdax) : FnOk P w K mg base CX0 3 f fd ["rows", "interval"] spFull := by
  refine F.ok sl_fm (fun vs H Q E h => ?_) (fun cdv A outer s H vs Q E hr h => ?_)
  · obtain ⟨L, ls, n, rfl, _⟩ := h
    rfl
  · obtain ⟨L, ls, n, rfl, el, gl, n0, n1, k⟩ := h
    refine ⟨_, pss_cons (ps_set (i := 2) sl_fm.nd rfl (.inr rfl) (pe_call dmo.G hr rfl dmo.g dmo.kp dmo.b .nil pass0 (pa_cons (pv 0) (pa_cons (pv 1) pa_nil)))) (pss_one (ps_ret (pe_lc (own := [("moment", 3)]) (g := gName 3) (by rfl) sl_fm.nd (pi_range1 rfl T.range (pa_cons (pv 1) pa_nil)) (blkOk_by (own := [("moment", 3)]) (N := n_fm) (sc := defScope tFm) (by decide +kernel)) (fun _ _ _ _ _ => pg_name (i := 3) sl_fm.nd rfl (Or.inl rfl)) (fun _ _ _ _ _ => pts_one (pt_cmpR op_eq (pe_call dax.G hr rfl dax.g dax.kp dax.b .nil pass0 (pa_cons (pv 0) (pa_cons (pv 1) (pa_cons (pv 3) pa_nil)))) (pv 2) (nomark _))) (fun _ _ _ _ _ => pv 3)))), ?_⟩
    have bn : B 100 (n : Int) := by unfold B; have : (33 : Nat) < 2 ^ 100 := by decide
                                    omega
    refine ⟨_, rfl, _, rfl, L, ls, n, rfl, el, gl, n0, n1, fun H1 s1 => ?_⟩
    have el1 := el.same s1
    refine ⟨_, rfl, n, rfl, by omega, by omega, fun D nD => lc_range (n := n) (fun i H' => Acc H1 D ((((List.range i).map fun s : Nat => (s : Int)).filter fun m => isFull n ls m).map V.int) H') (Acc.start nD) ?_ ?_⟩
    · intro i H0 hi a3
      refine ⟨rfl, _, rfl, _, rfl, _, rfl, L, ls, _, _, rfl, el1.same a3.1, gl.few, by omega, bn, fun H4 s4 => ⟨_, rfl, rfl, _, rfl, ?_⟩⟩
      have a4 := a3.on s4
      rw [Int.zero_add]
      have e : decide (V.int (sumX n ls i) = V.int (most n ls)) = isFull n ls i := by
        unfold isFull
        simp
      rw [e, List.range_succ, List.map_append, List.filter_append, List.map_append]
      cases c : isFull n ls i with
      | true =>
        refine iteTe rfl ⟨_, rfl, _, a4.2.2, ?_, ?_⟩
        · rw [List.length_map]
          refine lt_line (Nat.le_trans (List.length_filter_le ..) ?_)
          rw [List.length_map, List.length_range]
          omega
        · have z : (((List.map (fun s : Nat => (s : Int)) [i]).filter fun m => isFull n ls m).map V.int) = [.int i] := by simp [c]
          rw [z]
          exact a4.put
      | false =>
        refine iteFe rfl ?_
        have z : (((List.map (fun s : Nat => (s : Int)) [i]).filter fun m => isFull n ls m).map V.int) = [] := by simp [c]
        rw [z, List.append_nil]
        exact a4
    · intro H3 a3
      exact k D _ (s1.trans a3.1) a3.2.2
end
end K56
/-! x == y, x != y for an instance x of an own class with __eq__ (and the plain __ne__) -/
namespace L2.My
open PySem PySem.Spec PyProof.Rows
section
variable {M : Model} {prog : Program} {w : World} {A : Around} {E : Value → Shared → Prop} {s : Shared} {K : PySem.W.Frag} {x C f : Addr} {ox : Obj} {od : Option Obj} {b : Value}
theorem ifBound_objNe {args : List Value} {Q : Option Value → Shared → Prop} (X : K.In s.heap) (I : PySem.W.InstAt s.heap x ox C od) (hs : PySem.W.findIn K (.ref C) "__ne__" = some (some (.builtin "object.__ne__")))
    (h : wpAny M A (call (.builtin "object.__ne__") (.ref x :: args)) (fun v => Q (some v)) E s) : wpAny M A (callSpecialIfBound? (.ref x) "__ne__" args) Q E s := by
  simp only [callSpecialIfBound?, bindSpecialIfBound?]
  refine wpAny_holding (wpAny_bind (wpAny_bind (wpAny_bind (I.type.here ((PySem.W.looks_findIn X hs).here ?_)))))
  refine wpAny_bind (wpAny_askSetting (wpAny_ite ?_))
  have fin : wpAny M A (call (.builtin "object.__ne__") ([.ref x] ++ args) >>= fun v => pure (some v)) Q E s := wpAny_bind (wpAny_mono h (fun v s' h' => wpAny_pure h') fun _ _ h' => h')
  split
  · exact wpAny_bind (wpAny_of_eq (F.cmp_object.ne.bind _) (wpAny_pure (by exact fin)))
  · exact wpAny_tryCatch (wpAny_bind (wpAny_of_eq (F.cmp_object.ne.bind _) (wpAny_pure (by exact fin))))
theorem entry_ne {Q : Fin → Shared → Prop} (hu : A.units < cLine) (X : K.In s.heap) (I : PySem.W.InstAt s.heap x ox C od) (hs : PySem.W.findIn K (.ref C) "__eq__" = some (some (.ref f))) (hf : PySem.W.isFn K (.ref f) = true)
    (hcall : wpAny (model prog w) A (call (.ref f) [.ref x, b]) (fun v s' => ∃ c, v = .bool c ∧ Q (.done (.ret (.bool (!c)))) s') E s) : wpAny (model prog w) A (Builtin.«object.__ne__» ⟨[.ref x, b], []⟩) Q E s := by
  unfold Builtin.«object.__ne__»
  repeat (first
    | with_reducible refine wpAny_cRoomFor hu ?_
    | (refine wpAny_bind (m := callSpecialIfBound? (.ref x) (Str.ofString "__eq__") [b])
        (PySem.W.ifBound_K X I hs hf (wpAny_mono hcall (fun r s' hr => by
          obtain ⟨c, rfl, hq⟩ := hr
          repeat (first | exact hq | exact wpAny_pure hq | exact wpAny_truthy_bool hq | (refine wpAny_bind (m := truthy (.bool _)) (wpAny_truthy_bool ?_)) | wp_step)) fun _ _ e => e)))
    | wp_step)
theorem call_objNe {Q : Value → Shared → Prop} (hu : A.units + 1 < cLine) (X : K.In s.heap) (I : PySem.W.InstAt s.heap x ox C od) (hm : PySem.W.mroIn K C (.type "object") = some true) (hs : PySem.W.findIn K (.ref C) "__eq__" = some (some (.ref f))) (hf : PySem.W.isFn K (.ref f) = true)
    (hcall : wpAny (model prog w) A.in1 (call (.ref f) [.ref x, b]) (fun v s' => ∃ c, v = .bool c ∧ Q (.bool (!c)) s') E s) : wpAny (model prog w) A (call (.builtin "object.__ne__") [.ref x, b]) Q E s :=
  wpAny_call (codeAny_call_builtin F.cmp_object.ne.plain F.cmpEntry_ne (PySem.W.check_slot F.cmpKind_ne F.cmpSplit_ne (I.type.andThen (PySem.W.looks_mroIn X hm)) (F.cmpArgs_ne _ _)
    (entry_ne (A := A.in1) hu X I hs hf (wpAny_mono hcall (fun v s' hv => hv) fun _ _ e => e))))
theorem rc_ne {tb : Value} {Q : Value → Shared → Prop} (hu : A.units + 1 < cLine) (X : K.In s.heap) (I : PySem.W.InstAt s.heap x ox C od) (hb : PySem.W.Looks (model prog w) s.heap (typeOf b) tb) (hn : PySem.W.notFirst K C tb = true) (hm : PySem.W.mroIn K C (.type "object") = some true)
    (hne : PySem.W.findIn K (.ref C) "__ne__" = some (some (.builtin "object.__ne__"))) (hs : PySem.W.findIn K (.ref C) "__eq__" = some (some (.ref f))) (hf : PySem.W.isFn K (.ref f) = true)
    (hcall : wpAny (model prog w) A.in1 (call (.ref f) [.ref x, b]) (fun v s' => ∃ c, v = .bool c ∧ Q (.bool (!c)) s') E s) : wpAny (model prog w) A (richCompare .NotEq (.ref x) b) Q E s := by
  have one : wpAny (model prog w) A (tryCompare (.ref x) "__ne__" b) (fun r s' => ∃ v, r = some v ∧ Q v s') E s := by
    unfold tryCompare
    refine wpAny_bind (ifBound_objNe X I hne (call_objNe hu X I hm hs hf (wpAny_mono hcall (fun v s' hv => ?_) fun _ _ e => e)))
    obtain ⟨c, rfl, hq⟩ := hv
    exact ⟨c, rfl, wpAny_pure ⟨_, rfl, hq⟩⟩
  unfold richCompare
  simp only [oneThing_ref]
  refine wpAny_holding (wpAny_bind (wpAny_cRoomFor (by omega) ?_))
  rw [cmpInfo_NotEq]
  dsimp only
  refine wpAny_bind (I.type.here (wpAny_bind (hb.here ?_)))
  split
  · rename_i q
    have e : PySem.W.subIn K tb (.ref C) = some false := by
      rcases Bool.or_eq_true_iff.mp hn with e | e
      · rw [beq_iff_eq.mp e] at q; simp at q
      · exact beq_iff_eq.mp e
    refine wpAny_bind ((PySem.W.looks_subIn X e).here ?_)
    simp only [Bool.false_eq_true, if_false]
    refine wpAny_bind (wpAny_mono one (fun r s' z => ?_) fun _ _ e => e)
    obtain ⟨v, rfl, hq⟩ := z
    exact wpAny_pure hq
  · refine wpAny_bind (wpAny_pure ?_)
    simp only [Bool.false_eq_true, if_false]
    refine wpAny_bind (wpAny_mono one (fun r s' z => ?_) fun _ _ e => e)
    obtain ⟨v, rfl, hq⟩ := z
    exact wpAny_pure hq
end
/-- the other side: an instance of the class, or a tuple -/
def Side (K : PySem.W.Frag) (C : Addr) (H : Hp) (y : V) : Prop := (∃ b dy gs, y = .ref b ∧ H b = some (.ins C dy gs)) ∨ ∃ b ys, y = .ref b ∧ SqT K H b ys
/-- the class's own == -/
structure EqC (K : PySem.W.Frag) (C f : Addr) : Prop where
  hs : PySem.W.findIn K (.ref C) "__eq__" = some (some (.ref f))
  hf : PySem.W.isFn K (.ref f) = true
  ne : PySem.W.findIn K (.ref C) "__ne__" = some (some (.builtin "object.__ne__"))
  hm : PySem.W.mroIn K C (.type "object") = some true
  sT : PySem.W.subIn K (.type "tuple") (.ref C) = some false
section
variable {X : Cx} {n : Nat} {C f : Addr} {fd : FuncData} {ps : List Str} {sp : Sp}
theorem side_looks {pins : List (Addr × Obj)} {σ : St} {H : Hp} {s : Shared} {y : V} {u : Value} (I : Inv X pins σ H s) (c : EqC X.K C f) (r : RelV y u) (h : Side X.K C H y) : ∃ tb, PySem.W.Looks (model X.prog X.w) s.heap (typeOf u) tb ∧ PySem.W.notFirst X.K C tb = true := by
  rcases h with ⟨b, dy, gs, rfl, e⟩ | ⟨b, ys, rfl, e⟩
  · cases r
    obtain ⟨mB, J', _⟩ := ins_get I.hok e
    obtain ⟨od', J', _⟩ := J'.look
    exact ⟨_, J'.type, by simp [PySem.W.notFirst]⟩
  · cases r
    obtain ⟨its, rv, ⟨o, ho, hc, _⟩, _⟩ := I.tuple e
    refine ⟨.type "tuple", fun A Q E s' k q => wpAny_typeOf_ref (k _ _ ho) (by rw [hc]; exact q), ?_⟩
    unfold PySem.W.notFirst
    rw [c.sT]
    simp
def rEqOwn (C : Addr) (sp : Sp) (g : Bool → Bool) : R2 := fun x y H Q => ∃ a dx fs, x = .ref a ∧ H a = some (.ins C dx fs) ∧ Side X.K C H y ∧ sp [.ref a, y] H (fun z H' => ∃ b, z = .bl b ∧ Q (.bl (g b)) H') E0
theorem call_eq (F : FnOk X.prog X.w X.K X.mg X.base CX0 n f fd ps sp) (bd : Binds X.K fd ps []) (hl : ps.length = 2) {A : Around} (hr : Room n A) (hfr : A.frames = X.A.frames) {pins : List (Addr × Obj)} {s : Shared} {σ : St} {H : Hp} {a : Addr} {y : V} {u : Value} {R : Bool → Hp → Prop} (I : Inv X pins σ H s) (ry : RelV y u)
    (q : sp [.ref a, y] H (fun z H' => ∃ b, z = .bl b ∧ R b H') E0) : wpAny (model X.prog X.w) A (call (.ref f) [.ref a, u]) (fun v s' => ∃ c H', v = .bool c ∧ Inv X pins σ H' s' ∧ R c H') X.xe s := by
  have e0 : Env0 X.prog X.w X.K X.mg X.base A X.stack s H := by
    have e := I.env0
    exact ⟨by rw [hfr]; exact e.frames, e.mod, e.bs, e.bsz, e.funs, e.frf, e.hok, e.bare⟩
  refine wpAny_call (codeAny_mono (F.run A X.stack s H ⟨[.ref a, u], []⟩ [.ref a, u] [.ref a, y] _ E0 hr e0 (bd s [.ref a, u] I.kIn (by simp [hl])) (.cons rfl (.cons ry .nil)) q) fun r s' hq => ?_)
  cases r with
  | error e => exact (show False from hq).elim
  | ok fl =>
    cases fl with
    | ret w =>
      obtain ⟨z, H', I', rz, b, ez, qz⟩ := I.after hq
      subst ez
      cases rz
      exact ⟨b, H', rfl, I', qz⟩
    | next => exact False.elim hq
    | brk => exact False.elim hq
    | cont => exact False.elim hq
theorem op_eqOwn (c : EqC X.K C f) (F : FnOk X.prog X.w X.K X.mg X.base CX0 n f fd ps sp) (bd : Binds X.K fd ps []) (hl : ps.length = 2) (hr : Room n X.A) : OpR X (compareOp .Eq) (rEqOwn (X := X) C sp id) := by
  intro pins s σ H x y v u Q I rx ry h
  obtain ⟨a, dx, fs, rfl, ea, sd, q⟩ := h
  cases rx
  obtain ⟨mA, J, _⟩ := ins_get I.hok ea
  obtain ⟨od, J, _⟩ := J.look
  obtain ⟨tb, lk, nf⟩ := side_looks I c ry sd
  obtain ⟨m, hF⟩ := I.fr
  show wpAny _ _ (richCompare .Eq _ _) _ _ _
  refine PySem.W.cmp_K (op := .Eq) hr.units0 hF I.ok.mod.kin J lk nf c.hs c.hf (wpAny_mono (call_eq F bd hl hr rfl (R := fun b H' => Q (.bl b) H') I ry q) (fun r s' z => ?_) fun _ _ e => e)
  obtain ⟨b, H', rfl, I', qz⟩ := z
  exact ⟨.bl b, H', I', rfl, qz⟩
theorem op_neOwn (c : EqC X.K C f) (F : FnOk X.prog X.w X.K X.mg X.base CX0 n f fd ps sp) (bd : Binds X.K fd ps []) (hl : ps.length = 2) (hr : Room (n + 1) X.A) : OpR X (compareOp .NotEq) (rEqOwn (X := X) C sp (fun b => !b)) := by
  intro pins s σ H x y v u Q I rx ry h
  obtain ⟨a, dx, fs, rfl, ea, sd, q⟩ := h
  cases rx
  obtain ⟨mA, J, _⟩ := ins_get I.hok ea
  obtain ⟨od, J, _⟩ := J.look
  obtain ⟨tb, lk, nf⟩ := side_looks I c ry sd
  show wpAny _ _ (richCompare .NotEq _ _) _ _ _
  refine rc_ne (hu_of hr) I.kIn J lk nf c.hm c.ne c.hs c.hf (wpAny_mono (call_eq F bd hl (Room.in1 hr) rfl (R := fun b H' => Q (.bl (!b)) H') I ry q) (fun r s' z => ?_) fun _ _ e => e)
  obtain ⟨b, H', rfl, I', qz⟩ := z
  exact ⟨b, rfl, .bl (!b), H', I', rfl, qz⟩
end
end L2.My
/-! own classes: o + i, o & t, o | p; o[k]; len(o); o == x of any kind; a walk over o whose __iter__ gives a tuple's iterator -/
namespace L2.My
open PySem PySem.Spec PyProof.Rows L2
/-- values of builtin kinds -/
inductive Kin (H : Hp) : V → String → Prop
  | non : Kin H .non "NoneType"
  | int (i : Int) : Kin H (.int i) "int"
  | bl (b : Bool) : Kin H (.bl b) "bool"
  | str (x : Str) : Kin H (.str x) "str"
  | tup {a : Addr} {xs : List V} (e : H a = some (.tup xs)) : Kin H (.ref a) "tuple"
  | lst {a : Addr} {xs : List V} (e : H a = some (.lst xs)) : Kin H (.ref a) "list"
  | dic {a : Addr} {kvs : List (Key × V)} (e : H a = some (.dK kvs)) : Kin H (.ref a) "dict"
section
variable {X : Cx} {pins : List (Addr × Obj)} {σ : L2.St} {H : Hp} {s : Shared}
theorem Kin.looks {y : V} {u : Value} {n : String} (I : Inv X pins σ H s) (r : RelV y u) (k : Kin H y n) : PySem.W.Looks (model X.prog X.w) s.heap (typeOf u) (.type n) := by
  have at_ : ∀ {a : Addr} {n : String}, (∃ o, s.heap.get? a = some o ∧ o.cls = .type n) → PySem.W.Looks (model X.prog X.w) s.heap (typeOf (.ref a)) (.type n) := fun ⟨o, ho, hc⟩ A Q E s' k q => wpAny_typeOf_ref (k _ _ ho) (by rw [hc]; exact q)
  cases k with
  | non =>
    cases (show u = Value.none from r)
    exact PySem.W.Looks.of_pure rfl
  | int i =>
    obtain ⟨t, q⟩ := (show ∃ t, u = Value.int i t from r)
    cases q
    exact PySem.W.Looks.of_pure rfl
  | bl b =>
    cases (show u = Value.bool b from r)
    exact PySem.W.Looks.of_pure rfl
  | str x =>
    obtain ⟨t, q⟩ := (show ∃ t, u = Value.str x t from r)
    cases q
    exact PySem.W.Looks.of_pure rfl
  | tup e =>
    cases r
    obtain ⟨its, rv, ⟨o, ho, hc, _⟩, _⟩ := I.tuple (SqT.of e)
    exact at_ ⟨o, ho, hc⟩
  | lst e =>
    cases r
    obtain ⟨_, _, n, _, h1⟩ := (show ObjOk X.prog X.w H s.heap _ (.lst _) from I.hok _ _ e)
    exact at_ ⟨_, h1, rfl⟩
  | dic e =>
    cases r
    obtain ⟨_, _, vs, _, hd⟩ := dk_of I.hok e
    exact at_ hd.typeIs
/-! ### operators -/
/-- an own operator's place in its class -/
structure OpC (K : PySem.W.Frag) (C f : Addr) (nm : String) : Prop where
  hs : PySem.W.findIn K (.ref C) (PySem.dunder nm) = some (some (.ref f))
  hr : PySem.W.findIn K (.ref C) (PySem.dunderR nm) = some none
  hf : PySem.W.isFn K (.ref f) = true
  first : PySem.W.selfFirst K C = true
end
section
variable {prog : Program} {w : World} {A : Around} {E : Value → Shared → Prop} {s : Shared} {K : PySem.W.Frag} {x C f : Addr} {ox : Obj} {od : Option Obj} {b : Value}
theorem bin_T {op : Operator} {T : String} {fo ro : Option Value} {Q : Value → Shared → Prop} (X : K.In s.heap) (I : PySem.W.InstAt s.heap x ox C od) (hb : PySem.W.Looks (model prog w) s.heap (typeOf b) (.type T)) (c : OpC K C f op.info.2)
    (h1 : PySem.W.findIn K (.type T) (PySem.dunder op.info.2) = some fo) (h2 : PySem.W.findIn K (.type T) (PySem.dunderR op.info.2) = some ro) (apart : PySem.W.subIn K (.type T) (.ref C) = some false)
    (h : wpAny (model prog w) A (call (.ref f) [.ref x, b]) (PySem.W.CmpBack Q) E s) : wpAny (model prog w) A (binaryOp op (.ref x) b) Q E s := by
  obtain ⟨hs, hr, hf, first⟩ := c
  obtain ⟨cd, rest, hcd, hmro⟩ := PySem.W.ksp_first first
  generalize hi : op.info = both at hs hr h1 h2
  obtain ⟨sign, nm⟩ := both
  dsimp only at hs hr h1 h2
  have try1 := PySem.W.ksp_try X I hs hf h
  obtain ⟨hh, g, d, tt, os⟩ := s
  have k1 : PySem.W.Looks (model prog w) hh (typeOf (.ref x)) (.ref C) := I.type
  have k3 : PySem.W.Looks (model prog w) hh (fillsNumberSlot (.ref C) nm) true := PySem.W.fills_K X hcd hmro hs
  have k4 : PySem.W.Looks (model prog w) hh (fillsNumberSlot (.type T) nm) ((fo.isSome && !isSeqSlot fo) || (ro.isSome && !isSeqSlot ro)) := PySem.W.ksp_fillsT X h1 h2
  have k5 : PySem.W.Looks (model prog w) hh (isSubtype (.type T) (.ref C)) false := PySem.W.looks_subIn X apart
  have k6 : PySem.W.Looks (model prog w) hh (numberSlotInPython (.ref C) nm) true := PySem.W.ksp_inPy X hs hr (.inl rfl)
  have k7 : PySem.W.Looks (model prog w) hh (numberSlotInPython (.type T) nm) false := PySem.W.Looks.of_pure rfl
  have k8 : PySem.W.Looks (model prog w) hh (typeLookup (.type T) (PySem.dunderR nm)) ro := PySem.W.looks_findIn X h2
  generalize ((fo.isSome && !isSeqSlot fo) || (ro.isSome && !isSeqSlot ro)) = other at k4
  have differ : (Value.ref C == Value.type T) = false := Bool.eq_false_iff.mpr fun q => by cases beq_iff_eq.mp q
  simp only [binaryOp, hi]
  apply wpAny_holding
  apply wpAny_bind
  unfold binaryOp1
  refine wpAny_bind (k1.at (wpAny_bind (hb.at (wpAny_bind (k3.at ?_)))))
  simp only [differ, Bool.false_eq_true, if_false]
  have fin : wpAny (model prog w) A (tryMethod (.ref x) (PySem.dunder nm) b) (fun r s' => ∃ v, r = some v ∧ Q v s') E ⟨hh, g, d, tt, os⟩ := try1
  cases other
  · ksp_lk
    refine wpAny_mono fin (fun r s' z => ?_) fun _ _ e => e
    obtain ⟨v, rfl, hq⟩ := z
    ksp_lk
    exact hq
  · ksp_lk
    refine wpAny_mono fin (fun r s' z => ?_) fun _ _ e => e
    obtain ⟨v, rfl, hq⟩ := z
    ksp_lk
    exact hq
end
section
variable {X : Cx} {CX : CXT} {n : Nat} {C f : Addr} {fd : FuncData} {ps : List Str} {sp : Sp} {E' : XK}
/-- the method called with values, what it gives is no NotImplemented -/
theorem call_back (F : FnOk X.prog X.w X.K X.mg X.base CX n f fd ps sp) (bd : Binds X.K fd ps []) (hl : ps.length = 2) (hr : Room n X.A) (hx : Passes CX X E') {pins : List (Addr × Obj)} {s : Shared} {σ : L2.St} {H : Hp} {a : Addr} {y : V} {u : Value} {Q : VK} (I : Inv X pins σ H s) (ry : RelV y u)
    (q : sp [.ref a, y] H (fun z H' => (∃ b, z = .ref b) ∧ Q z H') E') : wpAny (model X.prog X.w) X.A (call (.ref f) [.ref a, u]) (PySem.W.CmpBack (EP X pins σ Q)) X.xe s := by
  refine wpAny_call (codeAny_mono (F.run X.A X.stack s H ⟨[.ref a, u], []⟩ [.ref a, u] [.ref a, y] _ E' hr I.env0 (bd s [.ref a, u] I.kIn (by simp [hl])) (.cons rfl (.cons ry .nil)) q) fun r s' hq => ?_)
  cases r with
  | error e => exact hx pins σ H s e s' I hq
  | ok fl =>
    cases fl with
    | ret w =>
      obtain ⟨z, H', I', rz, ⟨b, ez⟩, qz⟩ := I.after hq
      subst ez
      cases rz
      exact ⟨.ref b, H', I', rfl, qz⟩
    | next => exact False.elim hq
    | brk => exact False.elim hq
    | cont => exact False.elim hq
def rOpT (C : Addr) (T : String) (sp : Sp) (E' : XK) : R2 := fun x y H Q => ∃ a dx fs, x = .ref a ∧ H a = some (.ins C dx fs) ∧ Kin H y T ∧ sp [.ref a, y] H (fun z H' => (∃ b, z = .ref b) ∧ Q z H') E'
/-- o + i, o & t, ..: the other of a builtin kind -/
theorem op_ownT {op : Operator} {T : String} {fo ro : Option Value} (c : OpC X.K C f op.info.2) (h1 : PySem.W.findIn X.K (.type T) (PySem.dunder op.info.2) = some fo) (h2 : PySem.W.findIn X.K (.type T) (PySem.dunderR op.info.2) = some ro) (apart : PySem.W.subIn X.K (.type T) (.ref C) = some false)
    (F : FnOk X.prog X.w X.K X.mg X.base CX n f fd ps sp) (bd : Binds X.K fd ps []) (hl : ps.length = 2) (hr : Room n X.A) (hx : Passes CX X E') : OpR X (binaryOp op) (rOpT C T sp E') := by
  intro pins s σ H x y v u Q I rx ry h
  obtain ⟨a, dx, fs, rfl, ea, ky, q⟩ := h
  cases rx
  obtain ⟨mA, J, _⟩ := ins_get I.hok ea
  obtain ⟨od, J, _⟩ := J.look
  exact bin_T I.kIn J (ky.looks I ry) c h1 h2 apart (call_back F bd hl hr hx I ry q)
def rOpO (C : Addr) (sp : Sp) (E' : XK) : R2 := fun x y H Q => ∃ a dx fs b dy gs, x = .ref a ∧ H a = some (.ins C dx fs) ∧ y = .ref b ∧ H b = some (.ins C dy gs) ∧ sp [.ref a, y] H (fun z H' => (∃ b, z = .ref b) ∧ Q z H') E'
/-- o | p: the other of the same class -/
theorem op_ownO {op : Operator} (c : OpC X.K C f op.info.2) (F : FnOk X.prog X.w X.K X.mg X.base CX n f fd ps sp) (bd : Binds X.K fd ps []) (hl : ps.length = 2) (hr : Room n X.A) (hx : Passes CX X E') : OpR X (binaryOp op) (rOpO C sp E') := by
  intro pins s σ H x y v u Q I rx ry h
  obtain ⟨a, dx, fs, b, dy, gs, rfl, ea, rfl, eb, q⟩ := h
  cases rx
  cases ry
  obtain ⟨mA, J, _⟩ := ins_get I.hok ea
  obtain ⟨od, J, _⟩ := J.look
  obtain ⟨mB, J2, _⟩ := ins_get I.hok eb
  obtain ⟨od2, J2, _⟩ := J2.look
  obtain ⟨m, hF⟩ := I.fr
  exact PySem.W.binop_K hF I.ok.mod.kin J J2.type c.first c.hs c.hf (call_back F bd hl hr hx I (show RelV (V.ref b) (Value.ref b) from rfl) q)
/-! ### o[k] -/
def rIxO (C : Addr) (sp : Sp) (E' : XK) : R2 := fun x y H Q => ∃ a dx fs, x = .ref a ∧ H a = some (.ins C dx fs) ∧ sp [.ref a, y] H Q E'
theorem pe_ixOwn {a b : Expr} {ta tb : TE} {pos : Pos} (ha : PE X a ta) (hb : PE X b tb) (hs : PySem.W.findIn X.K (.ref C) "__getitem__" = some (some (.ref f))) (hf : PySem.W.isFn X.K (.ref f) = true) (hi : PySem.W.fnIn X.K f = true)
    (F : FnOk X.prog X.w X.K X.mg X.base CX n f fd ps sp) (bd : Binds X.K fd ps []) (hl : ps.length = 2) (hr : Room (n + 1) X.A) (hx : Passes CX X E')
    (hsl : ∀ (x : Addr) (i : Value), subscripted b true (.ref x) i = runValue (.builtin "lifetime.subscript" ⟨[.ref x, i], []⟩) := by intro _ _; rfl) : PE X (.Subscript a b pos) (tOp (rIxO C sp E') ta tb) := by
  refine ⟨fun pins s σ H Q I h => ?_⟩
  refine Subscript_ (binT ha hb I h fun v u s2 x y H2 I2 rx ry q => ?_)
  obtain ⟨o, dx, fs, rfl, ea, q⟩ := q
  cases rx
  obtain ⟨mA, J, _⟩ := ins_get I2.hok ea
  obtain ⟨od, J, _⟩ := J.look
  obtain ⟨m, hF⟩ := I2.fr
  refine PySem.W.sub_K hF I2.ok.mod.kin J hs hi hf ?_ (hsl _ _)
  refine wpAny_call (codeAny_mono (F.run X.A.in1 X.stack s2 H2 ⟨[.ref o, u], []⟩ [.ref o, u] [.ref o, y] _ E' (Room.in1 hr) I2.env0.in1 (bd s2 [.ref o, u] I2.kIn (by simp [hl])) (.cons rfl (.cons ry .nil)) q) fun r s' hq => ?_)
  cases r with
  | error e => exact hx pins σ H2 s2 e s' I2 hq
  | ok fl =>
    cases fl with
    | ret w =>
      obtain ⟨z, H', I', rz, qz⟩ := I2.after hq
      exact ⟨z, H', I', rz, qz⟩
    | next => exact False.elim hq
    | brk => exact False.elim hq
    | cont => exact False.elim hq
/-! ### len(o) -/
def rLenO (C : Addr) (sp : Sp) (E' : XK) : List V → Hp → VK → Prop := fun xs H Q => ∃ a dx fs, xs = [V.ref a] ∧ H a = some (.ins C dx fs) ∧ sp [.ref a] H (fun z H' => ∃ k : Nat, k < 2 ^ 62 ∧ z = .int k ∧ Q z H') E'
theorem call_lenO (hs : PySem.W.findIn X.K (.ref C) "__len__" = some (some (.ref f))) (hf : PySem.W.isFn X.K (.ref f) = true)
    (F : FnOk X.prog X.w X.K X.mg X.base CX n f fd ps sp) (bd : Binds X.K fd ps []) (hl : ps.length = 1) (hr : Room (n + 1) X.A) (hx : Passes CX X E') : CallR X (.builtin "len") (rLenO C sp E') := by
  intro pins s σ H xs us Q I r h
  obtain ⟨a, dx, fs, rfl, ea, q⟩ := h
  rw [Vals.ref1 r]
  obtain ⟨mA, J, _⟩ := ins_get I.hok ea
  obtain ⟨od, J, _⟩ := J.look
  obtain ⟨m, hF⟩ := I.fr
  refine PySem.W.len_K hF I.ok.mod.kin J hs hf ?_
  refine wpAny_call (codeAny_mono (F.run X.A.in1 X.stack s H ⟨[.ref a], []⟩ [.ref a] [.ref a] _ E' (Room.in1 hr) I.env0.in1 (bd s [.ref a] I.kIn (by simp [hl])) (.cons rfl .nil) q) fun r s' hq => ?_)
  cases r with
  | error e => exact hx pins σ H s e s' I hq
  | ok fl =>
    cases fl with
    | ret w =>
      obtain ⟨z, H', I', rz, k, kb, ez, qz⟩ := I.after hq
      subst ez
      obtain ⟨t, rfl⟩ := rz
      refine ⟨⟨by omega, ?_⟩, .int k, H', I'.tok _, ⟨_, rfl⟩, qz⟩
      have z : (2 : Nat) ^ 62 < 2 ^ 63 := by decide
      have y : ((2 : Int) ^ 63) = ((2 ^ 63 : Nat) : Int) := by decide
      rw [y]
      exact Int.ofNat_lt.mpr (Nat.lt_trans kb z)
    | next => exact False.elim hq
    | brk => exact False.elim hq
    | cont => exact False.elim hq
/-! ### o == x, x of any kind -/
/-- the other side of == -/
def SideK (K : PySem.W.Frag) (C : Addr) (H : Hp) (y : V) : Prop := (∃ b dy gs, y = .ref b ∧ H b = some (.ins C dy gs)) ∨ ∃ n, Kin H y n ∧ PySem.W.subIn K (.type n) (.ref C) = some false
theorem sideK_looks {pins : List (Addr × Obj)} {σ : L2.St} {H : Hp} {s : Shared} {y : V} {u : Value} (I : Inv X pins σ H s) (r : RelV y u) (h : SideK X.K C H y) : ∃ tb, PySem.W.Looks (model X.prog X.w) s.heap (typeOf u) tb ∧ PySem.W.notFirst X.K C tb = true := by
  rcases h with ⟨b, dy, gs, rfl, e⟩ | ⟨n, k, sub⟩
  · cases r
    obtain ⟨mB, J', _⟩ := ins_get I.hok e
    obtain ⟨od', J', _⟩ := J'.look
    exact ⟨_, J'.type, by simp [PySem.W.notFirst]⟩
  · refine ⟨_, k.looks I r, ?_⟩
    unfold PySem.W.notFirst
    rw [sub]
    simp
def rEqK (C : Addr) (sp : Sp) (g : Bool → Bool) : R2 := fun x y H Q => ∃ a dx fs, x = .ref a ∧ H a = some (.ins C dx fs) ∧ SideK X.K C H y ∧ sp [.ref a, y] H (fun z H' => ∃ b, z = .bl b ∧ Q (.bl (g b)) H') E0
theorem op_eqK (c : EqC X.K C f) (F : FnOk X.prog X.w X.K X.mg X.base CX0 n f fd ps sp) (bd : Binds X.K fd ps []) (hl : ps.length = 2) (hr : Room n X.A) : OpR X (compareOp .Eq) (rEqK (X := X) C sp id) := by
  intro pins s σ H x y v u Q I rx ry h
  obtain ⟨a, dx, fs, rfl, ea, sd, q⟩ := h
  cases rx
  obtain ⟨mA, J, _⟩ := ins_get I.hok ea
  obtain ⟨od, J, _⟩ := J.look
  obtain ⟨tb, lk, nf⟩ := sideK_looks I ry sd
  obtain ⟨m, hF⟩ := I.fr
  show wpAny _ _ (richCompare .Eq _ _) _ _ _
  refine PySem.W.cmp_K (op := .Eq) hr.units0 hF I.ok.mod.kin J lk nf c.hs c.hf (wpAny_mono (call_eq F bd hl hr rfl (R := fun b H' => Q (.bl b) H') I ry q) (fun r s' z => ?_) fun _ _ e => e)
  obtain ⟨b, H', rfl, I', qz⟩ := z
  exact ⟨.bl b, H', I', rfl, qz⟩
theorem op_neK (c : EqC X.K C f) (F : FnOk X.prog X.w X.K X.mg X.base CX0 n f fd ps sp) (bd : Binds X.K fd ps []) (hl : ps.length = 2) (hr : Room (n + 1) X.A) : OpR X (compareOp .NotEq) (rEqK (X := X) C sp (fun b => !b)) := by
  intro pins s σ H x y v u Q I rx ry h
  obtain ⟨a, dx, fs, rfl, ea, sd, q⟩ := h
  cases rx
  obtain ⟨mA, J, _⟩ := ins_get I.hok ea
  obtain ⟨od, J, _⟩ := J.look
  obtain ⟨tb, lk, nf⟩ := sideK_looks I ry sd
  show wpAny _ _ (richCompare .NotEq _ _) _ _ _
  refine rc_ne (hu_of hr) I.kIn J lk nf c.hm c.ne c.hs c.hf (wpAny_mono (call_eq F bd hl (Room.in1 hr) rfl (R := fun b H' => Q (.bl (!b)) H') I ry q) (fun r s' z => ?_) fun _ _ e => e)
  obtain ⟨b, H', rfl, I', qz⟩ := z
  exact ⟨b, rfl, .bl (!b), H', I', rfl, qz⟩
end
end L2.My
/-! iter(t) of a tuple; a walk over an instance whose __iter__ gives such an iterator -/
namespace L2.My
open PySem PySem.Spec PyProof.Rows L2
/-- a tuple's iterator that stands at the tuple's begin -/
def ItTO (t it : Addr) : HO := .ext fun h => h.IsTupleIter it t 0
theorem itT_ok {P : Program} {w : World} {H : Hp} {h : Heap} {t it : Addr} (e : h.IsTupleIter it t 0) : ObjOk P w H h it (ItTO t it) := by
  obtain ⟨o, ho, _⟩ := id e
  refine ⟨e, ⟨o, ho⟩, fun h1 h2 q k => ?_⟩
  obtain ⟨o, ho, r⟩ := q
  exact ⟨o, k _ ho, r⟩
section
variable {X : Cx}
def rIterT (K : PySem.W.Frag) (n : Nat) : List V → Hp → VK → Prop := fun xs H Q => ∃ (t : Addr) (zs : List V), xs = [.ref t] ∧ SqT K H t zs ∧ ∀ it, H it = none → n ≤ it → Q (.ref it) (upd H it (ItTO t it))
theorem call_iterT : CallR X (.builtin "iter") (rIterT X.K X.s_0.heap.objs.size) := by
  intro pins s σ H xs us Q I r h
  obtain ⟨t, zs, rfl, hq, q⟩ := h
  rw [Vals.ref1 r]
  obtain ⟨its, rv, pl, hz⟩ := I.tuple hq
  refine Calls.call_function_entry (by decide +kernel) (by decide +kernel) PySem.W.kdk_entry_iter (PySem.W.kdk_args_iter _) ?_
  unfold Builtin.«iter»
  refine wpAny_bind (m := someArgs "iter" 1 2 _) (wpAny_of_eq (a := [Value.ref t]) (by first | rfl | kernel_rfl!) ?_)
  show wpAny _ _ (pyIter (.ref t) >>= _) _ _ _
  refine wpAny_bind (wpAny_pyIter_tuple (show s.heap.IsTuple t its.toArray from pl) ?_)
  exact wpAny_pure ⟨_, rfl, .ref s.heap.objs.size, _, I.laid (t' := s.toks) (fun b u e => Heap.get?_push_of_some _ e) (Nat.le_refl _) (itT_ok ⟨_, Heap.get?_push_size _ rfl, rfl, rfl⟩), rfl, q _ (I.hok.fresh (Nat.le_refl _)) I.sz⟩
end
/-- an __iter__ whose whole body is return iter(self.f), f a tuple -/
structure IterC (P : Program) (w : World) (K : PySem.W.Frag) (mg : Str → Option Value) (base : Heap) (C f : Addr) (fld : Str) : Prop where
  hs : PySem.W.findIn K (.ref C) "__iter__" = some (some (.ref f))
  hf : PySem.W.isFn K (.ref f) = true
  run : ∀ (A : Around) (outer : List Env) (s : Shared) (H : Hp) (a dx t : Addr) (fs : List (Str × V)) (zs : List V) (Q : VK), Room 1 A → Env0 P w K mg base A outer s H → H a = some (.ins C dx fs) → fs.lookup fld = some (.ref t) → SqT K H t zs →
    (∀ it, H it = none → s.heap.objs.size ≤ it → Q (.ref it) (upd H it (ItTO t it))) → codeAny (model P w) A (.call (.ref f) ⟨[.ref a], []⟩) (CR CX0 outer P w H s Q E0) s
theorem tupiter_next : typeLookup (.type "tuple_iterator") "__next__" = pure (some (.builtin "tuple_iterator.__next__")) := by rw [typeLookup_type, builtinLookup_eq_fast]; kernel_rfl
section
variable {X : Cx} {C f : Addr} {fld : Str} {tg e : Expr} {te : TE}
def iOwn (K : PySem.W.Frag) (C : Addr) (fld : Str) (te : TE) : TI := fun σ H R => te σ H fun x H1 => ∃ a dx fs t zs, x = .ref a ∧ H1 a = some (.ins C dx fs) ∧ fs.lookup fld = some (.ref t) ∧ SqT K H1 t zs ∧ R (Itt K t) H1
theorem pi_own (c : IterC X.prog X.w X.K X.mg X.base C f fld) (hr : Room 1 X.A) (he : PE X e te) : PI X tg e (iOwn X.K C fld te) := by
  refine ⟨fun pins s σ H R I h => ?_⟩
  refine thn (he.run pins s σ H _ I h) fun v s1 ⟨x, H1, I1, r1, a, dx, fs, t, zs, ex, ea, lk, ht, q⟩ => ?_
  subst ex
  cases r1
  obtain ⟨mA, J, _⟩ := ins_get I1.hok ea
  obtain ⟨od, J, _⟩ := J.look
  obtain ⟨m, hF⟩ := I1.fr
  refine PySem.W.owit_iter hF I1.ok.mod.kin J c.hs c.hf ?_
  refine wpAny_call (codeAny_mono (c.run X.A X.stack s1 H1 a dx t fs zs (fun v H' => ∃ it, v = .ref it ∧ H1 it = none ∧ s1.heap.objs.size ≤ it ∧ H' = upd H1 it (ItTO t it)) hr I1.env0 ea lk ht fun it n l => ⟨it, rfl, n, l, rfl⟩) fun r s' hq => ?_)
  cases r with
  | error e => exact (show False from hq).elim
  | ok fl =>
    cases fl with
    | ret w =>
      obtain ⟨z, H', I2, rz, it, ez, nIt, lIt, eH⟩ := I1.after hq
      subst ez eH
      cases rz
      have at_ : s'.heap.IsTupleIter it t 0 := (I2.hok it _ upd_same).1
      have ty : s'.TypeIs (.ref it) "tuple_iterator" := at_.typeIs
      show wpAny _ _ (specialOf (.ref it) "__next__") _ _ _
      refine wpAny_specialOf ty tupiter_next ?_
      refine ⟨it, [it], _, Itt X.K t, H1, rfl, ?_, turn_tuple t it, at_, fun b hb => ?_, q⟩
      · have z := ItX.inv_drop I2 upd_same
        rw [ItX.dropH_upd nIt] at z
        exact z
      · rw [List.mem_singleton.mp hb]
        have z := ItX.inv_fp I2 upd_same (Nat.le_trans I1.sz lIt)
        rw [ItX.dropH_upd nIt] at z
        exact z
    | next => exact False.elim hq
    | brk => exact False.elim hq
    | cont => exact False.elim hq
end
end L2.My
/-! name = a dict comprehension; {**a, **b} -/
namespace L2.My
open PySem PySem.Spec PyProof.Rows L2
section
variable {X : Cx}
theorem swD_true {kx vx : Expr} {gs : List Comprehension} {scope : Scope} {pos py : Pos} {y : Str} {l : Nat} {env : Env} (fk : env.scope.kind = .function) (yl : env.scope.names.lookup y = some .local) (line : (py.line == pos.line) = true)
    (free : (scope.names.any fun (n, k) => n == y && (k == .local || k == .cell)) = false) : swapsWith (.DictComp kx vx gs scope pos) (some (.Name y py)) l env = pure true := by
  have k1 : env.kindOf y = some .local := yl
  have k2 : env.blockKind = .function := by
    unfold Env.blockKind
    rw [fk]
    rfl
  unfold swapsWith
  simp only [k2, k1, free, Expr.pos, line]
  rfl
theorem ps_setDc {i : Nat} {y : Str} {py : Pos} {kx vx tg iter : Expr} {ifs : List Expr} {scope : Scope} {own : List (Str × Nat)} {pos spos : Pos} {wi : TI} {g : TG} {tt : L2.TT} {tk tv : TE} (hc : X.calm = true) (hN : X.N.Nodup) (hy : X.N[i]? = some y) (hyl : X.env.scope.names.lookup y = some .local)
    (hsw : swapsWith (.DictComp kx vx [⟨tg, iter, ifs, 0⟩] scope pos) (some (.Name y py)) spos.line X.env = pure true) (hi : PI X tg iter wi) (ok : BlkOk X.N X.env.scope scope own)
    (hg : ∀ (s : Shared) (H : Hp) (C : Addr) (cl : List (Str × Addr)) (fp : List Addr), PG (X.blk s H scope (compEnvC scope cl C X.env) fp) tg g) (ht : ∀ (s : Shared) (H : Hp) (C : Addr) (cl : List (Str × Addr)) (fp : List Addr), PTs (X.blk s H scope (compEnvC scope cl C X.env) fp) ifs tt)
    (hk : ∀ (s : Shared) (H : Hp) (C : Addr) (cl : List (Str × Addr)) (fp : List Addr), PE (X.blk s H scope (compEnvC scope cl C X.env) fp) kx tk)
    (he : ∀ (s : Shared) (H : Hp) (C : Addr) (cl : List (Str × Addr)) (fp : List Addr), PE (X.blk s H scope (compEnvC scope cl C X.env) fp) vx tv) (hs : ∀ x, foldedSetIterable iter X.env x = pure x := by intro _; rfl) :
    PS X (.Assign [.Name y py] (.DictComp kx vx [⟨tg, iter, ifs, 0⟩] scope pos) spos) (tAsg (tDc wi g tt tk tv (own.map (·.2))) (gName i)) := by
  refine ⟨fun pins s σ H D I h => ?_⟩
  rw [exec_Assign_Name_used _ _ _ _ hsw]
  refine wpAny_bind (wpAny_standAt (wpAny_bind ?_))
  show wpAny _ X.A (do let _ ← comprehension (.DictComp kx vx [⟨tg, iter, ifs, 0⟩] scope pos) scope X.env (firstIterPos [⟨tg, iter, ifs, 0⟩] pos) newDict false (eval iter X.env) (some (assign (.Name y py) X.env))) _ _ s
  have h : tDc wi g tt tk tv (own.map (·.2)) σ H (fun x H1 => gName i x σ H1 D.nx) := h
  refine wpAny_bind (thn (dc_core (Qf := fun _ s' => SP X pins D .next s') hc hN I hi ok hg ht hk he hs h fun L C s' m H' I' q hn f => ?_) fun _ s' z => wpAny_pure (wpAny_pure z))
  show wpAny _ _ (assign (.Name y py) X.env (.ref L)) _ _ _
  refine wpAny_assign_Name (store_ok2 (v := V.ref L) I' hN hy (.inl hyl) rfl (fun s2 I2 ⟨a, sb, ha⟩ => ?_) (.inr hyl))
  obtain ⟨f0, f1, f2, f3, f4, f5⟩ := f
  have apart : C ≠ a := by
    rcases ha with z | z
    · rw [z]
      exact f1
    · exact fun e => f4 y a z e.symm
  refine ⟨m, hn.sameBut sb apart, fun h3 sb3 => ?_⟩
  exact ⟨_, H', I2.turned (t' := s2.toks) (fun b o hb e => (sb3.2 b hb).trans e) f0 f1 f3 f4 f5, q⟩
end
/-! ### {**a, **b} -/
section
variable {prog : Program} {w : World} {A : Around} {E : Value → Shared → Prop} {s : Shared}
theorem put_pairs {d : Addr} {kvs : List (Key × Value)} {k : Key} {key v : Value} {Q : Unit → Shared → Prop} (is_k : (mixKind prog w).is k key = true) (at_ : s.heap.DictOf (mixKind prog w) d kvs) (small : kvs.length ≤ sizeLine)
    (done : ∀ h', h'.DictOf (mixKind prog w) d (stored kvs k v) → Heap.SameBut d s.heap h' → Q () { s with heap := h' }) : wpAny (model prog w) A (dictPut d ((mixKind prog w).hash k) key v) Q E s := by
  obtain ⟨o, es, ep, ho, hc, hd, ks, ps, nd⟩ := at_
  have es_small : es.size ≤ sizeLine := by
    have e1 := ps.length
    rw [Array.length_toList] at e1
    omega
  have same : (es.findIdx? fun e => (mixKind prog w).is k e.key) = kvs.findIdx? fun kv => decide (kv.1 = k) := by
    rw [← ps.findIdx k]
    obtain ⟨l⟩ := es
    simp
  unfold dictPut
  refine wpAny_bind (wpAny_dictFind_of is_k ho hd ks ?_)
  cases found : es.findIdx? fun e => (mixKind prog w).is k e.key with
  | some i =>
    rw [found] at same
    have there := any_of_findIdx_some same.symm
    refine wpAny_updateDict ho hd (done _ ⟨_, _, ep, Heap.get?_update_self _ ho (Obj.isFreed_of_dict (Obj.data_mapDict hd _)), hc.mapDict _, Obj.data_mapDict hd _, ks.modify _ _, ?_, ?_⟩ (Heap.SameBut.update ..))
    · rw [stored, if_pos there]
      have li : (es.toList.findIdx? fun e => (mixKind prog w).is k e.key) = some i := by
        rw [← found]
        obtain ⟨l⟩ := es
        simp
      have z := ps.modify nd li v
      obtain ⟨l⟩ := es
      simpa using z
    · rw [stored, if_pos there, keys_map_store]
      exact nd
  | none =>
    rw [found] at same
    have no := not_mem_of_findIdx_none same.symm
    have none_ : ¬ (kvs.any fun kv => decide (kv.1 = k)) = true := by
      rw [List.any_eq_true]
      rintro ⟨kv, m, e⟩
      exact no (List.mem_map.mpr ⟨kv, m, of_decide_eq_true e⟩)
    refine wpAny_updateDictKeys (hz := es_small) ho hd (done _ ⟨_, _, ep + 1, Heap.get?_update_self _ ho (Obj.isFreed_of_dict (Obj.data_mapDictKeys hd _)), hc.mapDictKeys _, Obj.data_mapDictKeys hd _, ks.push is_k _, ?_, ?_⟩ (Heap.SameBut.update ..))
    · rw [stored, if_neg none_]
      have z := ps.append is_k ((mixKind prog w).hash k) v
      obtain ⟨l⟩ := es
      simpa using z
    · rw [stored, if_neg none_, List.map_append, List.nodup_append]
      refine ⟨nd, by simp, fun a ma b mb => ?_⟩
      simp only [List.map_cons, List.map_nil, List.mem_singleton] at mb
      subst mb
      exact fun e => no (e ▸ ma)
/-- the pairs of a dict put into another one -/
theorem merge_pairs {d o : Addr} {kvs more : List (Key × Value)} {Q : Unit → Shared → Prop} (apart : d ≠ o) (lo : (o == sysModules) = false) (hd : s.heap.DictOf (mixKind prog w) d kvs) (ho : s.heap.DictOf (mixKind prog w) o more) (small : kvs.length + more.length ≤ sizeLine)
    (done : ∀ h', h'.DictOf (mixKind prog w) d (merged kvs more) → Heap.SameBut d s.heap h' → Q () { s with heap := h' }) : wpAny (model prog w) A (mergeMapping d (.ref o) false) Q E s := by
  obtain ⟨oo, eso, epo, hoo, hco, hdo, hko, hpo, hno⟩ := id ho
  obtain ⟨od, esd, epd, hod, hcd, hdd, hkd, hpd, hnd⟩ := id hd
  have len : more.length = eso.size := by rw [← hpo.length, Array.length_toList]
  unfold mergeMapping
  refine wpAny_bind (wpAny_isInstance ho.typeIs isSubtype_dict_dict ?_)
  dsimp only
  simp only [if_true]
  refine wpAny_bind (wpAny_specialOf ho.typeIs F.slot_dict_iter.lookup ?_)
  refine wpAny_bind (wpAny_pure ?_)
  simp only [beq_self_eq_true]
  rw [if_neg (by rw [lo]; exact Bool.false_ne_true)]
  simp only [Bool.false_eq_true, if_false]
  have rest : wpAny (model prog w) A (do
      let l ← dictEntries o
      let epoch ← dictEpoch o
      forIn (List.range l.size) PUnit.unit fun i (_ : PUnit) => (do
          let l2 ← dictEntries o
          match l2[i]? with
            | some e => do
              holding [e.key, e.val] (dictPut d e.hash e.key e.val)
              let now ← dictEpoch o
              if (now != epoch) = true then do
                  (unsupported "dict.changed-during-merge" : Sem PUnit)
                  pure (ForInStep.yield PUnit.unit)
                else pure (ForInStep.yield PUnit.unit)
            | x => do
              (unsupported "dict.changed-during-merge" : Sem PUnit)
              pure (ForInStep.yield PUnit.unit) : Sem (ForInStep PUnit))
      pure ()) Q E s := by
    refine wpAny_bind (wpAny_dictEntries hoo hdo ?_)
    refine wpAny_bind (wpAny_dictEpoch hoo hdo ?_)
    apply wpAny_bind
    refine wpAny_forIn_list _ (fun left _ s1 => ∃ h1 i, s1 = { s with heap := h1 } ∧ left = List.range' i (eso.size - i) ∧ i ≤ eso.size ∧ h1.DictOf (mixKind prog w) d (merged kvs (more.take i)) ∧ h1.get? o = some oo ∧ Heap.SameBut d s.heap h1)
      _ ?turn ?stop _ _ ⟨s.heap, 0, rfl, by rw [List.range_eq_range']; simp, Nat.zero_le _, by simpa [merged] using hd, hoo, Heap.SameBut.refl _ _⟩
    case stop =>
      rintro b s1 ⟨h1, i, rfl, el, il, at1, ho1, sb1⟩
      have last : i = eso.size := by
        rcases Nat.lt_or_ge i eso.size with lt | ge
        · obtain ⟨k, e⟩ : ∃ k, eso.size - i = k + 1 := ⟨eso.size - i - 1, by omega⟩
          rw [e, List.range'_succ] at el
          cases el
        · exact Nat.le_antisymm il ge
      rw [last, ← len, List.take_length] at at1
      exact wpAny_pure (done h1 at1 sb1)
    case turn =>
      rintro x left b s1 ⟨h1, i, rfl, el, il, at1, ho1, sb1⟩
      have lt : i < eso.size := by
        rcases Nat.lt_or_ge i eso.size with lt | ge
        · exact lt
        · rw [Nat.sub_eq_zero_of_le ge] at el
          cases el
      obtain ⟨k, e⟩ : ∃ k, eso.size - i = k + 1 := ⟨eso.size - i - 1, by omega⟩
      rw [e, List.range'_succ] at el
      obtain ⟨rfl, eleft⟩ : x = i ∧ left = List.range' (i + 1) k := by
        injection el with e1 e2
        exact ⟨e1, e2⟩
      refine wpAny_bind (wpAny_dictEntries ho1 hdo ?_)
      rw [Array.getElem?_eq_getElem lt]
      dsimp only
      obtain ⟨⟨key, val⟩, at2⟩ : ∃ kv, more[x]? = some kv := ⟨more[x]'(by rw [len]; exact lt), List.getElem?_eq_getElem _⟩
      obtain ⟨is_key, is_val⟩ := hpo.get? (e := eso[x]) (by simp [lt]) at2
      obtain ⟨key2, is_key2, hash2⟩ := hko eso[x] (Array.getElem_mem lt)
      obtain rfl : key2 = key := (mixKind prog w).inj _ _ _ is_key2 is_key
      rw [hash2, is_val]
      have l1 : (merged kvs (more.take x)).length ≤ sizeLine := by
        have z1 := merged_length_le kvs (more.take x)
        have z2 : (more.take x).length ≤ more.length := by
          rw [List.length_take]
          omega
        omega
      refine wpAny_bind (wpAny_holding (put_pairs is_key at1 l1 fun h2 at3 sb2 => ?_))
      have ho2 : h2.get? o = some oo := (sb2.2 o (Ne.symm apart)).trans ho1
      refine wpAny_bind (wpAny_dictEpoch ho2 hdo ?_)
      rw [if_neg (by simp)]
      exact wpAny_pure ⟨h2, x + 1, rfl, by rw [eleft, show eso.size - (x + 1) = k by omega], lt, by rw [merged_take_succ kvs more x (key2, val) at2]; exact at3, ho2, sb1.trans sb2⟩
  refine wpAny_bind (wpAny_dictEntries hod hdd ?_)
  split
  · refine wpAny_bind (wpAny_dictEntries hoo hdo ?_)
    refine wpAny_bind ?_
    rw [← Array.forIn_toList]
    refine wpAny_forIn_list _ (fun left _ s1 => s1 = s ∧ ∀ e ∈ left, e ∈ eso.toList) _ ?turn ?stop _ _ ⟨rfl, fun e he => he⟩
    case stop =>
      rintro b s1 ⟨rfl, _⟩
      exact rest
    case turn =>
      rintro e left b s1 ⟨rfl, all⟩
      have later : ∀ e ∈ left, e ∈ eso.toList := fun e he => all e (List.mem_cons_of_mem _ he)
      obtain ⟨k, is_k, _⟩ := hko e (by simpa using all e (List.mem_cons_self ..))
      rcases keyIs_shape is_k with ⟨i, t, _, ek⟩ | ⟨z, t, _, ek⟩
      · rw [ek]
        exact wpAny_pure ⟨rfl, later⟩
      · rw [ek]
        exact wpAny_pure ⟨rfl, later⟩
  · exact rest
end
end L2.My
/-! {**a, **b} as a rule -/
namespace L2.My
open PySem PySem.Spec PyProof.Rows L2
section
variable {X : Cx} {ea eb : Expr} {ta tb : TE} {pos : Pos}
/-- D the new dict; each dict is put into it as soon as it is there -/
def tTwoD (ta tb : TE) : TE := fun σ H Q => ∀ D, H D = none → ta σ (upd H D (.dK [])) fun x H1 => ∃ a ka, x = .ref a ∧ a ≠ D ∧ H1 a = some (.dK ka) ∧ H1 D = some (.dK []) ∧
  tb σ (upd H1 D (.dK (mergeK [] ka))) fun y H2 => ∃ b kb, y = .ref b ∧ b ≠ D ∧ H2 b = some (.dK kb) ∧ H2 D = some (.dK (mergeK [] ka)) ∧ (mergeK [] ka).length + kb.length ≤ sizeLine ∧ Q (.ref D) (upd H2 D (.dK (mergeK (mergeK [] ka) kb)))
theorem merge_step {pins : List (Addr × Obj)} {σ : L2.St} {H : Hp} {s : Shared} {D a : Addr} {kd ka : List (Key × V)} {E : Value → Shared → Prop} {Q : Unit → Shared → Prop} (I : Inv X pins σ H s) (ne : a ≠ D) (ea : H a = some (.dK ka)) (eD : H D = some (.dK kd)) (sz : kd.length + ka.length ≤ sizeLine)
    (k : ∀ s', Inv X pins σ (upd H D (.dK (mergeK kd ka))) s' → Q () s') : wpAny (model X.prog X.w) X.A (mergeMapping D (.ref a) false) Q E s := by
  obtain ⟨_, la, va, ra, da⟩ := dk_of I.hok ea
  obtain ⟨_, lD, vD, rD, dD⟩ := dk_of I.hok eD
  refine merge_pairs (Ne.symm ne) la dD da (by rw [← rD.length, ← ra.length]; exact sz) fun h' at_ sb => k _ ?_
  have there : ∃ q, h'.get? D = some q := by
    obtain ⟨q, _, _, hq, _⟩ := at_
    exact ⟨q, hq⟩
  have len : (mergeK kd ka).length ≤ sizeLine := Nat.le_trans (length_mergeK ka kd) sz
  exact d_write I (by rw [eD]; exact True.intro) sb there (dk_new len lD (KV.merge ra rD) at_)
theorem pe_twoD (ha : PE X ea ta) (hb : PE X eb tb) : PE X (.Dict [none, none] [ea, eb] pos) (tTwoD ta tb) := by
  refine ⟨fun pins s σ H Q I h => ?_⟩
  have new : H s.heap.objs.size = none := I.hok.fresh (Nat.le_refl _)
  have I1 := I.laid (a := s.heap.objs.size) (o := .dK []) (h' := s.heap.push { cls := .type "dict", data := .dict #[] }) (t' := s.toks) (fun _ _ q => Heap.get?_push_of_some _ q) (Nat.le_refl _) (dk_empty s.heap I.big)
  have q := h s.heap.objs.size new
  rw [arm_eval_Dict]
  refine wpAny_bind (wpAny_standAt ?_)
  show wpAny _ _ (dictDisplay [(none, do let x ← eval ea X.env; standAt pos; pure x), (none, do let x ← eval eb X.env; standAt pos; pure x)]) _ _ s
  unfold dictDisplay
  dsimp only
  simp only [List.forIn_cons, List.forIn_nil, List.isEmpty_nil, if_true]
  refine wpAny_bind (wpAny_bind ?_)
  refine wpAny_bind (wpAny_pure ?_)
  dsimp only
  refine wpAny_bind (wpAny_alloc ?_)
  revert I1 q
  generalize hD : s.heap.objs.size = D
  intro I1 q
  refine wpAny_bind (wpAny_holding (wpAny_bind (thn (ha.run pins _ σ _ _ I1 q) fun v s1 ⟨x, H1, I2, rx, a, ka, ex, ne, ea1, eD, q2⟩ => wpAny_bind (wpAny_standAt (wpAny_pure ?_)))))
  subst ex
  obtain rfl : v = Value.ref a := rx
  have sz1 : ([] : List (Key × V)).length + ka.length ≤ sizeLine := by
    obtain ⟨z, _⟩ := dk_of I2.hok ea1
    simpa using z
  refine wpAny_bind (wpAny_onRaise (wpAny_tryCatch (wpAny_onRaise (wpAny_holding (merge_step I2 ne ea1 eD sz1 fun s2 I3 => ?_)))))
  refine wpAny_pure ?_
  dsimp only
  apply wpAny_bind
  refine wpAny_bind (wpAny_pure ?_)
  dsimp only
  refine wpAny_bind (wpAny_pure ?_)
  refine wpAny_bind (wpAny_holding (wpAny_bind (thn (hb.run pins s2 σ _ _ I3 q2) fun v3 s3 ⟨y, H2, I4, ry, b, kb, ey, ne2, eb1, eD2, sz2, q3⟩ => wpAny_bind (wpAny_standAt (wpAny_pure ?_)))))
  subst ey
  obtain rfl : v3 = Value.ref b := ry
  refine wpAny_bind (wpAny_onRaise (wpAny_tryCatch (wpAny_onRaise (wpAny_holding (merge_step I4 ne2 eb1 eD2 sz2 fun s4 I5 => ?_)))))
  refine wpAny_pure ?_
  dsimp only
  refine wpAny_pure ?_
  dsimp only
  refine wpAny_bind (wpAny_pure ?_)
  exact wpAny_pure ⟨.ref D, _, I5, rfl, q3⟩
end
end L2.My
namespace K56
open PySem L2
open L2.My
open Liv
abbrev mInit : Stmt := inClass (top 28) 0
theorem dget_of {H : Hp} {a : Addr} {kvs : List (Key × V)} {k : Key} {v : V} (r : Rd H a (.dK kvs)) (h : valV kvs k = some v) : DGet H a (kV k) (some v) := .inl ⟨kvs, k, r, rfl, h.symm⟩
/-- all but the object at x is kept -/
def ButX (x : Addr) (H H' : Hp) : Prop := ∀ b o, b ≠ x → H b = some o → H' b = some o
theorem ButX.of {x : Addr} {H H' : Hp} (s : Same H H') : ButX x H H' := fun b o _ e => s _ _ e
theorem ButX.trans {x : Addr} {H H1 H2 : Hp} (a : ButX x H H1) (b : ButX x H1 H2) : ButX x H H2 := fun c o n e => b _ _ n (a _ _ n e)
theorem ButX.put {x : Addr} {H : Hp} {o : HO} : ButX x H (upd H x o) := fun b u n e => by rw [upd_ne n]; exact e
theorem ButX.same {x : Addr} {H0 H H' : Hp} (s : Same H0 H) (b : ButX x H H') (n : H0 x = none) : Same H0 H' := fun c o e => b _ _ (ne_of_none e n) (s _ _ e)
theorem ButX.tup {x C dx t : Addr} {H H' : Hp} {fs : List (Str × V)} {ys : List V} (b : ButX x H H') (ex : H x = some (.ins C dx fs)) (e : H t = some (.tup ys)) : H' t = some (.tup ys) := b _ _ (ne_of e ex (fun z => by cases z)) e
theorem ButX.dic {x C dx t : Addr} {H H' : Hp} {fs : List (Str × V)} {ys : List (Key × V)} (b : ButX x H H') (ex : H x = some (.ins C dx fs)) (e : H t = some (.dK ys)) : H' t = some (.dK ys) := b _ _ (ne_of e ex (fun z => by cases z)) e
theorem ButX.rv {x C dx : Addr} {H H' : Hp} {fs : List (Str × V)} {kvs : List (Key × V)} {R : List Row} (b : ButX x H H') (ex : H x = some (.ins C dx fs)) (r : Rv H kvs R) : Rv H' kvs R := r.mono fun t l e => b.tup ex e
theorem Rv.snoc {H : Hp} {kvs : List (Key × V)} {R : List Row} {r : Row} {t : Addr} (h : Rv H kvs R) (e : LifeAt H t r.2) : Rv H (kvs ++ [(Sum.inr r.1, .ref t)]) (R ++ [r]) := by
  induction h with
  | nil => exact .cons ⟨rfl, t, rfl, e⟩ .nil
  | cons x _ ih => exact .cons x ih
theorem Rv.strs {H : Hp} {kvs : List (Key × V)} {R : List Row} (h : Rv H kvs R) : (kvs.map fun kv => kV kv.1) = (Liv.keys R).map V.str := by
  have e : (kvs.map fun kv => kV kv.1) = (kvs.map (·.1)).map kV := by
    rw [List.map_map]
    rfl
  rw [e, h.keys, List.map_map]
  rfl
theorem Rv.vals {H : Hp} {kvs : List (Key × V)} {R : List Row} (h : Rv H kvs R) : ∃ ts : List Addr, kvs.map Prod.snd = ts.map V.ref ∧ Paired (fun t l => LifeAt H t l) ts (lives R) := by
  induction h with
  | nil => exact ⟨[], rfl, .nil⟩
  | cons x _ ih =>
    obtain ⟨_, t, e, el⟩ := x
    obtain ⟨ts, e2, p⟩ := ih
    refine ⟨t :: ts, ?_, .cons el p⟩
    rw [List.map_cons, List.map_cons, e, e2]
theorem IsRows.lvg {R : List Row} (g : IsRows R) : Lvg (lives R) := ⟨by rw [List.length_map]; exact g.few, fun l h => by
  obtain ⟨r, hr, rfl⟩ := List.mem_map.mp h
  exact g.life r hr⟩
theorem IsRows.perm {R U : List Row} (g : IsRows U) (p : R.Perm U) : IsRows R := ⟨by rw [p.length_eq]; exact g.few, fun r h => g.key r (p.mem_iff.mp h), fun r h => g.life r (p.mem_iff.mp h)⟩
theorem put_x {C x dx : Addr} {H : Hp} {fs' : List (Str × V)} : ∃ H', upd H x (.ins C dx fs') = H' ∧ ButX x H H' ∧ H' x = some (.ins C dx fs') := ⟨_, rfl, ButX.put, upd_same⟩
def total (ls : List Lf) : Int := (ls.map fun l => l.2 - l.1).sum
abbrev flds (n : Nat) (D N : Addr) (ls : List Lf) : List (Str × V) := [("_interval", .int n), ("_rows", .ref D), ("_names", .ref N), ("_most", .int (most n ls)), ("_total", .int (total ls))]
/-- lives as an object -/
structure LvAt (C : Addr) (H : Hp) (x : Addr) (n : Nat) (R : List Row) (dx D N : Addr) : Prop where
  ob : H x = some (.ins C dx (flds n D N (lives R)))
  rows : RowsAt H D R
  names : H N = some (.tup ((keys R).map V.str))
  ord : Ord R
  ok : IsRows R
  n0 : 0 < n
  n1 : n ≤ 32
def LivesAt (C : Addr) (H : Hp) (x : Addr) (n : Nat) (R : List Row) : Prop := ∃ dx D N, LvAt C H x n R dx D N
theorem LvAt.same {C x n dx D N : Addr} {H H' : Hp} {R : List Row} (l : LvAt C H x n R dx D N) (s : Same H H') : LvAt C H' x n R dx D N := ⟨s _ _ l.ob, l.rows.same s, s _ _ l.names, l.ord, l.ok, l.n0, l.n1⟩
theorem LivesAt.same {C x n : Addr} {H H' : Hp} {R : List Row} (l : LivesAt C H x n R) (s : Same H H') : LivesAt C H' x n R := by
  obtain ⟨dx, D, N, l⟩ := l
  exact ⟨dx, D, N, l.same s⟩
structure CTxt (K : PySem.W.Frag) (C : Addr) : Prop where
  cl : Cls K C
  nI : NoAttr K C "_interval"
  nR : NoAttr K C "_rows"
  nN : NoAttr K C "_names"
  nM : NoAttr K C "_most"
  nT : NoAttr K C "_total"
section
variable {P : Program} {w : World} {K : PySem.W.Frag} {mg : Str → Option Value} {base : Heap}
def spInit (C : Addr) : Sp := fun vs H Q _ => ∃ (H0 : Hp) (x dx : Addr) (n : Nat) (D : Addr) (U : List Row), vs = [.ref x, .int n, .ref D] ∧ Same H0 H ∧ H0 x = none ∧ H x = some (.ins C dx []) ∧ H0 dx = none ∧ RowsAt H D U ∧ (keys U).Nodup ∧ IsRows U ∧ 0 < n ∧ n ≤ 32 ∧
  ∀ H' R, Same H0 H' → R.Perm U → LivesAt C H' x n R → (∀ dx m Dx Nx ls, H' x = some (.ins C dx (flds m Dx Nx ls)) → H0 Dx = none) → Q .non H'
abbrev n_in : List Str := ["self", "interval", "rows", "key", "begin", "end"]
theorem sl_in : FnScope n_in ["self", "interval", "rows"] (defScope mInit) := ⟨rfl, rfl, rfl, by decide +kernel, rfl, by decide +kernel, by decide +kernel⟩
theorem ok_in {f fcn frw fmo : Addr} {fd fdcn fdrw fdmo : FuncData} (F : Fun K "__init__" "Lives.__init__" mInit f fd) {C : Addr} (T : Txt mg) (X : CTxt K C) {tI : Tok} (hI : mg "MAX_INTERVAL" = some (.int 32 tI)) (dcn : Dn P w K mg base CX0 "check_number" ["value", "least", "most"] 4 spChkN fcn fdcn) (drw : Dn P w K mg base CX0 "is_rows" ["value"] 4 spRows frw fdrw) (dmo : Dn P w K mg base CX0 "most_alive" ["rows", "interval"] 2 spMost fmo fdmo) : FnOk P w K mg base CX0 5 f fd ["self", "interval", "rows"] (spInit C) := by
  refine F.ok sl_in (fun vs H Q E h => ?_) (fun cdv A outer s H vs Q E hr h => ?_)
  · obtain ⟨H0, x, dx, n, D, U, rfl, _⟩ := h
    rfl
  · obtain ⟨H0, x, dx, n, D, U, rfl, s0, nx, ex, ndx, er, nd, gr, n0, n1, k⟩ := h
    have hr2 : Room 2 _ := hr.mono (by decide)
    refine ⟨_, pss_cons (ps_expr (pe_call dcn.G hr rfl dcn.g dcn.kp dcn.b .nil pass0 (pa_cons (pv 1) (pa_cons pe_int (pa_cons (pe_glob (v := .int 32) rfl hI ⟨_, rfl⟩) pa_nil))))) (pss_cons (ps_if (pt_not (pt_val (pe_call drw.G hr rfl drw.g drw.kp drw.b .nil pass0 (pa_cons (pv 2) pa_nil)))) pss_never pss_nil) (pss_cons (ps_fld (pv 0) (pv 1) rfl) (pss_cons (ps_fld (pv 0) (pe_dc (own := [("key", 3)]) (g := gName 3) (tt := tYes) (by rfl) sl_in.nd (pi_list (pe_callB (call_sortedD rfl) (by rfl) T.sorted (by decide +kernel) (pa_cons (pv 2) pa_nil))) (blkOk_by (own := [("key", 3)]) (N := n_in) (sc := defScope mInit) (by decide +kernel)) (fun _ _ _ _ _ => pg_name (i := 3) sl_in.nd rfl (Or.inl rfl)) (fun _ _ _ _ _ => pts_nil) (fun _ _ _ _ _ => pv 3) (fun _ _ _ _ _ => pe_dget (Room.one_up hr) (pv 2) (pv 3) (fun _ _ => rfl))) rfl) (pss_cons (ps_fld (pv 0) (pe_callTy (call_tupD rfl) (by rfl) T.tuple (by decide +kernel) (pa_cons (pe_fld (pv 0) rfl) pa_nil)) rfl) (pss_cons (ps_fld (pv 0) (pe_call dmo.G hr2 rfl dmo.g dmo.kp dmo.b .nil pass0 (pa_cons (pe_listVals rfl (pe_fld (pv 0) rfl) rfl T.list (by decide +kernel)) (pa_cons (pv 1) pa_nil))) rfl) (pss_one (ps_fld (pv 0) (pe_callB (cr_sum rfl) (by rfl) T.sum (by decide +kernel) (pa_cons (pe_lock (pe_lc (own := [("begin", 4), ("end", 5)]) (g := gTup K 2 (gCons (gName 4) (gCons (gName 5) gNil))) (tt := tYes) (by rfl) sl_in.nd (pi_values (pe_fld (pv 0) rfl)) (blkOk_by (own := [("begin", 4), ("end", 5)]) (N := n_in) (sc := defScope mInit) (by decide +kernel)) (fun _ _ _ _ _ => pg_tup rfl (pgs_cons (pg_name (i := 4) sl_in.nd rfl (Or.inl rfl)) (pgs_cons (pg_name (i := 5) sl_in.nd rfl (Or.inl rfl)) pgs_nil))) (fun _ _ _ _ _ => pts_nil) (fun _ _ _ _ _ => pe_op op_sub (pv 5) (pv 4)))) pa_nil)) rfl))))))), ?_⟩
    have gn : (n : Int) < great := by have : (33 : Int) < great := by decide
                                      omega
    refine ⟨_, rfl, _, 1, 32, rfl, by have : -great < 0 := by decide
                                      omega, gn, by omega, by omega, ?_⟩
    refine ⟨_, rfl, D, U, rfl, er, gr, fun H1 s1 => ⟨_, rfl, iteFe rfl ?_⟩⟩
    have x1 := s1 _ _ ex
    have er1 := er.same s1
    have s01 : Same H0 H1 := s0.trans s1
    clear er s1 ex s0
    -- _interval
    refine ⟨_, rfl, _, rfl, x, C, dx, [], rfl, x1, X.cl, X.nI, (by decide), ?_⟩
    obtain ⟨H2, z2, b2, x2⟩ := put_x (C := C) (x := x) (dx := dx) (H := H1) (fs' := putF "_interval" (.int n) [])
    rw [z2]
    obtain ⟨kvs, eD, rv⟩ := er1
    have eD2 := b2.dic x1 eD
    have rv2 := b2.rv x1 rv
    -- _rows
    refine ⟨_, rfl, D, kvs, keys U, rfl, .inl eD2, rv.keys, by rw [List.length_map]; have := gr.few; omega, fun ys S pm so nS => ?_⟩
    obtain ⟨R, rfl, pR⟩ := perm_lift pm rfl
    obtain ⟨H3, z3, s3, e3⟩ := mk_at (o := .lst ((R.map Prod.fst).map V.str)) nS
    rw [z3]
    have x3 := s3 _ _ x2
    have eD3 := s3 _ _ eD2
    have rv3 := rv2.same s3
    have ndR : (keys R).Nodup := (pR.map Prod.fst).nodup_iff.mpr nd
    have gR := gr.perm pR
    refine ⟨S, rfl, ⟨_, SqL.of e3⟩, fun D2 nD2 => dc_it walk_list (fun i H' => ∃ ks, AccK H3 D2 ks H' ∧ Rv H3 ks (R.take i)) ⟨[], AccK.start nD2, .nil⟩ (fun i H' _ a => SqL.of (by obtain ⟨ks, a, _⟩ := a; exact a.1 _ _ e3)) ?_ ?_⟩
    · rintro i v Ha Hb hi ⟨ks, a, r⟩ ⟨rfl, hv⟩
      obtain ⟨k0, rfl, hk⟩ := strs_at2 hv
      obtain ⟨row, hrow, rfl⟩ : ∃ row, R[i]? = some row ∧ row.1 = k0 := by
        rw [List.getElem?_map] at hk
        cases z : R[i]? with
        | none =>
          rw [z] at hk
          cases hk
        | some row =>
          rw [z] at hk
          exact ⟨row, rfl, Option.some.inj hk⟩
      have mrow := List.mem_of_getElem? hrow
      obtain ⟨t, ht, elt⟩ := rv3.get nd (pR.mem_iff.mp mrow)
      have i1 : i < 48 := by have := gR.few; have := (List.getElem?_eq_some_iff.mp hrow).1; omega
      refine ⟨rfl, _, rfl, _, rfl, _, rfl, D, .ref t, rfl, dget_of (k := Sum.inr row.1) (.inl (a.1 _ _ eD3)) ht, ks, Sum.inr row.1, rfl, a.2.2, lt_line (by rw [r.len]; have := List.length_take_le i R; omega), ?_⟩
      have new : valV ks (Sum.inr row.1) = none := r.none fun m => by
        obtain ⟨q, hq, e⟩ := List.mem_map.mp m
        obtain ⟨j, hj⟩ := List.mem_iff_getElem?.mp hq
        have jl : j < i := by
          have := (List.getElem?_eq_some_iff.mp hj).1
          rw [List.length_take] at this
          omega
        rw [List.getElem?_take_of_lt jl] at hj
        have e1 : (keys R)[j]? = some row.1 := by rw [List.getElem?_map, hj, Option.map_some, e]
        have e2 : (keys R)[i]? = some row.1 := by rw [List.getElem?_map, hrow, Option.map_some]
        have z : j = i := (List.getElem?_inj (List.getElem?_eq_some_iff.mp e1).1 ndR).mp (e1.trans e2.symm)
        omega
      rw [putK_new _ new]
      refine ⟨_, a.put, ?_⟩
      rw [take_step hrow]
      exact r.snoc elt
    rintro H4 ⟨ks, a4, r4⟩
    rw [List.length_map, List.length_map, List.take_length] at r4
    have r4 := r4.same a4.1
    have x4 := a4.1 _ _ x3
    have eD4 := a4.2.2
    refine ⟨_, rfl, x, C, dx, _, rfl, x4, X.cl, X.nR, (by show 1 < 1000; decide), ?_⟩
    obtain ⟨H5, z5, b5, x5⟩ := put_x (C := C) (x := x) (dx := dx) (H := H4) (fs' := putF "_rows" (.ref D2) (putF "_interval" (.int n) []))
    rw [z5]
    have b15 : ButX x H1 H5 := b2.trans ((ButX.of (s3.trans a4.1)).trans b5)
    have r5 := b5.rv x4 r4
    have eD5 := b5.dic x4 eD4
    -- _names
    refine ⟨_, rfl, x, C, dx, _, _, rfl, x5, X.cl, X.nR, rfl, D2, ks, rfl, eD5, fun N nN => ?_⟩
    rw [r5.strs]
    obtain ⟨H6, z6, s6, e6⟩ := mk_at (o := .tup ((keys R).map V.str)) nN
    rw [z6]
    have x6 := s6 _ _ x5
    refine ⟨_, rfl, x, C, dx, _, rfl, x6, X.cl, X.nN, (by show 2 < 1000; decide), ?_⟩
    obtain ⟨H7, z7, b7, x7⟩ := put_x (C := C) (x := x) (dx := dx) (H := H6) (fs' := putF "_names" (.ref N) (putF "_rows" (.ref D2) (putF "_interval" (.int n) [])))
    rw [z7]
    have b17 : ButX x H1 H7 := b15.trans ((ButX.of s6).trans b7)
    have r7 := b7.rv x6 (r5.same s6)
    have eD7 := b7.dic x6 (s6 _ _ eD5)
    have e7 := b7.tup x6 e6
    -- _most
    obtain ⟨ts, et, pt⟩ := r7.vals
    refine ⟨_, rfl, x, C, dx, _, _, rfl, x7, X.cl, X.nR, rfl, D2, ks, rfl, eD7, fun L nL => ?_⟩
    rw [et]
    obtain ⟨H8, z8, s8, e8⟩ := mk_at (o := .lst (ts.map V.ref)) nL
    rw [z8]
    refine ⟨_, rfl, L, lives R, n, rfl, ?_, gR.lvg, n0, n1, fun H9 s9 => ?_⟩
    · refine ⟨ts, e8, ?_⟩
      clear et e8 z8
      revert pt
      generalize lives R = ls
      intro pt
      induction pt with
      | nil => exact .nil
      | cons q _ ih => exact .cons (s8 _ _ q) ih
    have s79 := s8.trans s9
    have x9 := s79 _ _ x7
    refine ⟨_, rfl, x, C, dx, _, rfl, x9, X.cl, X.nM, (by show 3 < 1000; decide), ?_⟩
    obtain ⟨Ha, za, ba, xa⟩ := put_x (C := C) (x := x) (dx := dx) (H := H9) (fs' := putF "_most" (.int (most n (lives R))) (putF "_names" (.ref N) (putF "_rows" (.ref D2) (putF "_interval" (.int n) []))))
    rw [za]
    have b1a : ButX x H1 Ha := b17.trans ((ButX.of s79).trans ba)
    have ra := ba.rv x9 (r7.same s79)
    have eDa := ba.dic x9 (s79 _ _ eD7)
    have ea := ba.tup x9 (s79 _ _ e7)
    -- _total
    refine ⟨D2, _, eDa, trivial, fun od => ?_⟩
    have rl := ra.lock (o := od) eDa
    have fz : (upd Ha D2 (.frz od (.dK ks))) D2 = some (.frz od (.dK ks)) := upd_same
    have xl : (upd Ha D2 (.frz od (.dK ks))) x = some (.ins C dx _) := (upd_ne (ne_of xa eDa (fun z => by cases z))).trans xa
    have fin : ∀ H', Same (upd Ha D2 (.frz od (.dK ks))) H' → Same Ha (upd H' D2 (.dK ks)) := fun H' s' => unlock_same eDa s'
    generalize upd Ha D2 (.frz od (.dK ks)) = Hb at rl fz xl fin ⊢
    refine ⟨_, rfl, x, C, dx, _, _, rfl, xl, X.cl, X.nR, rfl, D2, od, ks, rfl, fz, fun M nM => lc_it walk_values (fun i H' => Acc Hb M (((lives (R.take i)).map fun l => l.2 - l.1).map V.int) H') (Acc.start nM) (fun i H' _ a => a.1 _ _ fz) ?_ ?_⟩
    · intro i v Hc Hd hi a y
      obtain ⟨rfl, row, t, rfl, hrow, elt⟩ := rl.value y
      have elt := a.1 _ _ elt
      have i1 : i < 48 := by have := gR.few; have := (List.getElem?_eq_some_iff.mp hrow).1; omega
      refine ⟨t, _, rfl, SqT.of elt, rfl, _, _, rfl, _, _, rfl, rfl, rfl, _, rfl, _, rfl, _, _, rfl, rfl, _, a.2.2, ?_, ?_⟩
      · rw [List.length_map, List.length_map, List.length_map]
        exact lt_line (by have := List.length_take_le i R; omega)
      · rw [take_step hrow, lives_app, List.map_append, List.map_append]
        exact a.put
    · intro Hc a
      rw [ra.len, List.take_length] at a
      refine ⟨a.1 _ _ fz, M, _, rfl, SqL.of (acc_lock a fz), ?_⟩
      have sf := fin _ a.1
      have xf := sf _ _ xa
      refine ⟨_, rfl, x, C, dx, _, rfl, xf, X.cl, X.nT, (by show 4 < 1000; decide), ?_⟩
      obtain ⟨He, ze, be, xe⟩ := put_x (C := C) (x := x) (dx := dx) (H := upd Hc D2 (.dK ks)) (fs' := flds n D2 N (lives R))
      refine (?_ : (_ : Hp → Prop) (upd (upd Hc D2 (.dK ks)) x (.ins C dx (flds n D2 N (lives R)))))
      rw [ze]
      have b1e : ButX x H1 He := b1a.trans ((ButX.of sf).trans be)
      refine k He R (b1e.same s01 nx) pR ⟨dx, D2, N, xe, ⟨ks, be.dic xf (sf _ _ eDa), be.rv xf (ra.same sf)⟩, be.tup xf (sf _ _ ea), ⟨ndR, so⟩, gR, n0, n1⟩ fun dx' m' Dx' Nx' ls' e' => ?_
      have q := Option.some.inj (xe.symm.trans e')
      injection q with _ _ q
      injection q with _ q
      injection q with q _
      injection q with _ q
      injection q with q
      rw [← q]
      cases z : H0 D2 with
      | none => rfl
      | some o =>
        have := s3 _ _ (b2 _ _ (ne_of_none z nx) (s01 _ _ z))
        rw [nD2] at this
        cases this
end
end K56
namespace K56
open PySem L2
open L2.My
open Liv
abbrev mInterval : Stmt := inClass (top 28) 1
abbrev mRows : Stmt := inClass (top 28) 2
abbrev mNames : Stmt := inClass (top 28) 3
abbrev mMost : Stmt := inClass (top 28) 4
abbrev mTotal : Stmt := inClass (top 28) 5
abbrev mAlive : Stmt := inClass (top 28) 6
abbrev mAcross : Stmt := inClass (top 28) 7
abbrev mFull : Stmt := inClass (top 28) 8
abbrev mMostOf : Stmt := inClass (top 28) 9
abbrev mLivesOf : Stmt := inClass (top 28) 22
abbrev mCounted : Stmt := inClass (top 28) 23
section
variable {P : Program} {w : World} {K : PySem.W.Frag} {mg : Str → Option Value} {base : Heap}
/-! ### the properties -/
def spGet (C : Addr) (f : Nat → List Row → V) : Sp := fun vs H Q _ => ∃ x n R, vs = [.ref x] ∧ LivesAt C H x n R ∧ Q (f n R) H
abbrev n_gI : List Str := ["self"]
theorem sl_gI : FnScope n_gI ["self"] (defScope mInterval) := ⟨rfl, rfl, rfl, by decide +kernel, rfl, by decide +kernel, by decide +kernel⟩
theorem ok_gI {f  : Addr} {fd  : FuncData} (F : Fun K "interval" "Lives.interval" mInterval f fd) {C : Addr} (X : CTxt K C)  : FnOk P w K mg base CX0 1 f fd ["self"] (spGet C (fun n _ => .int n)) := by
  refine F.ok sl_gI (fun vs H Q E h => ?_) (fun cdv A outer s H vs Q E hr h => ?_)
  · obtain ⟨x, n, R, rfl, _⟩ := h
    rfl
  · obtain ⟨x, n, R, rfl, lv, k⟩ := h
    refine ⟨_, pss_one (ps_ret (pe_fld (pv 0) rfl)), ?_⟩
    obtain ⟨dx, D, N, lv⟩ := lv
    exact ⟨_, rfl, x, C, dx, _, _, rfl, lv.ob, X.cl, X.nI, rfl, k⟩
abbrev n_gM : List Str := ["self"]
theorem sl_gM : FnScope n_gM ["self"] (defScope mMost) := ⟨rfl, rfl, rfl, by decide +kernel, rfl, by decide +kernel, by decide +kernel⟩
theorem ok_gM {f  : Addr} {fd  : FuncData} (F : Fun K "most" "Lives.most" mMost f fd) {C : Addr} (X : CTxt K C)  : FnOk P w K mg base CX0 1 f fd ["self"] (spGet C (fun n R => .int (Liv.most n (lives R)))) := by
  refine F.ok sl_gM (fun vs H Q E h => ?_) (fun cdv A outer s H vs Q E hr h => ?_)
  · obtain ⟨x, n, R, rfl, _⟩ := h
    rfl
  · obtain ⟨x, n, R, rfl, lv, k⟩ := h
    refine ⟨_, pss_one (ps_ret (pe_fld (pv 0) rfl)), ?_⟩
    obtain ⟨dx, D, N, lv⟩ := lv
    exact ⟨_, rfl, x, C, dx, _, _, rfl, lv.ob, X.cl, X.nM, rfl, k⟩
abbrev n_gT : List Str := ["self"]
theorem sl_gT : FnScope n_gT ["self"] (defScope mTotal) := ⟨rfl, rfl, rfl, by decide +kernel, rfl, by decide +kernel, by decide +kernel⟩
theorem ok_gT {f  : Addr} {fd  : FuncData} (F : Fun K "total" "Lives.total" mTotal f fd) {C : Addr} (X : CTxt K C)  : FnOk P w K mg base CX0 1 f fd ["self"] (spGet C (fun n R => .int (total (lives R)))) := by
  refine F.ok sl_gT (fun vs H Q E h => ?_) (fun cdv A outer s H vs Q E hr h => ?_)
  · obtain ⟨x, n, R, rfl, _⟩ := h
    rfl
  · obtain ⟨x, n, R, rfl, lv, k⟩ := h
    refine ⟨_, pss_one (ps_ret (pe_fld (pv 0) rfl)), ?_⟩
    obtain ⟨dx, D, N, lv⟩ := lv
    exact ⟨_, rfl, x, C, dx, _, _, rfl, lv.ob, X.cl, X.nT, rfl, k⟩
def spGN (C : Addr) : Sp := fun vs H Q _ => ∃ x n R, vs = [.ref x] ∧ LivesAt C H x n R ∧ ∀ N, H N = some (.tup ((keys R).map V.str)) → Q (.ref N) H
abbrev n_gN : List Str := ["self"]
theorem sl_gN : FnScope n_gN ["self"] (defScope mNames) := ⟨rfl, rfl, rfl, by decide +kernel, rfl, by decide +kernel, by decide +kernel⟩
theorem ok_gN {f  : Addr} {fd  : FuncData} (F : Fun K "names" "Lives.names" mNames f fd) {C : Addr} (X : CTxt K C)  : FnOk P w K mg base CX0 1 f fd ["self"] (spGN C) := by
  refine F.ok sl_gN (fun vs H Q E h => ?_) (fun cdv A outer s H vs Q E hr h => ?_)
  · obtain ⟨x, n, R, rfl, _⟩ := h
    rfl
  · obtain ⟨x, n, R, rfl, lv, k⟩ := h
    refine ⟨_, pss_one (ps_ret (pe_fld (pv 0) rfl)), ?_⟩
    obtain ⟨dx, D, N, lv⟩ := lv
    exact ⟨_, rfl, x, C, dx, _, _, rfl, lv.ob, X.cl, X.nN, rfl, k N lv.names⟩
def spGR (C : Addr) : Sp := fun vs H Q _ => ∃ x n R, vs = [.ref x] ∧ LivesAt C H x n R ∧ ∀ D H', Same H H' → H D = none → RowsAt H' D R → Q (.ref D) H'
abbrev n_gR : List Str := ["self"]
theorem sl_gR : FnScope n_gR ["self"] (defScope mRows) := ⟨rfl, rfl, rfl, by decide +kernel, rfl, by decide +kernel, by decide +kernel⟩
theorem ok_gR {f  : Addr} {fd  : FuncData} (F : Fun K "rows" "Lives.rows" mRows f fd) {C : Addr} (T : Txt mg) (X : CTxt K C)  : FnOk P w K mg base CX0 1 f fd ["self"] (spGR C) := by
  refine F.ok sl_gR (fun vs H Q E h => ?_) (fun cdv A outer s H vs Q E hr h => ?_)
  · obtain ⟨x, n, R, rfl, _⟩ := h
    rfl
  · obtain ⟨x, n, R, rfl, lv, k⟩ := h
    refine ⟨_, pss_one (ps_ret (pe_callTy (My.call_dictD rfl) (by rfl) T.dict (by decide +kernel) (pa_cons (pe_fld (pv 0) rfl) pa_nil))), ?_⟩
    obtain ⟨dx, D, N, lv⟩ := lv
    obtain ⟨kvs, eD, rv⟩ := lv.rows
    refine ⟨_, rfl, x, C, dx, _, _, rfl, lv.ob, X.cl, X.nR, rfl, D, kvs, rfl, eD, fun q nq => ?_⟩
    exact k q _ (grow nq) nq ⟨kvs, upd_same, rv.same (grow nq)⟩
/-! ### the lives of some names -/
theorem in_iff {x : Str} {xs : List Str} : inV (.str x) (xs.map V.str) = decide (x ∈ xs) := by
  unfold inV
  by_cases c : x ∈ xs
  · rw [decide_eq_true c, List.any_eq_true]
    exact ⟨.str x, List.mem_map_of_mem c, by simp [eqV]⟩
  · rw [decide_eq_false c, List.any_eq_false]
    intro v hv e
    obtain ⟨y, hy, rfl⟩ := List.mem_map.mp hv
    have z : y = x := by simpa [eqV] using e
    exact c (z ▸ hy)
theorem row_at {R : List Row} {i : Nat} {k : Str} (h : (keys R)[i]? = some k) : ∃ r, R[i]? = some r ∧ r.1 = k := by
  rw [List.getElem?_map] at h
  cases z : R[i]? with
  | none =>
    rw [z] at h
    cases h
  | some r =>
    rw [z] at h
    exact ⟨r, rfl, Option.some.inj h⟩
theorem sel_take {R : List Row} {i : Nat} {r : Row} (h : R[i]? = some r) (ns : List Str) : sel (R.take (i + 1)) ns = sel (R.take i) ns ++ (if r.1 ∈ ns then [r] else []) := by
  unfold sel
  rw [take_step h, List.filter_append]
  congr 1
  by_cases c : r.1 ∈ ns <;> simp [c]
theorem paired_snoc {α β : Type} {F : α → β → Prop} {xs : List α} {ys : List β} {x : α} {y : β} (p : Paired F xs ys) (h : F x y) : Paired F (xs ++ [x]) (ys ++ [y]) := by
  induction p with
  | nil => exact .cons h .nil
  | cons z _ ih => exact .cons z ih
theorem paired_same {H H' : Hp} {ts : List Addr} {ls : List Lf} (p : Paired (fun t l => LifeAt H t l) ts ls) (s : Same H H') : Paired (fun t l => LifeAt H' t l) ts ls := by
  induction p with
  | nil => exact .nil
  | cons z _ ih => exact .cons (s _ _ z) ih
theorem sel_ok {R : List Row} (g : IsRows R) (ns : List Str) : IsRows (sel R ns) :=
  ⟨Nat.le_trans (List.length_filter_le ..) g.few, fun r h => g.key r (List.mem_filter.mp h).1, fun r h => g.life r (List.mem_filter.mp h).1⟩
def spLivesOf (C : Addr) : Sp := fun vs H Q _ => ∃ (x n : Nat) (R : List Row) (nm : Addr) (ns : List Str), vs = [.ref x, .ref nm] ∧ LivesAt C H x n R ∧ H nm = some (.tup (ns.map V.str)) ∧ (∀ s ∈ ns, s ∈ keys R) ∧ ∀ L H', Same H H' → Lvs H' L (lives (sel R ns)) → Q (.ref L) H'
abbrev n_lo : List Str := ["self", "names", "key"]
theorem sl_lo : FnScope n_lo ["self", "names"] (defScope mLivesOf) := ⟨rfl, rfl, rfl, by decide +kernel, rfl, by decide +kernel, by decide +kernel⟩
theorem ok_lo {f fck : Addr} {fd fdck : FuncData} (F : Fun K "_lives_of" "Lives._lives_of" mLivesOf f fd) {C : Addr} (X : CTxt K C) (dck : Dn P w K mg base CX0 "check_known" ["name", "known"] 1 spKnown fck fdck) : FnOk P w K mg base CX0 2 f fd ["self", "names"] (spLivesOf C) := by
  refine F.ok sl_lo (fun vs H Q E h => ?_) (fun cdv A outer s H vs Q E hr h => ?_)
  · obtain ⟨x, n, R, nm, ns, rfl, _⟩ := h
    rfl
  · obtain ⟨x, n, R, nm, ns, rfl, lv, en, sub, k⟩ := h
    refine ⟨_, pss_cons (ps_for PassesOwn.never rfl (pi_tup (pv 1)) (pg_name (i := 2) sl_lo.nd rfl (.inl rfl)) (pss_one (ps_expr (pe_call dck.G hr rfl dck.g dck.kp dck.b .nil pass0 (pa_cons (pv 2) (pa_cons (pe_fld (pv 0) rfl) pa_nil)))))) (pss_one (ps_ret (pe_lc (own := [("key", 2)]) (g := gName 2) (by rfl) sl_lo.nd (pi_tup (pe_fld (pv 0) rfl)) (blkOk_by (own := [("key", 2)]) (N := n_lo) (sc := defScope mLivesOf) (by decide +kernel)) (fun _ _ _ _ _ => pg_name (i := 2) sl_lo.nd rfl (Or.inl rfl)) (fun _ _ _ _ _ => pts_one (pt_cmpR ((in_at (K := K) rfl)) (pv 2) (pv 1) (by rfl))) (fun _ _ _ _ _ => pe_dget (Room.one_up hr) (pe_fldA (K := K) rfl (pv 0) rfl) (pv 2) (fun _ _ => rfl))))), ?_⟩
    obtain ⟨dx, D, N, lv⟩ := lv
    obtain ⟨kvs, eD, rv⟩ := lv.rows
    have ob := lv.ob
    have eN := lv.names
    refine ⟨_, rfl, nm, rfl, ⟨_, SqT.of en⟩, for_tup (xs := ns.map V.str) (fun i σ H' => ∃ v, σ = [some (.ref x), some (.ref nm), v] ∧ H' = H) ⟨_, rfl, rfl⟩ (fun i σ H' _ h => by obtain ⟨_, _, rfl⟩ := h; exact SqT.of en) ?_ ?_⟩
    · rintro i v σ H1 hv ⟨v2, rfl, rfl⟩
      obtain ⟨s0, rfl, hs⟩ := strs_at2 hv
      exact ⟨_, rfl, _, rfl, x, C, dx, _, _, rfl, ob, X.cl, X.nN, rfl, s0, N, keys R, rfl, eN, sub s0 (List.mem_of_getElem? hs), _, rfl, rfl⟩
    rintro σ H1 ⟨v2, rfl, rfl⟩
    refine ⟨_, rfl, x, C, dx, _, _, rfl, ob, X.cl, X.nN, rfl, N, rfl, ⟨_, SqT.of eN⟩, fun L nL => lc_it walk_tup (fun i H' => ∃ ts : List Addr, Acc H1 L (ts.map V.ref) H' ∧ Paired (fun t l => LifeAt H1 t l) ts (lives (sel (R.take i) ns))) ⟨[], Acc.start nL, .nil⟩
      (fun i H' _ a => SqT.of (by obtain ⟨_, a, _⟩ := a; exact a.1 _ _ eN)) ?_ ?_⟩
    · rintro i v H2 H3 hi ⟨ts, a, p⟩ ⟨rfl, hv⟩
      obtain ⟨k0, rfl, hk⟩ := strs_at2 hv
      obtain ⟨r, hr, rfl⟩ := row_at hk
      have mr := List.mem_of_getElem? hr
      have i1 : i < 48 := by have := lv.ok.few; have := (List.getElem?_eq_some_iff.mp hr).1; omega
      refine ⟨rfl, _, rfl, _, rfl, nm, _, rfl, .inr (SqT.of (a.1 _ _ en)), rfl, by simp [flatV], _, rfl, ?_⟩
      rw [if_neg Bool.false_ne_true, in_iff]
      have tk := sel_take hr ns
      by_cases c : r.1 ∈ ns
      · obtain ⟨t, ht, elt⟩ := rv.get lv.ord.nd mr
        rw [decide_eq_true c]
        refine iteTe rfl ⟨_, rfl, x, C, dx, _, _, rfl, a.1 _ _ ob, X.cl, X.nR, rfl, _, rfl, D, .ref t, rfl, dget_of (k := Sum.inr r.1) (.inl (a.1 _ _ eD)) ht, ts.map V.ref, a.2.2, ?_, ts ++ [t], ?_, ?_⟩
        · rw [List.length_map, Paired.length p]
          refine lt_line ?_
          rw [List.length_map]
          have h1 : (sel (R.take i) ns).length ≤ (R.take i).length := List.length_filter_le ..
          have h2 := List.length_take_le i R
          omega
        · rw [List.map_append]
          exact a.put
        · rw [tk, if_pos c, lives_app]
          exact paired_snoc p elt
      · rw [decide_eq_false c]
        refine iteFe rfl ⟨ts, a, ?_⟩
        rw [tk, if_neg c, List.append_nil]
        exact p
    · rintro H3 ⟨ts, a, p⟩
      rw [List.length_map, List.length_map, List.take_length] at p
      exact k L _ a.1 ⟨ts, a.2.2, paired_same p a.1⟩
/-- the lives of some names, or of all where no name is told -/
def cnt (R : List Row) (ns : List Str) : List Row := if ns = [] then R else sel R ns
theorem cnt_ok {R : List Row} (g : IsRows R) (ns : List Str) : Lvg (lives (cnt R ns)) := by
  unfold cnt
  split
  · exact g.lvg
  · exact (sel_ok g ns).lvg
def spCounted (C : Addr) : Sp := fun vs H Q _ => ∃ (x n : Nat) (R : List Row) (nm : Addr) (ns : List Str), vs = [.ref x, .ref nm] ∧ LivesAt C H x n R ∧ H nm = some (.tup (ns.map V.str)) ∧ (∀ s ∈ ns, s ∈ keys R) ∧ ∀ L H', Same H H' → Lvs H' L (lives (cnt R ns)) → Q (.ref L) H'
abbrev n_co : List Str := ["self", "names"]
theorem sl_co : FnScope n_co ["self", "names"] (defScope mCounted) := ⟨rfl, rfl, rfl, by decide +kernel, rfl, by decide +kernel, by decide +kernel⟩
theorem ok_co {f  : Addr} {fd  : FuncData} (F : Fun K "_counted" "Lives._counted" mCounted f fd) {C fLO : Addr} {fdLO : FuncData} (T : Txt mg) (X : CTxt K C) (nLO : Mn P w K mg base C "_lives_of" ["self", "names"] 2 (spLivesOf C) fLO fdLO)  : FnOk P w K mg base CX0 3 f fd ["self", "names"] (spCounted C) := by
  refine F.ok sl_co (fun vs H Q E h => ?_) (fun cdv A outer s H vs Q E hr h => ?_)
  · obtain ⟨x, n, R, nm, ns, rfl, _⟩ := h
    rfl
  · obtain ⟨x, n, R, nm, ns, rfl, lv, en, sub, k⟩ := h
    refine ⟨_, pss_one (ps_ret (pe_ifExp (pt_truth (pv 1) (by intro _; rfl)) (pe_meth (pv 0) X.cl nLO.m nLO.G hr nLO.b .nil pass0 (pa_cons (pv 1) pa_nil)) (pe_listVals rfl (pe_fld (pv 0) rfl) rfl T.list (by decide +kernel)))), ?_⟩
    refine ⟨_, rfl, !ns.isEmpty, .inr (.inl ⟨_, SqT.of en, by simp⟩), ?_⟩
    obtain ⟨dx, D, N, lv⟩ := id lv
    cases ns with
    | nil =>
      obtain ⟨kvs, eD, rv⟩ := lv.rows
      obtain ⟨ts, et, pt⟩ := rv.vals
      refine iteFe rfl ⟨_, rfl, x, C, dx, _, _, rfl, lv.ob, X.cl, X.nR, rfl, D, kvs, rfl, eD, fun L nL => ?_⟩
      rw [et]
      exact k L _ (grow nL) ⟨ts, upd_same, paired_same pt (grow nL)⟩
    | cons y ys => exact iteTe rfl ⟨_, rfl, x, dx, _, rfl, lv.ob, rfl, _, rfl, x, n, R, nm, y :: ys, rfl, ⟨dx, D, N, lv⟩, en, sub, k⟩
end
end K56
/-! a for in a generator's body -/
namespace L2.My
open PySem PySem.Spec PyProof.Rows GenW L2
section
variable {P : Program} {w : World} {A : Around} {R : GenEnd} {Y : Protocol} {n : Nat} {s₀ s : Shared} {c : Code} {fs : List Frame} {K : Flow → Sem PySem.Fin} {J : Value → Sem PySem.Fin} {gd : Bool → Bool} {lv : List Value → List Value} {env : Env} {tg iter : Expr} {body : List Stmt} {pos : Pos}
theorem seg_For (hs : ∀ x, foldedSetIterable iter env x = pure x)
    (h : wpAny (model P w) (A.over c fs) (eval iter env) (fun x s1 => wpAny (model P w) (A.over c fs) (pyIter x) (fun it s2 => ∀ p,
        Seg (model P w) A R Y n s₀ (.forLoop tg it body [] env) ((model P w).den (.forLoop tg it body [] env))
          (.ret (fun r => ((match r with | .ok f => (.pure f : Sem Flow) | .error e => .raise e).onRaise (cameBack env)).wrap K J gd lv) none (gd false) (lv []) c p [] :: fs) s2)
      (fun e s2 => Seg (model P w) A R Y n s₀ c (J e) fs s2) s1) (fun e s1 => Seg (model P w) A R Y n s₀ c (J e) fs s1) s) :
    Seg (model P w) A R Y n s₀ c ((exec (.For tg iter body [] pos) env).wrap K J gd lv) fs s := by
  rw [exec_For, Sem.bind_eq_wrap', Sem.wrap_wrap]
  refine seg_wrap (wpAny_standAt ?_)
  rw [Sem.bind_eq_wrap', Sem.wrap_wrap]
  refine seg_wrap (wpAny_mono h (fun x s1 h1 => ?_) fun _ _ z => z)
  rw [Sem.bind_eq_wrap', Sem.wrap_wrap]
  refine seg_wrap (wpAny_of_eq (hs x) ?_)
  rw [Sem.bind_eq_wrap', Sem.wrap_wrap]
  refine seg_wrap (wpAny_standAt ?_)
  rw [Sem.bind_eq_wrap', Sem.wrap_wrap]
  refine seg_wrap (wpAny_holding (wpAny_mono h1 (fun it s2 h2 => ?_) fun _ _ z => z))
  exact seg_call h2
theorem seg_forLoop {it : Value} {noted : Value → Sem PySem.Fin} (eN : noted = fun e => (do noteFrame e env; theTreesLotGoes e : Sem Unit).wrap (fun _ => .raise e) .raise id id)
    (h : wpAny (model P w) (A.over (.forLoop tg it body [] env) fs) (pyNext it) (fun r s1 => match r with
      | none => Seg (model P w) A R Y n s₀ (.block [] env) (.pure (.done .next)) fs s1
      | some v => wpAny (model P w) (A.over (.forLoop tg it body [] env) fs) (letOwnedTupleGo tg it v) (fun _ s2 => wpAny (model P w) (A.over (.forLoop tg it body [] env) fs) (assign tg env v) (fun _ s3 =>
          Seg (model P w) A R Y n s₀ (.forLoop tg it body [] env) ((execs body env).wrap (fun f => match f with
            | .next | .cont => .pure (.again (.forLoop tg it body [] env))
            | .brk => .pure (.done .next)
            | .ret v => .pure (.done (.ret v))) noted id id) fs s3)
        (fun e s2 => Seg (model P w) A R Y n s₀ (.forLoop tg it body [] env) (noted e) fs s2) s2) (fun e s2 => Seg (model P w) A R Y n s₀ (.forLoop tg it body [] env) (noted e) fs s2) s1)
      (fun e s1 => Seg (model P w) A R Y n s₀ (.forLoop tg it body [] env) (noted e) fs s1) s) :
    Seg (model P w) A R Y n s₀ (.forLoop tg it body [] env) ((model P w).den (.forLoop tg it body [] env)) fs s := by
  show Seg _ A R Y n s₀ _ ((forTurn tg it body [] env).onRaise (fun x => do noteFrame x env; theTreesLotGoes x)) fs s
  have eN2 : ∀ e, ((do noteFrame e env; theTreesLotGoes e : Sem Unit).bind fun _ => (.raise e : Sem PySem.Fin)) = noted e := fun e => by
    rw [eN]
    exact Sem.bind_eq_wrap _ _
  unfold forTurn
  rw [Sem.onRaise_eq_wrap, Sem.wrap_congr _ _ _ (fun f => rfl) eN2]
  rw [Sem.bind_eq_wrap', Sem.wrap_wrap]
  refine seg_wrap (wpAny_standAt ?_)
  rw [Sem.bind_eq_wrap', Sem.wrap_wrap]
  refine seg_wrap (wpAny_onRaise (wpAny_mono h (fun r s1 h1 => ?_) fun e s1 z => wpAny_standAt z))
  cases r with
  | none => exact seg_again rfl h1
  | some v =>
    dsimp only
    rw [Sem.bind_eq_wrap', Sem.wrap_wrap]
    refine seg_wrap (wpAny_mono h1 (fun _ s2 h2 => ?_) fun e s2 z => z)
    rw [Sem.bind_eq_wrap', Sem.wrap_wrap]
    refine seg_wrap (wpAny_mono h2 (fun _ s3 h3 => ?_) fun e s3 z => z)
    rw [Sem.bind_eq_wrap', Sem.wrap_wrap]
    rw [Sem.wrap_congr (execs body env) _ _ (K' := fun f => match f with
            | .next | .cont => .pure (.again (.forLoop tg it body [] env))
            | .brk => .pure (.done .next)
            | .ret v => .pure (.done (.ret v))) (H' := noted) (fun f => by cases f <;> rfl) (fun e => by rfl)]
    exact h3
end
/-! ### for -/
def tGFor (wi : TI) (g : TG) (tb : TGn) : TGn := fun D ys σ H => wi σ H fun J H1 => ∃ W : Nat → Nat → List V → L2.St → Hp → Prop, (∃ m, W 0 m ys σ H1) ∧ ∀ i m ys σ H, W i m ys σ H →
  (J.stop i H ∧ D.nx ys σ H) ∨ (J.go i H ∧ ∃ N : List V → L2.St → Hp → Prop, (∀ ys' σ' H', N ys' σ' H' → ∃ m', m' < m ∧ W (i + 1) m' ys' σ' H') ∧ ∀ x H', J.yld i H x H' → g x σ H' fun σ2 H2 => tb { D with nx := N, ct := N, bk := D.nx } ys σ2 H2)
section
variable {X : Cx} {tg iter : Expr} {body : List Stmt} {pos : Pos} {wi : TI} {g : TG} {tb : TGn}
theorem gs_for (hp : PassesOwn (model X.prog X.w) X.A X.env X.xe) (hc : X.calm = true) (hi : PI X tg iter wi) (hg : PG X tg g) (hb : GSs X body tb) (hs : ∀ x, foldedSetIterable iter X.env x = pure x := by intro _; rfl) : GS X (.For tg iter body [] pos) (tGFor wi g tb) := by
  refine ⟨fun A S ip R n ys s₀ c fs K J gd lv s σ H D gc hn k hI ht => ?_⟩
  obtain ⟨acc0, c0, r0, I0⟩ := hI
  refine seg_For hs ?_
  rw [gc.over]
  refine wpAny_mono (hi.run _ s σ H _ I0 ht) (fun v s1 h1 => wpAny_mono h1 (fun itv s2 h2 p => ?_) fun x s' z => k.exc n s₀ x s' z) fun x s' z => k.exc n s₀ x s' z
  obtain ⟨it, fp, tn, Jt, H2, rfl, I2, T, st2, f2, W, ⟨m0, w0⟩, turn⟩ := h2
  have ns : ∀ b ∈ fp, b ≠ S := fun b hb e => (f2 b hb).2.2.2.2.2 (S, lstObj acc0 c0) (List.mem_append_right _ List.mem_cons_self) e.symm
  have stat : ∀ {H' : Hp} (o : Obj), (∀ b ∈ fp, H' b = none) → ∀ b ∈ fp, FpOk X ((S, o) :: ip) H' b := fun {H'} o hn b hb => by
    obtain ⟨_, a1, a2, a3, a4, a5⟩ := f2 b hb
    refine ⟨hn b hb, a1, a2, a3, a4, fun p hp => ?_⟩
    rcases List.mem_append.mp hp with z | z
    · exact a5 p (List.mem_append_left _ z)
    · rcases List.mem_cons.mp z with rfl | z
      · exact fun e => ns b hb e.symm
      · exact a5 p (List.mem_append_right _ (List.mem_cons_of_mem _ z))
  have gl : ∀ (ip' : List (Addr × Obj)) (hip : ∀ p ∈ ip', p.1 ≠ S) (kk : Result → Sem PySem.Fin), GC X S ip' A (.forLoop tg (.ref it) body [] X.env) (.ret kk none (gd false) (lv []) c p [] :: fs) id := fun ip' hip kk =>
    ⟨gc.pn, hip, gc.apart, (gc_loop (k := kk) (c' := .forLoop tg (.ref it) body [] X.env) (l := lv []) (kp := []) (p := p) gc rfl rfl).over, (gc_loop (k := kk) (c' := .forLoop tg (.ref it) body [] X.env) (l := lv []) (kp := []) (p := p) gc rfl rfl).split,
      (gc_loop (k := kk) (c' := .forLoop tg (.ref it) body [] X.env) (l := lv []) (kp := []) (p := p) gc rfl rfl).guard, rfl⟩
  have ee : ∀ (n : Nat) (s₀ : Shared) (x : Value) (s' : Shared), X.xe x s' → Seg (model X.prog X.w) A R (GY X S) n s₀ (.forLoop tg (.ref it) body [] X.env)
      ((do noteFrame x X.env; theTreesLotGoes x : Sem Unit).wrap (fun _ => .raise x) .raise id id)
      (.ret (fun r => ((match r with | .ok f => (.pure f : Sem Flow) | .error e => .raise e).onRaise (cameBack X.env)).wrap K J gd lv) none (gd false) (lv []) c p [] :: fs) s' := fun n s₀ x s' hx => by
    refine seg_wrap ?_
    rw [(gl ip gc.ip _).over]
    refine wpAny_bind (wpAny_mono (hp x s' hx) (fun _ s'' hcb => wpAny_theTreesLotGoes ?_) fun y s'' hcb => ?_)
    · exact seg_leaf (.error x) (seg_cameBack gc k hcb)
    · exact seg_leaf (.error y) (seg_cameBack gc k hcb)
  have loop : ∀ (m n i : Nat) (ys : List V) (s₀ s : Shared) (σ : L2.St) (H : Hp), n + ys.length = sizeLine → W i m ys σ H → GI X S ip ys σ H s → tn i s.heap → (∀ b ∈ fp, H b = none) →
      Seg (model X.prog X.w) A R (GY X S) n s₀ (.forLoop tg (.ref it) body [] X.env) ((model X.prog X.w).den (.forLoop tg (.ref it) body [] X.env))
        (.ret (fun r => ((match r with | .ok f => (.pure f : Sem Flow) | .error e => .raise e).onRaise (cameBack X.env)).wrap K J gd lv) none (gd false) (lv []) c p [] :: fs) s := by
    intro m
    induction m using Nat.strongRecOn with
    | ind m ih =>
      intro n i ys s₀ s σ H hn w hI st fr
      obtain ⟨acc, cc, r, I⟩ := hI
      refine seg_forLoop rfl ?_
      rw [(gl ip gc.ip _).over]
      rcases turn i m ys σ H w with ⟨stop, qn⟩ | ⟨go, N, hN, step⟩
      · refine wpAny_mono (T.done X rfl rfl rfl hc i _ s σ H X.xe I (stat _ fr) st stop) (fun r1 s4 ⟨e1, I4⟩ => ?_) fun x s' hx => ee n s₀ x s' hx
        subst e1
        exact seg_leaf (.ok .next) (k.ok n ys s₀ s4 .next hn ⟨σ, H, ⟨acc, cc, r, I4⟩, qn⟩)
      · refine wpAny_mono (T.item X rfl rfl rfl hc i _ s σ H X.xe I (stat _ fr) st go) (fun r1 s4 ⟨u, e1, h4⟩ => ?_) fun x s' hx => ee n s₀ x s' hx
        subst e1
        refine wpAny_mono h4 (fun _ s5 ⟨x, H5, I5, r5, y5, st5, fr5⟩ => ?_) fun x s' hx => ee n s₀ x s' hx
        have I6 : Inv X ((S, lstObj acc cc) :: (ip ++ pinsAt fp s5.heap)) σ H5 s5 := I5.pinned (stat _ fr5) (T.obj _ _ st5)
        refine wpAny_mono (hg.run _ s5 σ H5 x u _ I6 r5 (step x H5 y5)) (fun _ s6 ⟨σ6, H6, I7, q6⟩ => ?_) fun x s' hx => ee n s₀ x s' hx
        have hip : ∀ p ∈ ip ++ pinsAt fp s5.heap, p.1 ≠ S := fun p hp => by
          rcases List.mem_append.mp hp with z | z
          · exact gc.ip p z
          · exact ns _ (of_pinsAt z).1
        have back : ∀ {ys' : List V} {σ' : L2.St} {H' : Hp} {s' : Shared}, GI X S (ip ++ pinsAt fp s5.heap) ys' σ' H' s' → GI X S ip ys' σ' H' s' ∧ tn (i + 1) s'.heap ∧ ∀ b ∈ fp, H' b = none := fun {ys' σ' H' s'} gi => by
          obtain ⟨acc', c', r', I'⟩ := gi
          have at_ : ∀ b ∈ fp, ∀ o, s5.heap.get? b = some o → s'.heap.get? b = some o ∧ H' b = none := fun b hb o e => by
            have z := I'.pin (b, o) (List.mem_append_right _ (List.mem_cons_of_mem _ (List.mem_append_right _ (mem_pinsAt hb e))))
            exact ⟨z.1, z.2.1⟩
          refine ⟨⟨acc', c', r', I'.pins_of fun p hp => ?_⟩, T.keep _ _ _ st5 fun b hb o e => (at_ b hb o e).1, fun b hb => ?_⟩
          · rcases List.mem_cons.mp hp with rfl | z
            · exact I'.pin _ (List.mem_append_right _ List.mem_cons_self)
            · exact I'.pin _ (List.mem_append_right _ (List.mem_cons_of_mem _ (List.mem_append_left _ z)))
          · obtain ⟨o, e, _⟩ := T.obj _ _ st5 b hb
            exact (at_ b hb o e).2
        refine hb.run A S (ip ++ pinsAt fp s5.heap) R n ys s₀ _ _ _ _ id id s6 σ6 H6 { D with nx := N, ct := N, bk := D.nx } (gl _ hip _) hn ⟨fun n' ys' s₀' s7 f hn' hs => ?_, fun n' s₀' x s7 hx => ee n' s₀' x s7 hx⟩ ⟨acc, cc, r, I7⟩ q6
        cases f with
        | next =>
          obtain ⟨σ7, H7, I8, n7⟩ := hs
          obtain ⟨m', hm, w7⟩ := hN ys' σ7 H7 n7
          obtain ⟨b1, b2, b3⟩ := back I8
          exact seg_again rfl (ih m' hm n' (i + 1) ys' s₀' s7 σ7 H7 hn' w7 b1 b2 b3)
        | cont =>
          obtain ⟨σ7, H7, I8, n7⟩ := hs
          obtain ⟨m', hm, w7⟩ := hN ys' σ7 H7 n7
          obtain ⟨b1, b2, b3⟩ := back I8
          exact seg_again rfl (ih m' hm n' (i + 1) ys' s₀' s7 σ7 H7 hn' w7 b1 b2 b3)
        | brk =>
          obtain ⟨σ7, H7, I8, n7⟩ := hs
          exact seg_leaf (.ok .next) (k.ok n' ys' s₀' s7 .next hn' ⟨σ7, H7, (back I8).1, n7⟩)
        | ret v =>
          obtain ⟨x7, σ7, H7, I8, r7, q7⟩ := hs
          exact seg_leaf (.ok (.ret v)) (k.ok n' ys' s₀' s7 (.ret v) hn' ⟨x7, σ7, H7, (back I8).1, r7, q7⟩)
  exact loop m0 n 0 ys s₀ s2 σ H2 hn w0 ⟨acc0, c0, r0, I2⟩ st2 fun b hb => (f2 b hb).1
end
end L2.My
namespace K56
open PySem L2
open L2.My
open Liv
abbrev mApart : Stmt := inClass (top 28) 10
abbrev mEach : Stmt := inClass (top 28) 11
section
variable {P : Program} {w : World} {K : PySem.W.Frag} {mg : Str → Option Value} {base : Heap}
/-! ### counted -/
theorem n_b {n : Nat} (h : n ≤ 32) : B 100 (n : Int) := by
  unfold B
  have : (33 : Nat) < 2 ^ 100 := by decide
  omega
/-- a star method: a tick, then names -/
def spTick (C : Addr) (f : Nat → List Row → List Str → Int → V) : Sp := fun vs H Q _ => ∃ (x n : Nat) (R : List Row) (t : Int) (nm : Addr) (ns : List Str), vs = [.ref x, .int t, .ref nm] ∧ LivesAt C H x n R ∧ H nm = some (.tup (ns.map V.str)) ∧ (∀ s ∈ ns, s ∈ keys R) ∧ -great < t ∧ t < great ∧
  ∀ H', Same H H' → Q (f n R ns t) H'
abbrev fAlive (n : Nat) (R : List Row) (ns : List Str) (t : Int) : V := .int (sumA n (lives (cnt R ns)) t)
abbrev fAcross (n : Nat) (R : List Row) (ns : List Str) (t : Int) : V := .int (sumX n (lives (cnt R ns)) t)
abbrev fFull (n : Nat) (R : List Row) (ns : List Str) (t : Int) : V := .bl (isFull n (lives (cnt R ns)) t)
abbrev n_al : List Str := ["self", "tick", "names", "life"]
theorem sl_al : FnScope n_al ["self", "tick", "names"] (defScope mAlive) := ⟨rfl, rfl, rfl, by decide +kernel, rfl, by decide +kernel, by decide +kernel⟩
theorem ok_al {f fci fca : Addr} {fd fdci fdca : FuncData} (F : Fun K "alive" "Lives.alive" mAlive f fd) {C fCO : Addr} {fdCO : FuncData} (T : Txt mg) (X : CTxt K C) (nCO : Mn P w K mg base C "_counted" ["self", "names"] 3 (spCounted C) fCO fdCO) (dci : Dn P w K mg base CX0 "check_integer" ["value"] 3 spChkI fci fdci) (dca : Dn P w K mg base CX0 "count_alive" ["life", "interval", "tick"] 1 (spCnt alive) fca fdca) : FnR P w K mg base CX0 4 f (spStar 2 ((spTick C fAlive))) := by
  refine star_ok (ps := ["self", "tick"]) (pv := "names") F sl_al (fun kV doc pm an cdv ct => StX.bind_star2 (B := fun l => bindArgs _ ⟨l, []⟩) (fun _ _ => rfl) (fun _ _ _ _ => rfl) ) (fun cdv A outer s H vs Q E hr h => ?_)
  · obtain ⟨x, n, R, t, nm, ns, rfl, lv, en, sub, t0, t1, k⟩ := h
    have hr1 : Room 1 _ := hr.mono (by decide)
    refine ⟨_, pss_cons (ps_expr (pe_call dci.G hr rfl dci.g dci.kp dci.b .nil pass0 (pa_cons (pv 1) pa_nil))) (pss_one (ps_ret (pe_callB (cr_sum rfl) (by rfl) T.sum (by decide +kernel) (pa_cons (pe_lc (own := [("life", 3)]) (g := gName 3) (tt := tYes) (by rfl) sl_al.nd (pi_list (pe_meth (pv 0) X.cl nCO.m nCO.G hr nCO.b .nil pass0 (pa_cons (pv 2) pa_nil))) (blkOk_by (own := [("life", 3)]) (N := n_al) (sc := defScope mAlive) (by decide +kernel)) (fun _ _ _ _ _ => pg_name (i := 3) sl_al.nd rfl (Or.inl rfl)) (fun _ _ _ _ _ => pts_nil) (fun _ _ _ _ _ => pe_call dca.G hr1 rfl dca.g dca.kp dca.b .nil pass0 (pa_cons (pv 3) (pa_cons (pe_fldA (K := K) rfl (pv 0) rfl) (pa_cons (pv 1) pa_nil))))) pa_nil)))), ?_⟩
    obtain ⟨dx, D, N, lv⟩ := id lv
    have gl := cnt_ok lv.ok ns
    refine ⟨_, rfl, t, rfl, t0, t1, ?_⟩
    refine ⟨_, rfl, x, dx, _, rfl, lv.ob, rfl, _, rfl, x, n, R, nm, ns, rfl, ⟨dx, D, N, lv⟩, en, sub, fun L H1 s1 el => ?_⟩
    have ob := s1 _ _ lv.ob
    obtain ⟨ts, eL, pr⟩ := el
    have len : ts.length = (lives (cnt R ns)).length := Paired.length pr
    refine ⟨L, rfl, ⟨_, SqL.of eL⟩, fun M nM => lc_it walk_list (fun i H' => Acc H1 M ((((lives (cnt R ns)).take i).map fun l => Liv.alive n l t).map V.int) H') (Acc.start nM) (fun i H' _ a => SqL.of (a.1 _ _ eL)) ?_ ?_⟩
    · rintro i v H0 H3 hi a3 ⟨rfl, hv⟩
      obtain ⟨ta, l, rfl, hl, elf⟩ := lvs_at pr hv
      have elf := a3.1 _ _ elf
      refine ⟨rfl, _, rfl, _, rfl, x, C, dx, _, _, rfl, a3.1 _ _ ob, X.cl, X.nI, rfl, _, rfl, ta, l, n, t, rfl, elf, by have := lv.n0; omega, n_b lv.n1, _, a3.2.2, ?_, ?_⟩
      · rw [List.length_map, List.length_map]
        exact lt_line (by have := List.length_take_le' i (lives (cnt R ns)); have := gl.few; omega)
      · rw [take_step hl, List.map_append, List.map_append]
        exact a3.put
    · intro H3 a3
      rw [List.length_map, len, List.take_length] at a3
      exact ⟨M, _, rfl, SqL.of a3.2.2, k _ (s1.trans a3.1)⟩
abbrev n_ac2 : List Str := ["self", "moment", "names"]
theorem sl_ac2 : FnScope n_ac2 ["self", "moment", "names"] (defScope mAcross) := ⟨rfl, rfl, rfl, by decide +kernel, rfl, by decide +kernel, by decide +kernel⟩
theorem ok_ac2 {f fci fax : Addr} {fd fdci fdax : FuncData} (F : Fun K "across" "Lives.across" mAcross f fd) {C fCO : Addr} {fdCO : FuncData} (T : Txt mg) (X : CTxt K C) (nCO : Mn P w K mg base C "_counted" ["self", "names"] 3 (spCounted C) fCO fdCO) (dci : Dn P w K mg base CX0 "check_integer" ["value"] 3 spChkI fci fdci) (dax : Dn P w K mg base CX0 "all_across" ["rows", "interval", "moment"] 2 spAll fax fdax) : FnR P w K mg base CX0 4 f (spStar 2 ((spTick C fAcross))) := by
  refine star_ok (ps := ["self", "moment"]) (pv := "names") F sl_ac2 (fun kV doc pm an cdv ct => StX.bind_star2 (B := fun l => bindArgs _ ⟨l, []⟩) (fun _ _ => rfl) (fun _ _ _ _ => rfl) ) (fun cdv A outer s H vs Q E hr h => ?_)
  · obtain ⟨x, n, R, t, nm, ns, rfl, lv, en, sub, t0, t1, k⟩ := h
    have hr2 : Room 2 _ := hr.mono (by decide)
    refine ⟨_, pss_cons (ps_expr (pe_call dci.G hr rfl dci.g dci.kp dci.b .nil pass0 (pa_cons (pv 1) pa_nil))) (pss_one (ps_ret (pe_call dax.G hr2 rfl dax.g dax.kp dax.b .nil pass0 (pa_cons (pe_meth (pv 0) X.cl nCO.m nCO.G hr nCO.b .nil pass0 (pa_cons (pv 2) pa_nil)) (pa_cons (pe_fld (pv 0) rfl) (pa_cons (pv 1) pa_nil)))))), ?_⟩
    obtain ⟨dx, D, N, lv⟩ := id lv
    have gl := cnt_ok lv.ok ns
    refine ⟨_, rfl, t, rfl, t0, t1, ?_⟩
    refine ⟨_, rfl, x, dx, _, rfl, lv.ob, rfl, _, rfl, x, n, R, nm, ns, rfl, ⟨dx, D, N, lv⟩, en, sub, fun L H1 s1 el => ?_⟩
    refine ⟨_, rfl, x, C, dx, _, _, rfl, s1 _ _ lv.ob, X.cl, X.nI, rfl, _, rfl, L, _, n, t, rfl, el, gl.few, by have := lv.n0; omega, n_b lv.n1, fun H2 s2 => k _ (s1.trans s2)⟩
abbrev n_fu : List Str := ["self", "moment", "names", "rows"]
theorem sl_fu : FnScope n_fu ["self", "moment", "names"] (defScope mFull) := ⟨rfl, rfl, rfl, by decide +kernel, rfl, by decide +kernel, by decide +kernel⟩
theorem ok_fu {f fci fax fmo : Addr} {fd fdci fdax fdmo : FuncData} (F : Fun K "is_full" "Lives.is_full" mFull f fd) {C fCO : Addr} {fdCO : FuncData} (T : Txt mg) (X : CTxt K C) (nCO : Mn P w K mg base C "_counted" ["self", "names"] 3 (spCounted C) fCO fdCO) (dci : Dn P w K mg base CX0 "check_integer" ["value"] 3 spChkI fci fdci) (dax : Dn P w K mg base CX0 "all_across" ["rows", "interval", "moment"] 2 spAll fax fdax) (dmo : Dn P w K mg base CX0 "most_alive" ["rows", "interval"] 2 spMost fmo fdmo) : FnR P w K mg base CX0 4 f (spStar 2 ((spTick C fFull))) := by
  refine star_ok (ps := ["self", "moment"]) (pv := "names") F sl_fu (fun kV doc pm an cdv ct => StX.bind_star2 (B := fun l => bindArgs _ ⟨l, []⟩) (fun _ _ => rfl) (fun _ _ _ _ => rfl) ) (fun cdv A outer s H vs Q E hr h => ?_)
  · obtain ⟨x, n, R, t, nm, ns, rfl, lv, en, sub, t0, t1, k⟩ := h
    have hr2 : Room 2 _ := hr.mono (by decide)
    refine ⟨_, pss_cons (ps_expr (pe_call dci.G hr rfl dci.g dci.kp dci.b .nil pass0 (pa_cons (pv 1) pa_nil))) (pss_cons (ps_set (i := 3) sl_fu.nd rfl (.inl rfl) (pe_meth (pv 0) X.cl nCO.m nCO.G hr nCO.b .nil pass0 (pa_cons (pv 2) pa_nil))) (pss_one (ps_ret (pe_cmpR op_eq (pe_call dax.G hr2 rfl dax.g dax.kp dax.b .nil pass0 (pa_cons (pv 3) (pa_cons (pe_fld (pv 0) rfl) (pa_cons (pv 1) pa_nil)))) (pe_call dmo.G hr2 rfl dmo.g dmo.kp dmo.b .nil pass0 (pa_cons (pv 3) (pa_cons (pe_fld (pv 0) rfl) pa_nil))) (nomark _))))), ?_⟩
    obtain ⟨dx, D, N, lv⟩ := id lv
    have gl := cnt_ok lv.ok ns
    refine ⟨_, rfl, t, rfl, t0, t1, ?_⟩

    refine ⟨_, rfl, x, dx, _, rfl, lv.ob, rfl, _, rfl, x, n, R, nm, ns, rfl, ⟨dx, D, N, lv⟩, en, sub, fun L H1 s1 el => ?_⟩
    refine ⟨_, rfl, _, rfl, x, C, dx, _, _, rfl, s1 _ _ lv.ob, X.cl, X.nI, rfl, _, rfl, L, _, n, t, rfl, el, gl.few, by have := lv.n0; omega, n_b lv.n1, fun H2 s2 => ?_⟩
    refine ⟨_, rfl, _, rfl, x, C, dx, _, _, rfl, s2 _ _ (s1 _ _ lv.ob), X.cl, X.nI, rfl, L, _, n, rfl, el.same s2, gl, lv.n0, lv.n1, fun H3 s3 => ?_⟩
    have e : decide (V.int (sumX n (lives (cnt R ns)) t) = V.int (Liv.most n (lives (cnt R ns)))) = isFull n (lives (cnt R ns)) t := by
      unfold isFull
      simp
    refine ⟨rfl, ?_⟩
    rw [e]
    exact k _ (s1.trans (s2.trans s3))
/-- a star method: names alone -/
def spNames (C : Addr) (f : Nat → List Row → List Str → V) : Sp := fun vs H Q _ => ∃ (x n : Nat) (R : List Row) (nm : Addr) (ns : List Str), vs = [.ref x, .ref nm] ∧ LivesAt C H x n R ∧ H nm = some (.tup (ns.map V.str)) ∧ (∀ s ∈ ns, s ∈ keys R) ∧ ∀ H', Same H H' → Q (f n R ns) H'
abbrev fMost (n : Nat) (R : List Row) (ns : List Str) : V := .int (Liv.most n (lives (sel R ns)))
abbrev n_mf : List Str := ["self", "names"]
theorem sl_mf : FnScope n_mf ["self", "names"] (defScope mMostOf) := ⟨rfl, rfl, rfl, by decide +kernel, rfl, by decide +kernel, by decide +kernel⟩
theorem ok_mf {f fmo : Addr} {fd fdmo : FuncData} (F : Fun K "most_of" "Lives.most_of" mMostOf f fd) {C fLO : Addr} {fdLO : FuncData} (X : CTxt K C) (nLO : Mn P w K mg base C "_lives_of" ["self", "names"] 2 (spLivesOf C) fLO fdLO) (dmo : Dn P w K mg base CX0 "most_alive" ["rows", "interval"] 2 spMost fmo fdmo) : FnR P w K mg base CX0 3 f (spStar 1 ((spNames C fMost))) := by
  refine star_ok (ps := ["self"]) (pv := "names") F sl_mf (fun kV doc pm an cdv ct => StX.bind_star1 (B := fun l => bindArgs _ ⟨l, []⟩) (fun _ => rfl) (fun _ _ _ => rfl) ) (fun cdv A outer s H vs Q E hr h => ?_)
  · obtain ⟨x, n, R, nm, ns, rfl, lv, en, sub, k⟩ := h
    refine ⟨_, pss_one (ps_ret (pe_call dmo.G hr rfl dmo.g dmo.kp dmo.b .nil pass0 (pa_cons (pe_meth (pv 0) X.cl nLO.m nLO.G hr nLO.b .nil pass0 (pa_cons (pv 1) pa_nil)) (pa_cons (pe_fld (pv 0) rfl) pa_nil)))), ?_⟩
    obtain ⟨dx, D, N, lv⟩ := id lv
    refine ⟨_, rfl, x, dx, _, rfl, lv.ob, rfl, _, rfl, x, n, R, nm, ns, rfl, ⟨dx, D, N, lv⟩, en, sub, fun L H1 s1 el => ?_⟩
    refine ⟨_, rfl, x, C, dx, _, _, rfl, s1 _ _ lv.ob, X.cl, X.nI, rfl, L, _, n, rfl, el, (sel_ok lv.ok ns).lvg, lv.n0, lv.n1, fun H2 s2 => k _ (s1.trans s2)⟩
/-! ### apart -/
def out (R : List Row) (ns : List Str) : List Row := R.filter fun r => !decide (r.1 ∈ ns)
theorem out_take {R : List Row} {i : Nat} {r : Row} (h : R[i]? = some r) (ns : List Str) : out (R.take (i + 1)) ns = out (R.take i) ns ++ (if r.1 ∈ ns then [] else [r]) := by
  unfold out
  rw [take_step h, List.filter_append]
  congr 1
  by_cases c : r.1 ∈ ns <;> simp [c]
theorem out_ok {R : List Row} (g : IsRows R) (ns : List Str) : IsRows (out R ns) :=
  ⟨Nat.le_trans (List.length_filter_le ..) g.few, fun r h => g.key r (List.mem_filter.mp h).1, fun r h => g.life r (List.mem_filter.mp h).1⟩
def apart2 (n : Nat) (A B : List Lf) : Bool := ((List.range n).map fun m : Nat => isFull n A m || isFull n B m).all id
def isApart (n : Nat) (R : List Row) (ns : List Str) : Bool := !(sel R ns).isEmpty && !(out R ns).isEmpty && apart2 n (lives (sel R ns)) (lives (out R ns))
theorem int_in {x : Int} {xs : List Int} : inV (.int x) (xs.map V.int) = decide (x ∈ xs) := by
  unfold inV
  by_cases c : x ∈ xs
  · rw [decide_eq_true c, List.any_eq_true]
    exact ⟨.int x, List.mem_map_of_mem c, by simp [eqV]⟩
  · rw [decide_eq_false c, List.any_eq_false]
    intro v hv e
    obtain ⟨y, hy, rfl⟩ := List.mem_map.mp hv
    have z : y = x := by simpa [eqV] using e
    exact c (z ▸ hy)
theorem full_in {n i : Nat} (h : i < n) (ls : List Lf) : inV (.int i) ((((List.range n).map fun s : Nat => (s : Int)).filter fun m => isFull n ls m).map V.int) = isFull n ls i := by
  rw [int_in]
  cases c : isFull n ls i with
  | true =>
    rw [decide_eq_true_iff, List.mem_filter]
    exact ⟨List.mem_map_of_mem (List.mem_range.mpr h), c⟩
  | false =>
    rw [decide_eq_false_iff_not, List.mem_filter]
    rintro ⟨_, z⟩
    rw [c] at z
    cases z
theorem empty_lives {H : Hp} {ts : List Addr} {R : List Row} (p : Paired (fun t l => LifeAt H t l) ts (lives R)) : (ts.map V.ref).isEmpty = R.isEmpty := by
  have := Paired.length p
  rw [List.length_map] at this
  cases ts <;> cases R <;> simp_all
abbrev fApart (n : Nat) (R : List Row) (ns : List Str) : V := .bl (isApart n R ns)
abbrev n_ap : List Str := ["self", "names", "some", "others", "full", "others_full", "key", "moment"]
theorem sl_ap : FnScope n_ap ["self", "names"] (defScope mApart) := ⟨rfl, rfl, rfl, by decide +kernel, rfl, by decide +kernel, by decide +kernel⟩
theorem ok_ap {f ffm : Addr} {fd fdfm : FuncData} (F : Fun K "is_apart" "Lives.is_apart" mApart f fd) {C fLO : Addr} {fdLO : FuncData} (T : Txt mg) (X : CTxt K C) (nLO : Mn P w K mg base C "_lives_of" ["self", "names"] 2 (spLivesOf C) fLO fdLO) (dfm : Dn P w K mg base CX0 "full_moments" ["rows", "interval"] 3 spFull ffm fdfm) : FnR P w K mg base CX0 4 f (spStar 1 ((spNames C fApart))) := by
  refine star_ok (ps := ["self"]) (pv := "names") F sl_ap (fun kV doc pm an cdv ct => StX.bind_star1 (B := fun l => bindArgs _ ⟨l, []⟩) (fun _ => rfl) (fun _ _ _ => rfl) ) (fun cdv A outer s H vs Q E hr h => ?_)
  · obtain ⟨x, n, R, nm, ns, rfl, lv, en, sub, k⟩ := h
    have hr2 : Room 2 _ := hr.mono (by decide)
    refine ⟨_, pss_cons (ps_set (i := 2) sl_ap.nd rfl (.inl rfl) (pe_meth (pv 0) X.cl nLO.m nLO.G hr2 nLO.b .nil pass0 (pa_cons (pv 1) pa_nil))) (pss_cons (ps_setLc (i := 3) (own := [("key", 6)]) (g := gName 6) (by rfl) sl_ap.nd rfl rfl (sw_true rfl rfl rfl (by decide +kernel)) (pi_tup (pe_fld (pv 0) rfl)) (blkOk_by (own := [("key", 6)]) (N := n_ap) (sc := defScope mApart) (by decide +kernel)) (fun _ _ _ _ _ => pg_name (i := 6) sl_ap.nd rfl (Or.inl rfl)) (fun _ _ _ _ _ => pts_one (pt_cmpR ((notIn_at (K := K) rfl)) (pv 6) (pv 1) (by rfl))) (fun _ _ _ _ _ => pe_dget (Room.one_up hr) (pe_fldA (K := K) rfl (pv 0) rfl) (pv 6) (fun _ _ => rfl))) (pss_cons (ps_if (PW.pt (pw_or (pt_not (pt_truth (pv 2) (by intro _; rfl))) (pw_or1 (pt_not (pt_truth (pv 3) (by intro _; rfl)))))) (pss_one (ps_ret pe_bl)) pss_nil) (pss_cons (ps_asg (pe_tup (pa_cons (pe_call dfm.G hr rfl dfm.g dfm.kp dfm.b .nil pass0 (pa_cons (pv 2) (pa_cons (pe_fld (pv 0) rfl) pa_nil))) (pa_cons (pe_call dfm.G hr rfl dfm.g dfm.kp dfm.b .nil pass0 (pa_cons (pv 3) (pa_cons (pe_fld (pv 0) rfl) pa_nil))) pa_nil))) (pg_tup rfl (pgs_cons (pg_name (i := 4) sl_ap.nd rfl (.inr rfl)) (pgs_cons (pg_name (i := 5) sl_ap.nd rfl (.inr rfl)) pgs_nil)))) (pss_one (ps_ret (pe_callB (cr_all (by rfl)) (by rfl) T.all (by decide +kernel) (pa_cons (pe_lc (own := [("moment", 7)]) (g := gName 7) (tt := tYes) (by rfl) sl_ap.nd (pi_range1 rfl T.range (pa_cons (pe_fld (pv 0) rfl) pa_nil)) (blkOk_by (own := [("moment", 7)]) (N := n_ap) (sc := defScope mApart) (by decide +kernel)) (fun _ _ _ _ _ => pg_name (i := 7) sl_ap.nd rfl (Or.inl rfl)) (fun _ _ _ _ _ => pts_nil) (fun _ _ _ _ _ => pe_or (pe_cmpR ((in_at (K := K) rfl)) (pv 7) (pv 4) (by rfl)) (pe_one (pe_cmpR ((in_at (K := K) rfl)) (pv 7) (pv 5) (by rfl))))) pa_nil))))))), ?_⟩
    obtain ⟨dx, D, N, lv⟩ := id lv
    have ob := lv.ob
    refine ⟨_, rfl, x, dx, _, rfl, ob, rfl, _, rfl, x, n, R, nm, ns, rfl, ⟨dx, D, N, lv⟩, en, sub, fun L H1 s1 el => ?_⟩
    have lv1 := lv.same s1
    have en1 := s1 _ _ en
    have ob1 := lv1.ob
    obtain ⟨kvs, eD, rv⟩ := lv1.rows
    have eN := lv1.names
    refine ⟨_, rfl, x, C, dx, _, _, rfl, ob1, X.cl, X.nN, rfl, N, rfl, ⟨_, SqT.of eN⟩, fun M nM => lc_it walk_tup (fun i H' => ∃ ts : List Addr, Acc H1 M (ts.map V.ref) H' ∧ Paired (fun t l => LifeAt H1 t l) ts (lives (out (R.take i) ns))) ⟨[], Acc.start nM, .nil⟩
      (fun i H' _ a => SqT.of (by obtain ⟨_, a, _⟩ := a; exact a.1 _ _ eN)) ?_ ?_⟩
    · rintro i v H2 H3 hi ⟨ts, a, p⟩ ⟨rfl, hv⟩
      obtain ⟨k0, rfl, hk⟩ := strs_at2 hv
      obtain ⟨r, hr, rfl⟩ := row_at hk
      have mr := List.mem_of_getElem? hr
      have i1 : i < 48 := by have := lv.ok.few; have := (List.getElem?_eq_some_iff.mp hr).1; omega
      refine ⟨rfl, _, rfl, _, rfl, nm, _, rfl, .inr (SqT.of (a.1 _ _ en1)), rfl, by simp [flatV], _, rfl, ?_⟩
      rw [if_pos rfl, in_iff]
      have tk := out_take hr ns
      by_cases c : r.1 ∈ ns
      · rw [decide_eq_true c]
        refine iteFe rfl ⟨ts, a, ?_⟩
        rw [tk, if_pos c, List.append_nil]
        exact p
      · obtain ⟨t, ht, elt⟩ := rv.get lv.ord.nd mr
        rw [decide_eq_false c]
        refine iteTe rfl ⟨_, rfl, x, C, dx, _, _, rfl, a.1 _ _ ob1, X.cl, X.nR, rfl, _, rfl, D, .ref t, rfl, dget_of (k := Sum.inr r.1) (.inl (a.1 _ _ eD)) ht, ts.map V.ref, a.2.2, ?_, ts ++ [t], ?_, ?_⟩
        · rw [List.length_map, Paired.length p]
          refine lt_line ?_
          rw [List.length_map]
          have h1 : (out (R.take i) ns).length ≤ (R.take i).length := List.length_filter_le ..
          have h2 := List.length_take_le i R
          omega
        · rw [List.map_append]
          exact a.put
        · rw [tk, if_neg c, lives_app]
          exact paired_snoc p elt
    rintro H2 ⟨ts, a2, p2⟩
    rw [List.length_map, List.length_map, List.take_length] at p2
    obtain ⟨us, eL, p1⟩ := id el
    have s2 := a2.1
    have eM := a2.2.2
    have el2 := el.same s2
    refine ⟨_, rfl, !(sel R ns).isEmpty, .inl ⟨_, SqL.of (s2 _ _ eL), by rw [empty_lives p1]⟩, ?_⟩
    cases c1 : (sel R ns).isEmpty with
    | true =>
      refine iteTe rfl (iteTe rfl ?_)
      have e : fApart n R ns = .bl false := by unfold fApart isApart; rw [c1]; rfl
      rw [e] at k
      exact k _ (s1.trans s2)
    | false =>
    refine iteFe rfl ⟨_, rfl, !(out R ns).isEmpty, .inl ⟨_, SqL.of eM, by rw [empty_lives p2]⟩, ?_⟩
    cases c2 : (out R ns).isEmpty with
    | true =>
      refine iteTe rfl ?_
      have e : fApart n R ns = .bl false := by unfold fApart isApart; rw [c1, c2]; rfl
      rw [e] at k
      exact k _ (s1.trans s2)
    | false =>
    refine iteFe rfl ?_
    have e : fApart n R ns = .bl (apart2 n (lives (sel R ns)) (lives (out R ns))) := by unfold fApart isApart; rw [c1, c2]; rfl
    rw [e] at k
    have ob2 := s2 _ _ ob1
    refine ⟨_, rfl, _, rfl, x, C, dx, _, _, rfl, ob2, X.cl, X.nI, rfl, L, _, n, rfl, el2, (sel_ok lv.ok ns).lvg, lv.n0, lv.n1, fun F1 H3 s3 e3 => ?_⟩
    have ob3 := s3 _ _ ob2
    refine ⟨_, rfl, _, rfl, x, C, dx, _, _, rfl, ob3, X.cl, X.nI, rfl, M, _, n, rfl, ⟨ts, s3 _ _ eM, paired_same p2 (s2.trans s3)⟩, (out_ok lv.ok ns).lvg, lv.n0, lv.n1, fun F2 H4 s4 e4 => ?_⟩
    have e3 := s4 _ _ e3
    have ob4 := s4 _ _ ob3
    refine ⟨n_line, fun U nU => ?_⟩
    obtain ⟨H5, z5, s5, e5⟩ := mk_at (o := .tup [.ref F1, .ref F2]) nU
    rw [z5]
    have ob5 := s5 _ _ ob4
    have e3 := s5 _ _ e3
    have e4 := s5 _ _ e4
    refine ⟨U, _, rfl, SqT.of e5, rfl, _, _, rfl, _, _, rfl, rfl, ?_⟩
    refine ⟨_, rfl, x, C, dx, _, _, rfl, ob5, X.cl, X.nI, rfl, n, rfl, by have := lv.n0; omega, by have := lv.n1; omega, fun B nB => lc_range (n := n) (fun i H' => Acc H5 B (((List.range i).map fun m : Nat => isFull n (lives (sel R ns)) m || isFull n (lives (out R ns)) m).map V.bl) H') (Acc.start nB) ?_ ?_⟩
    · intro i H0 hi a3
      rw [Int.zero_add]
      refine ⟨rfl, _, rfl, _, rfl, F1, _, rfl, .inl (SqL.of (a3.1 _ _ e3)), rfl, by simp [flatV], ?_⟩
      have fin : ∀ b, b = (isFull n (lives (sel R ns)) i || isFull n (lives (out R ns)) i) → ∃ acc, H0 B = some (.lst acc) ∧ acc.length < sizeLine ∧ Acc H5 B (((List.range (i + 1)).map fun m : Nat => isFull n (lives (sel R ns)) m || isFull n (lives (out R ns)) m).map V.bl) (upd H0 B (.lst (acc ++ [V.bl b]))) := fun b eb => by
        refine ⟨_, a3.2.2, by rw [List.length_map, List.length_map, List.length_range]; exact lt_line (by have := lv.n1; omega), ?_⟩
        rw [List.range_succ, List.map_append, List.map_append, eb]
        exact a3.put
      rw [full_in hi]
      cases ca : isFull n (lives (sel R ns)) i with
      | true => exact ⟨_, rfl, iteTe rfl (fin _ (by rw [ca]; rfl))⟩
      | false =>
        refine ⟨_, rfl, iteFe rfl ⟨_, rfl, _, rfl, F2, _, rfl, .inl (SqL.of (a3.1 _ _ e4)), rfl, by simp [flatV], ?_⟩⟩
        rw [full_in hi]
        exact fin _ (by rw [ca]; rfl)
    · intro H6 a6
      exact ⟨B, _, rfl, SqL.of a6.2.2, k _ (s1.trans (s2.trans (s3.trans (s4.trans (s5.trans a6.1)))))⟩
/-! ### the values alive -/
def vals (n : Nat) (R : List Row) (t : Int) : List (Str × Int) := R.flatMap fun r => (turns n r.2 t).map fun k => (r.1, k)
/-- pairs (a key, a turn) in the heap -/
def PairsAt (H : Hp) : List V → List (Str × Int) → Prop := Paired fun v p => ∃ t, v = .ref t ∧ H t = some (.tup [.str p.1, .int p.2])
def spEach (C : Addr) : SpG := fun vs H Q _ => ∃ (x n : Nat) (R : List Row) (t : Int), vs = [.ref x, .int t] ∧ LivesAt C H x n R ∧ -great < t ∧ t < great ∧ (vals n R t).length ≤ 1000 ∧
  ∀ ys H', Same H H' → PairsAt H' ys (vals n R t) → Q ys H'
theorem PairsAt.same {H H' : Hp} {ys : List V} {ps : List (Str × Int)} (p : PairsAt H ys ps) (s : Same H H') : PairsAt H' ys ps := by
  induction p with
  | nil => exact .nil
  | cons z _ ih =>
    obtain ⟨t, e, et⟩ := z
    exact .cons ⟨t, e, s _ _ et⟩ ih
theorem vals_take {n : Nat} {R : List Row} {t : Int} {i : Nat} {r : Row} (h : R[i]? = some r) : vals n (R.take (i + 1)) t = vals n (R.take i) t ++ (turns n r.2 t).map fun k => (r.1, k) := by
  unfold vals
  rw [take_step h, List.flatMap_append]
  congr 1
  exact List.append_nil _
theorem vals_len_take {n : Nat} {R : List Row} {t : Int} (i : Nat) : (vals n (R.take i) t).length ≤ (vals n R t).length := by
  have e : vals n R t = vals n (R.take i) t ++ vals n (R.drop i) t := by
    unfold vals
    rw [← List.flatMap_append, List.take_append_drop]
  rw [e, List.length_append]
  omega
theorem num_b {n : Nat} {l : Lf} {t k : Int} (g : IsLife l) (t0 : -great < t) (t1 : t < great) (h0 : lo n l t ≤ k) (h1 : k ≤ hi n l t + 1) : B 103 k := by
  have a : ((t - l.1) / (n : Int)).natAbs ≤ (t - l.1).natAbs := Int.natAbs_ediv_le_natAbs ..
  have b : ((t - l.2) / (n : Int)).natAbs ≤ (t - l.2).natAbs := Int.natAbs_ediv_le_natAbs ..
  have c : great < 2 ^ 100 := by decide
  have d : ((2 : Int) ^ 100) * 8 = 2 ^ 103 := by decide
  have e : (2 : Nat) ^ 103 = ((2 : Int) ^ 103).toNat := by decide
  obtain ⟨_, q1, q2, q3, q4⟩ := g
  unfold lo at h0
  unfold hi at h1
  unfold B
  rw [e]
  generalize great = G at *
  generalize (2 : Int) ^ 100 = p at *
  generalize (2 : Int) ^ 103 = q at *
  omega
theorem sc_each : GScope ["self", "tick", "key", "begin", "end", "number"] ["self", "tick"] (defScope mEach) := ⟨rfl, rfl, rfl, by decide +kernel, rfl, by decide +kernel, by decide +kernel⟩
theorem gok_each {C f fci : Addr} {fd fdci : FuncData} (F : Fun K "each_alive" "Lives.each_alive" mEach f fd) (X : CTxt K C) (dci : Dn P w K mg base CX0 "check_integer" ["value"] 3 spChkI fci fdci) :
    GFn P w K mg base 4 f fd ["self", "tick"] (spEach C) := by
  obtain ⟨oc, od, kV, doc, pm, an, cdv, ct, osl, rfl, lk, hcd⟩ := F.ex
  refine gfn_of lk hcd sc_each (fun vs H Q E h => ?_) (fun A outer s H vs Q E pn hr h => ?_)
  · obtain ⟨x, n, R, t, rfl, _⟩ := h
    rfl
  obtain ⟨x, n, R, t, rfl, lv, t0, t1, few, k⟩ := h
  have hr1 : Room 1 _ := hr.mono (by decide)
  refine ⟨_, gss_cons (gs_ps (ps_expr (pe_call dci.G hr rfl dci.g dci.kp dci.b .nil pass0 (pa_cons (pv 1) pa_nil))))
    (gss_cons (gs_for owns_gcx rfl (pi_tup (pe_fld (pv 0) rfl)) (pg_name (i := 2) sc_each.nd rfl (.inl rfl))
      (gss_cons (gs_ps (ps_asg (pe_dget (Room.one_up hr1) (pe_fld (pv 0) rfl) (pv 2) (fun _ _ => rfl)) (pg_tup rfl (pgs_cons (pg_name (i := 3) sc_each.nd rfl (.inl rfl)) (pgs_cons (pg_name (i := 4) sc_each.nd rfl (.inl rfl)) pgs_nil)))))
        (gss_cons (gs_ps (ps_set (i := 5) sc_each.nd rfl (.inl rfl) (pe_un un_neg (pe_op op_fdivV (pe_op op_sub (pe_op op_sub (pv 4) pe_int) (pv 1)) (pe_fld (pv 0) rfl)))))
          (gss_cons (gs_while owns_gcx (pt_cmpR op_le (pe_op op_add (pv 3) (pe_op op_mulW (pe_fld (pv 0) rfl) (pv 5))) (pv 1) (nomark _))
            (gss_cons (gs_yield (pe_tup (pa_cons (pv 2) (pa_cons (pv 5) pa_nil))))
              (gss_cons (gs_ps (ps_aug (i := 5) sc_each.nd rfl (.inl rfl) pe_int ip_add)) gss_nil))) gss_nil))))
    gss_nil), ?_⟩
  obtain ⟨dx, D, N, lv⟩ := lv
  refine ⟨_, rfl, t, rfl, t0, t1, ?_⟩
  have ob := lv.ob
  have eN := lv.names
  obtain ⟨kvs, eD, rv⟩ := lv.rows
  have n0 : (0 : Int) < n := by have := lv.n0; omega
  have line : (1000 : Nat) < sizeLine := lt_line (Nat.le_refl _)
  refine ⟨_, rfl, x, C, dx, _, _, rfl, ob, X.cl, X.nN, rfl, N, rfl, ⟨_, SqT.of eN⟩,
    fun i m ys σ H' => m = R.length - i ∧ i ≤ R.length ∧ ∃ v2 v3 v4 v5, σ = [some (.ref x), some (.int t), v2, v3, v4, v5] ∧ Same H H' ∧ PairsAt H' ys (vals n (R.take i) t),
    ⟨_, rfl, Nat.zero_le _, _, _, _, _, rfl, fun _ _ e => e, .nil⟩, ?_⟩
  rintro i m ys σ H1 ⟨rfl, hi, v2, v3, v4, v5, rfl, s1, pr⟩
  have q := SqT.of (K := K) (s1 _ _ eN)
  have len : ((keys R).map V.str).length = R.length := by rw [List.length_map, List.length_map]
  by_cases hlt : i < R.length
  · obtain ⟨r, hr⟩ : ∃ r, R[i]? = some r := ⟨_, List.getElem?_eq_getElem hlt⟩
    have hk : ((keys R).map V.str)[i]? = some (V.str r.1) := by rw [List.getElem?_map, List.getElem?_map, hr]; rfl
    have mr := List.mem_of_getElem? hr
    have gl := lv.ok.life r mr
    obtain ⟨tl, ht, elt⟩ := rv.get lv.ord.nd mr
    refine .inr ⟨⟨_, _, q, hk⟩, fun ys σ H' => ∃ v2 v3 v4 v5, σ = [some (.ref x), some (.int t), v2, v3, v4, v5] ∧ Same H H' ∧ PairsAt H' ys (vals n (R.take (i + 1)) t), fun ys' σ' H' p' => ⟨R.length - (i + 1), by omega, rfl, hlt, p'⟩, fun v H2 y => ?_⟩
    obtain ⟨rfl, y⟩ := y
    obtain rfl : V.str r.1 = v := Option.some.inj (hk.symm.trans (y _ q))
    have ob1 := s1 _ _ ob
    refine ⟨_, rfl, x, C, dx, _, _, rfl, ob1, X.cl, X.nR, rfl, _, rfl, D, .ref tl, rfl, dget_of (k := Sum.inr r.1) (.inl (s1 _ _ eD)) ht, ?_⟩
    refine ⟨tl, _, rfl, SqT.of (s1 _ _ elt), rfl, _, _, rfl, _, _, rfl, rfl, ?_⟩
    refine ⟨_, rfl, _, _, rfl, rfl, _, rfl, _, _, rfl, rfl, _, rfl, x, C, dx, _, _, rfl, ob1, X.cl, X.nI, rfl, _, _, rfl, rfl, B.dv (n_b lv.n1) (by omega), ?_⟩
    refine ⟨_, rfl, ?_⟩
    have low : -((r.2.2 - 1 - t).fdiv (n : Int)) = lo n r.2 t := by
      rw [last_neg n0]
      omega
    show gName 5 (V.int (-((r.2.2 - 1 - t).fdiv (n : Int)))) _ _ _
    rw [low]
    have tk := vals_take (n := n) (t := t) hr
    have fw := vals_len_take (n := n) (R := R) (t := t) (i + 1)
    have al := alive_nn n0 gl.lt t
    rw [alive_eq n0] at al
    obtain ⟨u, hu⟩ : ∃ u : Nat, Liv.hi n r.2 t - lo n r.2 t + 1 = u := ⟨_, (Int.toNat_of_nonneg al).symm⟩
    have tu : turns n r.2 t = run (lo n r.2 t) u := by
      unfold turns
      rw [hu]
      rfl
    have fwu : (vals n (R.take i) t).length + u ≤ 1000 := by
      rw [tk, List.length_append, List.length_map, tu, run_len] at fw
      omega
    refine ⟨fun m ys σ H' => ∃ j : Nat, m = u - j ∧ j ≤ u ∧ σ = [some (.ref x), some (.int t), some (.str r.1), some (.int r.2.1), some (.int r.2.2), some (.int (lo n r.2 t + j))] ∧ Same H H' ∧
      PairsAt H' ys (vals n (R.take i) t ++ (run (lo n r.2 t) j).map fun k => (r.1, k)), ⟨u, 0, rfl, Nat.zero_le _, ?_, s1, ?_⟩, ?_⟩
    · show [_, _, _, _, _, _] = _
      rw [show lo n r.2 t + ((0 : Nat) : Int) = lo n r.2 t by omega]
    · rw [run_zero, List.map_nil, List.append_nil]
      exact pr
    rintro m ys σ H2 ⟨j, rfl, ju, rfl, s2, pr⟩
    have nb : B 103 (lo n r.2 t + j) := num_b (n := n) gl t0 t1 (by omega) (by omega)
    have n6 : B 6 (n : Int) := by
      unfold B
      have := lv.n1
      have : (33 : Nat) < 2 ^ 6 := by decide
      omega
    refine ⟨_, rfl, _, rfl, x, C, dx, _, _, rfl, s2 _ _ ob, X.cl, X.nI, rfl, _, rfl, _, _, rfl, rfl, n6.ml nb, _, _, rfl, rfl, _, rfl, _, _, rfl, rfl, _, rfl, ?_⟩
    by_cases c : j < u
    · refine iteTe (decide_eq_true ?_) ⟨fun ys' σ' H' => ∃ j' : Nat, j' = j + 1 ∧ σ' = [some (.ref x), some (.int t), some (.str r.1), some (.int r.2.1), some (.int r.2.2), some (.int (lo n r.2 t + j'))] ∧ Same H H' ∧
        PairsAt H' ys' (vals n (R.take i) t ++ (run (lo n r.2 t) j').map fun k => (r.1, k)), fun ys' σ' H' p' => ?_, ?_⟩
      · have := (le_hi n0 r.2 t (lo n r.2 t + j)).mp (by omega)
        omega
      · obtain ⟨j', rfl, e1, e2, e3⟩ := p'
        exact ⟨u - (j + 1), by omega, j + 1, rfl, c, e1, e2, e3⟩
      · refine ⟨?_, _, rfl, _, rfl, n_line, fun p np => ?_⟩
        · have := Paired.length pr
          rw [List.length_append, List.length_map, run_len] at this
          omega
        obtain ⟨H3, z3, s3, e3⟩ := mk_at (o := .tup [.str r.1, .int (lo n r.2 t + j)]) np
        rw [z3]
        refine ⟨_, rfl, _, _, rfl, rfl, j + 1, rfl, ?_, s2.trans s3, ?_⟩
        · show [_, _, _, _, _, _] = _
          rw [show lo n r.2 t + ((j + 1 : Nat) : Int) = lo n r.2 t + j + 1 by omega]
        · rw [run_snoc, List.map_append, ← List.append_assoc]
          exact paired_snoc (pr.same s3) ⟨p, rfl, e3⟩
    · obtain rfl : j = u := by omega
      refine iteFe (decide_eq_false ?_) ⟨_, _, _, _, rfl, s2, ?_⟩
      · intro z
        have := (le_hi n0 r.2 t (lo n r.2 t + j)).mpr (by omega)
        omega
      · rw [tk, tu]
        exact pr
  · have e : i = R.length := by omega
    subst e
    rw [List.take_length] at pr
    exact .inl ⟨⟨_, q, by rw [len]; exact Nat.le_refl _⟩, k _ _ s1 pr⟩
end
end K56
/-! x in o, x not in o for an instance of an own class with __contains__ -/
namespace L2.My
open PySem PySem.Spec PyProof.Rows
section
variable {prog : Program} {w : World} {A : Around} {E : Value → Shared → Prop} {s : Shared} {K : PySem.W.Frag} {x C f : Addr} {ox : Obj} {odd : Option Obj} {v : Value}
theorem contains_inst {Q : Bool → Shared → Prop} (X : K.In s.heap) (I : PySem.W.InstAt s.heap x ox C odd) (hs : PySem.W.findIn K (.ref C) "__contains__" = some (some (.ref f))) (hf : PySem.W.isFn K (.ref f) = true)
    (h : wpAny (model prog w) A (call (.ref f) [.ref x, v]) (fun r s₁ => ∃ b, r = Value.bool b ∧ Q b s₁) E s) : wpAny (model prog w) A (contains (.ref x) v) Q E s := by
  unfold contains
  refine wpAny_holding (wpAny_bind (wpAny_bind (I.type.here ((PySem.W.looks_findIn X hs).here ?_))))
  rw [if_neg (by simp)]
  refine wpAny_bind (PySem.W.unlessNone_K X I hs hf (wpAny_mono h (fun r s' hr => ?_) fun _ _ z => z))
  obtain ⟨b, rfl, q⟩ := hr
  exact wpAny_truthy_bool q
def rInOwn (C : Addr) (sp : Sp) (g : Bool → Bool) (E : XK) : R2 := fun x y H Q => ∃ a dx fs, y = .ref a ∧ H a = some (.ins C dx fs) ∧ sp [.ref a, x] H (fun z H' => ∃ b, z = .bl b ∧ Q (.bl (g b)) H') E
section
variable {X : Cx} {CX : CXT} {n : Nat} {g : Addr} {fd : FuncData} {ps : List Str} {sp : Sp} {E' : XK}
theorem in_core {C : Addr} (hs : PySem.W.findIn X.K (.ref C) "__contains__" = some (some (.ref g))) (hf : PySem.W.isFn X.K (.ref g) = true) (F : FnOk X.prog X.w X.K X.mg X.base CX n g fd ps sp) (bd : Binds X.K fd ps []) (hl : ps.length = 2)
    (hr : Room n X.A) (hx : Passes CX X E') {pins : List (Addr × Obj)} {s : Shared} {σ : St} {H : Hp} {a dx : Addr} {fs : List (Str × V)} {x : V} {v : Value} {R : Bool → Hp → Prop} (I : Inv X pins σ H s) (rx : RelV x v) (ea : H a = some (.ins C dx fs))
    (q : sp [.ref a, x] H (fun z H' => ∃ b, z = .bl b ∧ R b H') E') :
    wpAny (model X.prog X.w) X.A (contains (.ref a) v) (fun b s' => ∃ H', Inv X pins σ H' s' ∧ R b H') X.xe s := by
  obtain ⟨mA, O, _, _, _, _⟩ := ins_get I.hok ea
  obtain ⟨od, J, _⟩ := O.look
  refine contains_inst I.kIn J hs hf (wpAny_call (codeAny_mono (F.run X.A X.stack s H ⟨[.ref a, v], []⟩ [.ref a, v] [.ref a, x] _ E' hr I.env0 (bd s [.ref a, v] I.kIn (by simp [hl])) (.cons rfl (.cons rx .nil)) q) fun r s' hq => ?_))
  cases r with
  | error e => exact hx pins σ H s e s' I hq
  | ok fl =>
    cases fl with
    | ret u =>
      obtain ⟨z, H', I', rz, b, ez, qz⟩ := I.after hq
      subst ez
      cases rz
      exact ⟨b, rfl, H', I', qz⟩
    | next => exact False.elim hq
    | brk => exact False.elim hq
    | cont => exact False.elim hq
theorem op_inOwn {C : Addr} (hs : PySem.W.findIn X.K (.ref C) "__contains__" = some (some (.ref g))) (hf : PySem.W.isFn X.K (.ref g) = true) (F : FnOk X.prog X.w X.K X.mg X.base CX n g fd ps sp) (bd : Binds X.K fd ps []) (hl : ps.length = 2)
    (hr : Room n X.A) (hx : Passes CX X E') : OpR X (compareOp .In) (rInOwn C sp id E') := by
  intro pins s σ H x y v u Q I rx ry h
  obtain ⟨a, dx, fs, rfl, ea, q⟩ := h
  cases ry
  refine wpAny_bind (wpAny_mono (in_core hs hf F bd hl hr hx (R := fun b H' => Q (.bl b) H') I rx ea q) (fun b s' h => ?_) fun _ _ z => z)
  obtain ⟨H', I', qz⟩ := h
  exact wpAny_pure ⟨.bl b, H', I', rfl, qz⟩
theorem op_notInOwn {C : Addr} (hs : PySem.W.findIn X.K (.ref C) "__contains__" = some (some (.ref g))) (hf : PySem.W.isFn X.K (.ref g) = true) (F : FnOk X.prog X.w X.K X.mg X.base CX n g fd ps sp) (bd : Binds X.K fd ps []) (hl : ps.length = 2)
    (hr : Room n X.A) (hx : Passes CX X E') : OpR X (compareOp .NotIn) (rInOwn C sp (fun b => !b) E') := by
  intro pins s σ H x y v u Q I rx ry h
  obtain ⟨a, dx, fs, rfl, ea, q⟩ := h
  cases ry
  refine wpAny_bind (wpAny_mono (in_core hs hf F bd hl hr hx (R := fun b H' => Q (.bl (!b)) H') I rx ea q) (fun b s' h => ?_) fun _ _ z => z)
  obtain ⟨H', I', qz⟩ := h
  exact wpAny_pure ⟨.bl (!b), H', I', rfl, qz⟩
end
end
end L2.My
/-! str(x) of an instance of an own class with __str__, str and f-strings of data: all where no repr is under way -/
namespace L2.My
open PySem PySem.Spec PyProof.Rows L2
section
variable {X : Cx}
def rStrOwn (C : Addr) (sp : Sp) : List V → Hp → VK → Prop := fun xs H Q => ∃ a dx fs, xs = [V.ref a] ∧ H a = some (.ins C dx fs) ∧ sp [.ref a] H (fun z H' => ∃ y : Str, z = .str y ∧ Q z H') E0
theorem call_strOwn {n : Nat} {C g : Addr} {fd : FuncData} {ps : List Str} {sp : Sp} (hs : PySem.W.findIn X.K (.ref C) "__str__" = some (some (.ref g))) (hf : PySem.W.isFn X.K (.ref g) = true) (F : FnG X.prog X.w X.K X.mg X.base n g fd ps sp) (bd : Binds X.K fd ps []) (hl : ps.length = 1)
    (hr : Room (n + 2) X.A) (gd : X.A.guards = some []) : CallR X (.type "str") (rStrOwn C sp) := by
  intro pins s σ H xs us Q I r h
  obtain ⟨a, dx, fs, rfl, ea, q⟩ := h
  obtain ⟨u, rfl, ru⟩ := vals1 r
  cases (show u = Value.ref a from ru)
  obtain ⟨mA, O, _, _, _, _⟩ := ins_get I.hok ea
  obtain ⟨od, J, _⟩ := O.look
  have hr2 : Room n X.A.in1.in1 := (show Room (n + 1) X.A.in1 from Room.in1 hr).in1
  refine PySem.W.kso_call hr2.units0 I.kIn J hs hf (wpAny_mono (wpAny_call (codeAny_mono (F.run X.A.in1.in1 X.stack s H ⟨[.ref a], []⟩ [.ref a] [.ref a] _ E0 hr2 gd I.env0.in1.in1 (bd s [.ref a] I.kIn (by simp [hl])) (.cons rfl .nil) q) fun r s' hq => ?_)) (fun w s' z => z) fun _ _ x => x)
  cases r with
  | error e => exact (show False from hq).elim
  | ok fl =>
    cases fl with
    | ret u =>
      obtain ⟨z, H', I', rz, y, ez, qz⟩ := I.after hq
      subst ez
      obtain ⟨t, rfl⟩ := rz
      exact ⟨.str y, H', I', ⟨t, rfl⟩, qz⟩
    | next => exact False.elim hq
    | brk => exact False.elim hq
    | cont => exact False.elim hq
/-- str(v), v a tuple or a list of data without dicts -/
def rStrD (K : PySem.W.Frag) : List V → Hp → VK → Prop := fun xs H Q => ∃ a d, xs = [V.ref a] ∧ Dp K H (.ref a) d ∧ d.showable = true ∧ d.hasDict = false ∧ d.depth ≤ 64 ∧ d.shown.length ≤ sizeLine ∧ Q (.str d.shown) H
theorem call_strD (gd : X.A.guards = some []) (hu : X.A.units + 70 < cLine) : CallR X (.type "str") (rStrD X.K) := by
  intro pins s σ H xs us Q I r h
  obtain ⟨a, d, rfl, dp, sh, nd, dd, sz, q⟩ := h
  obtain ⟨u, rfl, ru⟩ := vals1 r
  cases (show u = Value.ref a from ru)
  obtain ⟨as, rd⟩ := Dp.reads I d _ _ dp ru
  refine str_of_reads rd sh (PyData.noDict_hsm nd) gd (by omega) (fun _ _ e => e) (fun h' t tk hk => ?_) sz
  exact ⟨.str _, H, I.kept (t' := tk) hk, ⟨t, rfl⟩, q⟩
/-- {x} of a tuple or a list of data without dicts -/
def tFmtD (K : PySem.W.Frag) (te : TE) : TE := fun σ H Q => te σ H fun x H1 => ∃ a d, x = .ref a ∧ Dp K H1 (.ref a) d ∧ d.showable = true ∧ d.hasDict = false ∧ d.depth ≤ 64 ∧ d.shown.length ≤ sizeLine ∧ Q (.str d.shown) H1
theorem pe_fmtD {e : Expr} {te : TE} {pos : Pos} (gd : X.A.guards = some []) (hu : X.A.units + 70 < cLine) (he : PE X e te) : PE X (.FormattedValue e (-1) none pos) (tFmtD X.K te) := by
  refine ⟨fun pins s σ H Q I h => ?_⟩
  refine wpAny_FormattedValue_plain (thn (he.run pins s σ H _ I h) fun v s1 hv => ?_)
  obtain ⟨x, H1, I1, r1, a, d, rfl, dp, sh, nd, dd, sz, q⟩ := hv
  cases r1
  obtain ⟨as, rd⟩ := Dp.reads I1 d _ _ dp rfl
  refine formatField_of_reads rd sh (PyData.noDict_hsm nd) gd (by omega) (fun _ _ e => e) (fun h' t tk hk => ?_) sz
  exact ⟨.str _, H1, I1.kept (t' := tk) hk, ⟨t, rfl⟩, q⟩
end
end L2.My
namespace K56
open PySem L2
open L2.My
open Liv
abbrev mItem : Stmt := inClass (top 28) 16
abbrev mHas : Stmt := inClass (top 28) 17
abbrev mLen : Stmt := inClass (top 28) 18
abbrev mIter : Stmt := inClass (top 28) 19
abbrev mEq : Stmt := inClass (top 28) 20
abbrev mStr : Stmt := inClass (top 28) 21
/-! ### rows as data -/
theorem dget_none {H : Hp} {a : Addr} {kvs : List (Key × V)} {k : Key} (r : Rd H a (.dK kvs)) (h : valV kvs k = none) : DGet H a (kV k) none := .inl ⟨kvs, k, r, rfl, h.symm⟩
def lfD (l : Lf) : PyData := .tuple [.int l.1, .int l.2]
def dsOf (R : List Row) : List (Key × PyData) := R.map fun r => (Sum.inr r.1, lfD r.2)
theorem lf_shaped (l : Lf) : SeqAt.shaped (lfD l) = true := by
  simp [lfD, SeqAt.shaped, PyData.canLay0, PyData.canLayAll0, PyData.depth, PyData.depthAll]
theorem ds_shaped (R : List Row) : ∀ p ∈ dsOf R, SeqAt.shaped p.2 = true := fun p h => by
  obtain ⟨r, _, rfl⟩ := List.mem_map.mp h
  exact lf_shaped _
theorem lf_refl (l : Lf) : PyData.eqv (lfD l) (lfD l) = true := by
  have h1 := lf_shaped l
  unfold SeqAt.shaped at h1
  rw [Bool.and_eq_true] at h1
  exact PySem.SeqAt.eqv_refl _ h1.1
theorem dAt_mem {R : List Row} (nd : (keys R).Nodup) {r : Row} (h : r ∈ R) : dAt (dsOf R) (Sum.inr r.1) = some (lfD r.2) := by
  induction R with
  | nil => cases h
  | cons x R ih =>
    unfold dAt dsOf
    rw [List.map_cons]
    rcases List.mem_cons.mp h with rfl | h
    · rw [List.find?_cons_of_pos (by simp)]
      rfl
    · have n : x.1 ≠ r.1 := fun e => (List.nodup_cons.mp nd).1 (by rw [e]; exact List.mem_map_of_mem h)
      rw [List.find?_cons_of_neg (by simpa using n)]
      exact ih (List.nodup_cons.mp nd).2 h
theorem hits_of {U : List Row} (nd : (keys U).Nodup) : ∀ R : List Row, (∀ r ∈ R, r ∈ U) → hitsD (dsOf U) (dsOf R) = true
  | [], _ => rfl
  | r :: R, h => by
    show (match dAt (dsOf U) (Sum.inr r.1) with | none => false | some d => PyData.eqv (lfD r.2) d && hitsD (dsOf U) (dsOf R)) = true
    rw [dAt_mem nd (h r (List.mem_cons_self ..))]
    show (PyData.eqv (lfD r.2) (lfD r.2) && hitsD (dsOf U) (dsOf R)) = true
    rw [lf_refl, hits_of nd R fun x hx => h x (List.mem_cons_of_mem _ hx)]
    rfl
theorem eqv_perm {R U : List Row} (p : R.Perm U) (nd : (keys U).Nodup) : eqvD (dsOf R) (dsOf U) = true := by
  unfold eqvD
  rw [hits_of nd R fun r h => p.mem_iff.mp h]
  simp [dsOf, p.length_eq]
theorem eqv_len {R U : List Row} (h : R.length ≠ U.length) : eqvD (dsOf R) (dsOf U) = false := by
  unfold eqvD
  simp [dsOf, h]
theorem Rv.dpk {K : PySem.W.Frag} {H : Hp} {kvs : List (Key × V)} {R : List Row} (h : Rv H kvs R) : DpK K H kvs (dsOf R) := by
  induction h with
  | nil => exact .nil
  | cons x _ ih =>
    obtain ⟨e, t, ev, el⟩ := x
    refine .cons ⟨e, ?_⟩ ih
    rw [ev]
    exact .tup (SqT.of el) (.cons (.int _) (.cons (.int _) .nil))
theorem rows_one {R U : List Row} (p : R.Perm U) (hR : PyProof.Rows.sortedS (keys R) = true) (hU : PyProof.Rows.sortedS (keys U) = true) (nd : (keys U).Nodup) : R = U := by
  have pw : ∀ {L : List Row}, PyProof.Rows.sortedS (keys L) = true → L.Pairwise fun a b => cps a.1 ≤ cps b.1 := fun {L} h => (List.pairwise_map (f := Prod.fst) (R := fun a b : Str => cps a ≤ cps b)).mp (sorted_pw h)
  refine p.eq_of_pairwise (le := fun a b => cps a.1 ≤ cps b.1) (fun x y hx hy h1 h2 => ?_) (pw hR) (pw hU)
  have e := cps_inj (List.le_antisymm h1 h2)
  have a := look_mem nd (p.mem_iff.mp hx)
  have b := look_mem nd hy
  rw [e] at a
  exact Prod.ext e (Option.some.inj (a.symm.trans b))
theorem ord_one {R U : List Row} (p : R.Perm U) (hR : Ord R) (hU : Ord U) : R = U := rows_one p hR.so hU.so hU.nd
/-- facts of the class for isinstance -/
structure QTxt (K : PySem.W.Frag) (mg : Str → Option Value) (C : Addr) : Prop where
  ha : PySem.W.findIn K (.ref C) "__class__" = some (some (.builtin "object.__class__"))
  hn : PySem.W.specialIn K (.builtin "object.__class__") "__get__" = some (some (.builtin "getset_descriptor.__get__"))
  htk : PySem.W.takesIn K (.builtin "object.__class__") = some true
  hm : PySem.W.mroIn K C (.type "object") = some true
  gC : mg "Lives" = some (.ref C)
  kC : PySem.W.kitOne K (.ref C) (.ref C) = some true
  kN : PySem.W.kitOne K (.type "NoneType") (.ref C) = some false
  kD : PySem.W.kitOne K (.type "dict") (.ref C) = some false
theorem tyLv {K : PySem.W.Frag} {mg : Str → Option Value} {C x n dx D N : Addr} {H : Hp} {R : List Row} (X : CTxt K C) (I : QTxt K mg C) (lv : LvAt C H x n R dx D N) : TyX K H (.ref x) (.ref C) :=
  .base (.ins lv.ob X.cl I.ha I.hn I.htk I.hm)
def eqL (n : Nat) (R : List Row) (m : Nat) (U : List Row) : Bool := decide (n = m) && eqvD (dsOf R) (dsOf U)
section
variable {P : Program} {w : World} {K : PySem.W.Frag} {mg : Str → Option Value} {base : Heap}
/-! ### what the language calls -/
def spEqL (C : Addr) : Sp := fun vs H Q _ => ∃ x n R y, vs = [.ref x, y] ∧ LivesAt C H x n R ∧ ((∃ z m U, y = .ref z ∧ LivesAt C H z m U ∧ Q (.bl (eqL n R m U)) H) ∨ (y = .non ∧ Q (.bl false) H) ∨ ∃ D kvs, y = .ref D ∧ H D = some (.dK kvs) ∧ Q (.bl false) H)
abbrev n_eq : List Str := ["self", "other"]
theorem sl_eq : FnScope n_eq ["self", "other"] (defScope mEq) := ⟨rfl, rfl, rfl, by decide +kernel, rfl, by decide +kernel, by decide +kernel⟩
theorem ok_eq {f  : Addr} {fd  : FuncData} (F : Fun K "__eq__" "Lives.__eq__" mEq f fd) {C : Addr} (T : Txt mg) (X : CTxt K C) (I : QTxt K mg C)  : FnOk P w K mg base CX0 1 f fd ["self", "other"] (spEqL C) := by
  refine F.ok sl_eq (fun vs H Q E h => ?_) (fun cdv A outer s H vs Q E hr h => ?_)
  · obtain ⟨x, n, R, y, rfl, _⟩ := h
    rfl
  · obtain ⟨x, n, R, y, rfl, lv, k⟩ := h
    refine ⟨_, pss_one (ps_ret (pe_and (pe_callB call_isi (by rfl) T.isi (by decide +kernel) (pa_cons (pv 1) (pa_cons (pe_glob (v := .ref C) rfl I.gC rfl) pa_nil))) (pe_and (pe_cmpR op_eq (pe_fld (pv 0) rfl) (pe_fld (pv 1) rfl) (nomark _)) (pe_one (pe_cmpR ((op_eqDD hr.u65)) (pe_fld (pv 0) rfl) (pe_fld (pv 1) rfl) (nomark _)))))), ?_⟩
    rcases k with ⟨z, m, U, rfl, lz, k⟩ | ⟨rfl, k⟩ | ⟨D, kvs, rfl, eD, k⟩
    · obtain ⟨dx, D, N, lv⟩ := lv
      obtain ⟨dz, E', M, lz⟩ := lz
      refine ⟨_, rfl, _, _, _, _, _, rfl, ClsV.own _, tyLv X I lz, I.kC, _, rfl, iteTe rfl ?_⟩
      refine ⟨_, rfl, x, C, dx, _, _, rfl, lv.ob, X.cl, X.nI, rfl, _, rfl, z, C, dz, _, _, rfl, lz.ob, X.cl, X.nI, rfl, rfl, _, rfl, ?_⟩
      have e : decide (V.int n = V.int m) = decide (n = m) := by
        simp [Int.ofNat_inj]
      rw [e]
      unfold eqL at k
      cases c : decide (n = m) with
      | false =>
        rw [c] at k
        exact iteFe rfl k
      | true =>
        rw [c, Bool.true_and] at k
        obtain ⟨kvs, eD, rv⟩ := lv.rows
        obtain ⟨lvs, eE, ru⟩ := lz.rows
        exact iteTe rfl ⟨_, rfl, x, C, dx, _, _, rfl, lv.ob, X.cl, X.nR, rfl, _, rfl, z, C, dz, _, _, rfl, lz.ob, X.cl, X.nR, rfl, D, E', kvs, lvs, _, _, rfl, rfl, eD, eE, rv.dpk, ru.dpk, ds_shaped _, ds_shaped _, k⟩
    · exact ⟨_, rfl, _, _, _, _, _, rfl, ClsV.own _, .base .non, I.kN, _, rfl, iteFe rfl k⟩
    · exact ⟨_, rfl, _, _, _, _, _, rfl, ClsV.own _, .base (.dK eD), I.kD, _, rfl, iteFe rfl k⟩
def spLen (C : Addr) : Sp := fun vs H Q _ => ∃ x n R, vs = [.ref x] ∧ LivesAt C H x n R ∧ Q (.int R.length) H
abbrev n_le : List Str := ["self"]
theorem sl_le : FnScope n_le ["self"] (defScope mLen) := ⟨rfl, rfl, rfl, by decide +kernel, rfl, by decide +kernel, by decide +kernel⟩
theorem ok_le {f  : Addr} {fd  : FuncData} (F : Fun K "__len__" "Lives.__len__" mLen f fd) {C : Addr} (T : Txt mg) (X : CTxt K C)  : FnOk P w K mg base CX0 1 f fd ["self"] (spLen C) := by
  refine F.ok sl_le (fun vs H Q E h => ?_) (fun cdv A outer s H vs Q E hr h => ?_)
  · obtain ⟨x, n, R, rfl, _⟩ := h
    rfl
  · obtain ⟨x, n, R, rfl, lv, k⟩ := h
    refine ⟨_, pss_one (ps_ret (pe_callB call_len_seq (by rfl) T.len PySem.boot_len (pa_cons (pe_fld (pv 0) rfl) pa_nil))), ?_⟩
    obtain ⟨dx, D, N, lv⟩ := lv
    refine ⟨_, rfl, x, C, dx, _, _, rfl, lv.ob, X.cl, X.nN, rfl, N, _, rfl, .inr (SqT.of lv.names), ?_⟩
    rw [List.length_map, List.length_map]
    exact k
def spItem (C : Addr) : Sp := fun vs H Q _ => ∃ x n R r, vs = [.ref x, .str r.1] ∧ LivesAt C H x n R ∧ r ∈ R ∧ ∀ t, LifeAt H t r.2 → Q (.ref t) H
abbrev n_gi : List Str := ["self", "at"]
theorem sl_gi : FnScope n_gi ["self", "at"] (defScope mItem) := ⟨rfl, rfl, rfl, by decide +kernel, rfl, by decide +kernel, by decide +kernel⟩
theorem ok_gi {f  : Addr} {fd  : FuncData} (F : Fun K "__getitem__" "Lives.__getitem__" mItem f fd) {C : Addr} (T : Txt mg) (X : CTxt K C)  : FnOk P w K mg base CX0 1 f fd ["self", "at"] (spItem C) := by
  refine F.ok sl_gi (fun vs H Q E h => ?_) (fun cdv A outer s H vs Q E hr h => ?_)
  · obtain ⟨x, n, R, r, rfl, _⟩ := h
    rfl
  · obtain ⟨x, n, R, r, rfl, lv, mr, k⟩ := h
    refine ⟨_, pss_cons (ps_if (PW.pt (pw_or (pt_not (pt_val (pe_callB call_isi (by rfl) T.isi (by decide +kernel) (pa_cons (pv 1) (pa_cons (pe_bltn (v := .ty "str") (by rfl) T.str (by decide +kernel) rfl) pa_nil))))) (pw_or1 (pt_cmp (pc_dnotin (Room.one_up hr) (pv 1) (pe_fld (pv 0) rfl)))))) pss_never pss_nil) (pss_one (ps_ret (pe_dget (Room.one_up hr) (pe_fld (pv 0) rfl) (pv 1) (fun _ _ => rfl)))), ?_⟩
    obtain ⟨dx, D, N, lv⟩ := lv
    obtain ⟨kvs, eD, rv⟩ := lv.rows
    obtain ⟨t, ht, elt⟩ := rv.get lv.ord.nd mr
    refine ⟨_, rfl, _, _, _, _, _, rfl, ClsV.ty _, .base (.str _), kit_ty (r := true) (by decide +kernel), _, rfl, iteFe rfl ?_⟩
    refine ⟨_, rfl, _, rfl, x, C, dx, _, _, rfl, lv.ob, X.cl, X.nR, rfl, D, .some (.ref t), rfl, dget_of (k := Sum.inr r.1) (.inl eD) ht, _, rfl, iteFe rfl ?_⟩
    exact ⟨_, rfl, x, C, dx, _, _, rfl, lv.ob, X.cl, X.nR, rfl, _, rfl, D, .ref t, rfl, dget_of (k := Sum.inr r.1) (.inl eD) ht, k t elt⟩
/-- x in it: a value of some kind; a text that is no key, or no text at all -/
def spHas (C : Addr) : Sp := fun vs H Q _ => ∃ x n R y, vs = [.ref x, y] ∧ LivesAt C H x n R ∧ ((∃ s, y = .str s ∧ s ∉ keys R) ∨ ∃ T, T ≠ "str" ∧ Kin H y T) ∧ Q (.bl false) H
abbrev n_ha : List Str := ["self", "x"]
theorem sl_ha : FnScope n_ha ["self", "x"] (defScope mHas) := ⟨rfl, rfl, rfl, by decide +kernel, rfl, by decide +kernel, by decide +kernel⟩
theorem ok_ha {f  : Addr} {fd  : FuncData} (F : Fun K "__contains__" "Lives.__contains__" mHas f fd) {C : Addr} (T : Txt mg) (X : CTxt K C)  : FnOk P w K mg base CX0 1 f fd ["self", "x"] (spHas C) := by
  refine F.ok sl_ha (fun vs H Q E h => ?_) (fun cdv A outer s H vs Q E hr h => ?_)
  · obtain ⟨x, n, R, y, rfl, _⟩ := h
    rfl
  · obtain ⟨x, n, R, y, rfl, lv, h, k⟩ := h
    refine ⟨_, pss_one (ps_ret (pe_and (pe_callB call_isi (by rfl) T.isi (by decide +kernel) (pa_cons (pv 1) (pa_cons (pe_bltn (v := .ty "str") (by rfl) T.str (by decide +kernel) rfl) pa_nil))) (pe_one (pe_cmp (pc_din (Room.one_up hr) (pv 1) (pe_fld (pv 0) rfl)))))), ?_⟩
    obtain ⟨dx, D, N, lv⟩ := lv
    obtain ⟨kvs, eD, rv⟩ := lv.rows
    rcases h with ⟨z, rfl, nk⟩ | ⟨S, nS, hk⟩
    · refine ⟨_, rfl, _, _, _, _, _, rfl, ClsV.ty _, .base (.str _), kit_ty (r := true) (by decide +kernel), _, rfl, iteTe rfl ?_⟩
      exact ⟨_, rfl, _, rfl, x, C, dx, _, _, rfl, lv.ob, X.cl, X.nR, rfl, D, none, rfl, dget_none (k := Sum.inr z) (.inl eD) (rv.none nk), k⟩
    · cases hk with
      | non => exact ⟨_, rfl, _, _, _, _, _, rfl, ClsV.ty _, .base .non, kit_ty (r := false) (by decide +kernel), _, rfl, iteFe rfl k⟩
      | int i => exact ⟨_, rfl, _, _, _, _, _, rfl, ClsV.ty _, .base (.int i), kit_ty (r := false) (by decide +kernel), _, rfl, iteFe rfl k⟩
      | bl b => exact ⟨_, rfl, _, _, _, _, _, rfl, ClsV.ty _, .base (.bl b), kit_ty (r := false) (by decide +kernel), _, rfl, iteFe rfl k⟩
      | str z => exact absurd rfl nS
      | tup e => exact ⟨_, rfl, _, _, _, _, _, rfl, ClsV.ty _, .base (.tup e), kit_ty (r := false) (by decide +kernel), _, rfl, iteFe rfl k⟩
      | lst e => exact ⟨_, rfl, _, _, _, _, _, rfl, ClsV.ty _, .base (.lst e), kit_ty (r := false) (by decide +kernel), _, rfl, iteFe rfl k⟩
      | dic e => exact ⟨_, rfl, _, _, _, _, _, rfl, ClsV.ty _, .base (.dK e), kit_ty (r := false) (by decide +kernel), _, rfl, iteFe rfl k⟩
theorem short : ∀ k : Fin 49, (toString ((k : Nat) : Int) : Str).length ≤ 2 := by decide +kernel
theorem short2 {k : Nat} (h : k ≤ 48) : (toString (k : Int) : Str).length ≤ 2 := short ⟨k, by omega⟩
theorem small {k : Nat} (h : k ≤ 48) : (k : Int).natAbs.log2 < 1920 := Nat.lt_of_le_of_lt (Nat.log2_le_self _) (by omega)
def livText (n : Nat) (R : List Row) : Str := (("lives of " : Str) ++ toString (R.length : Int) ++ (" keys, interval " : Str)) ++ toString (n : Int)
def spStr (C : Addr) : Sp := fun vs H Q _ => ∃ x n R, vs = [.ref x] ∧ LivesAt C H x n R ∧ Q (.str (livText n R)) H
abbrev n_ss : List Str := ["self"]
theorem sl_ss : FnScope n_ss ["self"] (defScope mStr) := ⟨rfl, rfl, rfl, by decide +kernel, rfl, by decide +kernel, by decide +kernel⟩
theorem ok_ss {f  : Addr} {fd  : FuncData} (F : Fun K "__str__" "Lives.__str__" mStr f fd) {C : Addr} (T : Txt mg) (X : CTxt K C)  : FnG P w K mg base 1 f fd ["self"] (spStr C) := by
  refine L2.My.Fun.okG F sl_ss (fun vs H Q E h => ?_) (fun cdv A outer s H vs Q E _ hr gd h => ?_)
  · obtain ⟨x, n, R, rfl, _⟩ := h
    rfl
  · obtain ⟨x, n, R, rfl, lv, k⟩ := h
    refine ⟨_, pss_one (ps_ret (pe_joined (.cons pe_str (.cons (pe_fmt (pe_callB call_len_seq (by rfl) T.len PySem.boot_len (pa_cons (pe_fld (pv 0) rfl) pa_nil))) (.cons pe_str (.cons (pe_fmt (pe_fld (pv 0) rfl)) .nil)))))), ?_⟩
    obtain ⟨dx, D, N, lv⟩ := lv
    have e0 : Str.empty ++ ("lives of " : Str) = "lives of " := Str.empty_append _
    have z1 : (("lives of " : Str)).length = 9 := rfl
    have z2 : ((" keys, interval " : Str)).length = 16 := rfl
    have a1 := short2 lv.ok.few
    have a2 := short2 (k := n) (by have := lv.n1; omega)
    have big : 100 ≤ sizeLine := by decide
    refine ⟨_, rfl, ?_, _, rfl, x, C, dx, _, _, rfl, lv.ob, X.cl, X.nN, rfl, N, _, rfl, .inr (SqT.of lv.names), .inr ⟨_, rfl, ?_, ?_⟩⟩
    · rw [e0, z1]; omega
    · rw [List.length_map, List.length_map]; exact small lv.ok.few
    rw [List.length_map, List.length_map, e0]
    refine ⟨_, rfl, ?_, _, rfl, ?_, _, rfl, x, C, dx, _, _, rfl, lv.ob, X.cl, X.nI, rfl, .inr ⟨_, rfl, small (by have := lv.n1; omega), _, rfl, ?_, k⟩⟩
    · rw [Str.length_append, z1]; omega
    · rw [Str.length_append, Str.length_append, z1, z2]; omega
    · rw [Str.length_append, Str.length_append, Str.length_append, z1, z2]; omega
/-! ### walked -/
theorem iter_c {C f : Addr} {fd : FuncData} (F : Fun K "__iter__" "Lives.__iter__" mIter f fd) (T : Txt mg) (X : CTxt K C) (hs : PySem.W.findIn K (.ref C) "__iter__" = some (some (.ref f))) (hf : PySem.W.isFn K (.ref f) = true) :
    IterC P w K mg base C f "_names" := by
  refine ⟨hs, hf, fun A outer s H a dx t fs zs Q hr e0 ea lk hq k => ?_⟩
  have KX : K.In s.heap := e0.mod.kin.keeps fun b o e => (e0.bs b o e).1
  have bd : Binds K fd ["self"] [] := F.binds (ps := ["self"]) fun _ _ _ _ _ _ us hl => match us, hl with | [_], _ => rfl
  have hb := bd s [.ref a] KX rfl
  obtain ⟨oc, od, kV, doc, pm, an, cdv, ct, osl, rfl, lk', hcd⟩ := F.ex
  refine LamX.run_ofS (N := ["self"]) (ps := ["self"]) (us := [.ref a]) (vs := [.ref a]) lk' hcd ⟨rfl, rfl, rfl, by decide +kernel, rfl, by decide +kernel, by decide +kernel⟩ hr e0 hb (.cons rfl .nil) rfl fun hr' => ?_
  refine ⟨_, pss_one (ps_ret (pe_callB call_iterT (by rfl) T.iter (by decide +kernel) (pa_cons (pe_fld (pv 0) rfl) pa_nil))), ?_⟩
  exact ⟨_, rfl, a, C, dx, _, _, rfl, ea, X.cl, X.nN, lk, t, zs, rfl, hq, k⟩
end
end K56
namespace K56
open PySem L2
open L2.My
open Liv
abbrev mAdd : Stmt := inClass (top 28) 12
abbrev mOr : Stmt := inClass (top 28) 13
abbrev mAnd : Stmt := inClass (top 28) 14
abbrev mTurned : Stmt := inClass (top 28) 15
/-- the class, as one who makes an instance sees it -/
structure Mk5 (P : Program) (w : World) (K : PySem.W.Frag) (mg : Str → Option Value) (base : Heap) (C fI : Addr) (fdI : FuncData) : Prop where
  g : mg "Lives" = some (.ref C)
  M : Mk K C fI
  G : FnOk P w K mg base CX0 5 fI fdI ["self", "interval", "rows"] (spInit C)
  b : Binds K fdI ["self", "interval", "rows"] []
theorem made_of {C : Addr} {H : Hp} {n : Nat} {D : Addr} {U : List Row} {Q : VK} (e : RowsAt H D U) (nd : (keys U).Nodup) (g : IsRows U) (n0 : 0 < n) (n1 : n ≤ 32) (k : ∀ x H' R, Same H H' → R.Perm U → LivesAt C H' x n R → (∀ dx m Dx Nx ls, H' x = some (.ins C dx (flds m Dx Nx ls)) → H Dx = none) → Q (.ref x) H') :
    ∀ x dx, H x = none → H dx = none → dx ≠ x → spInit C [.ref x, .int n, .ref D] (upd (upd H dx (.own x)) x (.ins C dx [])) (fun v H3 => v = .non ∧ Q (.ref x) H3) E0 := by
  intro x dx nx ndx ne
  have s0 : Same H (upd (upd H dx (.own x)) x (.ins C dx [])) := fun y o e => by
    rw [upd_ne (ne_of_none e nx), upd_ne (ne_of_none e ndx)]
    exact e
  exact ⟨H, x, dx, n, D, U, rfl, s0, nx, upd_same, ndx, e.same s0, nd, g, n0, n1, fun H' R s' p l o => ⟨rfl, k x H' R s' p l o⟩⟩
/-! ### rows whose lives are changed -/
def mapL (f : Lf → Lf) (R : List Row) : List Row := R.map fun r => (r.1, f r.2)
theorem mapL_keys (f : Lf → Lf) (R : List Row) : keys (mapL f R) = keys R := by
  unfold mapL keys
  rw [List.map_map]
  rfl
theorem mapL_ord {f : Lf → Lf} {R : List Row} (o : Ord R) : Ord (mapL f R) := ⟨by rw [mapL_keys]; exact o.nd, by rw [mapL_keys]; exact o.so⟩
theorem mapL_snoc {f : Lf → Lf} {R : List Row} {i : Nat} {r : Row} (h : R[i]? = some r) : mapL f (R.take (i + 1)) = mapL f (R.take i) ++ [(r.1, f r.2)] := by
  unfold mapL
  rw [take_step h, List.map_append]
  rfl
theorem fresh_key {H : Hp} {ks : List (Key × V)} {W R : List Row} {i : Nat} {r : Row} (rv : Rv H ks W) (ek : keys W = keys (R.take i)) (nd : (keys R).Nodup) (h : R[i]? = some r) : valV ks (Sum.inr r.1) = none := rv.none fun m => by
  rw [ek] at m
  obtain ⟨q, hq, e⟩ := List.mem_map.mp m
  obtain ⟨j, hj⟩ := List.mem_iff_getElem?.mp hq
  have jl : j < i := by
    have := (List.getElem?_eq_some_iff.mp hj).1
    rw [List.length_take] at this
    omega
  rw [List.getElem?_take_of_lt jl] at hj
  have e1 : (keys R)[j]? = some r.1 := by rw [List.getElem?_map, hj, Option.map_some, e]
  have e2 : (keys R)[i]? = some r.1 := by rw [List.getElem?_map, h, Option.map_some]
  have z : j = i := (List.getElem?_inj (List.getElem?_eq_some_iff.mp e1).1 nd).mp (e1.trans e2.symm)
  omega
def later (t : Int) (R : List Row) : List Row := mapL (fun l => (l.1 + t, l.2 + t)) R
def flip (R : List Row) : List Row := mapL (fun l => (-l.2, -l.1)) R
theorem flip_ok {R : List Row} (g : IsRows R) : IsRows (flip R) := ⟨by unfold flip mapL; rw [List.length_map]; exact g.few, fun r h => by
  obtain ⟨q, hq, rfl⟩ := List.mem_map.mp h
  exact g.key q hq, fun r h => by
  obtain ⟨q, hq, rfl⟩ := List.mem_map.mp h
  obtain ⟨a, b, c, d, e⟩ := g.life q hq
  exact ⟨by show -q.2.2 < -q.2.1; omega, by show -great < -q.2.2; omega, by show -q.2.2 < great; omega, by show -great < -q.2.1; omega, by show -q.2.1 < great; omega⟩⟩
section
variable {P : Program} {w : World} {K : PySem.W.Frag} {mg : Str → Option Value} {base : Heap}
theorem ne_of_none_some {H : Hp} {a b : Addr} {o : HO} (h : H a = none) (g : H b = some o) : a ≠ b := fun e => by
  rw [e, g] at h
  cases h
def spAdd (C : Addr) : Sp := fun vs H Q _ => ∃ x n R t, vs = [.ref x, .int t] ∧ LivesAt C H x n R ∧ -great < t ∧ t < great ∧ IsRows (later t R) ∧ ∀ y H', Same H H' → LivesAt C H' y n (later t R) → Q (.ref y) H'
abbrev n_ad : List Str := ["self", "other", "rows", "key", "begin", "end"]
theorem sl_ad : FnScope n_ad ["self", "other"] (defScope mAdd) := ⟨rfl, rfl, rfl, by decide +kernel, rfl, by decide +kernel, by decide +kernel⟩
theorem ok_ad {f fit frw : Addr} {fd fdit fdrw : FuncData} (F : Fun K "__add__" "Lives.__add__" mAdd f fd) {C fI : Addr} {fdI : FuncData} (T : Txt mg) (X : CTxt K C) (nM : Mk5 P w K mg base C fI fdI) (dit : Dn P w K mg base CX0 "is_integer" ["value"] 2 spInt fit fdit) (drw : Dn P w K mg base CX0 "is_rows" ["value"] 4 spRows frw fdrw) : FnOk P w K mg base CX0 7 f fd ["self", "other"] (spAdd C) := by
  refine F.ok sl_ad (fun vs H Q E h => ?_) (fun cdv A outer s H vs Q E hr h => ?_)
  · obtain ⟨x, n, R, t, rfl, _⟩ := h
    rfl
  · obtain ⟨x, n, R, t, rfl, lv, t0, t1, gl, k⟩ := h
    have hr2 : Room 2 _ := hr.mono (by decide)
    have hr4 : Room 4 _ := hr.mono (by decide)
    refine ⟨_, pss_cons (ps_if (pt_not (pt_val (pe_call dit.G hr2 rfl dit.g dit.kp dit.b .nil pass0 (pa_cons (pv 1) pa_nil)))) pss_never pss_nil) (pss_cons (ps_lock (ps_setDc (i := 2) (own := [("key", 3), ("begin", 4), ("end", 5)]) (g := gTup K 2 (gCons (gName 3) (gCons (gTup K 2 (gCons (gName 4) (gCons (gName 5) gNil))) gNil))) (tt := tYes) (by rfl) sl_ad.nd rfl rfl (swD_true rfl rfl rfl (by decide +kernel)) (pi_items (pe_fld (pv 0) rfl)) (blkOk_by (own := [("key", 3), ("begin", 4), ("end", 5)]) (N := n_ad) (sc := defScope mAdd) (by decide +kernel)) (fun _ _ _ _ _ => pg_tup rfl (pgs_cons (pg_name (i := 3) sl_ad.nd rfl (Or.inl rfl)) (pgs_cons (pg_tup rfl (pgs_cons (pg_name (i := 4) sl_ad.nd rfl (Or.inl rfl)) (pgs_cons (pg_name (i := 5) sl_ad.nd rfl (Or.inl rfl)) pgs_nil))) pgs_nil))) (fun _ _ _ _ _ => pts_nil) (fun _ _ _ _ _ => pv 3) (fun _ _ _ _ _ => pe_tup (pa_cons (pe_op op_add (pv 4) (pv 1)) (pa_cons (pe_op op_add (pv 5) (pv 1)) pa_nil))))) (pss_cons (ps_if (pt_not (pt_val (pe_call drw.G hr4 rfl drw.g drw.kp drw.b .nil pass0 (pa_cons (pv 2) pa_nil)))) pss_never pss_nil) (pss_one (ps_ret (pe_make nM.M nM.G hr rfl nM.g nM.b .nil pass0 (pa_cons (pe_fld (pv 0) rfl) (pa_cons (pv 2) pa_nil))))))), ?_⟩
    obtain ⟨dx, D, N, lv⟩ := lv
    obtain ⟨kvs, eD, rv⟩ := lv.rows
    refine ⟨_, rfl, t, rfl, t0, t1, _, rfl, iteFe rfl ?_⟩
    refine ⟨D, _, eD, trivial, fun od => ?_⟩
    have rl := rv.lock (o := od) eD
    have fz : (upd H D (.frz od (.dK kvs))) D = some (.frz od (.dK kvs)) := upd_same
    have xl : (upd H D (.frz od (.dK kvs))) x = some (.ins C dx _) := (upd_ne (ne_of lv.ob eD (fun z => by cases z))).trans lv.ob
    have fin : ∀ H', Same (upd H D (.frz od (.dK kvs))) H' → Same H (upd H' D (.dK kvs)) := fun H' s' => unlock_same eD s'
    generalize upd H D (.frz od (.dK kvs)) = Hb at rl fz xl fin ⊢
    refine ⟨_, rfl, x, C, dx, _, _, rfl, xl, X.cl, X.nR, rfl, D, od, kvs, rfl, fz, fun M nM => dc_it walk_items (fun i H' => ∃ ks, AccK Hb M ks H' ∧ Rv H' ks (later t (R.take i))) ⟨[], AccK.start nM, .nil⟩ (fun i H' _ a => by obtain ⟨_, a, _⟩ := a; exact a.1 _ _ fz) ?_ ?_⟩
    · rintro i v Hc Hd hi ⟨ks, a, r⟩ y
      obtain ⟨T, row, tl, rfl, nT, rfl, hrow, elt⟩ := rl.item y
      have i1 : i < 48 := by have := lv.ok.few; have := (List.getElem?_eq_some_iff.mp hrow).1; omega
      have s1 : Same Hc (upd Hc T (.tup [.str row.1, .ref tl])) := grow nT
      have a1 := a.on s1
      have elt := a1.1 _ _ elt
      refine ⟨T, _, rfl, SqT.of upd_same, rfl, _, _, rfl, _, _, rfl, tl, _, rfl, SqT.of elt, rfl, _, _, rfl, _, _, rfl, rfl, rfl, rfl, _, rfl, _, rfl, _, rfl, _, _, rfl, rfl, _, rfl, _, rfl, _, _, rfl, rfl, n_line, fun p np => ?_⟩
      obtain ⟨H6, z6, s6, e6⟩ := mk_at (o := .tup [.int (row.2.1 + t), .int (row.2.2 + t)]) np
      rw [z6]
      have a6 := a1.on s6
      have r6 := r.same (s1.trans s6)
      have lw : ks.length < sizeLine := lt_line (by rw [r.len]; unfold later mapL; rw [List.length_map]; have := List.length_take_le i R; omega)
      refine ⟨ks, Sum.inr row.1, rfl, a6.2.2, lw, _, a6.put, ?_⟩
      rw [putK_new _ (fresh_key r (by unfold later; rw [mapL_keys]) lv.ord.nd hrow)]
      unfold later
      rw [mapL_snoc hrow]
      have q := Rv.snoc (r := (row.1, (row.2.1 + t, row.2.2 + t))) r6 e6
      exact q.mono fun t2 l e => (upd_ne (ne_of e a6.2.2 (fun z => by cases z))).trans e
    rintro Hc ⟨ks, a, r⟩
    rw [rv.len, List.take_length] at r
    refine ⟨a.1 _ _ fz, ?_⟩
    have sf := fin _ a.1
    have ne : M ≠ D := ne_of_none_some a.2.1 fz
    have eM : (upd Hc D (.dK kvs)) M = some (.dK ks) := accK_lock a fz
    have rM : Rv (upd Hc D (.dK kvs)) ks (later t R) := r.mono fun t2 l e => (upd_ne (ne_of e (a.1 _ _ fz) (fun z => by cases z))).trans e
    refine ⟨_, rfl, M, _, rfl, ⟨ks, eM, rM⟩, gl, fun H2 s2 => ⟨_, rfl, iteFe rfl ?_⟩⟩
    have s02 := sf.trans s2
    refine ⟨_, rfl, x, C, dx, _, _, rfl, s02 _ _ lv.ob, X.cl, X.nI, rfl, _, rfl, made_of ⟨ks, s2 _ _ eM, rM.same s2⟩ (mapL_ord lv.ord).nd gl lv.n0 lv.n1 fun y H3 R3 s3 p3 l3 _ => ?_⟩
    obtain ⟨d3, D3, N3, l3⟩ := l3
    obtain rfl := ord_one p3 l3.ord (mapL_ord lv.ord)
    exact k y H3 (s02.trans s3) ⟨d3, D3, N3, l3⟩
def spTurned (C : Addr) : Sp := fun vs H Q _ => ∃ x n R, vs = [.ref x] ∧ LivesAt C H x n R ∧ ∀ y H', Same H H' → LivesAt C H' y n (flip R) → Q (.ref y) H'
abbrev n_tr : List Str := ["self", "key", "begin", "end"]
theorem sl_tr : FnScope n_tr ["self"] (defScope mTurned) := ⟨rfl, rfl, rfl, by decide +kernel, rfl, by decide +kernel, by decide +kernel⟩
theorem ok_tr {f  : Addr} {fd  : FuncData} (F : Fun K "turned" "Lives.turned" mTurned f fd) {C fI : Addr} {fdI : FuncData} (T : Txt mg) (X : CTxt K C) (nM : Mk5 P w K mg base C fI fdI)  : FnOk P w K mg base CX0 7 f fd ["self"] (spTurned C) := by
  refine F.ok sl_tr (fun vs H Q E h => ?_) (fun cdv A outer s H vs Q E hr h => ?_)
  · obtain ⟨x, n, R, rfl, _⟩ := h
    rfl
  · obtain ⟨x, n, R, rfl, lv, k⟩ := h
    refine ⟨_, pss_one (ps_ret (pe_make nM.M nM.G hr rfl nM.g nM.b .nil pass0 (pa_cons (pe_fld (pv 0) rfl) (pa_cons (pe_lock (pe_dc (own := [("key", 1), ("begin", 2), ("end", 3)]) (g := gTup K 2 (gCons (gName 1) (gCons (gTup K 2 (gCons (gName 2) (gCons (gName 3) gNil))) gNil))) (tt := tYes) (by rfl) sl_tr.nd (pi_items (pe_fld (pv 0) rfl)) (blkOk_by (own := [("key", 1), ("begin", 2), ("end", 3)]) (N := n_tr) (sc := defScope mTurned) (by decide +kernel)) (fun _ _ _ _ _ => pg_tup rfl (pgs_cons (pg_name (i := 1) sl_tr.nd rfl (Or.inl rfl)) (pgs_cons (pg_tup rfl (pgs_cons (pg_name (i := 2) sl_tr.nd rfl (Or.inl rfl)) (pgs_cons (pg_name (i := 3) sl_tr.nd rfl (Or.inl rfl)) pgs_nil))) pgs_nil))) (fun _ _ _ _ _ => pts_nil) (fun _ _ _ _ _ => pv 1) (fun _ _ _ _ _ => pe_tup (pa_cons (pe_un un_neg (pv 3)) (pa_cons (pe_un un_neg (pv 2)) pa_nil))))) pa_nil)))), ?_⟩
    obtain ⟨dx, D, N, lv⟩ := lv
    obtain ⟨kvs, eD, rv⟩ := lv.rows
    refine ⟨_, rfl, x, C, dx, _, _, rfl, lv.ob, X.cl, X.nI, rfl, D, _, eD, trivial, fun od => ?_⟩
    have rl := rv.lock (o := od) eD
    have fz : (upd H D (.frz od (.dK kvs))) D = some (.frz od (.dK kvs)) := upd_same
    have xl : (upd H D (.frz od (.dK kvs))) x = some (.ins C dx _) := (upd_ne (ne_of lv.ob eD (fun z => by cases z))).trans lv.ob
    have fin : ∀ H', Same (upd H D (.frz od (.dK kvs))) H' → Same H (upd H' D (.dK kvs)) := fun H' s' => unlock_same eD s'
    generalize upd H D (.frz od (.dK kvs)) = Hb at rl fz xl fin ⊢
    refine ⟨_, rfl, x, C, dx, _, _, rfl, xl, X.cl, X.nR, rfl, D, od, kvs, rfl, fz, fun M nM => dc_it walk_items (fun i H' => ∃ ks, AccK Hb M ks H' ∧ Rv H' ks (flip (R.take i))) ⟨[], AccK.start nM, .nil⟩ (fun i H' _ a => by obtain ⟨_, a, _⟩ := a; exact a.1 _ _ fz) ?_ ?_⟩
    · rintro i v Hc Hd hi ⟨ks, a, r⟩ y
      obtain ⟨T, row, tl, rfl, nT, rfl, hrow, elt⟩ := rl.item y
      have i1 : i < 48 := by have := lv.ok.few; have := (List.getElem?_eq_some_iff.mp hrow).1; omega
      have s1 : Same Hc (upd Hc T (.tup [.str row.1, .ref tl])) := grow nT
      have a1 := a.on s1
      have elt := a1.1 _ _ elt
      refine ⟨T, _, rfl, SqT.of upd_same, rfl, _, _, rfl, _, _, rfl, tl, _, rfl, SqT.of elt, rfl, _, _, rfl, _, _, rfl, rfl, rfl, rfl, _, rfl, _, rfl, _, rfl, _, rfl, _, rfl, n_line, fun p np => ?_⟩
      obtain ⟨H6, z6, s6, e6⟩ := mk_at (o := .tup [.int (-row.2.2), .int (-row.2.1)]) np
      rw [z6]
      have a6 := a1.on s6
      have r6 := r.same (s1.trans s6)
      have lw : ks.length < sizeLine := lt_line (by rw [r.len]; unfold flip mapL; rw [List.length_map]; have := List.length_take_le i R; omega)
      refine ⟨ks, Sum.inr row.1, rfl, a6.2.2, lw, _, a6.put, ?_⟩
      rw [putK_new _ (fresh_key r (by unfold flip; rw [mapL_keys]) lv.ord.nd hrow)]
      unfold flip
      rw [mapL_snoc hrow]
      have q := Rv.snoc (r := (row.1, (-row.2.2, -row.2.1))) r6 e6
      exact q.mono fun t2 l e => (upd_ne (ne_of e a6.2.2 (fun z => by cases z))).trans e
    rintro Hc ⟨ks, a, r⟩
    rw [rv.len, List.take_length] at r
    refine ⟨a.1 _ _ fz, ?_⟩
    have sf := fin _ a.1
    have eM : (upd Hc D (.dK kvs)) M = some (.dK ks) := accK_lock a fz
    have rM : Rv (upd Hc D (.dK kvs)) ks (flip R) := r.mono fun t2 l e => (upd_ne (ne_of e (a.1 _ _ fz) (fun z => by cases z))).trans e
    refine made_of ⟨ks, eM, rM⟩ (mapL_ord lv.ord).nd (flip_ok lv.ok) lv.n0 lv.n1 fun y H3 R3 s3 p3 l3 _ => ?_
    obtain ⟨d3, D3, N3, l3⟩ := l3
    obtain rfl := ord_one p3 l3.ord (mapL_ord lv.ord)
    exact k y H3 (sf.trans s3) ⟨d3, D3, N3, l3⟩
end
end K56
namespace K56
open PySem L2
open L2.My
open Liv
section
variable {P : Program} {w : World} {K : PySem.W.Frag} {mg : Str → Option Value} {base : Heap}
theorem merge_app : ∀ (more kvs : List (Key × V)), (more.map (·.1)).Nodup → (∀ k ∈ more.map (·.1), k ∉ kvs.map (·.1)) → mergeK kvs more = kvs ++ more
  | [], kvs, _, _ => (List.append_nil _).symm
  | p :: more, kvs, nd, no => by
    have nd := List.nodup_cons.mp nd
    have e : valV kvs p.1 = none := by
      unfold valV
      rw [List.find?_eq_none.mpr, Option.map_none]
      intro q hq
      rw [decide_eq_true_iff]
      intro z
      exact no p.1 (List.mem_cons_self ..) (z ▸ List.mem_map_of_mem hq)
    show mergeK (putK kvs p.1 p.2) more = _
    rw [putK_new _ e, merge_app more _ nd.2, List.append_assoc]
    · rfl
    · intro k hk m
      rw [List.map_append] at m
      rcases List.mem_append.mp m with m | m
      · exact no k (List.mem_cons_of_mem _ hk) m
      · rw [List.map_cons, List.map_nil, List.mem_singleton] at m
        exact nd.1 (by show p.1 ∈ more.map (·.1); rw [← show k = p.1 from m]; exact hk)
theorem Rv.app {H : Hp} {ks ls : List (Key × V)} {R U : List Row} (a : Rv H ks R) (b : Rv H ls U) : Rv H (ks ++ ls) (R ++ U) := by
  induction a with
  | nil => exact b
  | cons x _ ih => exact .cons x ih
theorem Rv.nd {H : Hp} {ks : List (Key × V)} {R : List Row} (a : Rv H ks R) (nd : (Liv.keys R).Nodup) : (ks.map (·.1)).Nodup := by
  rw [a.keys]
  exact nd.map _ fun x y h e => h (Sum.inr.inj e)
theorem app_nd {R U : List Row} (a : (keys R).Nodup) (b : (keys U).Nodup) (no : ∀ k ∈ keys R, k ∉ keys U) : (keys (R ++ U)).Nodup := by
  rw [keys_app, List.nodup_append]
  exact ⟨a, b, fun x hx y hy e => no x hx (e ▸ hy)⟩
theorem app_ok {R U : List Row} (a : IsRows R) (b : IsRows U) (few : R.length + U.length ≤ 48) : IsRows (R ++ U) := ⟨by rw [List.length_append]; exact few,
  fun r h => (List.mem_append.mp h).elim (a.key r) (b.key r), fun r h => (List.mem_append.mp h).elim (a.life r) (b.life r)⟩
def spOr (C : Addr) : Sp := fun vs H Q _ => ∃ x z n R U, vs = [.ref x, .ref z] ∧ LivesAt C H x n R ∧ LivesAt C H z n U ∧ (∀ k ∈ keys R, k ∉ keys U) ∧ R.length + U.length ≤ 48 ∧ ∀ y H' W, Same H H' → W.Perm (R ++ U) → LivesAt C H' y n W → Q (.ref y) H'
abbrev n_orr : List Str := ["self", "other", "key"]
theorem sl_orr : FnScope n_orr ["self", "other"] (defScope mOr) := ⟨rfl, rfl, rfl, by decide +kernel, rfl, by decide +kernel, by decide +kernel⟩
theorem ok_orr {f  : Addr} {fd  : FuncData} (F : Fun K "__or__" "Lives.__or__" mOr f fd) {C fI : Addr} {fdI : FuncData} (T : Txt mg) (X : CTxt K C) (I : QTxt K mg C) (nM : Mk5 P w K mg base C fI fdI) {tK : Tok} (hK : mg "MAX_KEYS" = some (.int 48 tK))  : FnOk P w K mg base CX0 7 f fd ["self", "other"] (spOr C) := by
  refine F.ok sl_orr (fun vs H Q E h => ?_) (fun cdv A outer s H vs Q E hr h => ?_)
  · obtain ⟨x, z, n, R, U, rfl, _⟩ := h
    rfl
  · obtain ⟨x, z, n, R, U, rfl, lv, lz, no, few, k⟩ := h
    refine ⟨_, pss_cons (ps_if (PW.pt (pw_or (pt_not (pt_val (pe_callB call_isi (by rfl) T.isi (by decide +kernel) (pa_cons (pv 1) (pa_cons (pe_glob (v := .ref C) rfl I.gC rfl) pa_nil))))) (pw_or1 (pt_cmpR op_ne (pe_fld (pv 0) rfl) (pe_fld (pv 1) rfl) (nomark _))))) pss_never pss_nil) (pss_cons (ps_if (PW.pt (pw_or (pt_val (pe_callB (cr_any (by rfl)) (by rfl) T.any (by decide +kernel) (pa_cons (pe_lc (own := [("key", 2)]) (g := gName 2) (tt := tYes) (by rfl) sl_orr.nd (pi_tup (pe_fld (pv 0) rfl)) (blkOk_by (own := [("key", 2)]) (N := n_orr) (sc := defScope mOr) (by decide +kernel)) (fun _ _ _ _ _ => pg_name (i := 2) sl_orr.nd rfl (Or.inl rfl)) (fun _ _ _ _ _ => pts_nil) (fun _ _ _ _ _ => pe_cmp (pc_din (Room.one_up hr) (pv 2) (pe_fldA (K := K) rfl (pv 1) rfl)))) pa_nil))) (pw_or1 (pt_cmpR op_gt (pe_op op_add (pe_callB call_len_seq (by rfl) T.len PySem.boot_len (pa_cons (pe_fld (pv 0) rfl) pa_nil)) (pe_callB call_len_seq (by rfl) T.len PySem.boot_len (pa_cons (pe_fld (pv 1) rfl) pa_nil))) (pe_glob (v := .int 48) rfl hK ⟨_, rfl⟩) (nomark _))))) pss_never pss_nil) (pss_one (ps_ret (pe_make nM.M nM.G hr rfl nM.g nM.b .nil pass0 (pa_cons (pe_fld (pv 0) rfl) (pa_cons (pe_twoD (pe_fld (pv 0) rfl) (pe_fld (pv 1) rfl)) pa_nil)))))), ?_⟩
    obtain ⟨dx, D, N, lv⟩ := lv
    obtain ⟨dz, D2, N2, lz⟩ := lz
    refine ⟨_, rfl, _, _, _, _, _, rfl, ClsV.own _, tyLv X I lz, I.kC, _, rfl, iteFe rfl ?_⟩
    refine ⟨_, rfl, x, C, dx, _, _, rfl, lv.ob, X.cl, X.nI, rfl, _, rfl, z, C, dz, _, _, rfl, lz.ob, X.cl, X.nI, rfl, rfl, _, rfl, iteFe (by simp) ?_⟩
    obtain ⟨kvs, eD, rv⟩ := lv.rows
    obtain ⟨lvs, eE, ru⟩ := lz.rows
    refine ⟨_, rfl, x, C, dx, _, _, rfl, lv.ob, X.cl, X.nN, rfl, N, rfl, ⟨_, SqT.of lv.names⟩, fun L nL => lc_it walk_tup (fun i H' => Acc H L ((List.replicate i false).map V.bl) H') (Acc.start nL) (fun i H' _ a => SqT.of (a.1 _ _ lv.names)) ?_ ?_⟩
    · rintro i v H2 H3 hi a ⟨rfl, hv⟩
      obtain ⟨k0, rfl, hk⟩ := strs_at2 hv
      have i1 : i < 48 := by have := lv.ok.few; have := (List.getElem?_eq_some_iff.mp hk).1; rw [List.length_map] at this; omega
      refine ⟨rfl, _, rfl, _, rfl, z, C, dz, _, _, rfl, a.1 _ _ lz.ob, X.cl, X.nR, rfl, D2, none, rfl, dget_none (k := Sum.inr k0) (.inl (a.1 _ _ eE)) (ru.none (no k0 (List.mem_of_getElem? hk))), _, a.2.2, ?_, ?_⟩
      · rw [List.length_map, List.length_replicate]; exact lt_line (by omega)
      · rw [List.replicate_succ', List.map_append]
        exact a.put
    intro H1 a1
    refine ⟨L, _, rfl, SqL.of a1.2.2, _, rfl, iteFe (by simp) ?_⟩
    have s1 := a1.1
    have obx := s1 _ _ lv.ob
    have obz := s1 _ _ lz.ob
    refine ⟨_, rfl, x, C, dx, _, _, rfl, obx, X.cl, X.nN, rfl, N, _, rfl, .inr (SqT.of (s1 _ _ lv.names)), _, rfl, z, C, dz, _, _, rfl, obz, X.cl, X.nN, rfl, N2, _, rfl, .inr (SqT.of (s1 _ _ lz.names)), _, _, rfl, rfl, _, _, rfl, rfl, _, rfl, iteFe (decide_eq_false ?_) ?_⟩
    · rw [List.length_map, List.length_map, List.length_map, List.length_map]; omega
    refine ⟨_, rfl, x, C, dx, _, _, rfl, obx, X.cl, X.nI, rfl, fun M nM => ?_⟩
    obtain ⟨H2, z2, s2, e2⟩ := mk_at (o := .dK []) nM
    rw [z2]
    have eD2 := s2 _ _ (s1 _ _ eD)
    have eE2 := s2 _ _ (s1 _ _ eE)
    have ndk : (kvs.map (·.1)).Nodup := rv.nd lv.ord.nd
    have m1 : mergeK [] kvs = kvs := merge_app kvs [] ndk (fun _ _ h => by cases h)
    have neD : D ≠ M := (ne_of_none_some nM (s1 _ _ eD)).symm
    have neE : D2 ≠ M := (ne_of_none_some nM (s1 _ _ eE)).symm
    have nek : ∀ k ∈ lvs.map (·.1), k ∉ kvs.map (·.1) := fun k hk m => by
      rw [ru.keys] at hk
      rw [rv.keys] at m
      obtain ⟨a, ha, rfl⟩ := List.mem_map.mp hk
      obtain ⟨b, hb, e⟩ := List.mem_map.mp m
      exact no b hb (by rw [Sum.inr.inj e]; exact ha)
    have m2 : mergeK kvs lvs = kvs ++ lvs := merge_app lvs kvs (ru.nd lz.ord.nd) nek
    refine ⟨_, rfl, x, C, dx, _, _, rfl, s2 _ _ obx, X.cl, X.nR, rfl, D, kvs, rfl, neD, eD2, e2, ?_⟩
    rw [m1]
    obtain ⟨H3, z3, s3, e3⟩ : ∃ H', upd H2 M (.dK kvs) = H' ∧ (∀ b o, H1 b = some o → H' b = some o) ∧ H' M = some (.dK kvs) := ⟨_, rfl, fun b o e => by rw [upd_ne (ne_of_none e nM)]; exact s2 _ _ e, upd_same⟩
    rw [z3]
    refine ⟨_, rfl, z, C, dz, _, _, rfl, s3 _ _ obz, X.cl, X.nR, rfl, D2, lvs, rfl, neE, s3 _ _ (s1 _ _ eE), e3, ?_, ?_⟩
    · rw [rv.len, ru.len]; exact Nat.le_of_lt (lt_line (by omega))
    rw [m2]
    obtain ⟨H4, z4, s4, e4⟩ : ∃ H', upd H3 M (.dK (kvs ++ lvs)) = H' ∧ (∀ b o, H1 b = some o → H' b = some o) ∧ H' M = some (.dK (kvs ++ lvs)) := ⟨_, rfl, fun b o e => by rw [upd_ne (ne_of_none e nM)]; exact s3 _ _ e, upd_same⟩
    rw [z4]
    have s04 : Same H H4 := fun b o e => s4 _ _ (s1 _ _ e)
    refine made_of ⟨_, e4, (rv.same s04).app (ru.same s04)⟩ (app_nd lv.ord.nd lz.ord.nd no) (app_ok lv.ok lz.ok few) lv.n0 lv.n1 fun y H5 W s5 p5 l5 _ => k y H5 W (s04.trans s5) p5 l5
theorem IsKey.ok {x : Str} (h : IsKey x) : PyData.strOk x = true := by
  unfold PyData.strOk
  rw [Array.all_eq_true]
  intro i hi
  have m := h.sg x.cps[i] (by simp)
  have all : ∀ c ∈ ("abcdefghijklmnopqrstuvwxyz0123456789.:" : Str).cps.toList, decide (c < 0x110000) = true := by decide +kernel
  exact all _ m
theorem strs_lay : ∀ xs : List Str, (∀ x ∈ xs, IsKey x) → PyData.canLayAll0 (xs.map PyData.str) = true ∧ PyData.depthAll (xs.map PyData.str) = 0
  | [], _ => ⟨rfl, rfl⟩
  | x :: xs, h => by
    obtain ⟨a, b⟩ := strs_lay xs fun y hy => h y (List.mem_cons_of_mem _ hy)
    have c := (h x (List.mem_cons_self ..)).ok
    constructor
    · rw [List.map_cons]
      simp [PyData.canLayAll0, PyData.canLay0, a, c]
    · rw [List.map_cons]
      simp [PyData.depthAll, PyData.depth, b]
theorem strs_shaped {xs : List Str} (h : ∀ x ∈ xs, IsKey x) : SeqAt.shaped (.list (xs.map PyData.str)) = true := by
  obtain ⟨a, b⟩ := strs_lay xs h
  simp [SeqAt.shaped, PyData.canLay0, PyData.depth, a, b]
theorem strs_dp {H : Hp} {L : Addr} {xs : List Str} (e : H L = some (.lst (xs.map V.str))) : Dp K H (.ref L) (.list (xs.map PyData.str)) := by
  refine .lst (SqL.of e) ?_
  clear e
  induction xs with
  | nil => exact .nil
  | cons x xs ih => exact .cons (.str x) ih
theorem shaped_refl {d : PyData} (h : SeqAt.shaped d = true) : PyData.eqv d d = true := by
  unfold SeqAt.shaped at h
  rw [Bool.and_eq_true] at h
  exact PySem.SeqAt.eqv_refl _ h.1
def spAnd (C : Addr) : Sp := fun vs H Q _ => ∃ x n R t ns, vs = [.ref x, .ref t] ∧ LivesAt C H x n R ∧ H t = some (.tup (ns.map V.str)) ∧ ns = keys (sel R ns) ∧ ∀ y H', Same H H' → LivesAt C H' y n (sel R ns) → Q (.ref y) H'
abbrev n_an : List Str := ["self", "other", "key"]
theorem sl_an : FnScope n_an ["self", "other"] (defScope mAnd) := ⟨rfl, rfl, rfl, by decide +kernel, rfl, by decide +kernel, by decide +kernel⟩
theorem ok_an {f  : Addr} {fd  : FuncData} (F : Fun K "__and__" "Lives.__and__" mAnd f fd) {C fI : Addr} {fdI : FuncData} (T : Txt mg) (X : CTxt K C) (nM : Mk5 P w K mg base C fI fdI)  : FnOk P w K mg base CX0 7 f fd ["self", "other"] (spAnd C) := by
  refine F.ok sl_an (fun vs H Q E h => ?_) (fun cdv A outer s H vs Q E hr h => ?_)
  · obtain ⟨x, n, R, t, ns, rfl, _⟩ := h
    rfl
  · obtain ⟨x, n, R, t, ns, rfl, lv, et, en, k⟩ := h
    refine ⟨_, pss_cons (ps_if (PW.pt (pw_or (pt_not (pt_val (pe_callB call_isi (by rfl) T.isi (by decide +kernel) (pa_cons (pv 1) (pa_cons (pe_bltn (v := .ty "tuple") (by rfl) T.tuple (by decide +kernel) rfl) pa_nil))))) (pw_or1 (pt_cmpR ((op_neD hr.units)) (pe_callTy call_list_of (by rfl) T.list (by decide +kernel) (pa_cons (pv 1) pa_nil)) (pe_lc (own := [("key", 2)]) (g := gName 2) (by rfl) sl_an.nd (pi_tup (pe_fld (pv 0) rfl)) (blkOk_by (own := [("key", 2)]) (N := n_an) (sc := defScope mAnd) (by decide +kernel)) (fun _ _ _ _ _ => pg_name (i := 2) sl_an.nd rfl (Or.inl rfl)) (fun _ _ _ _ _ => pts_one (pt_cmpR ((in_at (K := K) rfl)) (pv 2) (pv 1) (by rfl))) (fun _ _ _ _ _ => pv 2)) (nomark _))))) pss_never pss_nil) (pss_one (ps_ret (pe_make nM.M nM.G hr rfl nM.g nM.b .nil pass0 (pa_cons (pe_fld (pv 0) rfl) (pa_cons (pe_dc (own := [("key", 2)]) (g := gName 2) (tt := tYes) (by rfl) sl_an.nd (pi_tup (pv 1)) (blkOk_by (own := [("key", 2)]) (N := n_an) (sc := defScope mAnd) (by decide +kernel)) (fun _ _ _ _ _ => pg_name (i := 2) sl_an.nd rfl (Or.inl rfl)) (fun _ _ _ _ _ => pts_nil) (fun _ _ _ _ _ => pv 2) (fun _ _ _ _ _ => pe_dget (Room.one_up hr) (pe_fldA (K := K) rfl (pv 0) rfl) (pv 2) (fun _ _ => rfl))) pa_nil))))), ?_⟩
    obtain ⟨dx, D, N, lv⟩ := lv
    obtain ⟨kvs, eD, rv⟩ := lv.rows
    refine ⟨_, rfl, _, _, _, _, _, rfl, ClsV.ty _, .base (.tup et), kit_ty (r := true) (by decide +kernel), _, rfl, iteFe rfl ?_⟩
    refine ⟨_, rfl, t, _, rfl, .inr (SqT.of et), fun L nL => ?_⟩
    obtain ⟨H1, z1, s1, e1⟩ := mk_at (o := .lst (ns.map V.str)) nL
    rw [z1]
    have ob1 := s1 _ _ lv.ob
    have eN1 := s1 _ _ lv.names
    have et1 := s1 _ _ et
    refine ⟨_, rfl, x, C, dx, _, _, rfl, ob1, X.cl, X.nN, rfl, N, rfl, ⟨_, SqT.of eN1⟩, fun M nM => lc_it walk_tup (fun i H' => Acc H1 M ((keys (sel (R.take i) ns)).map V.str) H') (Acc.start nM) (fun i H' _ a => SqT.of (a.1 _ _ eN1)) ?_ ?_⟩
    · rintro i v H2 H3 hi a ⟨rfl, hv⟩
      obtain ⟨k0, rfl, hk⟩ := strs_at2 hv
      obtain ⟨r, hr, rfl⟩ := row_at hk
      have i1 : i < 48 := by have := lv.ok.few; have := (List.getElem?_eq_some_iff.mp hr).1; omega
      refine ⟨rfl, _, rfl, _, rfl, t, _, rfl, .inr (SqT.of (a.1 _ _ et1)), rfl, by simp [flatV], _, rfl, ?_⟩
      rw [if_neg Bool.false_ne_true, in_iff]
      have tk := sel_take hr ns
      by_cases c : r.1 ∈ ns
      · rw [decide_eq_true c]
        refine iteTe rfl ⟨_, rfl, _, a.2.2, ?_, ?_⟩
        · rw [List.length_map, List.length_map]
          refine lt_line ?_
          have h1 : (sel (R.take i) ns).length ≤ (R.take i).length := List.length_filter_le ..
          have h2 := List.length_take_le i R
          omega
        · rw [tk, if_pos c, keys_app, List.map_append]
          exact a.put
      · rw [decide_eq_false c]
        refine iteFe rfl ?_
        rw [tk, if_neg c, List.append_nil]
        exact a
    intro H2 a2
    rw [List.length_map, List.length_map, List.take_length, ← en] at a2
    have kk : ∀ y ∈ ns, IsKey y := fun y hy => by
      rw [en] at hy
      obtain ⟨r, hr, rfl⟩ := List.mem_map.mp hy
      exact (sel_ok lv.ok ns).key r hr
    refine ⟨_, _, strs_dp (a2.1 _ _ e1), strs_dp a2.2.2, strs_shaped kk, strs_shaped kk, _, rfl, iteFe (by rw [shaped_refl (strs_shaped kk)]; rfl) ?_⟩
    have s2 := s1.trans a2.1
    have ob2 := s2 _ _ lv.ob
    have et2 := s2 _ _ et
    have eD2 := s2 _ _ eD
    have rv2 := rv.same s2
    clear a2 nM
    have so := sel_ord lv.ord ns
    have row_of : ∀ i k0, ns[i]? = some k0 → ∃ r : Row, (sel R ns)[i]? = some r ∧ r.1 = k0 := fun i k0 h => by
      rw [en] at h
      exact row_at h
    refine ⟨_, rfl, x, C, dx, _, _, rfl, ob2, X.cl, X.nI, rfl, _, rfl, t, rfl, ⟨_, SqT.of et2⟩, fun M nM => dc_it walk_tup (fun i H' => ∃ ks, AccK H2 M ks H' ∧ Rv H2 ks ((sel R ns).take i)) ⟨[], AccK.start nM, .nil⟩ (fun i H' _ a => SqT.of (by obtain ⟨_, a, _⟩ := a; exact a.1 _ _ et2)) ?_ ?_⟩
    · rintro i v Ha Hb hi ⟨ks, a, r⟩ ⟨rfl, hv⟩
      obtain ⟨k0, rfl, hk⟩ := strs_at2 hv
      obtain ⟨row, hrow, rfl⟩ := row_of i k0 hk
      have mrow : row ∈ R := (List.mem_filter.mp (List.mem_of_getElem? hrow)).1
      obtain ⟨tl, ht, elt⟩ := rv2.get lv.ord.nd mrow
      have i1 : i < 48 := by have := (sel_ok lv.ok ns).few; have := (List.getElem?_eq_some_iff.mp hrow).1; omega
      refine ⟨rfl, _, rfl, _, rfl, x, C, dx, _, _, rfl, a.1 _ _ ob2, X.cl, X.nR, rfl, _, rfl, D, .ref tl, rfl, dget_of (k := Sum.inr row.1) (.inl (a.1 _ _ eD2)) ht, ks, Sum.inr row.1, rfl, a.2.2, lt_line (by rw [r.len]; have := List.length_take_le i (sel R ns); omega), _, a.put, ?_⟩
      rw [putK_new _ (fresh_key r rfl so.nd hrow), take_step hrow]
      exact r.snoc elt
    rintro Hc ⟨ks, a, r⟩
    have len : (ns.map V.str).length = (sel R ns).length := by
      rw [List.length_map]
      conv => lhs; rw [en]
      rw [List.length_map]
    rw [len, List.take_length] at r
    refine made_of ⟨ks, a.2.2, r.same a.1⟩ so.nd (sel_ok lv.ok ns) lv.n0 lv.n1 fun y H3 R3 s3 p3 l3 _ => ?_
    obtain ⟨d3, D3, N3, l3⟩ := l3
    obtain rfl := ord_one p3 l3.ord so
    exact k y H3 ((s2.trans a.1).trans s3) ⟨d3, D3, N3, l3⟩
end
end K56
/-! xs != [] -/
namespace L2.My
open PySem PySem.Spec PyProof.Rows L2
section
variable {X : Cx}
def rNeNil : R2 := fun x y H Q => ∃ a b xs, x = .ref a ∧ y = .ref b ∧ H a = some (.lst xs) ∧ H b = some (.lst []) ∧ Q (.bl (!xs.isEmpty)) H
theorem op_neNil (hu : X.A.units < cLine) : OpR X (compareOp .NotEq) rNeNil := by
  intro pins s σ H x y v u Q I rx ry h
  obtain ⟨a, b, xs, rfl, rfl, ea, eb, q⟩ := h
  cases rx
  cases ry
  obtain ⟨_, its, n, r1, h1⟩ := (show ObjOk X.prog X.w H s.heap a (.lst xs) from I.hok a _ ea)
  obtain ⟨_, its2, n2, r2, h2⟩ := (show ObjOk X.prog X.w H s.heap b (.lst []) from I.hok b _ eb)
  cases r2
  have la : s.heap.IsList a its.toArray := ⟨_, h1, rfl, n, rfl⟩
  have lb : s.heap.IsList b #[] := ⟨_, h2, rfl, n2, rfl⟩
  cases r1 with
  | nil => exact SeqAt.RcNeAt.lists (e := fun _ => true) la lb rfl hu (fun j h1 _ => absurd h1 (by simp)) _ _ _ _ ⟨.bl false, H, I, rfl, q⟩
  | cons r t => exact SeqAt.RcNeAt.lists_lengths la lb (by simp) hu _ _ _ _ ⟨.bl true, H, I, rfl, q⟩
end
end L2.My
namespace K56
open PySem L2
open L2.My
open Liv
/-! ### the cup -/
theorem Bd {n : Nat} {i : Int} (h : decide (i.natAbs < 2 ^ n) = true := by decide) : B n i := by
  unfold B
  exact of_decide_eq_true h
theorem Bi {i n : Nat} (h : i < 2 ^ n) : B n (i : Int) := h
theorem Bz {i : Int} {n : Nat} (h0 : 0 ≤ i) (h : i < 2 ^ n) : B n i := by
  unfold B
  have e : ((2 ^ n : Nat) : Int) = (2 : Int) ^ n := by simp
  omega
def CupAt (H : Hp) (c : Addr) (m : Nat) : Prop := ∃ x y z : Int, H c = some (.lst [.int x, .int y, .int z]) ∧ 0 ≤ x ∧ 0 ≤ y ∧ y < 2 ^ 62 ∧ 0 ≤ z ∧ z ≤ m
theorem CupAt.le {H : Hp} {c : Addr} {m k : Nat} (h : CupAt H c m) (l : m ≤ k := by omega) : CupAt H c k := by
  obtain ⟨x, y, z, e, a, b, d, f, g⟩ := h
  exact ⟨x, y, z, e, a, b, d, f, by omega⟩
theorem CupAt.same {H H' : Hp} {c : Addr} {m : Nat} (h : CupAt H c m) (s : Same H H') : CupAt H' c m := by
  obtain ⟨x, y, z, e, r⟩ := h
  exact ⟨x, y, z, s _ _ e, r⟩
section
variable {P : Program} {w : World} {K : PySem.W.Frag} {mg : Str → Option Value} {base : Heap}
def spCup (K : PySem.W.Frag) : Sp := fun vs H Q _ => ∃ (a : Addr) (ns : List Int) (i : Nat), vs = [.ref a, .int i] ∧ SqL K H a (ns.map V.int) ∧ ns.length ≤ 63 ∧ i ≤ 63 ∧ ∀ c H', Same H H' → H c = none → CupAt H' c 0 → Q (.ref c) H'
abbrev lCup : Stmt := top 30
abbrev n_cu : List Str := ["_law_script", "_law_spot", "_law_cell", "_law_great", "_law_start"]
theorem sl_cu : FnScope n_cu ["_law_script", "_law_spot"] (defScope lCup) := ⟨rfl, rfl, rfl, by decide +kernel, rfl, by decide +kernel, by decide +kernel⟩
theorem ok_cu {f  : Addr} {fd  : FuncData} (F : Fun K "_law_cup" "_law_cup" lCup f fd) (T : Txt mg)  : FnOk P w K mg base CX0 1 f fd ["_law_script", "_law_spot"] (spCup K) := by
  refine F.ok sl_cu (fun vs H Q E h => ?_) (fun cdv A outer s H vs Q E hr h => ?_)
  · obtain ⟨a, ns, i, rfl, _⟩ := h
    rfl
  · obtain ⟨a, ns, i, rfl, hL, hl, hi, k⟩ := h
    refine ⟨_, pss_cons (ps_set (i := 2) sl_cu.nd rfl (.inl rfl) (pe_ifExp (pt_cmpR op_lt (pv 1) (pe_callB call_len_seq (by rfl) T.len PySem.boot_len (pa_cons (pv 0) pa_nil)) (nomark _)) (pe_ix ix_list (pv 0) (pv 1) (fun _ _ => rfl)) (pe_op op_add (pe_op op_mulW pe_int (pv 1)) pe_int))) (pss_cons (ps_set (i := 3) sl_cu.nd rfl (.inl rfl) (pe_op op_modN (pe_callTy call_int1 (by rfl) T.int (by decide +kernel) (pa_cons (pe_callB call_abs (by rfl) T.abs (by decide +kernel) (pa_cons (pv 2) pa_nil)) pa_nil)) (pe_op op_powW (pe_op op_pow pe_int pe_int) pe_int))) (pss_cons (ps_set (i := 4) sl_cu.nd rfl (.inl rfl) (pe_op op_add (pe_op op_add (pe_op op_add (pe_op op_mulW (pv 3) pe_int) (pe_op op_mulW pe_int (pv 1))) (pe_op op_mulW pe_int (pe_callTy call_int1 (by rfl) T.int (by decide +kernel) (pa_cons (pe_cmpR op_lt (pv 2) pe_int (nomark _)) pa_nil)))) pe_int)) (pss_one (ps_ret (pe_lst (pa_cons (pe_callB (call_max2 rfl) (by rfl) T.max (by decide +kernel) (pa_cons pe_int (pa_cons (pe_op op_sub (pv 3) (pe_op op_pow pe_int pe_int)) pa_nil))) (pa_cons (pe_op op_modN (pe_callTy call_int1 (by rfl) T.int (by decide +kernel) (pa_cons (pv 4) pa_nil)) pe_int) (pa_cons pe_int pa_nil)))))))), ?_⟩
    refine seq_asg (fun v H' => ∃ cell : Int, v = .int cell ∧ H' = H) (fun Q' kq => ?_) ?_
    · refine ⟨_, rfl, _, rfl, a, _, rfl, .inl hL, _, _, rfl, rfl, _, rfl, ?_⟩
      rw [List.length_map]
      by_cases c : (i : Int) < (ns.length : Nat)
      · have hj : i < ns.length := by omega
        exact iteTe (decide_eq_true c) ⟨_, rfl, _, rfl, a, _, (i : Int), _, rfl, rfl, hL, atI_nat (j := i) (by rw [List.getElem?_map, List.getElem?_eq_getElem hj]; rfl), kq _ _ ⟨_, rfl, rfl⟩⟩
      · refine iteFe (decide_eq_false c) ⟨_, rfl, _, _, rfl, rfl, B.ml (n := 6) (m := 6) Bd ?_, _, _, rfl, rfl, kq _ _ ⟨_, rfl, rfl⟩⟩
        unfold B
        have : (64 : Nat) ≤ 2 ^ 6 := by decide
        omega
    rintro v H1 ⟨cell, rfl, rfl⟩
    obtain ⟨M, eM⟩ : ∃ M : Int, ((10 : Int) ^ (57 : Int).toNat) ^ (11 : Int).toNat = M := ⟨_, rfl⟩
    have M0 : 0 < M := by rw [← eM]; decide +kernel
    have MB : M.natAbs < 2 ^ 2200 := by rw [← eM]; decide +kernel
    refine ⟨_, rfl, _, rfl, .inl ⟨_, rfl, _, _, rfl, rfl, (by unfold CPow; decide), _, _, rfl, rfl, (by unfold CPowW; decide +kernel), ?_⟩⟩
    refine ⟨_, _, rfl, rfl, ?_, ?_⟩
    · rw [eM]; omega
    show gName 3 (V.int (Int.fmod (if cell < 0 then -cell else cell) (((10 : Int) ^ (57 : Int).toNat) ^ (11 : Int).toNat))) _ _ _
    rw [eM, Int.fmod_eq_emod_of_nonneg _ (Int.le_of_lt M0)]
    have g0 := Int.emod_nonneg (if cell < 0 then -cell else cell) (show M ≠ 0 by omega)
    have g1 := Int.emod_lt_of_pos (if cell < 0 then -cell else cell) M0
    generalize (if cell < 0 then -cell else cell) % M = g at g0 g1 ⊢
    have gb : B 2200 g := by unfold B; omega
    have ib : B 6 (i : Int) := Bi (by have : (64 : Nat) ≤ 2 ^ 6 := by decide
                                      omega)
    refine ⟨_, rfl, _, _, rfl, rfl, B.ml (m := 20) gb Bd, _, rfl, _, _, rfl, rfl, B.ml (n := 13) Bd ib, _, _, rfl, rfl, ?_⟩
    refine ⟨_, rfl, _, _, rfl, rfl, .inr ⟨_, rfl, ?_⟩⟩
    have bb : B 1 (if decide (cell < 0) = true then (1 : Int) else 0) := by
      split <;> exact Bd
    refine ⟨_, _, rfl, rfl, B.ml (n := 6) Bd bb, _, _, rfl, rfl, _, _, rfl, rfl, ?_⟩
    refine ⟨_, rfl, _, _, rfl, rfl, ⟨by decide, by decide, by decide⟩, _, _, rfl, rfl, _, _, rfl, _, rfl, .inl ⟨_, rfl, _, _, rfl, rfl, (by show (2305843009213693669 : Int) ≠ 0; decide), n_line, fun c nc => ?_⟩⟩
    generalize (g * 1000289 + 4909 * (i : Int) + 53 * if decide (cell < 0) = true then (1 : Int) else 0) + 29 = st
    have h0 := Int.emod_nonneg st (show (2305843009213693669 : Int) ≠ 0 by decide)
    have h1 := Int.emod_lt_of_pos st (show (0 : Int) < 2305843009213693669 by decide)
    have he : st.fmod 2305843009213693669 = st % 2305843009213693669 := Int.fmod_eq_emod_of_nonneg _ (by decide)
    refine k c _ (grow nc) nc ⟨_, _, 0, upd_same, ?_, ?_, ?_, Int.le_refl _, Int.le_refl _⟩
    · split <;> omega
    · rw [he]; exact h0
    · rw [he]
      exact Int.lt_trans h1 (by decide)
def spRoll : Sp := fun vs H Q _ => ∃ (c : Addr) (m : Nat) (t : Int), vs = [.ref c, .int t] ∧ CupAt H c m ∧ m ≤ 10000 ∧ 0 < t ∧ B 100 t ∧ ∀ (r : Nat) H', ButX c H H' → CupAt H' c (m + 1) → (r : Int) < t → Q (.int r) H'
abbrev lRoll : Stmt := top 31
abbrev n_ro : List Str := ["_law_cup_here", "_law_total", "_law_found", "_law_one", "_law_two"]
theorem sl_ro : FnScope n_ro ["_law_cup_here", "_law_total"] (defScope lRoll) := ⟨rfl, rfl, rfl, by decide +kernel, rfl, by decide +kernel, by decide +kernel⟩
theorem ok_ro {f  : Addr} {fd  : FuncData} (F : Fun K "_law_roll" "_law_roll" lRoll f fd) (T : Txt mg)  : FnOk P w K mg base CX0 1 f fd ["_law_cup_here", "_law_total"] spRoll := by
  refine F.ok sl_ro (fun vs H Q E h => ?_) (fun cdv A outer s H vs Q E hr h => ?_)
  · obtain ⟨c, m, t, rfl, _⟩ := h
    rfl
  · obtain ⟨c, m, t, rfl, cup, mm, t0, tb, k⟩ := h
    refine ⟨_, pss_cons (ps_if (pt_cmpR op_gt (pe_ix ix_list (pv 0) pe_int (fun _ _ => rfl)) pe_int (nomark _)) (pss_cons (ps_set (i := 2) sl_ro.nd rfl (.inl rfl) (pe_op op_modN (pe_callTy call_int1 (by rfl) T.int (by decide +kernel) (pa_cons (pe_ix ix_list (pv 0) pe_int (fun _ _ => rfl)) pa_nil)) (pv 1))) (pss_cons (ps_asg (pe_op op_fdivV (pe_ix ix_list (pv 0) pe_int (fun _ _ => rfl)) (pv 1)) (pg_sub (pv 0) pe_int set_list)) (pss_one (ps_ret (pv 2))))) pss_nil) (pss_cons (ps_asg (pe_op op_add (pe_ix ix_list (pv 0) pe_int (fun _ _ => rfl)) pe_int) (pg_sub (pv 0) pe_int set_list)) (pss_cons (ps_set (i := 3) sl_ro.nd rfl (.inl rfl) (pe_op op_modN (pe_callTy call_int1 (by rfl) T.int (by decide +kernel) (pa_cons (pe_op op_add (pe_ix ix_list (pv 0) pe_int (fun _ _ => rfl)) (pe_op op_mulW pe_int (pe_ix ix_list (pv 0) pe_int (fun _ _ => rfl)))) pa_nil)) pe_int)) (pss_cons (ps_set (i := 4) sl_ro.nd rfl (.inl rfl) (pe_op op_add (pe_op op_mulW (pe_op op_modN (pe_callTy call_int1 (by rfl) T.int (by decide +kernel) (pa_cons (pe_op op_mulW (pv 3) (pv 3)) pa_nil)) pe_int) (pv 3)) (pe_op op_mulW pe_int (pe_ix ix_list (pv 0) pe_int (fun _ _ => rfl))))) (pss_one (ps_ret (pe_op op_modN (pe_callTy call_int1 (by rfl) T.int (by decide +kernel) (pa_cons (pe_op op_fdivW (pe_op op_modN (pe_callTy call_int1 (by rfl) T.int (by decide +kernel) (pa_cons (pe_op op_add (pv 4) (pe_ix ix_list (pv 0) pe_int (fun _ _ => rfl))) pa_nil)) pe_int) pe_int) pa_nil)) (pv 1))))))), ?_⟩
    obtain ⟨x, y, z, e, x0, y0, y1, z0, z1⟩ := cup
    have d0 : t ≠ 0 := by omega
    refine ⟨_, rfl, c, _, 0, _, rfl, rfl, SqL.of e, atI_nat (j := 0) rfl, _, _, rfl, rfl, _, rfl, ?_⟩
    by_cases cx : 0 < x
    · refine iteTe (decide_eq_true cx) ?_
      have r0 := Int.emod_nonneg x d0
      have r1 := Int.emod_lt_of_pos x t0
      refine ⟨_, rfl, c, _, 0, _, rfl, rfl, SqL.of e, atI_nat (j := 0) rfl, .inl ⟨_, rfl, _, rfl, _, _, rfl, rfl, d0, ?_⟩⟩
      refine ⟨_, rfl, c, _, 0, _, rfl, rfl, SqL.of e, atI_nat (j := 0) rfl, _, rfl, _, _, rfl, rfl, B.dv tb d0, ?_⟩
      refine ⟨_, rfl, c, _, 0, 0, rfl, rfl, e, rfl, ?_⟩
      refine ⟨_, rfl, ?_⟩
      show Q (V.int (x.fmod t)) (upd H c (.lst [.int (x.fdiv t), .int y, .int z]))
      have e1 : x.fmod t = ((x % t).toNat : Int) := by rw [Int.fmod_eq_emod_of_nonneg _ (Int.le_of_lt t0)]; omega
      have e2 : x.fdiv t = x / t := Int.fdiv_eq_ediv_of_nonneg _ (Int.le_of_lt t0)
      have q0 : 0 ≤ x / t := Int.ediv_nonneg x0 (Int.le_of_lt t0)
      rw [e1, e2]
      exact k _ _ ButX.put ⟨_, y, z, upd_same, q0, y0, y1, z0, by omega⟩ (by omega)
    · refine iteFe (decide_eq_false cx) ?_
      refine ⟨_, rfl, c, _, 2, _, rfl, rfl, SqL.of e, atI_nat (j := 2) rfl, _, _, rfl, rfl, ?_⟩
      refine ⟨_, rfl, c, _, 2, 2, rfl, rfl, e, rfl, ?_⟩
      show (_ : Hp → Prop) (upd H c (.lst [.int x, .int y, .int (z + 1)]))
      obtain ⟨H1, w1, b1, e1⟩ : ∃ H1, upd H c (.lst [.int x, .int y, .int (z + 1)]) = H1 ∧ ButX c H H1 ∧ H1 c = some (.lst [.int x, .int y, .int (z + 1)]) := ⟨_, rfl, ButX.put, upd_same⟩
      rw [w1]
      have zb : B 20 (z + 1) := Bz (by omega) (by have : (10002 : Int) < 2 ^ 20 := by decide
                                                  omega)
      refine ⟨_, rfl, c, _, 1, _, rfl, rfl, SqL.of e1, atI_nat (j := 1) rfl, _, rfl, c, _, 2, _, rfl, rfl, SqL.of e1, atI_nat (j := 2) rfl, _, _, rfl, rfl, B.ml (n := 30) Bd zb, _, _, rfl, rfl, .inl ⟨_, rfl, _, _, rfl, rfl, (by show (2305843009213693951 : Int) ≠ 0; decide), ?_⟩⟩
      show gName 3 (V.int ((y + 654188429 * (z + 1)).fmod 2305843009213693951)) _ _ _
      have f1 : ∀ a : Int, a.fmod 2305843009213693951 = a % 2305843009213693951 := fun a => Int.fmod_eq_emod_of_nonneg _ (by decide)
      have f2 : ∀ a : Int, a.fmod 1152921504606846577 = a % 1152921504606846577 := fun a => Int.fmod_eq_emod_of_nonneg _ (by decide)
      rw [f1]
      have o0 := Int.emod_nonneg (y + 654188429 * (z + 1)) (show (2305843009213693951 : Int) ≠ 0 by decide)
      have o1 := Int.emod_lt_of_pos (y + 654188429 * (z + 1)) (show (0 : Int) < 2305843009213693951 by decide)
      generalize (y + 654188429 * (z + 1)) % 2305843009213693951 = one at o0 o1 ⊢
      have ob : B 62 one := Bz o0 (Int.lt_trans o1 (by decide))
      refine ⟨_, rfl, _, rfl, _, _, rfl, rfl, B.ml ob ob, .inl ⟨_, rfl, _, _, rfl, rfl, (by show (1152921504606846577 : Int) ≠ 0; decide), ?_⟩⟩
      have p0 := Int.emod_nonneg (one * one) (show (1152921504606846577 : Int) ≠ 0 by decide)
      have p1 := Int.emod_lt_of_pos (one * one) (show (0 : Int) < 1152921504606846577 by decide)
      have pb : B 62 ((one * one).fmod 1152921504606846577) := by
        rw [f2]
        exact Bz p0 (Int.lt_trans p1 (by decide))
      refine ⟨_, rfl, _, _, rfl, rfl, B.ml pb ob, _, rfl, c, _, 2, _, rfl, rfl, SqL.of e1, atI_nat (j := 2) rfl, _, _, rfl, rfl, B.ml (n := 13) Bd zb, _, _, rfl, rfl, ?_⟩
      have w0 : 0 ≤ (one * one).fmod 1152921504606846577 * one + 7867 * (z + 1) := by
        rw [f2]
        have := Int.mul_nonneg p0 o0
        omega
      show gName 4 (V.int ((one * one).fmod 1152921504606846577 * one + 7867 * (z + 1))) _ _ _
      generalize (one * one).fmod 1152921504606846577 * one + 7867 * (z + 1) = two at w0 ⊢
      refine ⟨_, rfl, _, rfl, c, _, 1, _, rfl, rfl, SqL.of e1, atI_nat (j := 1) rfl, _, _, rfl, rfl, .inl ⟨_, rfl, _, _, rfl, rfl, (by show (4398046511093 : Int) ≠ 0; decide), _, _, rfl, rfl, B.dw (n := 10) Bd (by decide), .inl ⟨_, rfl, _, rfl, _, _, rfl, rfl, d0, ?_⟩⟩⟩
      have u0 := Int.emod_nonneg (two + y) (show (4398046511093 : Int) ≠ 0 by decide)
      have f3 : (two + y).fmod 4398046511093 = (two + y) % 4398046511093 := Int.fmod_eq_emod_of_nonneg _ (by decide)
      have f4 : ∀ a : Int, a.fmod t = ((a % t).toNat : Int) := fun a => by
        have := Int.emod_nonneg a d0
        rw [Int.fmod_eq_emod_of_nonneg _ (Int.le_of_lt t0)]
        omega
      show Q (V.int (((two + y).fmod 4398046511093 / 64).fmod t)) H1
      rw [f3, f4]
      have r0 := Int.emod_nonneg ((two + y) % 4398046511093 / 64) d0
      have r1 := Int.emod_lt_of_pos ((two + y) % 4398046511093 / 64) t0
      exact k _ _ b1 ⟨x, y, z + 1, e1, x0, y0, y1, by omega, by omega⟩ (by omega)
end
end K56
namespace L2
theorem Room.u0 {k : Nat} {A : PySem.Around} (r : Room k A) : A.units < PySem.cLine := by have := r.un; omega
end L2
namespace K56
open PySem L2
open L2.My
open Liv
section
variable {P : Program} {w : World} {K : PySem.W.Frag} {mg : Str → Option Value} {base : Heap}
theorem p63 {r : Nat} (h : r < 1000) : -(2 ^ 63) ≤ (r : Int) ∧ (r : Int) < 2 ^ 63 := by
  have : (1000 : Int) < 2 ^ 63 := by decide
  omega
theorem perm_move {fs ls xs : List V} {r : Nat} (h : r < ls.length) (p : (fs ++ ls).Perm xs) : (fs ++ [ls[r]] ++ ls.eraseIdx r).Perm xs := by
  refine List.Perm.trans ?_ p
  rw [List.append_assoc]
  refine List.Perm.append_left fs ?_
  have e : ls = ls.take r ++ ls[r] :: ls.drop (r + 1) := by rw [List.getElem_cons_drop, List.take_append_drop]
  rw [List.eraseIdx_eq_take_drop_succ]
  conv => rhs; rw [e]
  show (ls[r] :: (ls.take r ++ ls.drop (r + 1))).Perm _
  exact List.perm_middle.symm
def spPick : Sp := fun vs H Q _ => ∃ (c L : Addr) (m : Nat) (xs : List Int), vs = [.ref c, .ref L] ∧ CupAt H c m ∧ m ≤ 10000 ∧ H L = some (.lst (xs.map V.int)) ∧ L ≠ c ∧ 0 < xs.length ∧ xs.length < 1000 ∧ ∀ i H', ButX c H H' → CupAt H' c (m + 1) → i ∈ xs → Q (.int i) H'
abbrev lPick : Stmt := top 32
abbrev n_pk : List Str := ["_law_cup_here", "_law_items"]
theorem sl_pk : FnScope n_pk ["_law_cup_here", "_law_items"] (defScope lPick) := ⟨rfl, rfl, rfl, by decide +kernel, rfl, by decide +kernel, by decide +kernel⟩
theorem ok_pk {f fro : Addr} {fd fdro : FuncData} (F : Fun K "_law_pick" "_law_pick" lPick f fd) (T : Txt mg) (dro : Dn P w K mg base CX0 "_law_roll" ["_law_cup_here", "_law_total"] 1 spRoll fro fdro) : FnOk P w K mg base CX0 2 f fd ["_law_cup_here", "_law_items"] spPick := by
  refine F.ok sl_pk (fun vs H Q E h => ?_) (fun cdv A outer s H vs Q E hr h => ?_)
  · obtain ⟨c, L, m, xs, rfl, _⟩ := h
    rfl
  · obtain ⟨c, L, m, xs, rfl, cup, mm, eL, ne, l0, l1, k⟩ := h
    refine ⟨_, pss_one (ps_ret (pe_ix ix_list (pv 1) (pe_call dro.G hr rfl dro.g dro.kp dro.b .nil pass0 (pa_cons (pv 0) (pa_cons (pe_callB call_len_seq (by rfl) T.len PySem.boot_len (pa_cons (pv 1) pa_nil)) pa_nil))) (fun _ _ => rfl))), ?_⟩
    refine ⟨_, rfl, _, rfl, _, rfl, L, _, rfl, .inl (SqL.of eL), c, m, _, rfl, cup, mm, ?_, ?_, fun r H' b' cup' hr => ?_⟩
    · rw [List.length_map]; omega
    · rw [List.length_map]; exact Bi (by have : (1000 : Nat) ≤ 2 ^ 100 := by decide
                                         omega)
    rw [List.length_map] at hr
    have rl : r < xs.length := by omega
    refine ⟨L, _, (r : Int), _, rfl, rfl, SqL.of (b' _ _ ne eL), atI_nat (j := r) (by rw [List.getElem?_map, List.getElem?_eq_getElem rl]; rfl), ?_⟩
    exact k _ _ b' cup' (List.getElem_mem rl)
/-- some of the items, in some order -/
def spFew : Sp := fun vs H Q _ => ∃ (c L : Addr) (m : Nat) (xs : List V) (t : Int), vs = [.ref c, .ref L, .int t] ∧ CupAt H c m ∧ m + xs.length ≤ 10000 ∧ H L = some (.lst xs) ∧ L ≠ c ∧ xs.length < 100 ∧ 0 ≤ t ∧
  ∀ F ys rest H', ButX c H H' → H F = none → H' F = some (.lst ys) → F ≠ c → (ys ++ rest).Perm xs → ((ys.length : Int) < t → rest = []) → ((ys.length : Int) ≤ t) → CupAt H' c (m + xs.length) → Q (.ref F) H'
abbrev lFew : Stmt := top 33
abbrev n_fe : List Str := ["_law_cup_here", "_law_items", "_law_many", "_law_left", "_law_found"]
theorem sl_fe : FnScope n_fe ["_law_cup_here", "_law_items", "_law_many"] (defScope lFew) := ⟨rfl, rfl, rfl, by decide +kernel, rfl, by decide +kernel, by decide +kernel⟩
theorem ok_fe {f fro : Addr} {fd fdro : FuncData} (F : Fun K "_law_few" "_law_few" lFew f fd) (T : Txt mg) (dro : Dn P w K mg base CX0 "_law_roll" ["_law_cup_here", "_law_total"] 1 spRoll fro fdro) : FnOk P w K mg base CX0 2 f fd ["_law_cup_here", "_law_items", "_law_many"] spFew := by
  refine F.ok sl_fe (fun vs H Q E h => ?_) (fun cdv A outer s H vs Q E hr h => ?_)
  · obtain ⟨c, L, m, xs, t, rfl, _⟩ := h
    rfl
  · obtain ⟨c, L, m, xs, t, rfl, cup, mm, eL, ne, l1, t0, k⟩ := h
    refine ⟨_, pss_cons (ps_par (i := 3) (j := 4) rfl sl_fe.nd rfl rfl (by decide) rfl rfl (pa_cons (pe_callTy call_list_of (by rfl) T.list (by decide +kernel) (pa_cons (pv 1) pa_nil)) (pa_cons (pe_lst pa_nil) pa_nil)) (by rfl)) (pss_cons (ps_while PassesOwn.never (PW.pt (pw_and (pt_cmpR ((op_neNil (Room.u0 hr))) (pv 3) (pe_lst pa_nil) (nomark _)) (pw_and1 (pt_cmpR op_lt (pe_callB call_len_seq (by rfl) T.len PySem.boot_len (pa_cons (pv 4) pa_nil)) (pv 2) (nomark _))))) (pss_one (ps_expr (pe_bm PySem.F.plainAttrs_list PySem.F.slot_list_append PySem.F.type_list_append mt_append (pv 4) (pa_cons (pe_bm PySem.F.plainAttrs_list PySem.F.slot_list_pop PySem.F.type_list_pop mt_popAt (pv 3) (pa_cons (pe_call dro.G hr rfl dro.g dro.kp dro.b .nil pass0 (pa_cons (pv 0) (pa_cons (pe_callB call_len_seq (by rfl) T.len PySem.boot_len (pa_cons (pv 3) pa_nil)) pa_nil))) pa_nil)) pa_nil))))) (pss_one (ps_ret (pv 4)))), ?_⟩
    refine ⟨_, rfl, L, _, rfl, .inl (SqL.of eL), fun A nA => ?_⟩
    obtain ⟨H1, z1, s1, e1⟩ := mk_at (o := .lst xs) nA
    rw [z1]
    refine ⟨n_line, fun F nF => ?_⟩
    obtain ⟨H2, z2, s2, e2⟩ := mk_at (o := .lst []) nF
    rw [z2]
    have AF : A ≠ F := fun e => by rw [e, nF] at e1; cases e1
    have cn : ∃ o, H c = some o := by obtain ⟨_, _, _, e, _⟩ := cup; exact ⟨_, e⟩
    obtain ⟨oc, ec⟩ := cn
    have Ac : A ≠ c := ne_of_none_some nA ec
    have Fc : F ≠ c := ne_of_none_some nF (s1 _ _ ec)
    have nF0 : H F = none := by
      cases z : H F with
      | none => rfl
      | some o =>
        have := s1 _ _ z
        rw [nF] at this
        cases this
    have s02 := s1.trans s2
    refine ⟨_, _, rfl, ?_⟩
    refine ⟨fun m' σ H' => ∃ ls fs, m' = ls.length ∧ σ = [some (.ref c), some (.ref L), some (.int t), some (.ref A), some (.ref F)] ∧ ButX c H H' ∧ H' A = some (.lst ls) ∧ H' F = some (.lst fs) ∧ (fs ++ ls).Perm xs ∧ CupAt H' c (m + fs.length) ∧ (fs.length : Int) ≤ t,
      ⟨_, xs, [], rfl, rfl, ButX.of s02, s2 _ _ e1, e2, .refl _, cup.same s02, t0⟩, ?_⟩
    rintro m' σ H3 ⟨ls, fs, rfl, rfl, b3, eA, eF, pm, cup3, le3⟩
    have lt := pm.length_eq
    rw [List.length_append] at lt
    refine ⟨_, rfl, n_line, fun p np => ?_⟩
    obtain ⟨H4, z4, s4, e4⟩ := mk_at (o := .lst []) np
    rw [z4]
    have b4 : ButX c H H4 := b3.trans (ButX.of s4)
    have eA4 := s4 _ _ eA
    have eF4 := s4 _ _ eF
    have cup4 := cup3.same s4
    refine ⟨A, p, ls, rfl, rfl, eA4, e4, _, rfl, ?_⟩
    cases ls with
    | nil =>
      refine iteFe rfl (iteFe rfl ⟨_, rfl, ?_⟩)
      rw [List.append_nil] at pm
      exact k F fs [] H4 b4 nF0 eF4 Fc (by rw [List.append_nil]; exact pm) (fun _ => rfl) le3 (cup4.le (by simp at lt; omega))
    | cons l0 lr =>
      refine iteTe rfl ⟨_, rfl, F, _, rfl, .inl (SqL.of eF4), _, rfl, _, _, rfl, rfl, _, rfl, ?_⟩
      by_cases c1 : (fs.length : Int) < t
      · refine iteTe (decide_eq_true c1) ⟨fun σ' H' => ∃ ls fs, ls.length = lr.length ∧ σ' = [some (.ref c), some (.ref L), some (.int t), some (.ref A), some (.ref F)] ∧ ButX c H H' ∧ H' A = some (.lst ls) ∧ H' F = some (.lst fs) ∧ (fs ++ ls).Perm xs ∧ CupAt H' c (m + fs.length) ∧ (fs.length : Int) ≤ t,
          fun σ' H' p' => ?_, ?_⟩
        · obtain ⟨ls', fs', q1, q2, q3⟩ := p'
          exact ⟨lr.length, Nat.lt_succ_self _, ls', fs', q1.symm, q2, q3⟩
        rw [List.length_cons] at lt
        refine ⟨_, rfl, .inl ⟨rfl, _, SqL.of eF4⟩, _, rfl, .inl ⟨rfl, _, SqL.of eA4⟩, _, rfl, _, rfl, A, _, rfl, .inl (SqL.of eA4), c, m + fs.length, _, rfl, cup4, by omega, ?_, ?_, fun r H5 b5 cup5 hr => ?_⟩
        · rw [List.length_cons]; omega
        · rw [List.length_cons]; exact Bi (by have : (1000 : Nat) ≤ 2 ^ 100 := by decide
                                              omega)
        have eA5 := b5 _ _ Ac eA4
        have eF5 := b5 _ _ Fc eF4
        rw [List.length_cons] at hr
        have rl : r < (l0 :: lr).length := by rw [List.length_cons]; omega
        refine ⟨A, _, (r : Int), r, (l0 :: lr)[r], rfl, rfl, eA5, (p63 (by omega)).1, (p63 (by omega)).2, seqIndex_of (Int.natCast_nonneg r) (Int.ofNat_lt.mpr rl), List.getElem?_eq_getElem rl, ?_⟩
        obtain ⟨H6, z6, b6, e6⟩ : ∃ H', upd H5 A (.lst ((l0 :: lr).eraseIdx r)) = H' ∧ (∀ b o, b ≠ A → H5 b = some o → H' b = some o) ∧ H' A = some (.lst ((l0 :: lr).eraseIdx r)) := ⟨_, rfl, fun b o n e => by rw [upd_ne n]; exact e, upd_same⟩
        rw [z6]
        refine ⟨F, fs, _, rfl, rfl, (b6 _ _ AF.symm eF5), lt_line (by omega), ?_⟩
        refine ⟨(l0 :: lr).eraseIdx r, fs ++ [(l0 :: lr)[r]], ?_, rfl, ?_, ?_, upd_same, perm_move rl pm, ?_, ?_⟩
        · have := List.length_eraseIdx_of_lt rl
          rw [List.length_cons] at this
          omega
        · intro b o n e
          have nA' : b ≠ A := ne_of_none e nA
          have nF' : b ≠ F := ne_of_none e nF0
          rw [upd_ne nF']
          exact b6 _ _ nA' (b5 _ _ n (b4 _ _ n e))
        · rw [upd_ne AF]; exact e6
        · obtain ⟨x, y, z, e, q⟩ := cup5
          rw [List.length_append, ← Nat.add_assoc]
          exact ⟨x, y, z, by rw [upd_ne Fc.symm]; exact b6 _ _ Ac.symm e, q⟩
        · rw [List.length_append, List.length_singleton]; omega
      · refine iteFe (decide_eq_false c1) ⟨_, rfl, ?_⟩
        exact k F fs (l0 :: lr) H4 b4 nF0 eF4 Fc pm (fun h => absurd h c1) le3 (cup4.le (by omega))
end
end K56
/-! sets of objects of any kind whose hash and equality are known: search and growth of the table -/
namespace L2.My
open PySem PySem.Spec PyProof.Rows L2
/-- objects that a set may hold, told apart by their keys -/
structure Member (P : Program) (w : World) (κ : Type) [DecidableEq κ] where
  knd : HeapKind P w κ
  roomy : ∀ A : Around, A.units < cLine → knd.room A
  noStmt : ∀ {A : Around} {E : Value → Shared → Prop} {s : Shared} {k : κ} {b : Addr} {Q : Bool → Shared → Prop}, knd.is s.heap k b → Q false s → wpAny (model P w) A (ofAClassStatement 8 (.ref b)) Q E s
  worth : ∀ {A : Around} {E : Value → Shared → Prop} {s : Shared} {k : κ} {b : Addr} {Q : Bool → Shared → Prop}, knd.is s.heap k b → (∀ c, Q c s) → wpAny (model P w) A (hashByValue 8 (.ref b)) Q E s
  stays : ∀ {h h' : Heap} {k : κ} {b : Addr}, knd.is h k b → (∀ o, h.get? b = some o → h'.get? b = some o) → knd.is h' k b
  noSet : ∀ {h : Heap} {k : κ} {b : Addr} {o : Obj} {es : Array (Int × Value)} {ep : Nat} {t : SetTable}, knd.is h k b → h.get? b = some o → o.data = .set es ep t → False
section
variable {P : Program} {w : World} {κ : Type} [DecidableEq κ] (I : Member P w κ)
abbrev Member.cell (p : Addr × κ) : Int × Value := (I.knd.hash p.2, Value.ref p.1)
abbrev Member.hashes (L : List (Addr × κ)) : List Int := L.map fun p => I.knd.hash p.2
/-- a set at a with the rows L, as its table has them -/
structure Laid (h : Heap) (a : Addr) (L : List (Addr × κ)) (es : Array (Int × Value)) (ep : Nat) (t : SetTable) : Prop where
  obj : ∃ o, h.get? a = some o ∧ o.ExactSet ∧ o.data = .set es ep t
  cells : es.toList = L.map I.cell
  tab : TabOk t (I.hashes L)
  once : (L.map Prod.snd).Nodup
  each : ∀ p ∈ L, I.knd.is h p.2 p.1
  free : w.params.followText "set-order" = true ∨ t.led = true
  wide : L.length * 5 < t.mask * 3
  few : L.length < 64
variable {A : Around} {E : Value → Shared → Prop} {s : Shared}
/-- a search among members shows nothing -/
theorem Member.unseen {k : κ} {b : Addr} {Q : Bool → Shared → Prop} (hk : I.knd.is s.heap k b) {ys : List Value} (hy : ∀ y ∈ ys, ∃ c j, y = Value.ref c ∧ I.knd.is s.heap j c) (done : Q false s) :
    wpAny (model P w) A (searchCouldBeSeen (.ref b) ys) Q E s := by
  unfold searchCouldBeSeen
  apply wpAny_bind
  refine wpAny_forIn_list _ (fun l r s1 => r.1 = none ∧ s1 = s ∧ ∀ y ∈ l, ∃ c j, y = Value.ref c ∧ I.knd.is s.heap j c) _ ?turn ?stop _ _ ⟨rfl, rfl, hy⟩
  case stop =>
    rintro ⟨o1, o2⟩ s1 ⟨e1, e2, _⟩
    dsimp only at e1
    rw [e1, e2]
    exact wpAny_pure done
  case turn =>
    rintro y l r s1 ⟨e1, rfl, all⟩
    obtain ⟨c, j, rfl, hc⟩ := all y (List.mem_cons_self ..)
    have later := fun u (hu : u ∈ l) => all u (List.mem_cons_of_mem _ hu)
    dsimp only
    cases hv : (b == c || (carriedByValue (.ref b) && carriedByValue (.ref c))) with
    | true => exact wp_if_pos rfl (wpAny_pure ⟨rfl, rfl, later⟩)
    | false =>
      refine wp_if_neg Bool.false_ne_true ?_
      refine wpAny_bind (I.knd.quiet hk ?_)
      simp only [Bool.not_true, Bool.false_eq_true, if_false]
      refine wpAny_bind (I.knd.quiet hc ?_)
      simp only [Bool.not_true, Bool.false_eq_true, if_false]
      refine wpAny_bind (I.noStmt hk ?_)
      simp only [Bool.false_eq_true, if_false]
      refine wpAny_bind (I.noStmt hc ?_)
      simp only [Bool.false_eq_true, if_false]
      exact wpAny_pure ⟨rfl, rfl, later⟩
variable {I} {a : Addr} {L : List (Addr × κ)} {es : Array (Int × Value)} {ep : Nat} {t : SetTable}
theorem Laid.count (R : Laid I s.heap a L es ep t) : es.size = L.length := by
  rw [← Array.length_toList, R.cells, List.length_map]
theorem Laid.holds (R : Laid I s.heap a L es ep t) : t.fits es.size = true := by
  have z := R.tab.sz
  have q := R.wide
  rw [List.length_map] at z
  unfold SetTable.fits SetTable.fill
  rw [R.tab.dm, R.count, Bool.and_eq_true, beq_iff_eq, decide_eq_true_eq]
  refine ⟨z, ?_⟩
  show t.place.size + 0 ≤ t.mask
  omega
theorem Laid.at (R : Laid I s.heap a L es ep t) {i : Nat} {p : Addr × κ} (e : L[i]? = some p) : es[i]? = some (I.cell p) := by
  rw [← Array.getElem?_toList, R.cells, List.getElem?_map, e]
  rfl
theorem Laid.stands (R : Laid I s.heap a L es ep t) : ¬ t.gaveWay = true := by
  unfold SetTable.gaveWay
  rw [mask_odd R.tab.mok]
  decide
theorem nth_quiet (m : Nat) : ∀ (n : Nat) {p : SetTable.Probe}, p.dummy = none → (nth m p n).dummy = none
  | 0, _, e => e
  | n + 1, p, e => nth_quiet m n (p := adv m p) (by unfold adv; split <;> exact e)
/-- the way of a hash from its c-th step on -/
abbrev stepAt (t : SetTable) (h : Int) (c : Nat) : SetTable.Probe := nth t.mask (runAt t.mask (SetTable.bits h % (t.mask + 1)) (SetTable.bits h)) c
theorem stepAt_add (t : SetTable) (h : Int) (c q : Nat) : nth t.mask (stepAt t h c) q = stepAt t h (c + q) := (nth_add t.mask c _ q).symm
theorem Laid.seek (R : Laid I s.heap a L es ep t) {x : Addr} {k : κ} (hx : I.knd.is s.heap k x) (hu : A.units < cLine) {K : Nat} (lim : K < 10 * SetTable.turns t.mask)
    (gap : way t.mask (I.knd.hash k) K ∉ t.place.toList) (run : ∀ c, c < K → way t.mask (I.knd.hash k) c ∈ t.place.toList) {Q : SetFound → Shared → Prop}
    (old : k ∈ L.map Prod.snd → Q (.there none) s) (new : k ∉ L.map Prod.snd → Q (.free (way t.mask (I.knd.hash k) K) false) s) :
    ∀ (f c : Nat) (p0 : Option SetTable.Probe), p0.getD (t.probeStart (I.knd.hash k)) = stepAt t (I.knd.hash k) c → c ≤ K → K < c + f →
      (∀ (i : Nat) (b : Addr), L[i]? = some (b, k) → ∃ d, c ≤ d ∧ d < K ∧ t.place.toList[i]? = some (way t.mask (I.knd.hash k) d)) →
      wpAny (model P w) A (setSearchFrom a (.ref x) (I.knd.hash k) true f p0) Q E s := by
  obtain ⟨o, ho, _, hd⟩ := R.obj
  intro f
  induction f with
  | zero => exact fun c p0 _ h1 h2 => absurd h2 (by omega)
  | succ f again =>
    intro c p0 e0 cK cf rest
    rw [setSearchFrom_succ]
    apply wpAny_bind
    refine wpAny_setState_of ho hd R.holds ?_
    dsimp only
    refine wp_if_neg R.stands ?_
    try refine wpAny_bind (wpAny_pure ?_)
    have place : ∀ q, (nth t.mask (stepAt t (I.knd.hash k) c) q).j = way t.mask (I.knd.hash k) (c + q) := fun q => congrArg SetTable.Probe.j (stepAt_add t _ c q)
    have end1 : c + (K - c) = K := by omega
    have met := go_spec t R.tab.ris R.tab.dm (fun i => (es[i]?.map Prod.fst).getD 0) (I.knd.hash k) (10 * SetTable.turns t.mask) (K - c) (stepAt t (I.knd.hash k) c) (nth_quiet t.mask c rfl) (by omega)
      (fun q hq => by rw [place]; exact run _ (by omega)) (by rw [place, end1]; exact gap)
    have hashOf : ∀ {i : Nat} {p : Addr × κ}, L[i]? = some p → (es[i]?.map Prod.fst).getD 0 = I.knd.hash p.2 := fun e => by rw [R.at e]; rfl
    rcases met with ⟨q, i, qK, at_i, same, first, pr⟩ | ⟨none_, pr⟩
    · have pr2 : t.probe (fun i => (es[i]?.map Prod.fst).getD 0) (I.knd.hash k) (p0.getD (t.probeStart (I.knd.hash k))) = some (.candidate (way t.mask (I.knd.hash k) (c + q)) i (stepAt t (I.knd.hash k) (c + (q + 1)))) := by
        rw [e0, ← place, ← stepAt_add]
        exact pr
      rw [pr2]
      dsimp only
      rw [place] at at_i
      have il : i < L.length := by
        obtain ⟨z, _⟩ := List.getElem?_eq_some_iff.mp at_i
        have y := R.tab.sz
        rw [List.length_map] at y
        rw [Array.length_toList, y] at z
        exact z
      obtain ⟨⟨b, j⟩, hb⟩ : ∃ p, L[i]? = some p := ⟨_, List.getElem?_eq_getElem il⟩
      have inL : (b, j) ∈ L := List.mem_of_getElem? hb
      have is_b : I.knd.is s.heap j b := R.each _ inL
      have compare : wpAny (model P w) A (searchRest a (.ref x) (I.knd.hash k) true f es t (way t.mask (I.knd.hash k) (c + q)) i (stepAt t (I.knd.hash k) (c + (q + 1)))) Q E s := by
        unfold searchRest
        rw [R.at hb]
        dsimp only
        refine wpAny_bind (wpAny_holding (I.knd.eqBool (I.roomy A hu) is_b hx ?_))
        refine wpAny_bind (wpAny_setState_of ho hd R.holds ?_)
        dsimp only
        by_cases jk : j = k
        · refine wp_if_pos (by simp [jk]) (wpAny_pure (old ?_))
          rw [← jk]
          exact List.mem_map.mpr ⟨_, inL, rfl⟩
        · refine wp_if_neg (by simp [jk]) ?_
          try refine wpAny_bind (wpAny_pure ?_)
          have live : t.slot (way t.mask (I.knd.hash k) (c + q)) = .live i := slot_live R.tab.ris at_i
          rw [sameMem]
          dsimp only
          simp only [if_true, live, R.at hb]
          refine wpAny_bind (wpAny_isSame_ref_self (wpAny_bind (wpAny_pure ?_)))
          simp only [if_true]
          refine wp_if_neg (by simp [jk]) ?_
          refine again (c + (q + 1)) _ rfl (by omega) (by omega) fun i2 b2 h2 => ?_
          obtain ⟨d, d1, d2, d3⟩ := rest i2 b2 h2
          refine ⟨d, ?_, d2, d3⟩
          apply Classical.byContradiction
          intro low
          by_cases dq : d = c + q
          · rw [dq] at d3
            have live2 := slot_live R.tab.ris d3
            rw [live] at live2
            injection live2 with ii
            rw [← ii, hb] at h2
            injection h2 with h2
            exact jk (congrArg Prod.snd h2)
          · refine first (d - c) i2 (by omega) ?_ (hashOf h2)
            rw [place, show c + (d - c) = d by omega]
            exact d3
      by_cases hl : t.led = true
      · refine wp_if_neg (by simp [hl]) ?_
        try refine wpAny_bind (wpAny_pure ?_)
        exact compare
      · refine wp_if_pos (by simp [hl]) (wpAny_bind (I.unseen hx (fun y hy => ?_) ?_))
        · obtain ⟨u, hu1, rfl⟩ := List.mem_map.mp hy
          have hu2 : u ∈ es.toList := by
            have z : u ∈ es ∧ u.1 = I.knd.hash k := by simpa using hu1
            simpa using z.1
          rw [R.cells] at hu2
          obtain ⟨p, hp, rfl⟩ := List.mem_map.mp hu2
          exact ⟨p.1, p.2, rfl, R.each p hp⟩
        · refine wp_if_neg (by decide) ?_
          try refine wpAny_bind (wpAny_pure ?_)
          exact compare
    · have pr2 : t.probe (fun i => (es[i]?.map Prod.fst).getD 0) (I.knd.hash k) (p0.getD (t.probeStart (I.knd.hash k))) = some (.empty (way t.mask (I.knd.hash k) K) none) := by
        rw [e0, ← end1, ← place]
        exact pr
      rw [pr2]
      dsimp only
      refine wpAny_pure (new fun inK => ?_)
      obtain ⟨⟨b, j⟩, inL, rfl⟩ := List.mem_map.mp inK
      obtain ⟨i, hi⟩ := List.mem_iff_getElem?.mp inL
      obtain ⟨d, d1, d2, d3⟩ := rest i b hi
      refine none_ (d - c) i (by omega) ?_ (hashOf hi)
      rw [place, show c + (d - c) = d by omega]
      exact d3
theorem Laid.search (R : Laid I s.heap a L es ep t) {x : Addr} {k : κ} (hx : I.knd.is s.heap k x) (hu : A.units < cLine) {Q : SetFound → Shared → Prop} (old : k ∈ L.map Prod.snd → Q (.there none) s)
    (new : ∀ K, k ∉ L.map Prod.snd → way t.mask (I.knd.hash k) K ∉ t.place.toList → (∀ c, c < K → way t.mask (I.knd.hash k) c ∈ t.place.toList) → Q (.free (way t.mask (I.knd.hash k) K) false) s) :
    wpAny (model P w) A (setSearch a (.ref x) (I.knd.hash k) true) Q E s := by
  have wd := R.wide
  obtain ⟨K, lim, gap, run⟩ := R.tab.first (by rw [List.length_map]; omega) (I.knd.hash k)
  have small : 10 * SetTable.turns t.mask ≤ 1420 := by
    unfold SetTable.turns
    rcases R.tab.mok with e | e | e <;> omega
  unfold setSearch
  refine R.seek hx hu lim gap run old (fun no => new K no gap run) 100000 0 none rfl (Nat.zero_le _) (by omega) fun i b hi => ?_
  have hh : (I.hashes L)[i]? = some (I.knd.hash k) := by rw [List.getElem?_map, hi]; rfl
  have il : i < t.place.toList.length := by
    obtain ⟨z, _⟩ := List.getElem?_eq_some_iff.mp hh
    rw [Array.length_toList, R.tab.sz]
    exact z
  obtain ⟨d, dK, e⟩ := R.tab.before gap hh (List.getElem?_eq_getElem il)
  exact ⟨d, Nat.zero_le _, dK, by rw [List.getElem?_eq_getElem il, e]⟩
end
end L2.My
/-! sets of members: one more member, and the table laid anew -/
namespace L2.My
open PySem PySem.Spec PyProof.Rows L2
section
variable {P : Program} {w : World} {κ : Type} [DecidableEq κ] {I : Member P w κ} {A : Around} {E : Value → Shared → Prop} {s : Shared}
theorem Member.past {h h' : Heap} {k : κ} {b a : Addr} {o : Obj} {es : Array (Int × Value)} {ep : Nat} {t : SetTable} (m : I.knd.is h k b) (ho : h.get? a = some o) (hd : o.data = .set es ep t) (sb : Heap.SameBut a h h') : I.knd.is h' k b :=
  I.stays m fun u hu => by
    have ne : b ≠ a := fun e => I.noSet m (e ▸ ho) hd
    rw [sb.2 b ne]
    exact hu
theorem Member.asked {β : Type} {k : κ} {x : Addr} {t : SetTable} {f : Bool → Sem β} {Q : β → Shared → Prop} (hx : I.knd.is s.heap k x) (q : ∀ c, wpAny (model P w) A (f c) Q E s) :
    wpAny (model P w) A (if t.plain = true then hashByValue 8 (.ref x) >>= f else pure true >>= f) Q E s := by
  by_cases pl : t.plain = true
  · exact wp_if_pos pl (wpAny_bind (I.worth hx q))
  · exact wp_if_neg pl (wpAny_bind (wpAny_pure (q true)))
theorem cut_perm {α : Type} (L : List α) (n : Nat) (x : α) : (L.take n ++ x :: L.drop n).Perm (x :: L) := by
  have z : (L.take n ++ x :: L.drop n).Perm (x :: (L.take n ++ L.drop n)) := List.perm_middle
  rwa [List.take_append_drop] at z
theorem gather {β γ : Type} {xs : List β} {g : Nat → Option γ} {q : β → γ} (hg : ∀ i, g i = (xs[i]?).map q) : ∀ {is : List Nat}, (∀ i ∈ is, i < xs.length) → is.filterMap g = (is.filterMap fun i => xs[i]?).map q
  | [], _ => rfl
  | i :: is, h => by
    have hi := h i (List.mem_cons_self ..)
    have e1 : xs[i]? = some xs[i] := List.getElem?_eq_getElem hi
    have e2 : g i = some (q xs[i]) := by rw [hg i, e1]; rfl
    rw [List.filterMap_cons_some (f := g) e2, List.filterMap_cons_some (f := fun i => xs[i]?) e1, List.map_cons, gather hg fun j hj => h j (List.mem_cons_of_mem _ hj)]
theorem pick_all {β : Type} (xs : List β) : (List.range xs.length).filterMap (fun i => xs[i]?) = xs := by
  have z : ∀ n, n ≤ xs.length → (List.range n).filterMap (fun i => xs[i]?) = xs.take n := by
    intro n
    induction n with
    | zero => intro _; rfl
    | succ n ih =>
      intro hn
      have e : xs[n]? = some xs[n] := List.getElem?_eq_getElem hn
      rw [List.range_succ, List.filterMap_append, ih (Nat.le_of_succ_le hn), List.filterMap_cons_some (f := fun i => xs[i]?) e, List.filterMap_nil, List.take_succ, e]
      rfl
  rw [z _ (Nat.le_refl _), List.take_length]
variable {a : Addr} {L : List (Addr × κ)} {es : Array (Int × Value)} {ep : Nat} {t : SetTable}
/-- the larger table has the same rows in another order -/
theorem Laid.anew {o : Obj} (ho : s.heap.get? a = some o) (ex : o.ExactSet) (hd : o.data = .set es ep t) (cells : es.toList = L.map I.cell) (sz : t.place.size = es.size) (dm : t.dummies = #[]) (fill : es.size ≤ t.mask)
    (once : (L.map Prod.snd).Nodup) (each : ∀ p ∈ L, I.knd.is s.heap p.2 p.1) (free : w.params.followText "set-order" = true ∨ t.led = true) (few : L.length < 64) {many M : Nat}
    (toM : SetTable.sizeAbove many - 1 = M) (okM : MaskOk M) (small : SetTable.sizeAbove many ≤ 128) (wide : L.length * 5 < M * 3) {Q : Unit → Shared → Prop}
    (done : ∀ h' L' es' ep' t', Heap.SameBut a s.heap h' → Laid I h' a L' es' ep' t' → L'.Perm L → Q () { s with heap := h' }) : wpAny (model P w) A (setRelay a many) Q E s := by
  have n0 : es.size = L.length := by rw [← Array.length_toList, cells, List.length_map]
  have line : sizeLine = 16777216 := by decide
  have fits : t.fits es.size = true := by
    unfold SetTable.fits SetTable.fill
    rw [dm, Bool.and_eq_true, beq_iff_eq, decide_eq_true_eq]
    refine ⟨sz, ?_⟩
    show t.place.size + 0 ≤ t.mask
    omega
  obtain ⟨t2, order, rel, prm, tab, mk, ld, pl, _⟩ := relaid_ok t (hs := es.map Prod.fst) (wanted := many) toM okM (by rw [Array.size_map, n0]; omega)
  rw [Array.size_map, n0] at prm
  have inb : ∀ i ∈ order.toList, i < L.length := fun i hi => List.mem_range.mp (prm.mem_iff.mp hi)
  have esAt : ∀ i, es[i]? = (L[i]?).map I.cell := fun i => by rw [← Array.getElem?_toList, cells, List.getElem?_map]
  have got := gather (xs := L) (q := I.cell) esAt inb
  generalize hL : order.toList.filterMap (fun i => L[i]?) = L2 at got
  have pL : L2.Perm L := by
    have z := prm.filterMap fun i => L[i]?
    rw [pick_all L] at z
    rw [← hL]
    exact z
  have es2 : (order.filterMap (es[·]?)).toList = L2.map I.cell := by
    rw [Array.toList_filterMap]
    exact got
  have n2 : (order.filterMap (es[·]?)).size = es.size := by rw [← Array.length_toList, es2, List.length_map, pL.length_eq, n0]
  have hs2 : I.hashes L2 = order.toList.map fun i => (es.map Prod.fst).getD i 0 := by
    rw [← hL]
    clear hL pL es2 n2 got prm rel tab
    revert inb
    generalize order.toList = is
    intro inb
    induction is with
    | nil => rfl
    | cons i is ih =>
      have hi := inb i (List.mem_cons_self ..)
      have e1 : L[i]? = some L[i] := List.getElem?_eq_getElem hi
      have e2 : (es.map Prod.fst).getD i 0 = I.knd.hash L[i].2 := by
        have z : (es.map Prod.fst)[i]? = some (I.knd.hash L[i].2) := by rw [Array.getElem?_map, esAt i, e1]; rfl
        rw [Array.getD_eq_getD_getElem?, z]
        rfl
      rw [List.filterMap_cons_some (f := fun i => L[i]?) e1, List.map_cons, ← ih fun j hj => inb j (List.mem_cons_of_mem _ hj), e2]
      rfl
  rw [← hs2] at tab
  rw [setRelay_eq]
  apply wpAny_bind
  refine wpAny_setState_of ho hd fits ?_
  dsimp only
  refine wp_if_neg (by rw [line]; omega) ?_
  try refine wpAny_bind (wpAny_pure ?_)
  rw [rel]
  dsimp only
  apply wpAny_bind
  refine wp_if_neg (by rw [n2]; simp) ?_
  try refine wpAny_bind (wpAny_pure ?_)
  refine wpAny_pure ?_
  dsimp only
  refine wpAny_storeSet_of ho hd ?_ (by rw [n2, n0, line]; omega)
  have sb : Heap.SameBut a s.heap (s.heap.update a (Obj.putSet (order.filterMap (es[·]?)) t2)) := Heap.SameBut.update ..
  refine done _ L2 (order.filterMap (es[·]?)) (ep + 1) t2 sb ⟨⟨_, store_at ho hd, ⟨ex.1, ex.2.1, ex.2.2⟩, rfl⟩, es2, tab, (pL.map Prod.snd).nodup_iff.mpr once, fun p hp => Member.past (I := I) (each p (pL.mem_iff.mp hp)) ho hd sb, ?_, ?_, ?_⟩ pL
  · rw [ld]
    exact free
  · rw [pL.length_eq, mk]
    exact wide
  · rw [pL.length_eq]
    exact few
/-- one more -/
theorem Laid.add (R : Laid I s.heap a L es ep t) {x : Addr} {k : κ} (hx : I.knd.is s.heap k x) (hu : A.units < cLine) (few : L.length + 1 < 64) {Q : Bool → Shared → Prop}
    (done : ∀ b h' L' es' ep' t', Heap.SameBut a s.heap h' → Laid I h' a L' es' ep' t' → (k ∈ L.map Prod.snd → L' = L) → (k ∉ L.map Prod.snd → L'.Perm ((x, k) :: L)) → Q b { s with heap := h' }) :
    wpAny (model P w) A (setAddHashed a (.ref x) (I.knd.hash k)) Q E s := by
  obtain ⟨o, ho, ex, hd⟩ := R.obj
  have n0 := R.count
  have wd := R.wide
  have line : sizeLine = 16777216 := by decide
  unfold setAddHashed
  refine wpAny_holding ?_
  rw [show (100000 : Nat) = 99999 + 1 from rfl, setAddHashedIn_succ]
  apply wpAny_bind
  refine wpAny_setState_of ho hd R.holds ?_
  dsimp only
  refine wp_if_neg (by simp [byScan, Value.scannable]) ?_
  try refine wpAny_bind (wpAny_pure ?_)
  refine wpAny_bind (R.search hx hu (fun isIn => ?_) fun K notIn gap run => ?_)
  · dsimp only
    exact wpAny_pure (done false _ L es ep t (Heap.SameBut.refl a s.heap) R (fun _ => rfl) fun no => absurd isIn no)
  dsimp only
  refine wpAny_bind (wpAny_setState_of ho hd R.holds ?_)
  dsimp only
  obtain ⟨p2, _, tab2, mk2, ld2, _, _, _, fl2⟩ := R.tab.put gap run
  revert p2 tab2 mk2 ld2 fl2
  generalize t.put (way t.mask (I.knd.hash k) K) = both
  obtain ⟨t2, n⟩ := both
  dsimp only
  rintro rfl tab2 mk2 ld2 fl2
  refine Member.asked (I := I) (t := t2) hx fun c => ?_
  have same : TabOk (if c = true then t2 else { t2 with plain := false }) ((I.hashes L).take (SetTable.below t.place (way t.mask (I.knd.hash k) K)) ++ I.knd.hash k :: (I.hashes L).drop (SetTable.below t.place (way t.mask (I.knd.hash k) K))) ∧
      (if c = true then t2 else { t2 with plain := false }).mask = t.mask ∧ (if c = true then t2 else { t2 with plain := false }).led = t.led ∧ (if c = true then t2 else { t2 with plain := false }).fill = (I.hashes L).length + 1 := by
    cases c with
    | true => exact ⟨tab2, mk2, ld2, fl2⟩
    | false => exact ⟨⟨tab2.ris, tab2.dm, tab2.sz, tab2.mok, tab2.bd, tab2.reach⟩, mk2, ld2, fl2⟩
  clear tab2 mk2 ld2 fl2
  revert same
  generalize (if c = true then t2 else { t2 with plain := false }) = t2
  rintro ⟨tab2, mk2, ld2, fl2⟩
  have cells2 : (SetTable.insertAt es (SetTable.below t.place (way t.mask (I.knd.hash k) K)) (I.knd.hash k, Value.ref x)).toList = (L.take (SetTable.below t.place (way t.mask (I.knd.hash k) K)) ++ (x, k) :: L.drop (SetTable.below t.place (way t.mask (I.knd.hash k) K))).map I.cell := by
    rw [SetTable.toList_insertAt, R.cells, List.map_append, List.map_cons, List.map_take, List.map_drop]
  revert tab2 cells2
  generalize SetTable.below t.place (way t.mask (I.knd.hash k) K) = n
  intro tab2 cells2
  have prm := cut_perm L n (x, k)
  have tab3 : TabOk t2 (I.hashes (L.take n ++ (x, k) :: L.drop n)) := by
    show TabOk t2 ((L.take n ++ (x, k) :: L.drop n).map fun p => I.knd.hash p.2)
    rw [List.map_append, List.map_cons, List.map_take, List.map_drop]
    exact tab2
  revert cells2 tab3 prm
  generalize L.take n ++ (x, k) :: L.drop n = L2
  generalize SetTable.insertAt es n (I.knd.hash k, Value.ref x) = es2
  intro cells2 prm tab3
  have nL : L2.length = L.length + 1 := prm.length_eq
  have n2 : es2.size = L.length + 1 := by rw [← Array.length_toList, cells2, List.length_map, nL]
  have once2 : (L2.map Prod.snd).Nodup := (prm.map Prod.snd).nodup_iff.mpr (by rw [List.map_cons]; exact List.nodup_cons.mpr ⟨notIn, R.once⟩)
  refine wpAny_bind (wpAny_storeSet_of ho hd ?_ (by rw [n2, line]; omega))
  have sb : Heap.SameBut a s.heap (s.heap.update a (Obj.putSet es2 t2)) := Heap.SameBut.update ..
  have ho2 := store_at (es' := es2) (t' := t2) ho hd
  revert sb ho2
  generalize s.heap.update a (Obj.putSet es2 t2) = h2
  intro sb ho2
  have each2 : ∀ p ∈ L2, I.knd.is h2 p.2 p.1 := fun p hp => by
    rcases List.mem_cons.mp (prm.mem_iff.mp hp) with rfl | hp
    · exact Member.past (I := I) hx ho hd sb
    · exact Member.past (I := I) (R.each p hp) ho hd sb
  have free2 : w.params.followText "set-order" = true ∨ t2.led = true := by rw [ld2]; exact R.free
  by_cases full : t2.tooFull = true
  · first
      | (refine wpAny_bind ?_; refine wp_if_pos (by simp [full]) ?_)
      | (refine wp_if_pos (by simp [full]) ?_; refine wpAny_bind ?_)
    have much : (L.length + 1) * 5 ≥ t2.mask * 3 := by
      unfold SetTable.tooFull at full
      rw [decide_eq_true_eq, fl2, List.length_map] at full
      exact full
    rw [mk2] at much
    rw [n0]
    have sz2 : t2.place.size = es2.size := by rw [tab3.sz, List.length_map, nL, n2]
    have grow : ∀ M, SetTable.sizeAbove (SetTable.grown (L.length + 1)) - 1 = M → MaskOk M → SetTable.sizeAbove (SetTable.grown (L.length + 1)) ≤ 128 → (L.length + 1) * 5 < M * 3 → L.length + 1 ≤ t2.mask →
        wpAny (model P w) A (setRelay a (SetTable.grown (L.length + 1))) (fun _ s' => wpAny (model P w) A (pure true) Q E s') E { s with heap := h2 } := fun M q1 q2 q3 q4 q5 =>
      Laid.anew (I := I) (s := { s with heap := h2 }) ho2 ⟨ex.1, ex.2.1, ex.2.2⟩ rfl cells2 sz2 tab3.dm (by rw [n2]; exact q5) once2 each2 free2 (by rw [nL]; exact few) q1 q2 q3 (by rw [nL]; exact q4) fun h3 L3 es3 ep3 t3 sb3 R3 prm3 =>
        wpAny_pure (done true h3 L3 es3 ep3 t3 (sb.trans sb3) R3 (fun yes => absurd yes notIn) fun _ => prm3.trans prm)
    rcases R.tab.mok with e | e | e
    · have e4 : L.length = 4 := by omega
      exact grow 31 (by rw [e4, size_20]) (.inr (.inl rfl)) (by rw [e4, size_20]; decide) (by omega) (by omega)
    · have e18 : L.length = 18 := by omega
      exact grow 127 (by rw [e18, size_76]) (.inr (.inr rfl)) (by rw [e18, size_76]; decide) (by omega) (by omega)
    · omega
  · first
      | refine wp_if_neg (by simp [full]) ?_
      | (refine wpAny_bind ?_; refine wp_if_neg (by simp [full]) ?_; refine wpAny_pure ?_)
    refine wpAny_pure (done true h2 L2 es2 (ep + 1) t2 sb ⟨⟨_, ho2, ⟨ex.1, ex.2.1, ex.2.2⟩, rfl⟩, cells2, tab3, once2, each2, free2, ?_, by rw [nL]; exact few⟩ (fun yes => absurd yes notIn) fun _ => prm)
    unfold SetTable.tooFull at full
    rw [decide_eq_true_eq, fl2, List.length_map] at full
    rw [nL]
    omega
end
end L2.My
/-! set(t), t a tuple of members -/
namespace L2.My
open PySem PySem.Spec PyProof.Rows L2
section
variable {P : Program} {w : World} {κ : Type} [DecidableEq κ] {I : Member P w κ} {A : Around} {E : Value → Shared → Prop} {s : Shared}
theorem Laid.later {h h' : Heap} {a : Addr} {L : List (Addr × κ)} {es : Array (Int × Value)} {ep : Nat} {t : SetTable} (R : Laid I h a L es ep t) (ka : ∀ o, h.get? a = some o → h'.get? a = some o) (kL : ∀ p ∈ L, I.knd.is h' p.2 p.1) : Laid I h' a L es ep t := by
  obtain ⟨o, ho, r⟩ := R.obj
  exact ⟨⟨o, ka o ho, r⟩, R.cells, R.tab, R.once, kL, R.free, R.wide, R.few⟩
abbrev bareSet (led : Bool) : Obj := { cls := .type "set", dict := none, data := .set #[] 0 (.fresh 0 0 led) }
theorem Laid.bare {h : Heap} {a : Addr} (e : h.get? a = some (bareSet (!w.params.followText "set-order"))) : Laid I h a [] #[] 0 (.fresh 0 0 (!w.params.followText "set-order")) := by
  refine ⟨⟨_, e, ⟨rfl, rfl, rfl⟩, rfl⟩, rfl, ⟨List.Pairwise.nil, rfl, rfl, .inl rfl, fun x hx => (by cases hx), fun i h j hi => (by cases hi)⟩, List.nodup_nil, fun p hp => (by cases hp), ?_, by show 0 * 5 < 7 * 3; decide, by show 0 < 64; decide⟩
  show _ ∨ (!w.params.followText "set-order") = true
  cases w.params.followText "set-order" with
  | true => exact .inl rfl
  | false => exact .inr rfl
/-- L has what the first i members have -/
structure Upto (ks : List (Addr × κ)) (i : Nat) (L : List (Addr × κ)) : Prop where
  into : ∀ p ∈ L, p ∈ ks.take i
  cover : ∀ p ∈ ks.take i, p.2 ∈ L.map Prod.snd
  short : L.length ≤ i
theorem take_one {α : Type} {l : List α} {i : Nat} {x : α} (e : l[i]? = some x) : l.take (i + 1) = l.take i ++ [x] := by
  rw [List.take_succ, e]
  rfl
theorem Upto.next {ks L L' : List (Addr × κ)} {i : Nat} {x : Addr × κ} (u : Upto ks i L) (e : ks[i]? = some x) (c1 : x.2 ∈ L.map Prod.snd → L' = L) (c2 : x.2 ∉ L.map Prod.snd → L'.Perm (x :: L)) : Upto ks (i + 1) L' := by
  have tk := take_one e
  by_cases m : x.2 ∈ L.map Prod.snd
  · rw [c1 m]
    refine ⟨fun p hp => ?_, fun p hp => ?_, Nat.le_succ_of_le u.short⟩ <;> rw [tk] at *
    · exact List.mem_append_left _ (u.into p hp)
    · rcases List.mem_append.mp hp with hp | hp
      · exact u.cover p hp
      · rw [List.mem_singleton.mp hp]
        exact m
  · have pm := c2 m
    refine ⟨fun p hp => ?_, fun p hp => ?_, by rw [pm.length_eq]; exact Nat.succ_le_succ u.short⟩
    · rw [tk]
      rcases List.mem_cons.mp (pm.mem_iff.mp hp) with rfl | hp
      · exact List.mem_append_right _ (List.mem_singleton.mpr rfl)
      · exact List.mem_append_left _ (u.into p hp)
    · rw [(pm.map Prod.snd).mem_iff, List.map_cons]
      rw [tk] at hp
      rcases List.mem_append.mp hp with hp | hp
      · exact List.mem_cons_of_mem _ (u.cover p hp)
      · rw [List.mem_singleton.mp hp]
        exact List.mem_cons_self ..
theorem fillSet {J : Addr} {fp wr : List Addr} {G : Array GenState → Array GenState → Prop} {n : Nat} {Pv : Nat → Value → Prop} {St : Nat → Shared → Prop} {R : Result → Shared → Prop}
    (W : WalksS P w A.in1 J fp wr G n Pv St) (a : Addr) (off : a ∉ fp) (ks : List (Addr × κ)) (len : n = ks.length) (few : ks.length < 64) (turn : ∀ i v, Pv i v → ∃ p, ks[i]? = some p ∧ v = .ref p.1)
    (base : Heap) (members : ∀ p ∈ ks, I.knd.is base p.2 p.1) (a0 : base.get? a = none) (w0 : ∀ b ∈ wr, base.get? b = none) (hu : A.in1.units < cLine) :
    ∀ (k i : Nat) (s : Shared), i + k = n → St i s → (∀ b o, base.get? b = some o → s.heap.get? b = some o) → (∃ L es ep t, Laid I s.heap a L es ep t ∧ Upto ks i L) →
      (∀ s' L es ep t, Moved (a :: wr) G s s' → Laid I s'.heap a L es ep t → Upto ks n L → (∀ b o, base.get? b = some o → s'.heap.get? b = some o) → R (.ok (.ret .none)) s') →
      codeAny (model P w) A (.builtin "set.update.loop" ⟨[.ref a, .ref J], []⟩) R s := by
  have aw : a ∉ wr := fun h => off (W.sub _ h)
  have kept : ∀ {s s' : Shared}, Moved wr G s s' → (∀ b o, base.get? b = some o → s.heap.get? b = some o) → ∀ b o, base.get? b = some o → s'.heap.get? b = some o := fun mv kp b o e =>
    mv.heap b o (fun hb => by rw [w0 b hb] at e; cases e) (kp b o e)
  have lives : ∀ {h : Heap}, (∀ b o, base.get? b = some o → h.get? b = some o) → ∀ p ∈ ks, I.knd.is h p.2 p.1 := fun kp p hp => I.stays (members p hp) fun o e => kp _ o e
  have wide : ∀ {s s' : Shared}, Moved wr G s s' → Moved (a :: wr) G s s' := fun mv => mv.mono fun b hb => List.mem_cons_of_mem _ hb
  intro k
  induction k with
  | zero =>
    rintro i s ik st kp ⟨L, es, ep, t, lay, up⟩ done
    obtain rfl : i = n := by omega
    refine codeAny_builtin F.entry_set_update_loop ?_
    rw [Around.under_plainId F.plain_set_update_loop _]
    show wpAny _ A.in1 (pyNext (.ref J) >>= _) _ _ s
    refine wpAny_bind (W.done s _ _ st fun s2 mv => ?_)
    show wpAny _ A.in1 (ret Value.none) _ _ s2
    have kp2 := kept mv kp
    exact wpAny_pure (done s2 L es ep t (wide mv) (lay.later (fun o e => mv.heap a o aw e) fun p hp => lives kp2 p (List.mem_of_mem_take (up.into p hp))) up kp2)
  | succ k again =>
    rintro i s ik st kp ⟨L, es, ep, t, lay, up⟩ done
    have lt : i < n := by omega
    refine codeAny_builtin F.entry_set_update_loop ?_
    rw [Around.under_plainId F.plain_set_update_loop _]
    show wpAny _ A.in1 (pyNext (.ref J) >>= _) _ _ s
    refine wpAny_bind (W.item i s _ _ lt st fun v s2 pv st2 mv => ?_)
    obtain ⟨x, hx, rfl⟩ := turn i v pv
    have kp2 := kept mv kp
    have lay2 : Laid I s2.heap a L es ep t := lay.later (fun o e => mv.heap a o aw e) fun p hp => lives kp2 p (List.mem_of_mem_take (up.into p hp))
    have is_x := lives kp2 x (List.mem_of_getElem? hx)
    show wpAny _ A.in1 (holding [Value.ref x.1] (setAdd a (.ref x.1)) >>= _) _ _ s2
    apply wpAny_bind
    apply wpAny_holding
    unfold setAdd
    apply wpAny_holding
    apply wpAny_bind
    refine I.knd.pyHash (I.roomy _ hu) is_x ?_
    refine Laid.add (s := { s2 with toks := s2.toks + I.knd.draws x.2 }) lay2 is_x hu (by have := up.short; omega) fun b h3 L3 es3 ep3 t3 sb lay3 c1 c2 => ?_
    have up3 := up.next hx c1 c2
    have kp3 : ∀ b o, base.get? b = some o → h3.get? b = some o := fun b o e => by
      rw [sb.2 b (fun z => by rw [z, a0] at e; cases e)]
      exact kp2 b o e
    refine wpAny_pure ⟨plainId_quiet F.plain_set_update_loop _, again (i + 1) _ (by omega) (W.frame _ s2 _ _ st2 (Nat.le_add_right _ _) fun b hb o e => ?_) kp3 ⟨L3, es3, ep3, t3, lay3, up3⟩ fun s4 L4 es4 ep4 t4 mv4 lay4 up4 kp4 => ?_⟩
    · rw [sb.2 b (fun z => off (z ▸ hb))]
      exact e
    · refine done s4 L4 es4 ep4 t4 (Moved.trans W.gtrans ((wide mv).then_heap (Nat.le_add_right _ _) fun b o hb e => ?_) mv4) lay4 up4 kp4
      rw [sb.2 b (fun z => hb (by rw [z]; exact List.mem_cons_self ..))]
      exact e
set_option maxHeartbeats 8000000 in
/-- set(t) -/
theorem setOfTuple {l : Addr} {items : Array Value} (ks : List (Addr × κ)) {Q : Value → Shared → Prop} (hh : A.handled = none) (hl : s.heap.IsTuple l items) (hit : items.toList = ks.map fun p => Value.ref p.1) (members : ∀ p ∈ ks, I.knd.is s.heap p.2 p.1)
    (few : ks.length < 64) (hu : A.units + 3 < cLine) (done : ∀ (h' : Heap) (tk : Nat) L es ep t, Laid I h' s.heap.objs.size L es ep t → Upto ks ks.length L → (∀ b o, s.heap.get? b = some o → h'.get? b = some o) → Q (.ref s.heap.objs.size) { s with heap := h', toks := tk }) :
    wpAny (model P w) A (call (.type "set") [.ref l]) Q E s := by
  have size : items.size = ks.length := by rw [← Array.length_toList, hit, List.length_map]
  obtain ⟨_, _, hmro⟩ := F.called_set.mro
  have z1 := F.called_set.made
  have z2 := F.called_set.sub
  refine wpAny_call (codeAny_of_tree ?_)
  show wpAny _ _ (callAny (.type "set") _) _ _ _
  refine wpAny_pure ⟨Code.quiet_builtin _ (by decide +kernel), codeAny_builtin F.entry_type_call ?_⟩
  rw [Around.under_plain (weight_type_call_type "set" [.ref l] []) rfl]
  have z3 := F.called_set.notType
  have z4 := F.called_set.canCreate
  have z5 := F.typeCall_set_1 (.ref l)
  repeat (any_goals (first | assumption | wp_step))
  refine codeAny_mono (code_set_led1 (.ref l) (E := E) (Q₁ := fun v s1 => v = .ref s.heap.objs.size ∧ s1 = { s with heap := s.heap.push (bareSet (!w.params.followText "set-order")) }) ⟨rfl, rfl⟩) fun r s1 hr => ?_
  cases r with
  | error e => exact hr
  | ok fl =>
  cases fl with
  | ret v =>
    obtain ⟨rfl, rfl⟩ := hr
    have newAt : (s.heap.push (bareSet (!w.params.followText "set-order"))).get? s.heap.objs.size = some (bareSet (!w.params.followText "set-order")) := Heap.get?_push_size _ rfl
    have ty : Shared.TypeIs { s with heap := s.heap.push (bareSet (!w.params.followText "set-order")) } (.ref s.heap.objs.size) "set" := ⟨_, newAt, rfl⟩
    have z6 := F.called_set.init.lookup
    have z7 := F.called_set.init.bind (.ref s.heap.objs.size)
    repeat (any_goals (first | assumption | wp_step))
    refine codeAny_mono (codeAny_call_builtin (R := wants (fun r s2 => r = .none ∧ ∃ h' tk L es ep t, s2 = { s with heap := h', toks := tk } ∧ Laid I h' s.heap.objs.size L es ep t ∧ Upto ks ks.length L ∧ ∀ b o, s.heap.get? b = some o → h'.get? b = some o) E)
      F.called_set.init.plain F.entry_set_init (check_set_init_1 ty ?_)) fun r2 s2 hr2 => ?_
    · obtain ⟨⟨c1, d1, dt, sl⟩, hol, hc, m, hd⟩ := hl
      dsimp only at hc hd
      subst hc hd
      have hol2 : (s.heap.push (bareSet (!w.params.followText "set-order"))).get? l = some { cls := .type "tuple", dict := d1, data := .seq items m, slots := sl } := Heap.get?_push_of_some _ hol
      have y1 := F.sub_tuple_set
      have y2 := F.sub_tuple_frozenset
      have y3 : (Value.type "tuple" == Value.type "dict") = false := by decide
      have src : (s.heap.push (bareSet (!w.params.followText "set-order"))).IsTuple l items := ⟨_, hol2, rfl, m, rfl⟩
      unfold Builtin.«set.__init__» noKeywords Builtin.Frozenset.updateFrom
      generalize hIter : pyIter = it
      wp_walk
      subst hIter
      refine wpAny_pyIter_tuple src ?_
      refine wpAny_bind (wpAny_runValue ?_)
      have lS : l < s.heap.objs.size := Heap.lt_size hol
      have len1 : (s.heap.push (bareSet (!w.params.followText "set-order"))).objs.size = s.heap.objs.size + 1 := Heap.size_push ..
      have lJ : l ≠ (s.heap.push (bareSet (!w.params.followText "set-order"))).objs.size := by rw [len1]; exact Nat.ne_of_lt (Nat.lt_succ_of_lt lS)
      have calm : A.in1.in1.in1.handled = none := by simp [hh]
      have absent : ∀ b, s.heap.objs.size ≤ b → s.heap.get? b = none := fun b hb => by
        cases q : s.heap.get? b with
        | none => rfl
        | some o => exact absurd (Heap.lt_size q) (Nat.not_lt_of_le hb)
      refine fillSet (I := I) ((Walks.tuple calm _ l lJ items).toS) s.heap.objs.size (by rw [len1]; simp only [List.mem_cons, List.not_mem_nil, or_false, not_or]; exact ⟨Nat.ne_of_lt (Nat.lt_succ_self _), Nat.ne_of_gt lS⟩) ks size few (fun i v hv => ?turn) s.heap members (absent _ (Nat.le_refl _))
        (fun b hb => absent b (by rw [List.mem_singleton.mp hb, len1]; exact Nat.le_succ _)) hu items.size 0 _ (Nat.zero_add _) ⟨⟨_, Heap.get?_push_size _ rfl, rfl, rfl⟩, (src.push _)⟩ (fun b o e => Heap.get?_push_of_some _ (Heap.get?_push_of_some _ e)) ?first ?last
      case turn =>
        have q : items.toList[i]? = some v := by rw [Array.getElem?_toList]; exact hv
        rw [hit, List.getElem?_map] at q
        cases hk : ks[i]? with
        | none =>
          rw [hk] at q
          cases q
        | some p =>
          rw [hk] at q
          exact ⟨p, rfl, (Option.some.inj q).symm⟩
      case first => exact ⟨[], #[], 0, _, Laid.bare (Heap.get?_push_of_some _ newAt), ⟨fun p hp => (by cases hp), fun p hp => (by simp at hp), Nat.le_refl _⟩⟩
      case last =>
        rintro ⟨h3, g3, d3, tk3, o3⟩ L es ep t mv lay up kp
        obtain rfl : g3 = s.gens := mv.gens
        obtain rfl : d3 = s.drawn := mv.drawn
        obtain rfl : o3 = s.os := mv.os
        show wpAny _ _ _ _ _ _
        refine wpAny_pure ?_
        show wpAny _ _ (ret Value.none) _ _ _
        rw [size] at up
        exact wpAny_pure ⟨rfl, h3, tk3, L, es, ep, t, rfl, lay, up, kp⟩
    · cases r2 with
      | error e => exact hr2
      | ok fl2 =>
      cases fl2 with
      | ret r =>
        obtain ⟨rfl, h3, tk3, L, es, ep, t, rfl, lay, up, kp⟩ := hr2
        repeat (any_goals (first | assumption | wp_step))
        exact done _ _ _ _ _ _ lay up kp
      | _ => exact hr2.elim
  | _ => exact hr.elim
end
end L2.My
/-! sets of texts: their rows as the table has them; one more; set(list of texts) -/
namespace L2.My
open PySem PySem.Spec PyProof.Rows L2
/-- the text of a row -/
def rowTx (e : Int × Value) : Str := match e.2 with
  | .str x _ => x
  | _ => Str.empty
abbrev IsRow (P : Program) (w : World) (e : Int × Value) : Prop := ∃ (x : Str) (u : Tok), e.2 = Value.str x u ∧ e.1 = (strKind P w).hash x
/-- what stands at a, as its table has it -/
structure TxSet (P : Program) (w : World) (h : Heap) (a : Addr) (L : List Str) : Prop where
  at_ : ∃ o es ep t, h.get? a = some o ∧ o.ExactSet ∧ o.data = .set es ep t ∧ (∀ e ∈ es.toList, IsRow P w e) ∧ es.toList.map rowTx = L ∧ t.fits es.size = true ∧ Ris t.place.toList ∧ (w.params.followText "set-order" = true ∨ t.led = true)
  once : L.Nodup
  room : L.length < scanBound
section
variable {P : Program} {w : World} {A : Around} {E : Value → Shared → Prop} {s : Shared} {a : Addr} {L : List Str}
theorem TxSet.later {h h' : Heap} (R : TxSet P w h a L) (k : ∀ o, h.get? a = some o → h'.get? a = some o) : TxSet P w h' a L := by
  obtain ⟨⟨o, es, ep, t, ho, r⟩, n, z⟩ := R
  exact ⟨⟨o, es, ep, t, k o ho, r⟩, n, z⟩
theorem rows_elems {l : List (Int × Value)} (g : ∀ e ∈ l, IsRow P w e) : ElemsOf (strKind P w) l := fun e he => by
  obtain ⟨x, u, h1, h2⟩ := g e he
  refine ⟨⟨x, ?_, h2⟩, ?_⟩
  · rw [h1]
    exact strKind_is P w x u
  · rw [h1]
    rfl
theorem row_is {e : Int × Value} (g : IsRow P w e) (k : Str) : (strKind P w).is k e.2 = true ↔ rowTx e = k := by
  obtain ⟨x, u, h1, _⟩ := g
  unfold rowTx
  rw [h1]
  constructor
  · intro q
    obtain ⟨u2, e2⟩ : ∃ u2, Value.str x u = Value.str k u2 := Value.isStrOf_shape q
    injection e2
  · intro q
    dsimp only at q
    subst q
    exact strKind_is P w x u
theorem row_mem {l : List (Int × Value)} (g : ∀ e ∈ l, IsRow P w e) (k : Str) : k ∈ l.map rowTx ↔ ∃ e ∈ l, (strKind P w).is k e.2 = true := by
  rw [List.mem_map]
  constructor
  · rintro ⟨e, he, q⟩
    exact ⟨e, he, (row_is (g e he) k).mpr q⟩
  · rintro ⟨e, he, q⟩
    exact ⟨e, he, (row_is (g e he) k).mp q⟩
theorem tx_tail {g : Bool → Sem Unit} (quiet : ∀ (b : Bool) (s1 : Shared) (Q1 : Unit → Shared → Prop), Q1 () s1 → wpAny (model P w) A (g b) Q1 E s1) {o : Obj} {es rows : Array (Int × Value)} {ep : Nat} {t tab : SetTable}
    (ho : s.heap.get? a = some o) (ex : o.ExactSet) (hd : o.data = .set es ep t) (are : ∀ e ∈ rows.toList, IsRow P w e) (once : (rows.toList.map rowTx).Nodup) (room : rows.size < scanBound) (fit : tab.fits rows.size = true) (ris : Ris tab.place.toList)
    (free : w.params.followText "set-order" = true ∨ tab.led = true) {gone : Bool} {R : Option Bool → Shared → Prop}
    (done : ∀ h' L', Heap.SameBut a s.heap h' → TxSet P w h' a L' → L'.Perm (rows.toList.map rowTx) → R (some true) { s with heap := h' }) :
    wpAny (model P w) A (do
        storeSet a rows tab
        if (!gone && tab.tooFull) = true then do
            g (relayAll tab rows (SetTable.grown rows.size)).2.2
            storeSet a (relayAll tab rows (SetTable.grown rows.size)).1 (relayAll tab rows (SetTable.grown rows.size)).2.1
            pure (some true)
          else pure (some true)) R E s := by
  refine wpAny_bind (wpAny_storeSet_of ho hd ?_ (fits_of_scanBound room))
  have at1 := store_at (es' := rows) (t' := tab) ho hd
  have sb := Heap.SameBut.update s.heap a (Obj.putSet rows tab)
  split
  · have prm := relayAll_perm tab rows (SetTable.grown rows.size)
    have fit2 := relayAll_fits tab rows (SetTable.grown rows.size)
    have ris2 := relayAll_ris tab rows (SetTable.grown rows.size)
    have led2 := relayAll_led tab rows (SetTable.grown rows.size)
    revert prm fit2 ris2 led2
    generalize relayAll tab rows (SetTable.grown rows.size) = all
    obtain ⟨rows2, tab2, gave⟩ := all
    dsimp only
    intro prm fit2 ris2 led2
    have many : rows2.size = rows.size := by rw [← Array.length_toList, prm.length_eq, Array.length_toList]
    have room2 : rows2.size < scanBound := many ▸ room
    refine wpAny_bind (quiet _ _ _ ?_)
    refine wpAny_bind (wpAny_storeSet_of at1 rfl ?_ (fits_of_scanBound room2))
    have at2 := store_at (es' := rows2) (t' := tab2) at1 rfl
    have pm := prm.map rowTx
    refine wpAny_pure (done _ _ (sb.trans (Heap.SameBut.update _ a _)) ⟨⟨_, rows2, _, tab2, at2, ex, rfl, fun e he => are e (prm.mem_iff.mp he), rfl, fit2, ris2, ?_⟩, pm.nodup_iff.mpr once, ?_⟩ pm)
    · rcases free with z | z
      · exact .inl z
      · exact .inr (led2.trans z)
    · rw [List.length_map, Array.length_toList]
      exact room2
  · refine wpAny_pure (done _ _ sb ⟨⟨_, rows, _, tab, at1, ex, rfl, are, rfl, fit, ris, free⟩, once, ?_⟩ (List.Perm.refl _))
    rw [List.length_map, Array.length_toList]
    exact room
/-- one more text -/
theorem TxSet.add {k : Str} {u : Tok} {Q : Bool → Shared → Prop} (R : TxSet P w s.heap a L) (room : L.length + 1 < scanBound)
    (done : ∀ b h' L', Heap.SameBut a s.heap h' → TxSet P w h' a L' → (k ∈ L → L' = L) → (k ∉ L → L'.Perm (k :: L)) → Q b { s with heap := h' }) :
    wpAny (model P w) A (setAddHashed a (.str k u) ((strKind P w).hash k)) Q E s := by
  obtain ⟨⟨o, es, ep, t, ho, ex, hd, are, eL, fit, ris, free⟩, once, small⟩ := R
  subst eL
  rw [List.length_map, Array.length_toList] at small room
  have is_k : (strKind P w).is k (.str k u) = true := strKind_is P w k u
  have sc : (Value.str k u).scannable = true := rfl
  have el : ElemsOf (strKind P w) es.toList := rows_elems are
  unfold setAddHashed setAddHashedIn
  refine wpAny_holding (wpAny_bind (wpAny_setState_of ho hd fit ?_))
  dsimp only
  rw [byScan_of sc small el]
  simp only [↓reduceIte]
  unfold setAddByScan
  apply wpAny_bind
  refine wpAny_bind (wpAny_rule ?_)
  refine wpAny_bind (wpAny_setScan_of is_k ho hd fit el ?_)
  cases found : List.findIdx? (fun e => (strKind P w).is k e.2) es.toList with
  | some j =>
    dsimp only
    obtain ⟨jl, jk, _⟩ := List.findIdx?_eq_some_iff_getElem.mp found
    have inL : k ∈ es.toList.map rowTx := (row_mem are k).mpr ⟨_, List.getElem_mem jl, jk⟩
    refine wpAny_pure (wpAny_pure (done _ s.heap _ (Heap.SameBut.refl a s.heap) ⟨⟨o, es, ep, t, ho, ex, hd, are, rfl, fit, ris, free⟩, once, ?_⟩ (fun _ => rfl) fun no => absurd inL no))
    rw [List.length_map, Array.length_toList]
    exact small
  | none =>
    dsimp only
    have notIn : k ∉ es.toList.map rowTx := fun z => by
      obtain ⟨e, he, q⟩ := (row_mem are k).mp z
      have c := List.findIdx?_eq_none_iff.mp found e he
      rw [q] at c
      cases c
    have gw : ∀ (b : Bool) {s1 : Shared} {Q1 : Unit → Shared → Prop}, Q1 () s1 → wpAny (model P w) A (match b with | true => rule "set.scan.the-table-gave-way" | false => pure ()) Q1 E s1 := fun b s1 Q1 q => by
      cases b
      · exact wpAny_pure q
      · exact wpAny_rule q
    have prm := layNew_perm t es ((strKind P w).hash k) (.str k u)
    have fit1 := layNew_fits t es ((strKind P w).hash k) (.str k u)
    have ris1 := layNew_ris t es ((strKind P w).hash k) (.str k u) ris
    have led1 := layNew_led t es ((strKind P w).hash k) (.str k u)
    revert prm fit1 ris1 led1
    generalize layNew t es ((strKind P w).hash k) (.str k u) = lay
    obtain ⟨rows, tab, gone, gave⟩ := lay
    dsimp only
    intro prm fit1 ris1 led1
    rw [Array.toList_push] at prm
    have prm2 : rows.toList.Perm (((strKind P w).hash k, Value.str k u) :: es.toList) := prm.trans (List.perm_append_singleton _ _)
    have prm3 : (rows.toList.map rowTx).Perm (k :: es.toList.map rowTx) := prm2.map rowTx
    have are1 : ∀ e ∈ rows.toList, IsRow P w e := fun e he => by
      rcases List.mem_cons.mp (prm2.mem_iff.mp he) with z | z
      · rw [z]
        exact ⟨k, u, rfl, rfl⟩
      · exact are e z
    have once1 : (rows.toList.map rowTx).Nodup := prm3.nodup_iff.mpr (List.nodup_cons.mpr ⟨notIn, once⟩)
    have many : rows.size = es.size + 1 := by rw [← Array.length_toList, prm2.length_eq, List.length_cons, Array.length_toList]
    have room1 : rows.size < scanBound := many ▸ room
    have free1 : w.params.followText "set-order" = true ∨ tab.led = true := by
      rcases free with z | z
      · exact .inl z
      · exact .inr (led1.trans z)
    have fin : ∀ h' L', Heap.SameBut a s.heap h' → TxSet P w h' a L' → L'.Perm (rows.toList.map rowTx) → ∀ b, Q b { s with heap := h' } := fun h' L' sb R' p b => done b h' L' sb R' (fun yes => absurd yes notIn) fun _ => p.trans prm3
    refine wpAny_bind (gw _ ?_)
    split
    · apply wpAny_bind
      rw [hashByValue_scannable 8 sc]
      refine wpAny_pure ?_
      refine tx_tail ?_ ho ex hd are1 once1 room1 ?_ ?_ ?_ ?_
      · intro b s1 Q1 q
        cases b
        · exact wpAny_pure q
        · exact wpAny_rule q
      · first
          | exact fit1
          | (split; exact fit1; exact SetTable.fits_plain_off fit1)
          | (split; exact SetTable.fits_plain_off fit1; exact fit1)
      · first
          | exact ris1
          | (split <;> exact ris1)
      · first
          | exact free1
          | (split <;> exact free1)
      · intro h' L' sb R' p
        exact wpAny_pure (fin h' L' sb R' p _)
    · refine wpAny_bind (wpAny_pure ?_)
      simp only [↓reduceIte]
      refine tx_tail ?_ ho ex hd are1 once1 room1 fit1 ris1 free1 ?_
      · intro b s1 Q1 q
        cases b
        · exact wpAny_pure q
        · exact wpAny_rule q
      · intro h' L' sb R' p
        exact wpAny_pure (fin h' L' sb R' p _)
theorem TxSet.bare {h : Heap} (e : h.get? a = some (bareSet (!w.params.followText "set-order"))) : TxSet P w h a [] := by
  refine ⟨⟨_, #[], 0, _, e, ⟨rfl, rfl, rfl⟩, rfl, fun e he => (by cases he), rfl, rfl, List.Pairwise.nil, ?_⟩, List.nodup_nil, by decide⟩
  show _ ∨ (!w.params.followText "set-order") = true
  cases w.params.followText "set-order"
  · exact .inr rfl
  · exact .inl rfl
/-- L has what the first i texts have -/
structure UptoS (ks : List Str) (i : Nat) (L : List Str) : Prop where
  same : ∀ x, x ∈ L ↔ x ∈ ks.take i
  short : L.length ≤ i
theorem UptoS.next {ks M M' : List Str} {i : Nat} {x : Str} (u : UptoS ks i M) (e : ks[i]? = some x) (c1 : x ∈ M → M' = M) (c2 : x ∉ M → M'.Perm (x :: M)) : UptoS ks (i + 1) M' := by
  have tk := take_one e
  by_cases m : x ∈ M
  · rw [c1 m]
    refine ⟨fun y => ?_, Nat.le_succ_of_le u.short⟩
    rw [tk, List.mem_append, List.mem_singleton, u.same]
    constructor
    · exact .inl
    · rintro (z | z)
      · exact z
      · rw [z]
        exact (u.same x).mp m
  · have pm := c2 m
    refine ⟨fun y => ?_, by rw [pm.length_eq]; exact Nat.succ_le_succ u.short⟩
    rw [tk, List.mem_append, List.mem_singleton, pm.mem_iff, List.mem_cons, u.same, Or.comm]
theorem fillTx {J : Addr} {fp wr : List Addr} {G : Array GenState → Array GenState → Prop} {n : Nat} {Pv : Nat → Value → Prop} {St : Nat → Shared → Prop} {R : Result → Shared → Prop}
    (W : WalksS P w A.in1 J fp wr G n Pv St) (a : Addr) (off : a ∉ fp) (ks : List Str) (len : n = ks.length) (few : ks.length + 1 < scanBound) (turn : ∀ i v, Pv i v → ∃ x u, ks[i]? = some x ∧ v = .str x u) :
    ∀ (k i : Nat) (s : Shared), i + k = n → St i s → (∃ M, TxSet P w s.heap a M ∧ UptoS ks i M) →
      (∀ s' M, Moved (a :: wr) G s s' → TxSet P w s'.heap a M → UptoS ks n M → R (.ok (.ret .none)) s') →
      codeAny (model P w) A (.builtin "set.update.loop" ⟨[.ref a, .ref J], []⟩) R s := by
  have aw : a ∉ wr := fun h => off (W.sub _ h)
  have wide : ∀ {s s' : Shared}, Moved wr G s s' → Moved (a :: wr) G s s' := fun mv => mv.mono fun b hb => List.mem_cons_of_mem _ hb
  intro k
  induction k with
  | zero =>
    rintro i s ik st ⟨M, lay, up⟩ done
    obtain rfl : i = n := by omega
    refine codeAny_builtin F.entry_set_update_loop ?_
    rw [Around.under_plainId F.plain_set_update_loop _]
    show wpAny _ A.in1 (pyNext (.ref J) >>= _) _ _ s
    refine wpAny_bind (W.done s _ _ st fun s2 mv => ?_)
    show wpAny _ A.in1 (ret Value.none) _ _ s2
    exact wpAny_pure (done s2 M (wide mv) (lay.later fun o e => mv.heap a o aw e) up)
  | succ k again =>
    rintro i s ik st ⟨M, lay, up⟩ done
    have lt : i < n := by omega
    refine codeAny_builtin F.entry_set_update_loop ?_
    rw [Around.under_plainId F.plain_set_update_loop _]
    show wpAny _ A.in1 (pyNext (.ref J) >>= _) _ _ s
    refine wpAny_bind (W.item i s _ _ lt st fun v s2 pv st2 mv => ?_)
    obtain ⟨x, u, hx, rfl⟩ := turn i v pv
    have lay2 : TxSet P w s2.heap a M := lay.later fun o e => mv.heap a o aw e
    show wpAny _ A.in1 (holding [Value.str x u] (setAdd a (.str x u)) >>= _) _ _ s2
    apply wpAny_bind
    apply wpAny_holding
    unfold setAdd
    apply wpAny_holding
    refine wpAny_bind ((strKind P w).pyHash (k := x) (strKind_is _ _ _ _) ?_)
    refine TxSet.add (s := { s2 with toks := s2.toks + 1 }) lay2 (by have := up.short; omega) fun b h3 M3 sb lay3 c1 c2 => ?_
    have up3 := up.next hx c1 c2
    refine wpAny_pure ⟨plainId_quiet F.plain_set_update_loop _, again (i + 1) _ (by omega) (W.frame _ s2 _ _ st2 (Nat.le_succ _) fun b hb o e => ?_) ⟨M3, lay3, up3⟩ fun s4 M4 mv4 lay4 up4 => ?_⟩
    · rw [sb.2 b (fun z => off (z ▸ hb))]
      exact e
    · refine done s4 M4 (Moved.trans W.gtrans ((wide mv).then_heap (Nat.le_succ _) fun b o hb e => ?_) mv4) lay4 up4
      rw [sb.2 b (fun z => hb (by rw [z]; exact List.mem_cons_self ..))]
      exact e
set_option maxHeartbeats 8000000 in
/-- set(xs), xs a list of texts -/
theorem setOfTexts {l : Addr} {items : Array Value} (ks : List Str) {Q : Value → Shared → Prop} (hh : A.handled = none) (hl : s.heap.IsList l items) (hit : StrsAre items.toList ks) (few : ks.length + 1 < scanBound)
    (done : ∀ (h' : Heap) (tk : Nat) M, TxSet P w h' s.heap.objs.size M → UptoS ks ks.length M → (∀ b o, s.heap.get? b = some o → h'.get? b = some o) → Q (.ref s.heap.objs.size) { s with heap := h', toks := tk }) :
    wpAny (model P w) A (call (.type "set") [.ref l]) Q E s := by
  have size : items.size = ks.length := by rw [← Array.length_toList, hit.length]
  obtain ⟨_, _, hmro⟩ := F.called_set.mro
  have z1 := F.called_set.made
  have z2 := F.called_set.sub
  refine wpAny_call (codeAny_of_tree ?_)
  show wpAny _ _ (callAny (.type "set") _) _ _ _
  refine wpAny_pure ⟨Code.quiet_builtin _ (by decide +kernel), codeAny_builtin F.entry_type_call ?_⟩
  rw [Around.under_plain (weight_type_call_type "set" [.ref l] []) rfl]
  have z3 := F.called_set.notType
  have z4 := F.called_set.canCreate
  have z5 := F.typeCall_set_1 (.ref l)
  repeat (any_goals (first | assumption | wp_step))
  refine codeAny_mono (code_set_led1 (.ref l) (E := E) (Q₁ := fun v s1 => v = .ref s.heap.objs.size ∧ s1 = { s with heap := s.heap.push (bareSet (!w.params.followText "set-order")) }) ⟨rfl, rfl⟩) fun r s1 hr => ?_
  cases r with
  | error e => exact hr
  | ok fl =>
  cases fl with
  | ret v =>
    obtain ⟨rfl, rfl⟩ := hr
    have newAt : (s.heap.push (bareSet (!w.params.followText "set-order"))).get? s.heap.objs.size = some (bareSet (!w.params.followText "set-order")) := Heap.get?_push_size _ rfl
    have ty : Shared.TypeIs { s with heap := s.heap.push (bareSet (!w.params.followText "set-order")) } (.ref s.heap.objs.size) "set" := ⟨_, newAt, rfl⟩
    have z6 := F.called_set.init.lookup
    have z7 := F.called_set.init.bind (.ref s.heap.objs.size)
    repeat (any_goals (first | assumption | wp_step))
    refine codeAny_mono (codeAny_call_builtin (R := wants (fun r s2 => r = .none ∧ ∃ h' tk M, s2 = { s with heap := h', toks := tk } ∧ TxSet P w h' s.heap.objs.size M ∧ UptoS ks ks.length M ∧ ∀ b o, s.heap.get? b = some o → h'.get? b = some o) E)
      F.called_set.init.plain F.entry_set_init (check_set_init_1 ty ?_)) fun r2 s2 hr2 => ?_
    · obtain ⟨⟨c1, d1, dt, sl⟩, hol, hc, m, hd⟩ := hl
      dsimp only at hc hd
      subst hc hd
      have hol2 : (s.heap.push (bareSet (!w.params.followText "set-order"))).get? l = some { cls := .type "list", dict := d1, data := .seq items m, slots := sl } := Heap.get?_push_of_some _ hol
      have y1 := F.sub_list_set
      have y2 := F.sub_list_frozenset
      have y3 : (Value.type "list" == Value.type "dict") = false := by decide
      have src : (s.heap.push (bareSet (!w.params.followText "set-order"))).IsList l items := ⟨_, hol2, rfl, m, rfl⟩
      unfold Builtin.«set.__init__» noKeywords Builtin.Frozenset.updateFrom
      generalize hIter : pyIter = it
      wp_walk
      subst hIter
      refine wpAny_pyIter_list src ?_
      refine wpAny_bind (wpAny_runValue ?_)
      have lS : l < s.heap.objs.size := Heap.lt_size hol
      have len1 : (s.heap.push (bareSet (!w.params.followText "set-order"))).objs.size = s.heap.objs.size + 1 := Heap.size_push ..
      have lJ : l ≠ (s.heap.push (bareSet (!w.params.followText "set-order"))).objs.size := by rw [len1]; exact Nat.ne_of_lt (Nat.lt_succ_of_lt lS)
      have calm : A.in1.in1.in1.handled = none := by simp [hh]
      refine fillTx ((Walks.list calm _ l lJ items).toS) s.heap.objs.size (by rw [len1]; simp only [List.mem_cons, List.not_mem_nil, or_false, not_or]; exact ⟨Nat.ne_of_lt (Nat.lt_succ_self _), Nat.ne_of_gt lS⟩) ks size few (fun i v hv => ?turn) items.size 0 _ (Nat.zero_add _)
        ⟨⟨_, Heap.get?_push_size _ rfl, rfl, rfl⟩, (src.push _)⟩ ?first ?last
      case turn =>
        have q : items.toList[i]? = some v := by rw [Array.getElem?_toList]; exact hv
        have il : i < ks.length := by
          rw [← size, ← Array.length_toList]
          exact (List.getElem?_eq_some_iff.mp q).1
        obtain ⟨u, e⟩ := SS.strs_at hit i v q
        refine ⟨ks[i], u, List.getElem?_eq_getElem il, ?_⟩
        rw [e, List.getD_eq_getElem?_getD, List.getElem?_eq_getElem il]
        rfl
      case first => exact ⟨[], TxSet.bare (Heap.get?_push_of_some _ newAt), ⟨fun x => by simp, Nat.le_refl _⟩⟩
      case last =>
        rintro ⟨h3, g3, d3, tk3, o3⟩ M mv lay up
        obtain rfl : g3 = s.gens := mv.gens
        obtain rfl : d3 = s.drawn := mv.drawn
        obtain rfl : o3 = s.os := mv.os
        show wpAny _ _ _ _ _ _
        refine wpAny_pure ?_
        show wpAny _ _ (ret Value.none) _ _ _
        rw [size] at up
        refine wpAny_pure ⟨rfl, h3, tk3, M, rfl, lay, up, fun b o e => ?_⟩
        have b0 := Heap.lt_size e
        refine mv.heap b o ?_ (Heap.get?_push_of_some _ (Heap.get?_push_of_some _ e))
        rw [len1]
        simp only [List.mem_cons, List.not_mem_nil, or_false, not_or]
        exact ⟨Nat.ne_of_lt b0, Nat.ne_of_lt (Nat.lt_succ_of_lt b0)⟩
    · cases r2 with
      | error e => exact hr2
      | ok fl2 =>
      cases fl2 with
      | ret r =>
        obtain ⟨rfl, h3, tk3, M, rfl, lay, up, kp⟩ := hr2
        repeat (any_goals (first | assumption | wp_step))
        exact done _ _ _ lay up kp
      | _ => exact hr2.elim
  | _ => exact hr.elim
end
end L2.My
/-! set(list of texts), sorted and len of it, as rules -/
namespace L2.My
open PySem PySem.Spec PyProof.Rows L2
def SetT (P : Program) (w : World) (a : Addr) (M : List Str) : HO := .ext fun h => TxSet P w h a M
theorem setT_new {w : World} {P : Program} {H : Hp} {h : Heap} {a : Addr} {M : List Str} (R : TxSet P w h a M) : ObjOk P w H h a (SetT P w a M) := by
  obtain ⟨o, _, _, _, ho, _⟩ := R.at_
  exact ⟨R, ⟨o, ho⟩, fun h1 h2 p k => TxSet.later p k⟩
theorem txs_vals : ∀ {l : List (Int × Value)} {P : Program} {w : World}, (∀ e ∈ l, IsRow P w e) → ∀ e ∈ l, ∃ u, e.2 = Value.str (rowTx e) u := fun g e he => by
  obtain ⟨x, u, h1, _⟩ := g e he
  refine ⟨u, ?_⟩
  unfold rowTx
  rw [h1]
theorem strs_of : ∀ (l : List Value), (∀ v ∈ l, ∃ x u, v = Value.str x u) → StrsAre l (l.map fun v => rowTx (0, v))
  | [], _ => .nil
  | v :: l, h => by
    obtain ⟨x, u, rfl⟩ := h v List.mem_cons_self
    exact .cons x u (strs_of l fun v hv => h v (List.mem_cons_of_mem _ hv))
section
variable {X : Cx}
def rSetTx (K : PySem.W.Frag) (P : Program) (w : World) : List V → Hp → VK → Prop := fun xs H Q => ∃ (l : Addr) (ks : List Str), xs = [V.ref l] ∧ SqL K H l (ks.map V.str) ∧ ks.length < 1000 ∧ ∀ p M, H p = none → M.Nodup → (∀ x, x ∈ M ↔ x ∈ ks) → M.length ≤ ks.length → Q (.ref p) (upd H p (SetT P w p M))
theorem call_setTx (hc : X.calm = true) : CallR X (.type "set") (rSetTx X.K X.prog X.w) := by
  intro pins s σ H xs us Q I r h
  obtain ⟨l, ks, rfl, hl, few, q⟩ := h
  rw [Vals.ref1 r]
  obtain ⟨its, rv, pl, _⟩ := I.list hl
  have sb : (1000 : Nat) < scanBound := by decide
  refine setOfTexts ks (I.ok.hd hc) pl.isList (by simpa using rv.strs) (by omega) fun h' tk M lay up kp => ?_
  have same : ∀ x, x ∈ M ↔ x ∈ ks := fun x => by rw [up.same x, List.take_length]
  exact ⟨.ref s.heap.objs.size, upd H s.heap.objs.size (SetT X.prog X.w s.heap.objs.size M), I.laid (t' := tk) kp (Nat.le_refl _) (setT_new lay), rfl, q _ M (I.hok.fresh (Nat.le_refl _)) lay.once same up.short⟩
theorem call_lenTx : CallR X (.builtin "len") (fun xs H Q => ∃ a M, xs = [V.ref a] ∧ H a = some (SetT X.prog X.w a M) ∧ M.length ≤ 1000 ∧ Q (.int M.length) H) := by
  intro pins s σ H xs us Q I r h
  obtain ⟨a, M, rfl, ha, hn, q⟩ := h
  rw [Vals.ref1 r]
  obtain ⟨⟨o, es, ep, t, ho, ex, hd, _, eM, fit, _⟩, _, _⟩ := (I.hok a _ ha).1
  have he : es.size = M.length := by rw [← eM, List.length_map, Array.length_toList]
  refine call_len_set ho ex hd fit (by omega) ⟨.int M.length, H, I.tok _, ⟨_, by rw [he]⟩, q⟩
def rSortedTx (P : Program) (w : World) : List V → Hp → VK → Prop := fun vs H Q => ∃ (a : Addr) (M : List Str), vs = [V.ref a] ∧ H a = some (SetT P w a M) ∧ M.length < 64 ∧ ∀ ys p, ys.Perm M → sortedS ys = true → H p = none → Q (.ref p) (upd H p (.lst (ys.map V.str)))
theorem call_sortedTx (hc : X.calm = true) : CallR X (.builtin "sorted") (rSortedTx X.prog X.w) := by
  intro pins s σ H vs us Q I r h
  obtain ⟨a, M, rfl, ha, few, q⟩ := h
  rw [Vals.ref1 r]
  obtain ⟨⟨o, es, ep, t, ho, ex, hd, are, eM, fit, ris, free⟩, once, small⟩ := (I.hok a _ ha).1
  have line : sizeLine = 16777216 := by decide
  have nM : es.size = M.length := by rw [← eM, List.length_map, Array.length_toList]
  refine Calls.call_function_entry kind_sorted plain_sorted entry_sorted (args_sorted1 _) ?_
  unfold Builtin.«sorted»
  refine wpAny_bind (m := checkCount "sorted" 1 1 _) (wpAny_pure ?_)
  refine wpAny_bind (collect_set (A := X.A.in1) (I.ok.hd hc) ⟨o, ho, ex.1, hd⟩ fit (by omega) ris free fun s1 out1 k1 sz g1 o1 pm => ?_)
  have n1 : out1.length < 64 := by rw [pm.length_eq, List.length_map, Array.length_toList]; omega
  have shape : ∀ v ∈ out1, ∃ x u, v = Value.str x u := fun v hv => by
    obtain ⟨e, he, q⟩ := List.mem_map.mp (pm.mem_iff.mp hv)
    obtain ⟨x, u, h1, _⟩ := are e he
    exact ⟨x, u, q ▸ h1⟩
  have hS := strs_of out1 shape
  have pk : (out1.map fun v => rowTx (0, v)).Perm M := by
    have z := pm.map fun v => rowTx (0, v)
    rw [List.map_map] at z
    rw [← eM]
    refine z.trans (List.Perm.of_eq (List.map_congr_left fun e he => ?_))
    rfl
  generalize hks : (out1.map fun v => rowTx (0, v)) = ks at hS pk
  refine wpAny_bind (wpAny_newList ?_ (by rw [line]; omega))
  have at1 : (s1.heap.push (seqObj "list" out1.toArray 0)).get? s1.heap.objs.size = some (seqObj "list" out1.toArray 0) := Heap.get?_push_size _ rfl
  refine wpAny_bind (wpAny_holding (wpAny_call_entry slot_list_sort ⟨_, at1, rfl⟩ entry_list_sort
    (list_sort_treeK strKind_oneLt at1 hS.keysOf (fun v1 v2 rest e => keyKind_strs (by rw [← e]; exact hS)) n1 fun st' hp hs => ?_) (args_list_sort _)))
  obtain ⟨ys, y1, y2, y3⟩ := sorted_out_str hS hp hs
  obtain ⟨c, hcc⟩ := sortedHeap_at (vs := out1) (out := (arrOf st').map (·.2)) at1
  have fresh : H s1.heap.objs.size = none := I.hok.fresh sz
  have kp : ∀ b u, s.heap.get? b = some u → (sortedHeap (s1.heap.push (seqObj "list" out1.toArray 0)) s1.heap.objs.size out1 ((arrOf st').map (·.2))).get? b = some u := fun b u e => by
    have lt := Heap.lt_size (k1 b u e)
    rw [sortedHeap_old (Nat.ne_of_lt lt) (by rw [size_push']; exact Nat.lt_succ_of_lt lt)]
    exact Heap.get?_push_of_some _ (k1 b u e)
  have pm2 : ys.Perm M := y2.trans pk
  refine ⟨_, rfl, wpAny_pure ⟨_, rfl, ?_⟩⟩
  have ok : ObjOk X.prog X.w (upd H s1.heap.objs.size (.lst (ys.map V.str))) (sortedHeap (s1.heap.push (seqObj "list" out1.toArray 0)) s1.heap.objs.size out1 ((arrOf st').map (·.2))) s1.heap.objs.size (.lst (ys.map V.str)) := by
    refine ⟨?_, ((arrOf st').map (·.2)).toList, c, vals_of_strs y1, by rw [Array.toArray_toList]; exact hcc⟩
    rw [List.length_map, pm2.length_eq, line]
    omega
  have J : Inv X pins σ (upd H s1.heap.objs.size (.lst (ys.map V.str))) { s with heap := (sortedHeap (s1.heap.push (seqObj "list" out1.toArray 0)) s1.heap.objs.size out1 ((arrOf st').map (·.2))), gens := s1.gens, drawn := s1.drawn, toks := s1.toks } :=
    I.call (ch := []) (Un.laid kp sz fresh) (I.hok.laid kp sz ok) (by rw [g1]; exact I.bare) (fun _ z => nomatch z)
  refine ⟨.ref s1.heap.objs.size, _, ?_, rfl, q ys s1.heap.objs.size pm2 y3 fresh⟩
  have e : s1 = { s with heap := s1.heap, gens := s1.gens, drawn := s1.drawn, toks := s1.toks } := by
    cases s1
    cases s
    cases o1
    rfl
  rw [e]
  exact J
end
end L2.My
namespace K56
open PySem L2
open L2.My
open Liv
section
variable {P : Program} {w : World} {K : PySem.W.Frag} {mg : Str → Option Value} {base : Heap}
theorem Bsm {i : Int} (h0 : 0 ≤ i) (h : i ≤ 1000) : B 100 i := Bz h0 (Int.lt_of_le_of_lt h (by decide))
theorem not_take {ks : List Str} {i : Nat} {k : Str} (nd : ks.Nodup) (h : ks[i]? = some k) : k ∉ ks.take i := fun m => by
  obtain ⟨j, hj⟩ := List.mem_iff_getElem?.mp m
  have jl : j < i := by
    have := (List.getElem?_eq_some_iff.mp hj).1
    rw [List.length_take] at this
    omega
  rw [List.getElem?_take_of_lt jl] at hj
  have z : j = i := (List.getElem?_inj (List.getElem?_eq_some_iff.mp hj).1 nd).mp (hj.trans h.symm)
  omega
def lawKeys : List Str := ["a", "b", "mul", "mul.0", "put.0.1", "x:2", "zzzzzzzz.0.1.2:47", "7"]
/-- rows as the law draws them -/
structure Drawn (n : Nat) (U : List Row) : Prop where
  keys : ∀ k ∈ Liv.keys U, k ∈ lawKeys
  nd : (Liv.keys U).Nodup
  b0 : ∀ r ∈ U, -(2 * (n : Int)) ≤ r.2.1 ∧ r.2.1 < 2 * n
  lt : ∀ r ∈ U, r.2.1 < r.2.2
  near : ∀ r ∈ U, r.2.2 - r.2.1 ≤ 4 * n
  few : U.length ≤ 8
theorem law_keys_nd : lawKeys.Nodup := by decide +kernel
theorem law_keys_ok : ∀ k ∈ lawKeys, IsKey k := by
  have a : ∀ k ∈ lawKeys, (decide (1 ≤ k.length) && decide (k.length ≤ 30) && k.cps.toList.all fun c => decide (c ∈ ("abcdefghijklmnopqrstuvwxyz0123456789.:" : Str).cps.toList)) = true := by decide +kernel
  intro k hk
  have h := a k hk
  rw [Bool.and_eq_true, Bool.and_eq_true, decide_eq_true_iff, decide_eq_true_iff, List.all_eq_true] at h
  exact ⟨h.1.1, h.1.2, fun c hc => of_decide_eq_true (h.2 c hc)⟩
theorem Drawn.ok {n : Nat} {U : List Row} (d : Drawn n U) (n1 : n ≤ 32) : IsRows U := ⟨by have := d.few; omega, fun r h => law_keys_ok _ (d.keys _ (List.mem_map_of_mem h)), fun r h => by
  have a := d.b0 r h
  have b := d.lt r h
  have c := d.near r h
  have g : (1000 : Int) < great := by decide
  exact ⟨b, by omega, by omega, by omega, by omega⟩⟩
def spLRows : Sp := fun vs H Q _ => ∃ (c m n : Nat) (t : Int), vs = [.ref c, .int n, .int t, .int 3] ∧ CupAt H c m ∧ m ≤ 5000 ∧ 0 < n ∧ n ≤ 32 ∧ 0 ≤ t ∧ ∀ D H' U, ButX c H H' → H D = none → RowsAt H' D U → Drawn n U → CupAt H' c (m + 40) → Q (.ref D) H'
abbrev lRows : Stmt := top 34
abbrev n_lr : List Str := ["_law_cup_here", "_law_interval", "_law_many", "_law_long", "_law_keys", "_law_found", "_law_key", "_law_begin"]
theorem sl_lr : FnScope n_lr ["_law_cup_here", "_law_interval", "_law_many", "_law_long"] (defScope lRows) := ⟨rfl, rfl, rfl, by decide +kernel, rfl, by decide +kernel, by decide +kernel⟩
theorem ok_lr {f ffe fro : Addr} {fd fdfe fdro : FuncData} (F : Fun K "_law_rows" "_law_rows" lRows f fd) (T : Txt mg) (dfe : Dn P w K mg base CX0 "_law_few" ["_law_cup_here", "_law_items", "_law_many"] 2 spFew ffe fdfe) (dro : Dn P w K mg base CX0 "_law_roll" ["_law_cup_here", "_law_total"] 1 spRoll fro fdro) : FnOk P w K mg base CX0 3 f fd ["_law_cup_here", "_law_interval", "_law_many", "_law_long"] spLRows := by
  refine F.ok sl_lr (fun vs H Q E h => ?_) (fun cdv A outer s H vs Q E hr h => ?_)
  · obtain ⟨c, m, n, t, rfl, _⟩ := h
    rfl
  · obtain ⟨c, m, n, t, rfl, cup, mm, n0, n1, t0, k⟩ := h
    have hr1 : Room 1 _ := hr.mono (by decide)
    refine ⟨_, pss_cons (ps_par (i := 4) (j := 5) rfl sl_lr.nd rfl rfl (by decide) rfl rfl (pa_cons (pe_lst (pa_cons pe_str (pa_cons pe_str (pa_cons pe_str (pa_cons pe_str (pa_cons pe_str (pa_cons pe_str (pa_cons pe_str (pa_cons pe_str pa_nil))))))))) (pa_cons pe_dnewK pa_nil)) (by rfl)) (pss_cons (ps_for PassesOwn.never rfl (pi_list (pe_call dfe.G hr rfl dfe.g dfe.kp dfe.b .nil pass0 (pa_cons (pv 0) (pa_cons (pv 4) (pa_cons (pv 2) pa_nil))))) (pg_name (i := 6) sl_lr.nd rfl (.inl rfl)) (pss_cons (ps_set (i := 7) sl_lr.nd rfl (.inl rfl) (pe_op op_sub (pe_call dro.G hr1 rfl dro.g dro.kp dro.b .nil pass0 (pa_cons (pv 0) (pa_cons (pe_op op_mulW pe_int (pv 1)) pa_nil))) (pe_op op_mulW pe_int (pv 1)))) (pss_one (ps_dput (Room.one_up hr) (pv 5) (pv 6) (pe_tup (pa_cons (pv 7) (pa_cons (pe_op op_add (pe_op op_add (pv 7) pe_int) (pe_call dro.G hr1 rfl dro.g dro.kp dro.b .nil pass0 (pa_cons (pv 0) (pa_cons (pe_op op_mulW (pv 1) (pe_op op_add pe_int (pe_call dro.G hr1 rfl dro.g dro.kp dro.b .nil pass0 (pa_cons (pv 0) (pa_cons (pv 3) pa_nil))))) pa_nil)))) pa_nil))) rfl)))) (pss_one (ps_ret (pv 5)))), ?_⟩
    refine ⟨n_line, fun L nL => ?_⟩
    obtain ⟨H1, z1, s1, e1⟩ := mk_at (o := .lst [.str "a", .str "b", .str "mul", .str "mul.0", .str "put.0.1", .str "x:2", .str "zzzzzzzz.0.1.2:47", .str "7"]) nL
    rw [z1]
    have e1 : H1 L = some (.lst (lawKeys.map V.str)) := e1
    intro D nD
    obtain ⟨H2, z2, s2, e2⟩ := mk_at (o := .dK []) nD
    rw [z2]
    have nD0 : H D = none := by
      cases z : H D with
      | none => rfl
      | some o =>
        have := s1 _ _ z
        rw [nD] at this
        cases this
    have s02 := s1.trans s2
    have cn : ∃ o, H c = some (.lst o) := by obtain ⟨_, _, _, e, _⟩ := cup; exact ⟨_, e⟩
    obtain ⟨oc, ec⟩ := cn
    have Lc : L ≠ c := ne_of_none_some nL ec
    have Dc : D ≠ c := ne_of_none_some nD0 ec
    refine ⟨_, _, rfl, ?_⟩
    refine ⟨_, rfl, _, rfl, _, rfl, c, L, m, lawKeys.map V.str, t, rfl, cup.same s02, ?_, s2 _ _ e1, Lc, (by rw [List.length_map]; decide), t0, fun F ys rest H3 b3 nF eF Fc pm _ _ cup3 => ?_⟩
    · rw [List.length_map, show lawKeys.length = 8 from rfl]; omega
    rw [List.length_map, show lawKeys.length = 8 from rfl] at cup3
    obtain ⟨L1, hL1, pL1⟩ := perm_lift pm rfl
    obtain ⟨ks, hks, sub⟩ : ∃ ks : List Str, ys = ks.map V.str ∧ ks.Sublist L1 := by
      refine ⟨L1.take ys.length, ?_, List.take_sublist ..⟩
      rw [List.map_take, ← hL1, List.take_left]
    have ksnd : ks.Nodup := sub.nodup (pL1.nodup_iff.mpr law_keys_nd)
    have ksin : ∀ x ∈ ks, x ∈ lawKeys := fun x hx => pL1.mem_iff.mp (sub.mem hx)
    have kslen : ks.length ≤ 8 := Nat.le_trans sub.length_le (by rw [pL1.length_eq]; decide)
    subst hks
    have b03 : ButX c H H3 := (ButX.of s02).trans b3
    have FD : F ≠ D := fun e => by rw [e, e2] at nF; cases nF
    have eD3 := b3 _ _ Dc e2
    have n6 : B 6 (n : Int) := Bi (by have : (33 : Nat) ≤ 2 ^ 6 := by decide
                                      omega)
    refine ⟨F, rfl, ⟨_, SqL.of eF⟩, for_list (xs := ks.map V.str) (fun i σ H' => ∃ v6 v7 kvs U, σ = [some (.ref c), some (.int n), some (.int t), some (.int 3), some (.ref L), some (.ref D), v6, v7] ∧ ButX c H H' ∧ H' F = some (.lst (ks.map V.str)) ∧ H' D = some (.dK kvs) ∧ Rv H' kvs U ∧ Liv.keys U = ks.take i ∧
      (∀ r ∈ U, (-(2 * (n : Int)) ≤ r.2.1 ∧ r.2.1 < 2 * n) ∧ r.2.1 < r.2.2 ∧ r.2.2 - r.2.1 ≤ 4 * n) ∧ CupAt H' c (m + 8 + 3 * i)) ⟨_, _, [], [], rfl, b03, eF, eD3, .nil, rfl, (fun _ h => by cases h), cup3⟩ (fun i σ H' _ h => by obtain ⟨_, _, _, _, _, _, e, _⟩ := h; exact SqL.of e) ?_ ?_⟩
    · rintro i v σ H4 hv ⟨v6, v7, kvs, U, rfl, b4, eF4, eD4, rv4, ek, good, cup4⟩
      obtain ⟨k0, rfl, hk⟩ := strs_at2 hv
      have i8 : i < 8 := by have := (List.getElem?_eq_some_iff.mp hk).1; omega
      refine ⟨_, rfl, _, rfl, _, _, rfl, rfl, B.ml (n := 4) Bd n6, c, _, _, rfl, cup4, by omega, by omega, ?_, fun r1 H5 b5 cup5 h1 => ?_⟩
      · exact Bi (n := 100) (i := 4 * n) (by have : (200 : Nat) ≤ 2 ^ 100 := by decide
                                             omega)
      refine ⟨_, rfl, _, _, rfl, rfl, B.ml (n := 4) Bd n6, _, _, rfl, rfl, ?_⟩
      refine ⟨_, rfl, _, rfl, _, _, rfl, rfl, _, rfl, _, rfl, _, rfl, _, rfl, c, _, 3, rfl, cup5, by omega, by decide, Bd, fun r2 H6 b6 cup6 h2 => ?_⟩
      have r2b : B 4 (1 + (r2 : Int)) := Bz (by omega) (by have : (4 : Int) < 2 ^ 4 := by decide
                                                           omega)
      have prod : 0 < (n : Int) * (1 + r2) ∧ (n : Int) * (1 + r2) ≤ 3 * n := by
        obtain rfl | rfl | rfl : r2 = 0 ∨ r2 = 1 ∨ r2 = 2 := by omega
        all_goals (constructor <;> omega)
      refine ⟨_, _, rfl, rfl, _, _, rfl, rfl, B.ml n6 r2b, c, _, _, rfl, cup6, by omega, prod.1, Bsm (by omega) (by omega), fun r3 H7 b7 cup7 h3 => ?_⟩
      refine ⟨_, _, rfl, rfl, n_line, fun p np => ?_⟩
      have nF7 := b7 _ _ Fc (b6 _ _ Fc (b5 _ _ Fc eF4))
      have eD7 := b7 _ _ Dc (b6 _ _ Dc (b5 _ _ Dc eD4))
      have ct : ∀ {H H' : Hp} {m : Nat} {t : Addr} {l : Lf}, CupAt H c m → ButX c H H' → LifeAt H t l → LifeAt H' t l := fun cu b e => by
        obtain ⟨_, _, _, ec, _⟩ := cu
        exact b _ _ (ne_of e ec (fun z => by cases z)) e
      have rv7 : Rv H7 kvs U := rv4.mono fun t l e => ct cup6 b7 (ct cup5 b6 (ct cup4 b5 e))
      have s8 : Same H7 (upd H7 p (.tup [.int ((r1 : Int) - 2 * n), .int ((r1 : Int) - 2 * n + 1 + r3)])) := grow np
      have e8 : LifeAt (upd H7 p (.tup [.int ((r1 : Int) - 2 * n), .int ((r1 : Int) - 2 * n + 1 + r3)])) p ((r1 : Int) - 2 * n, (r1 : Int) - 2 * n + 1 + r3) := upd_same
      have uc : U.length = i := by
        have := congrArg List.length ek
        rw [List.length_map, List.length_take] at this
        have := (List.getElem?_eq_some_iff.mp hk).1
        rw [List.length_map] at *
        omega
      refine ⟨_, rfl, _, rfl, D, _, rfl, DPut.k (k := Sum.inr k0) (s8 _ _ eD7) (lt_line (by rw [rv7.len]; omega)), ?_⟩
      have nk : k0 ∉ Liv.keys U := by rw [ek]; exact not_take ksnd hk
      rw [putK_new _ ((rv7.same s8).none nk)]
      refine ⟨_, _, _, U ++ [(k0, ((r1 : Int) - 2 * n, (r1 : Int) - 2 * n + 1 + r3))], rfl, ?_, ?_, upd_same, ?_, ?_, ?_, ?_⟩
      · intro b o ne e
        have nb : b ≠ D := ne_of_none e nD0
        show (upd (upd H7 p _) D _) b = _
        rw [upd_ne nb]
        exact s8 _ _ (b7 _ _ ne (b6 _ _ ne (b5 _ _ ne (b4 _ _ ne e))))
      · show (upd (upd H7 p _) D _) F = _
        rw [upd_ne FD]
        exact s8 _ _ nF7
      · refine Rv.mono (fun t l e => ?_) ((rv7.same s8).snoc (r := (k0, ((r1 : Int) - 2 * n, (r1 : Int) - 2 * n + 1 + r3))) e8)
        exact (upd_ne (ne_of e (s8 _ _ eD7) (fun z => by cases z))).trans e
      · rw [keys_app, ek, take_step hk]
        rfl
      · intro r hr
        rcases List.mem_append.mp hr with hr | hr
        · exact good r hr
        · rw [List.mem_singleton] at hr
          subst hr
          exact ⟨⟨by show -(2 * (n : Int)) ≤ (r1 : Int) - 2 * n; omega, by show (r1 : Int) - 2 * n < 2 * n; omega⟩, by show (r1 : Int) - 2 * n < (r1 : Int) - 2 * n + 1 + r3; omega, by show (r1 : Int) - 2 * n + 1 + r3 - ((r1 : Int) - 2 * n) ≤ 4 * n; omega⟩
      · obtain ⟨x, y, z, e, q1, q2, q3, q4, q5⟩ := cup7
        exact ⟨x, y, z, (upd_ne Dc.symm).trans (s8 _ _ e), q1, q2, q3, q4, by omega⟩
    · rintro σ H4 ⟨v6, v7, kvs, U, rfl, b4, eF4, eD4, rv4, ek, good, cup4⟩
      rw [List.length_map, List.take_length] at ek
      refine ⟨_, rfl, ?_⟩
      refine k D H4 U b4 nD0 ⟨kvs, eD4, rv4⟩ ⟨fun x hx => ksin x (by rw [← ek]; exact hx), by rw [ek]; exact ksnd, fun r h => (good r h).1, fun r h => (good r h).2.1, fun r h => (good r h).2.2, ?_⟩ (cup4.le (by rw [List.length_map]; omega))
      have := congrArg List.length ek
      rw [List.length_map] at this
      omega
end
end K56
namespace K56
open PySem L2
open L2.My
open Liv
/-! ### how many values -/
theorem vals_len {n : Nat} (n0 : 0 < n) (t : Int) : ∀ R : List Row, (∀ r ∈ R, r.2.1 < r.2.2) → ((vals n R t).length : Int) = sumA n (lives R) t
  | [], _ => rfl
  | r :: R, h => by
    have ih := vals_len n0 t R fun x hx => h x (List.mem_cons_of_mem _ hx)
    have a := turns_len (n := (n : Int)) (by omega) (h r (List.mem_cons_self ..)) t
    unfold vals at ih ⊢
    rw [List.flatMap_cons, List.length_append, List.length_map]
    unfold sumA at ih ⊢
    rw [show lives (r :: R) = r.2 :: lives R from rfl, List.map_cons, List.sum_cons, ← ih, ← a]
    omega
theorem mem_vals {n : Nat} {t : Int} {R : List Row} (nd : (keys R).Nodup) {r : Row} (h : r ∈ R) {k : Int} : (r.1, k) ∈ vals n R t ↔ k ∈ turns n r.2 t := by
  unfold vals
  rw [List.mem_flatMap]
  constructor
  · rintro ⟨q, hq, m⟩
    obtain ⟨j, hj, e⟩ := List.mem_map.mp m
    injection e with e1 e2
    have a := look_mem nd hq
    have b := look_mem nd h
    rw [e1] at a
    have c : q.2 = r.2 := Option.some.inj (a.symm.trans b)
    rw [← e2, ← c]
    exact hj
  · intro m
    exact ⟨r, h, List.mem_map_of_mem m⟩
theorem both_len {n : Nat} (n0 : 0 < n) (m : Int) {R : List Row} (nd : (keys R).Nodup) (lt : ∀ r ∈ R, r.2.1 < r.2.2) : ∀ S : List Row, (∀ r ∈ S, r ∈ R) → (((vals n S (m - 1)).filter fun p => decide (p ∈ vals n R m)).length : Int) = sumX n (lives S) m
  | [], _ => rfl
  | r :: S, h => by
    have ih := both_len n0 m nd lt S fun x hx => h x (List.mem_cons_of_mem _ hx)
    have hr := h r (List.mem_cons_self ..)
    have g := lt r hr
    have b := both_turns (n := (n : Int)) (by omega) g m
    have a0 := across_nn (n := (n : Int)) (by omega) g m
    have e : (((turns n r.2 (m - 1)).map fun k => (r.1, k)).filter fun p => decide (p ∈ vals n R m)) = ((turns n r.2 (m - 1)).filter fun k => decide (k ∈ turns n r.2 m)).map fun k => (r.1, k) := by
      rw [List.filter_map]
      congr 1
      refine List.filter_congr fun k _ => ?_
      exact decide_eq_decide.mpr (mem_vals nd hr)
    unfold vals at ih ⊢
    rw [List.flatMap_cons, List.filter_append, List.length_append]
    unfold vals at e
    rw [e, b, List.length_map, run_len]
    unfold sumX at ih ⊢
    rw [show lives (r :: S) = r.2 :: lives S from rfl, List.map_cons, List.sum_cons, ← ih]
    omega
theorem across_len {n : Nat} (n0 : 0 < n) (m : Int) {R : List Row} (nd : (keys R).Nodup) (lt : ∀ r ∈ R, r.2.1 < r.2.2) : (((vals n R (m - 1)).filter fun p => decide (p ∈ vals n R m)).length : Int) = sumX n (lives R) m := both_len n0 m nd lt R fun _ h => h
theorem turns_few {n : Nat} {l : Lf} (n0 : 0 < n) (g : l.1 < l.2) (s : l.2 - l.1 ≤ 4 * n) (t : Int) : (turns n l t).length ≤ 6 := by
  rw [← near_turns (n := (n : Int)) (by omega) g s t]
  exact Nat.le_trans (List.length_filter_le ..) (by rw [run_len]; omega)
theorem vals_few {n : Nat} (n0 : 0 < n) (t : Int) : ∀ R : List Row, (∀ r ∈ R, r.2.1 < r.2.2 ∧ r.2.2 - r.2.1 ≤ 4 * n) → (vals n R t).length ≤ 6 * R.length
  | [], _ => Nat.le_refl _
  | r :: R, h => by
    have ih := vals_few n0 t R fun x hx => h x (List.mem_cons_of_mem _ hx)
    have a := turns_few n0 (h r (List.mem_cons_self ..)).1 (h r (List.mem_cons_self ..)).2 t
    unfold vals at ih ⊢
    rw [List.flatMap_cons, List.length_append, List.length_map, List.length_cons]
    omega
/-- the drawn rows, and them in order -/
structure LR (H : Hp) (D n : Nat) (U R : List Row) : Prop where
  at_ : RowsAt H D U
  dr : Drawn n U
  pm : R.Perm U
  so : PyProof.Rows.sortedS (keys R) = true
theorem LR.same {H H' : Hp} {D n : Nat} {U R : List Row} (h : LR H D n U R) (s : Same H H') : LR H' D n U R := ⟨h.at_.same s, h.dr, h.pm, h.so⟩
theorem LR.ord {H : Hp} {D n : Nat} {U R : List Row} (h : LR H D n U R) : Ord R := ⟨(h.pm.map Prod.fst).nodup_iff.mpr h.dr.nd, h.so⟩
theorem LR.lt {H : Hp} {D n : Nat} {U R : List Row} (h : LR H D n U R) : ∀ r ∈ R, r.2.1 < r.2.2 ∧ r.2.2 - r.2.1 ≤ 4 * n := fun r m => ⟨h.dr.lt r (h.pm.mem_iff.mp m), h.dr.near r (h.pm.mem_iff.mp m)⟩
theorem LR.few {H : Hp} {D n : Nat} {U R : List Row} (h : LR H D n U R) : R.length ≤ 8 := by rw [h.pm.length_eq]; exact h.dr.few
theorem sel_len (R : List Row) (ns : List Str) : (sel R ns).length ≤ R.length := List.length_filter_le ..
section
variable {P : Program} {w : World} {K : PySem.W.Frag} {mg : Str → Option Value} {base : Heap}
theorem PairsAt.mono {H H' : Hp} (k : ∀ t l, H t = some (.tup l) → H' t = some (.tup l)) {ys : List V} {ps : List (Str × Int)} (p : PairsAt H ys ps) : PairsAt H' ys ps := by
  induction p with
  | nil => exact .nil
  | cons z _ ih =>
    obtain ⟨t, e, et⟩ := z
    exact .cons ⟨t, e, k _ _ et⟩ ih
theorem PairsAt.app {H : Hp} {ys zs : List V} {ps qs : List (Str × Int)} (a : PairsAt H ys ps) (b : PairsAt H zs qs) : PairsAt H (ys ++ zs) (ps ++ qs) := by
  induction a with
  | nil => exact b
  | cons x _ ih => exact .cons x ih
def spVals : Sp := fun vs H Q _ => ∃ (D n N : Nat) (t : Int) (U R : List Row) (ns : List Str), vs = [.ref D, .int n, .int t, .ref N] ∧ LR H D n U R ∧ H N = some (.lst (ns.map V.str)) ∧ ns.length < 60 ∧ (∀ s ∈ ns, s ∈ keys R) ∧ 0 < n ∧ n ≤ 32 ∧ -1000 ≤ t ∧ t ≤ 1000 ∧
  ∀ F ys H', Same H H' → H F = none → H' F = some (.lst ys) → PairsAt H' ys (vals n (sel R ns) t) → Q (.ref F) H'
abbrev lValues : Stmt := top 35
abbrev n_va : List Str := ["_law_rows_here", "_law_interval", "_law_tick", "_law_names", "_law_found", "_law_key", "_law_begin", "_law_end", "_law_near", "_law_turn"]
theorem sl_va : FnScope n_va ["_law_rows_here", "_law_interval", "_law_tick", "_law_names"] (defScope lValues) := ⟨rfl, rfl, rfl, by decide +kernel, rfl, by decide +kernel, by decide +kernel⟩
theorem ok_va {f  : Addr} {fd  : FuncData} (F : Fun K "_law_values" "_law_values" lValues f fd) (T : Txt mg)  : FnOk P w K mg base CX0 1 f fd ["_law_rows_here", "_law_interval", "_law_tick", "_law_names"] spVals := by
  refine F.ok sl_va (fun vs H Q E h => ?_) (fun cdv A outer s H vs Q E hr h => ?_)
  · obtain ⟨D, n, N, t, U, R, ns, rfl, _⟩ := h
    rfl
  · obtain ⟨D, n, N, t, U, R, ns, rfl, lr, eN, few, sub, n0, n1, t0, t1, k⟩ := h
    refine ⟨_, pss_cons (ps_set (i := 4) sl_va.nd rfl (.inl rfl) (pe_lst pa_nil)) (pss_cons (ps_for PassesOwn.never rfl (pi_list (pe_callB (call_sortedTx rfl) (by rfl) T.sorted (by decide +kernel) (pa_cons (pe_callTy (call_setTx rfl) (by rfl) T.set (by decide +kernel) (pa_cons (pv 3) pa_nil)) pa_nil))) (pg_name (i := 5) sl_va.nd rfl (.inr rfl)) (pss_cons (ps_asg (pe_dget (Room.one_up hr) (pv 0) (pv 5) (fun _ _ => rfl)) (pg_tup rfl (pgs_cons (pg_name (i := 6) sl_va.nd rfl (.inr rfl)) (pgs_cons (pg_name (i := 7) sl_va.nd rfl (.inr rfl)) pgs_nil)))) (pss_cons (ps_set (i := 8) sl_va.nd rfl (.inl rfl) (pe_op op_fdivV (pe_op op_sub (pv 2) (pv 6)) (pv 1))) (pss_one (ps_expr (pe_bm PySem.F.plainAttrs_list PySem.F.slot_list_extend PySem.F.type_list_extend mt_extend (pv 4) (pa_cons (pe_lc (own := [("_law_turn", 9)]) (g := gName 9) (by rfl) sl_va.nd (pi_range2 rfl T.range (pa_cons (pe_op op_sub (pv 8) pe_int) (pa_cons (pe_op op_add (pv 8) pe_int) pa_nil))) (blkOk_by (own := [("_law_turn", 9)]) (N := n_va) (sc := defScope lValues) (by decide +kernel)) (fun _ _ _ _ _ => pg_name (i := 9) sl_va.nd rfl (Or.inl rfl)) (fun _ _ _ _ _ => pts_one (pt_chain op_le op_lt (pv 6) (pe_op op_sub (pv 2) (pe_op op_mulW (pv 1) (pv 9))) (pv 7))) (fun _ _ _ _ _ => pe_tup (pa_cons (pv 5) (pa_cons (pv 9) pa_nil)))) pa_nil))))))) (pss_one (ps_ret (pv 4)))), ?_⟩
    refine ⟨n_line, fun F nF => ?_⟩
    obtain ⟨H1, z1, s1, e1⟩ := mk_at (o := .lst []) nF
    rw [z1]
    refine ⟨_, rfl, N, ns, rfl, SqL.of (s1 _ _ eN), by omega, fun p M np Mnd Mem Mlen => ?_⟩
    have s2 : Same H1 (upd H1 p (SetT P w p M)) := grow np
    refine ⟨p, M, rfl, upd_same, by omega, fun ks S pm so nS => ?_⟩
    have ek : ks = keys (sel R ns) := sel_names lr.ord sub (pm.nodup_iff.mpr Mnd) (fun x => (pm.mem_iff).trans (Mem x)) so
    subst ek
    obtain ⟨H3, z3, s3, e3⟩ := mk_at (o := .lst ((keys (sel R ns)).map V.str)) nS
    rw [z3]
    have s13 : Same H1 H3 := s2.trans s3
    have s03 := s1.trans s13
    have eF := s13 _ _ e1
    have FS : F ≠ S := (ne_of_none_some nS (s2 _ _ e1)).symm
    clear z3
    have so := sel_ord lr.ord ns
    have few8 : (sel R ns).length ≤ 8 := Nat.le_trans (sel_len R ns) lr.few
    have ltn : ∀ r ∈ sel R ns, r.2.1 < r.2.2 ∧ r.2.2 - r.2.1 ≤ 4 * n := fun r m => lr.lt r (List.mem_filter.mp m).1
    refine ⟨S, rfl, ⟨_, SqL.of e3⟩, for_list (xs := (keys (sel R ns)).map V.str) (fun i σ H' => ∃ v5 v6 v7 v8 v9 ys, σ = [some (.ref D), some (.int n), some (.int t), some (.ref N), some (.ref F), v5, v6, v7, v8, v9] ∧ (∀ b o, b ≠ F → H3 b = some o → H' b = some o) ∧ H' F = some (.lst ys) ∧ PairsAt H' ys (vals n ((sel R ns).take i) t))
      ⟨_, _, _, _, _, [], rfl, fun _ _ _ e => e, eF, .nil⟩ (fun i σ H' _ h => by obtain ⟨_, _, _, _, _, _, _, b, _⟩ := h; exact SqL.of (b _ _ FS.symm e3)) ?_ ?_⟩
    · rintro i v σ H4 hv ⟨v5, v6, v7, v8, v9, ys, rfl, b4, eF4, pr⟩
      obtain ⟨k0, rfl, hk⟩ := strs_at2 hv
      obtain ⟨r, hr, rfl⟩ := row_at hk
      have i8 : i < 8 := by have := (List.getElem?_eq_some_iff.mp hr).1; omega
      have mr := List.mem_of_getElem? hr
      have mR : r ∈ R := (List.mem_filter.mp mr).1
      obtain ⟨kvs, eD, rv⟩ := lr.at_
      obtain ⟨tl, ht, elt⟩ := rv.get lr.dr.nd (lr.pm.mem_iff.mp mR)
      have nF1 : ∀ {b : Addr} {o : HO}, H b = some o → b ≠ F := fun e => ne_of_none e nF
      have k4 : ∀ {b : Addr} {o : HO}, H b = some o → H4 b = some o := fun e => b4 _ _ (nF1 e) (s03 _ _ e)
      refine ⟨_, rfl, _, rfl, D, .ref tl, rfl, dget_of (k := Sum.inr r.1) (.inl (k4 eD)) ht, ?_⟩
      refine ⟨tl, _, rfl, SqT.of (k4 elt), rfl, _, _, rfl, _, _, rfl, rfl, ?_⟩
      refine ⟨_, rfl, _, rfl, _, _, rfl, rfl, _, rfl, _, _, rfl, rfl, B.dv (n_b n1) (by omega), ?_⟩
      have eh : (t - r.2.1).fdiv (n : Int) = Liv.hi n r.2 t := Liv.fd (by omega)
      show gName 8 (V.int ((t - r.2.1).fdiv (n : Int))) _ _ _
      rw [eh]
      have hb : -2000 ≤ Liv.hi n r.2 t ∧ Liv.hi n r.2 t ≤ 2000 := by
        have a : ((t - r.2.1) / (n : Int)).natAbs ≤ (t - r.2.1).natAbs := Int.natAbs_ediv_le_natAbs ..
        have b := lr.dr.b0 r (lr.pm.mem_iff.mp mR)
        unfold Liv.hi
        omega
      have n6 : B 6 (n : Int) := Bi (by have : (33 : Nat) ≤ 2 ^ 6 := by decide
                                        omega)
      have nt := near_turns (n := (n : Int)) (by omega) (ltn r mr).1 (ltn r mr).2 t
      generalize Liv.hi n r.2 t = h at hb nt ⊢
      refine ⟨_, rfl, .inl ⟨rfl, _, SqL.of eF4⟩, _, rfl, _, _, rfl, rfl, _, rfl, _, _, rfl, rfl, _, _, rfl, ⟨by omega, by omega, by omega, by omega⟩, fun M nM => ?_⟩
      have e6 : ((h + 2) - (h - 4)).toNat = 6 := by omega
      have eM4 : M ≠ F := ne_of_none_some nM eF4
      refine lc_range (lo := h - 4) (n := ((h + 2) - (h - 4)).toNat) (fun i H' => ∃ zs, Acc H4 M zs H' ∧ PairsAt H' zs (((Liv.run (h - 4) i).filter fun k => decide (r.2.1 ≤ t - n * k) && decide (t - n * k < r.2.2)).map fun k => (r.1, k))) ⟨[], Acc.start nM, .nil⟩ ?_ ?_
      · rintro j H5 hj ⟨zs, a5, p5⟩
        have jb : B 20 (h - 4 + (j : Int)) := by
          unfold B
          have : (5000 : Nat) < 2 ^ 20 := by decide
          omega
        have zl : zs.length ≤ 6 := by
          have := Paired.length p5
          rw [List.length_map] at this
          have q := List.length_filter_le (fun k => decide (r.2.1 ≤ t - n * k) && decide (t - n * k < r.2.2)) (Liv.run (h - 4) j)
          rw [run_len] at q
          omega
        refine ⟨rfl, _, rfl, _, rfl, _, rfl, _, rfl, _, _, rfl, rfl, n6.ml jb, _, _, rfl, rfl, _, _, rfl, rfl, _, rfl, ?_⟩
        rw [run_snoc, List.filter_append, List.map_append]
        by_cases c1 : r.2.1 ≤ t - n * (h - 4 + j)
        · by_cases c2 : t - n * (h - 4 + j) < r.2.2
          · refine iteTe (decide_eq_true c1) ⟨_, rfl, _, _, rfl, rfl, _, rfl, iteTe (decide_eq_true c2) ⟨_, rfl, _, rfl, n_line, fun p np => ?_⟩⟩
            have e : ([h - 4 + (j : Int)].filter fun k => decide (r.2.1 ≤ t - n * k) && decide (t - n * k < r.2.2)) = [h - 4 + (j : Int)] := by simp [c1, c2]
            rw [e]
            have a6 := a5.on (grow (o := .tup [.str r.1, .int (h - 4 + j)]) np)
            refine ⟨zs, a6.2.2, lt_line (by omega), zs ++ [.ref p], a6.put, ?_⟩
            refine paired_snoc (PairsAt.mono (fun q l e => ?_) (p5.same (grow (o := .tup [.str r.1, .int (h - 4 + j)]) np))) ⟨p, rfl, ?_⟩
            · exact (upd_ne (ne_of e a6.2.2 (fun z => by cases z))).trans e
            · exact (upd_ne (ne_of (o := .tup [.str r.1, .int (h - 4 + j)]) upd_same a6.2.2 (fun z => by cases z))).trans upd_same
          · refine iteTe (decide_eq_true c1) ⟨_, rfl, _, _, rfl, rfl, _, rfl, iteFe (decide_eq_false c2) ⟨zs, a5, ?_⟩⟩
            have e : ([h - 4 + (j : Int)].filter fun k => decide (r.2.1 ≤ t - n * k) && decide (t - n * k < r.2.2)) = [] := by simp [c2]
            rw [e, List.map_nil, List.append_nil]
            exact p5
        · refine iteFe (decide_eq_false c1) ⟨_, rfl, iteFe rfl ⟨zs, a5, ?_⟩⟩
          have e : ([h - 4 + (j : Int)].filter fun k => decide (r.2.1 ≤ t - n * k) && decide (t - n * k < r.2.2)) = [] := by simp [c1]
          rw [e, List.map_nil, List.append_nil]
          exact p5
      · rintro H5 ⟨zs, a5, p5⟩
        rw [e6, nt] at p5
        have eF5 := a5.1 _ _ eF4
        have zl : zs.length ≤ 6 := by
          have := Paired.length p5
          rw [List.length_map] at this
          have := turns_few n0 (ltn r mr).1 (ltn r mr).2 t
          omega
        have yl : ys.length ≤ 48 := by
          have := Paired.length pr
          have q := vals_few n0 t ((sel R ns).take i) fun r m => ltn r (List.mem_of_mem_take m)
          have := List.length_take_le i (sel R ns)
          omega
        refine ⟨F, M, ys, zs, rfl, rfl, eF5, a5.2.2, Nat.le_of_lt (lt_line (by omega)), ?_⟩
        refine ⟨_, _, _, _, _, _, rfl, fun b o ne e => (upd_ne ne).trans (a5.1 _ _ (b4 _ _ ne e)), upd_same, ?_⟩
        rw [vals_take hr]
        have kp : ∀ t l, H5 t = some (.tup l) → (upd H5 F (.lst (ys ++ zs))) t = some (.tup l) := fun t l e => (upd_ne (ne_of e eF5 (fun z => by cases z))).trans e
        exact (PairsAt.mono kp (pr.same a5.1)).app (PairsAt.mono kp p5)
    · rintro σ H4 ⟨v5, v6, v7, v8, v9, ys, rfl, b4, eF4, pr⟩
      rw [List.length_map, List.length_map, List.take_length] at pr
      exact ⟨_, rfl, k F ys H4 (fun b o e => b4 _ _ (ne_of_none e nF) (s03 _ _ e)) nF eF4 pr⟩
end
end K56
namespace K56
open PySem L2
open L2.My
open Liv
def rLenS (K : PySem.W.Frag) : List V → Hp → VK → Prop := fun xs H Q => ∃ p ys, xs = [V.ref p] ∧ (SqL K H p ys ∨ SqT K H p ys) ∧ Q (.int (ys.length : Nat)) H
theorem len_at {K : PySem.W.Frag} {X : Cx} (e : X.K = K) : CallR X (.builtin "len") (rLenS K) := by
  subst e
  exact call_len_seq
/-! ### pairs as data -/
def prD (p : Str × Int) : PyData := .tuple [.str p.1, .int p.2]
theorem pr_shaped {p : Str × Int} (h : IsKey p.1) : SeqAt.shaped (prD p) = true := by
  simp [prD, SeqAt.shaped, PyData.canLay0, PyData.canLayAll0, PyData.depth, PyData.depthAll, h.ok]
theorem prs_lay : ∀ ps : List (Str × Int), (∀ p ∈ ps, IsKey p.1) → PyData.canLayAll0 (ps.map prD) = true ∧ PyData.depthAll (ps.map prD) ≤ 1
  | [], _ => ⟨rfl, Nat.zero_le _⟩
  | x :: xs, h => by
    obtain ⟨a, b⟩ := prs_lay xs fun y hy => h y (List.mem_cons_of_mem _ hy)
    have c := (h x (List.mem_cons_self ..)).ok
    constructor
    · rw [List.map_cons]
      simp [PyData.canLayAll0, PyData.canLay0, a, c, prD]
    · rw [List.map_cons]
      have d : (prD x).depth ≤ 1 := by simp [prD, PyData.depth, PyData.depthAll]
      simp [PyData.depthAll, b]
      omega
theorem prs_shaped {ps : List (Str × Int)} (h : ∀ p ∈ ps, IsKey p.1) : SeqAt.shaped (.list (ps.map prD)) = true := by
  obtain ⟨a, b⟩ := prs_lay ps h
  simp [SeqAt.shaped, PyData.canLay0, PyData.depth, a]
  omega
theorem prs_dp {K : PySem.W.Frag} {H : Hp} {L : Addr} {ys : List V} {ps : List (Str × Int)} (e : H L = some (.lst ys)) (p : PairsAt H ys ps) : Dp K H (.ref L) (.list (ps.map prD)) := by
  refine .lst (SqL.of e) ?_
  clear e
  induction p with
  | nil => exact .nil
  | cons z _ ih =>
    obtain ⟨t, rfl, et⟩ := z
    exact .cons (.tup (SqT.of et) (.cons (.str _) (.cons (.int _) .nil))) ih
theorem pr_eqv (p q : Str × Int) : PyData.eqv (prD p) (prD q) = decide (p = q) := by
  obtain ⟨a, b⟩ := p
  obtain ⟨c, d⟩ := q
  rw [Bool.eq_iff_iff]
  simp [prD, PyData.eqv, PyData.eqvAll]
theorem any_pr (p : Str × Int) (ps : List (Str × Int)) : ((ps.map prD).any fun z => PyData.eqv z (prD p)) = decide (p ∈ ps) := by
  rw [List.any_map]
  by_cases c : p ∈ ps
  · rw [decide_eq_true c, List.any_eq_true]
    exact ⟨p, c, by show PyData.eqv (prD p) (prD p) = true; rw [pr_eqv]; simp⟩
  · rw [decide_eq_false c, List.any_eq_false]
    intro q hq e
    have e : PyData.eqv (prD q) (prD p) = true := e
    rw [pr_eqv, decide_eq_true_iff] at e
    exact c (e ▸ hq)
theorem pairs_at {H : Hp} : ∀ {ys : List V} {ps : List (Str × Int)}, PairsAt H ys ps → ∀ {i : Nat} {v : V}, ys[i]? = some v → ∃ p t, v = .ref t ∧ ps[i]? = some p ∧ H t = some (.tup [.str p.1, .int p.2])
  | _, _, .nil, i, _, h => by cases h
  | _, _, .cons (b := p) ⟨t, e, et⟩ _, 0, _, h => by
    cases h
    exact ⟨p, t, e, rfl, et⟩
  | _, _, .cons _ r, i + 1, _, h => pairs_at r h
theorem vals_key {n : Nat} {R : List Row} {t : Int} (h : ∀ r ∈ R, IsKey r.1) : ∀ p ∈ vals n R t, IsKey p.1 := fun p hp => by
  obtain ⟨r, hr, m⟩ := List.mem_flatMap.mp hp
  obtain ⟨k, _, rfl⟩ := List.mem_map.mp m
  exact h r hr
theorem LR.key {H : Hp} {D n : Nat} {U R : List Row} (h : LR H D n U R) : ∀ r ∈ R, IsKey r.1 := fun r m => law_keys_ok _ (h.dr.keys _ (List.mem_map_of_mem (h.pm.mem_iff.mp m)))
theorem LR.sel_key {H : Hp} {D n : Nat} {U R : List Row} (h : LR H D n U R) (ns : List Str) : ∀ r ∈ sel R ns, IsKey r.1 := fun r m => h.key r (List.mem_filter.mp m).1
theorem LR.sel_lt {H : Hp} {D n : Nat} {U R : List Row} (h : LR H D n U R) (ns : List Str) : ∀ r ∈ sel R ns, r.2.1 < r.2.2 ∧ r.2.2 - r.2.1 ≤ 4 * n := fun r m => h.lt r (List.mem_filter.mp m).1
/-- what the law's counts are handed: rows, names, an interval -/
structure LN (H : Hp) (D n N : Nat) (U R : List Row) (ns : List Str) : Prop where
  lr : LR H D n U R
  eN : H N = some (.lst (ns.map V.str))
  few : ns.length < 60
  sub : ∀ s ∈ ns, s ∈ keys R
  n0 : 0 < n
  n1 : n ≤ 32
theorem LN.same {H H' : Hp} {D n N : Nat} {U R : List Row} {ns : List Str} (h : LN H D n N U R ns) (s : Same H H') : LN H' D n N U R ns := ⟨h.lr.same s, s _ _ h.eN, h.few, h.sub, h.n0, h.n1⟩
section
variable {P : Program} {w : World} {K : PySem.W.Frag} {mg : Str → Option Value} {base : Heap}
def spLMost : Sp := fun vs H Q _ => ∃ (D n N : Nat) (U R : List Row) (ns : List Str), vs = [.ref D, .int n, .ref N] ∧ LN H D n N U R ns ∧ ∀ H', Same H H' → Q (.int (Liv.most n (lives (sel R ns)))) H'
abbrev lMost : Stmt := top 36
abbrev n_lm : List Str := ["_law_rows_here", "_law_interval", "_law_names", "_law_slot"]
theorem sl_lm : FnScope n_lm ["_law_rows_here", "_law_interval", "_law_names"] (defScope lMost) := ⟨rfl, rfl, rfl, by decide +kernel, rfl, by decide +kernel, by decide +kernel⟩
theorem ok_lm {f fva : Addr} {fd fdva : FuncData} (F : Fun K "_law_most" "_law_most" lMost f fd) (T : Txt mg) (dva : Dn P w K mg base CX0 "_law_values" ["_law_rows_here", "_law_interval", "_law_tick", "_law_names"] 1 spVals fva fdva) : FnOk P w K mg base CX0 2 f fd ["_law_rows_here", "_law_interval", "_law_names"] spLMost := by
  refine F.ok sl_lm (fun vs H Q E h => ?_) (fun cdv A outer s H vs Q E hr h => ?_)
  · obtain ⟨D, n, N, U, R, ns, rfl, _⟩ := h
    rfl
  · obtain ⟨D, n, N, U, R, ns, rfl, ln, k⟩ := h
    refine ⟨_, pss_one (ps_ret (pe_callB (cr_max rfl) (by rfl) T.max (by decide +kernel) (pa_cons (pe_lc (own := [("_law_slot", 3)]) (g := gName 3) (tt := tYes) (by rfl) sl_lm.nd (pi_range1 rfl T.range (pa_cons (pv 1) pa_nil)) (blkOk_by (own := [("_law_slot", 3)]) (N := n_lm) (sc := defScope lMost) (by decide +kernel)) (fun _ _ _ _ _ => pg_name (i := 3) sl_lm.nd rfl (Or.inl rfl)) (fun _ _ _ _ _ => pts_nil) (fun _ _ _ _ _ => pe_callB (len_at (K := K) rfl) (by rfl) T.len PySem.boot_len (pa_cons (pe_call dva.G hr rfl dva.g dva.kp dva.b .nil pass0 (pa_cons (pv 0) (pa_cons (pv 1) (pa_cons (pv 3) (pa_cons (pv 2) pa_nil))))) pa_nil))) pa_nil))), ?_⟩
    have n0 := ln.n0
    have n1 := ln.n1
    refine ⟨_, rfl, n, rfl, by omega, by omega, fun M nM => lc_range (n := n) (fun i H' => Acc H M (((List.range i).map fun s : Nat => sumA n (lives (sel R ns)) s).map V.int) H') (Acc.start nM) ?_ ?_⟩
    · intro i H1 hi a
      rw [Int.zero_add]
      have lt := ln.lr.sel_lt ns
      refine ⟨rfl, _, rfl, _, rfl, _, rfl, _, rfl, D, n, N, (i : Int), U, R, ns, rfl, ln.lr.same a.1, a.1 _ _ ln.eN, ln.few, ln.sub, n0, n1, by omega, by omega, fun F ys H2 s2 nF eF pr => ?_⟩
      have a2 := a.on s2
      have yl : (ys.length : Int) = sumA n (lives (sel R ns)) i := by
        rw [Paired.length pr]
        exact vals_len n0 i _ fun r m => (lt r m).1
      refine ⟨F, ys, rfl, .inl (SqL.of eF), _, a2.2.2, ?_, ?_⟩
      · rw [List.length_map, List.length_map, List.length_range]; exact lt_line (by omega)
      · rw [yl, List.range_succ, List.map_append, List.map_append]
        exact a2.put
    · intro H1 a
      refine ⟨M, (counts n (lives (sel R ns))), rfl, SqL.of a.2.2, by rw [counts_len]; omega, fun mm h1 h2 => ?_⟩
      rw [Liv.most_of (n := (n : Int)) (by omega) (fun l hl => by obtain ⟨r, hr, rfl⟩ := List.mem_map.mp hl; exact (ln.lr.sel_lt ns r hr).1) h1 h2]
      exact k _ a.1
def spLAcross : Sp := fun vs H Q _ => ∃ (D n N : Nat) (t : Int) (U R : List Row) (ns : List Str), vs = [.ref D, .int n, .int t, .ref N] ∧ LN H D n N U R ns ∧ -900 ≤ t ∧ t ≤ 900 ∧ ∀ H', Same H H' → Q (.int (sumX n (lives (sel R ns)) t)) H'
abbrev lAcross : Stmt := top 37
abbrev n_la : List Str := ["_law_rows_here", "_law_interval", "_law_moment", "_law_names", "_law_later", "_law_value"]
theorem sl_la : FnScope n_la ["_law_rows_here", "_law_interval", "_law_moment", "_law_names"] (defScope lAcross) := ⟨rfl, rfl, rfl, by decide +kernel, rfl, by decide +kernel, by decide +kernel⟩
theorem ok_la {f fva : Addr} {fd fdva : FuncData} (F : Fun K "_law_across" "_law_across" lAcross f fd) (T : Txt mg) (dva : Dn P w K mg base CX0 "_law_values" ["_law_rows_here", "_law_interval", "_law_tick", "_law_names"] 1 spVals fva fdva) : FnOk P w K mg base CX0 2 f fd ["_law_rows_here", "_law_interval", "_law_moment", "_law_names"] spLAcross := by
  refine F.ok sl_la (fun vs H Q E h => ?_) (fun cdv A outer s H vs Q E hr h => ?_)
  · obtain ⟨D, n, N, t, U, R, ns, rfl, _⟩ := h
    rfl
  · obtain ⟨D, n, N, t, U, R, ns, rfl, ln, t0, t1, k⟩ := h
    refine ⟨_, pss_cons (ps_set (i := 4) sl_la.nd rfl (.inr rfl) (pe_call dva.G hr rfl dva.g dva.kp dva.b .nil pass0 (pa_cons (pv 0) (pa_cons (pv 1) (pa_cons (pv 2) (pa_cons (pv 3) pa_nil)))))) (pss_one (ps_ret (pe_callB call_len_seq (by rfl) T.len PySem.boot_len (pa_cons (pe_lc (own := [("_law_value", 5)]) (g := gName 5) (by rfl) sl_la.nd (pi_list (pe_call dva.G hr rfl dva.g dva.kp dva.b .nil pass0 (pa_cons (pv 0) (pa_cons (pv 1) (pa_cons (pe_op op_sub (pv 2) pe_int) (pa_cons (pv 3) pa_nil)))))) (blkOk_by (own := [("_law_value", 5)]) (N := n_la) (sc := defScope lAcross) (by decide +kernel)) (fun _ _ _ _ _ => pg_name (i := 5) sl_la.nd rfl (Or.inl rfl)) (fun _ _ _ _ _ => pts_one (pt_cmpR ((op_at (K := K) (r := rInD) rfl (op_inD hr.u65))) (pv 5) (pv 4) (by rfl))) (fun _ _ _ _ _ => pv 5)) pa_nil)))), ?_⟩
    have n0 := ln.n0
    have n1 := ln.n1
    have lt := ln.lr.sel_lt ns
    refine ⟨_, rfl, _, rfl, _, rfl, _, rfl, D, n, N, t, U, R, ns, rfl, ln.lr, ln.eN, ln.few, ln.sub, n0, n1, by omega, by omega, fun F ys H1 s1 nF eF pr => ?_⟩
    have ln1 := ln.same s1
    obtain ⟨G, e1⟩ : ∃ zs, H1 F = some (.lst zs) ∧ PairsAt H1 zs (vals n (sel R ns) t) := ⟨_, eF, pr⟩
    refine ⟨_, rfl, _, rfl, _, rfl, _, _, rfl, rfl, _, rfl, D, n, N, t - 1, U, R, ns, rfl, ln1.lr, ln1.eN, ln.few, ln.sub, n0, n1, by omega, by omega, fun F2 ys2 H2 s2 nF2 eF2 pr2 => ?_⟩
    have eF' := s2 _ _ eF
    have pr' := pr.same s2
    have few2 := vals_few n0 (t - 1) (sel R ns) lt
    have few8 := Nat.le_trans (sel_len R ns) ln.lr.few
    refine ⟨F2, rfl, ⟨_, SqL.of eF2⟩, fun M nM => lc_it walk_list (fun i H' => ∃ zs, Acc H2 M zs H' ∧ zs.length = (((vals n (sel R ns) (t - 1)).take i).filter fun p => decide (p ∈ vals n (sel R ns) t)).length) ⟨[], Acc.start nM, rfl⟩ (fun i H' _ a => SqL.of (by obtain ⟨_, a, _⟩ := a; exact a.1 _ _ eF2)) ?_ ?_⟩
    · rintro i v H3 H4 hi ⟨zs, a, zl⟩ ⟨rfl, hv⟩
      obtain ⟨p, tp, rfl, hp, ep⟩ := pairs_at pr2 hv
      have kp : IsKey p.1 := vals_key (ln.lr.sel_key ns) p (List.mem_of_getElem? hp)
      refine ⟨rfl, _, rfl, _, rfl, prD p, (vals n (sel R ns) t).map prD, .tup (SqT.of (a.1 _ _ ep)) (.cons (.str _) (.cons (.int _) .nil)), prs_dp (a.1 _ _ eF') (pr'.same a.1), pr_shaped kp, prs_shaped (vals_key (ln.lr.sel_key ns)), ?_⟩
      rw [any_pr]
      have zb : zs.length ≤ 100 := by
        rw [zl]
        refine Nat.le_trans (List.length_filter_le ..) (Nat.le_trans (List.length_take_le' ..) (by omega))
      refine ⟨_, rfl, ?_⟩
      rw [take_step hp, List.filter_append, List.length_append, ← zl]
      by_cases c : p ∈ vals n (sel R ns) t
      · rw [decide_eq_true c]
        refine iteTe rfl ⟨_, rfl, zs, a.2.2, lt_line (by omega), zs ++ [.ref tp], a.put, ?_⟩
        rw [List.length_append]
        simp [c]
      · rw [decide_eq_false c]
        refine iteFe rfl ⟨zs, a, ?_⟩
        simp [c]
    · rintro H3 ⟨zs, a, zl⟩
      rw [Paired.length pr2, List.take_length] at zl
      refine ⟨M, zs, rfl, .inl (SqL.of a.2.2), ?_⟩
      have q := across_len n0 t (sel_ord ln.lr.ord ns).nd (fun r m => (lt r m).1)
      rw [← zl] at q
      rw [q]
      exact k _ (s1.trans (s2.trans a.1))
end
end K56
namespace K56
open PySem L2
open L2.My
open Liv
section
variable {P : Program} {w : World} {K : PySem.W.Frag} {mg : Str → Option Value} {base : Heap}
def spLFull : Sp := fun vs H Q _ => ∃ (D n N : Nat) (t : Int) (U R : List Row) (ns : List Str), vs = [.ref D, .int n, .int t, .ref N] ∧ LN H D n N U R ns ∧ -900 ≤ t ∧ t ≤ 900 ∧ ∀ H', Same H H' → Q (.bl (isFull n (lives (sel R ns)) t)) H'
abbrev lFull : Stmt := top 38
abbrev n_lf2 : List Str := ["_law_rows_here", "_law_interval", "_law_moment", "_law_names"]
theorem sl_lf2 : FnScope n_lf2 ["_law_rows_here", "_law_interval", "_law_moment", "_law_names"] (defScope lFull) := ⟨rfl, rfl, rfl, by decide +kernel, rfl, by decide +kernel, by decide +kernel⟩
theorem ok_lf2 {f fla flm : Addr} {fd fdla fdlm : FuncData} (F : Fun K "_law_is_full" "_law_is_full" lFull f fd)  (dla : Dn P w K mg base CX0 "_law_across" ["_law_rows_here", "_law_interval", "_law_moment", "_law_names"] 2 spLAcross fla fdla) (dlm : Dn P w K mg base CX0 "_law_most" ["_law_rows_here", "_law_interval", "_law_names"] 2 spLMost flm fdlm) : FnOk P w K mg base CX0 3 f fd ["_law_rows_here", "_law_interval", "_law_moment", "_law_names"] spLFull := by
  refine F.ok sl_lf2 (fun vs H Q E h => ?_) (fun cdv A outer s H vs Q E hr h => ?_)
  · obtain ⟨D, n, N, t, U, R, ns, rfl, _⟩ := h
    rfl
  · obtain ⟨D, n, N, t, U, R, ns, rfl, ln, t0, t1, k⟩ := h
    refine ⟨_, pss_one (ps_ret (pe_cmpR op_eq (pe_call dla.G hr rfl dla.g dla.kp dla.b .nil pass0 (pa_cons (pv 0) (pa_cons (pv 1) (pa_cons (pv 2) (pa_cons (pv 3) pa_nil))))) (pe_call dlm.G hr rfl dlm.g dlm.kp dlm.b .nil pass0 (pa_cons (pv 0) (pa_cons (pv 1) (pa_cons (pv 3) pa_nil)))) (nomark _))), ?_⟩
    refine ⟨_, rfl, _, rfl, _, rfl, _, rfl, D, n, N, t, U, R, ns, rfl, ln, t0, t1, fun H1 s1 => ?_⟩
    refine ⟨_, rfl, _, rfl, _, rfl, D, n, N, U, R, ns, rfl, ln.same s1, fun H2 s2 => ⟨rfl, ?_⟩⟩
    have e : decide (V.int (sumX n (lives (sel R ns)) t) = V.int (Liv.most n (lives (sel R ns)))) = isFull n (lives (sel R ns)) t := by
      unfold isFull
      simp
    rw [e]
    exact k _ (s1.trans s2)
theorem sel_out {R U : List Row} {ns : List Str} (pm : R.Perm U) : sel R (keys (out U ns)) = out R ns := by
  unfold sel out
  refine List.filter_congr fun r hr => ?_
  have hu := pm.mem_iff.mp hr
  by_cases c : r.1 ∈ ns
  · rw [decide_eq_true c]
    refine decide_eq_false fun m => ?_
    obtain ⟨q, hq, e⟩ := List.mem_map.mp m
    have z := (List.mem_filter.mp hq).2
    rw [e, decide_eq_true c] at z
    cases z
  · rw [decide_eq_false c]
    refine decide_eq_true (List.mem_map.mpr ⟨r, List.mem_filter.mpr ⟨hu, by rw [decide_eq_false c]; rfl⟩, rfl⟩)
theorem out_sub {R U : List Row} {ns : List Str} (pm : R.Perm U) : ∀ s ∈ keys (out U ns), s ∈ keys R := fun s h => by
  obtain ⟨q, hq, rfl⟩ := List.mem_map.mp h
  exact List.mem_map_of_mem (pm.mem_iff.mpr (List.mem_filter.mp hq).1)
theorem sel_nil {R : List Row} {ns : List Str} (sub : ∀ s ∈ ns, s ∈ keys R) : (sel R ns).isEmpty = ns.isEmpty := by
  cases ns with
  | nil => simp [sel]
  | cons x xs =>
    obtain ⟨r, hr, e⟩ := List.mem_map.mp (sub x (List.mem_cons_self ..))
    have m : r ∈ sel R (x :: xs) := List.mem_filter.mpr ⟨hr, by rw [e]; simp⟩
    cases c : sel R (x :: xs) with
    | nil => rw [c] at m; cases m
    | cons a b => rfl
theorem out_nil {R U : List Row} {ns : List Str} (pm : R.Perm U) : (out R ns).isEmpty = (keys (out U ns)).isEmpty := by
  have e : (out R ns).Perm (out U ns) := pm.filter _
  have l := e.length_eq
  cases c : out R ns <;> cases d : out U ns <;> rw [c, d] at l <;> simp_all
def spLApart : Sp := fun vs H Q _ => ∃ (D n N : Nat) (U R : List Row) (ns : List Str), vs = [.ref D, .int n, .ref N] ∧ LN H D n N U R ns ∧ ∀ H', Same H H' → Q (.bl (isApart n R ns)) H'
abbrev lApart : Stmt := top 39
abbrev n_lp : List Str := ["_law_rows_here", "_law_interval", "_law_names", "_law_others", "_law_moment", "_law_key"]
theorem sl_lp : FnScope n_lp ["_law_rows_here", "_law_interval", "_law_names"] (defScope lApart) := ⟨rfl, rfl, rfl, by decide +kernel, rfl, by decide +kernel, by decide +kernel⟩
theorem ok_lp {f flf2 : Addr} {fd fdlf2 : FuncData} (F : Fun K "_law_is_apart" "_law_is_apart" lApart f fd) (T : Txt mg) (dlf2 : Dn P w K mg base CX0 "_law_is_full" ["_law_rows_here", "_law_interval", "_law_moment", "_law_names"] 3 spLFull flf2 fdlf2) : FnOk P w K mg base CX0 4 f fd ["_law_rows_here", "_law_interval", "_law_names"] spLApart := by
  refine F.ok sl_lp (fun vs H Q E h => ?_) (fun cdv A outer s H vs Q E hr h => ?_)
  · obtain ⟨D, n, N, U, R, ns, rfl, _⟩ := h
    rfl
  · obtain ⟨D, n, N, U, R, ns, rfl, ln, k⟩ := h
    refine ⟨_, pss_cons (ps_lock (ps_setLc (i := 3) (own := [("_law_key", 5)]) (g := gName 5) (by rfl) sl_lp.nd rfl rfl (sw_true rfl rfl rfl (by decide +kernel)) (pi_keys (pv 0)) (blkOk_by (own := [("_law_key", 5)]) (N := n_lp) (sc := defScope lApart) (by decide +kernel)) (fun _ _ _ _ _ => pg_name (i := 5) sl_lp.nd rfl (Or.inl rfl)) (fun _ _ _ _ _ => pts_one (pt_cmpR ((notIn_at (K := K) rfl)) (pv 5) (pv 2) (by rfl))) (fun _ _ _ _ _ => pv 5))) (pss_cons (ps_if (PW.pt (pw_or (pt_cmpR ((op_eqNil (Room.u0 hr))) (pv 2) (pe_lst pa_nil) (nomark _)) (pw_or1 (pt_cmpR ((op_eqNil (Room.u0 hr))) (pv 3) (pe_lst pa_nil) (nomark _))))) (pss_one (ps_ret pe_bl)) pss_nil) (pss_cons (ps_for PassesOwn.never rfl (pi_range1 rfl T.range (pa_cons (pv 1) pa_nil)) (pg_name (i := 4) sl_lp.nd rfl (.inl rfl)) (pss_one (ps_if (PW.pt (pw_and (pt_not (pt_val (pe_call dlf2.G hr rfl dlf2.g dlf2.kp dlf2.b .nil pass0 (pa_cons (pv 0) (pa_cons (pv 1) (pa_cons (pv 4) (pa_cons (pv 2) pa_nil))))))) (pw_and1 (pt_not (pt_val (pe_call dlf2.G hr rfl dlf2.g dlf2.kp dlf2.b .nil pass0 (pa_cons (pv 0) (pa_cons (pv 1) (pa_cons (pv 4) (pa_cons (pv 3) pa_nil)))))))))) (pss_one (ps_ret pe_bl)) pss_nil))) (pss_one (ps_ret pe_bl)))), ?_⟩
    have n0 := ln.n0
    have n1 := ln.n1
    obtain ⟨kvs, eD, rv⟩ := ln.lr.at_
    have few := ln.lr.dr.few
    refine ⟨D, _, eD, trivial, fun od => ?_⟩
    have rl := rv.lock (o := od) eD
    have fz : (upd H D (.frz od (.dK kvs))) D = some (.frz od (.dK kvs)) := upd_same
    have eNl : (upd H D (.frz od (.dK kvs))) N = some (.lst (ns.map V.str)) := (upd_ne (ne_of ln.eN eD (fun z => by cases z))).trans ln.eN
    have fin : ∀ H', Same (upd H D (.frz od (.dK kvs))) H' → Same H (upd H' D (.dK kvs)) := fun H' s' => unlock_same eD s'
    generalize upd H D (.frz od (.dK kvs)) = Hb at rl fz eNl fin ⊢
    refine ⟨_, rfl, D, od, rfl, .inl ⟨kvs, fz, fun M nM => lc_it walk_keys (fun i H' => Acc Hb M ((keys (out (U.take i) ns)).map V.str) H') (Acc.start nM) (fun i H' _ a => a.1 _ _ fz) ?_ ?_⟩⟩
    · intro i v H1 H2 hi a y
      obtain ⟨rfl, r, rfl, hr⟩ := rl.key y
      have i8 : i < 8 := by have := (List.getElem?_eq_some_iff.mp hr).1; omega
      refine ⟨rfl, _, rfl, _, rfl, N, _, rfl, .inl (SqL.of (a.1 _ _ eNl)), rfl, by simp [flatV], _, rfl, ?_⟩
      rw [if_pos rfl, in_iff, out_take hr ns]
      by_cases c : r.1 ∈ ns
      · rw [decide_eq_true c, if_pos c, List.append_nil]
        exact iteFe rfl a
      · rw [decide_eq_false c, if_neg c]
        refine iteTe rfl ⟨_, rfl, _, a.2.2, ?_, ?_⟩
        · rw [List.length_map, List.length_map]
          have h1 : (out (U.take i) ns).length ≤ (U.take i).length := List.length_filter_le ..
          have h2 := List.length_take_le i U
          exact lt_line (by omega)
        · rw [keys_app, List.map_append]
          exact a.put
    intro H1 a
    rw [rv.len, List.take_length] at a
    refine ⟨a.1 _ _ fz, ?_⟩
    have s1 := fin _ a.1
    have eM : (upd H1 D (.dK kvs)) M = some (.lst ((keys (out U ns)).map V.str)) := acc_lock a fz
    generalize upd H1 D (.dK kvs) = H2 at s1 eM ⊢
    have ln2 := ln.same s1
    have olen : (keys (out U ns)).length < 60 := by
      have h1 : (out U ns).length ≤ U.length := List.length_filter_le ..
      rw [List.length_map]
      omega
    have lo : LN H2 D n M U R (keys (out U ns)) := ⟨ln2.lr, eM, olen, out_sub ln.lr.pm, n0, n1⟩
    have fin2 : ∀ b, isApart n R ns = b → ∀ H', Same H2 H' → Q (.bl b) H' := fun b e H' s' => by
      rw [← e]
      exact k _ (s1.trans s')
    have ap : isApart n R ns = (!ns.isEmpty && !(keys (out U ns)).isEmpty && apart2 n (lives (sel R ns)) (lives (out R ns))) := by
      unfold isApart
      rw [sel_nil ln.sub, out_nil ln.lr.pm]
    refine ⟨_, rfl, n_line, fun p np => ?_⟩
    obtain ⟨H3, z3, s3, e3⟩ := mk_at (o := .lst []) np
    rw [z3]
    refine ⟨N, p, _, rfl, rfl, (ln2.same s3).eN, e3, _, rfl, ?_⟩
    cases c1 : ns.isEmpty with
    | true =>
      refine iteTe (by rw [List.isEmpty_map]; exact c1) (iteTe rfl ?_)
      exact fin2 _ (by rw [ap, c1]; rfl) _ s3
    | false =>
    refine iteFe (by rw [List.isEmpty_map]; exact c1) ⟨_, rfl, n_line, fun p2 np2 => ?_⟩
    obtain ⟨H4, z4, s4, e4⟩ := mk_at (o := .lst []) np2
    rw [z4]
    have s24 := s3.trans s4
    refine ⟨M, p2, _, rfl, rfl, (lo.same s24).eN, e4, _, rfl, ?_⟩
    cases c2 : (keys (out U ns)).isEmpty with
    | true =>
      refine iteTe (by rw [List.isEmpty_map]; exact c2) ?_
      exact fin2 _ (by rw [ap, c1, c2]; rfl) _ s24
    | false =>
    refine iteFe (by rw [List.isEmpty_map]; exact c2) ?_
    have ap : isApart n R ns = apart2 n (lives (sel R ns)) (lives (out R ns)) := by rw [ap, c1, c2]; rfl
    refine ⟨_, rfl, n, rfl, by omega, by omega, for_range (n := n) (fun i σ H' => ∃ v4 v5, σ = [some (.ref D), some (.int n), some (.ref N), some (.ref M), v4, v5] ∧ Same H2 H' ∧ ∀ j : Nat, j < i → (isFull n (lives (sel R ns)) j || isFull n (lives (out R ns)) j) = true) ⟨_, _, rfl, s24, fun j h => absurd h (by omega)⟩ ?_ ?_⟩
    · rintro i σ H5 hi ⟨v4, v5, rfl, s5, ok⟩
      rw [Int.zero_add]
      refine ⟨_, rfl, _, rfl, _, rfl, _, rfl, D, n, N, (i : Int), U, R, ns, rfl, ln2.same s5, by omega, by omega, fun H6 s6 => ⟨_, rfl, ?_⟩⟩
      cases ca : isFull n (lives (sel R ns)) i with
      | true =>
        refine iteFe rfl (iteFe rfl ⟨_, _, rfl, s5.trans s6, fun j hj => ?_⟩)
        rcases Nat.lt_succ_iff_lt_or_eq.mp hj with h | rfl
        · exact ok j h
        · rw [ca]; rfl
      | false =>
        refine iteTe rfl ⟨_, rfl, _, rfl, _, rfl, _, rfl, D, n, M, (i : Int), U, R, _, rfl, (lo.same s5).same s6, by omega, by omega, fun H7 s7 => ⟨_, rfl, ?_⟩⟩
        rw [sel_out ln.lr.pm]
        cases cb : isFull n (lives (out R ns)) i with
        | true =>
          refine iteFe rfl ⟨_, _, rfl, s5.trans (s6.trans s7), fun j hj => ?_⟩
          rcases Nat.lt_succ_iff_lt_or_eq.mp hj with h | rfl
          · exact ok j h
          · rw [ca, cb]; rfl
        | false =>
          refine iteTe rfl ?_
          refine fin2 _ ?_ _ (s5.trans (s6.trans s7))
          rw [ap]
          unfold apart2
          rw [List.all_eq_false]
          refine ⟨false, List.mem_map.mpr ⟨i, List.mem_range.mpr hi, by rw [ca, cb]; rfl⟩, by simp⟩
    · rintro σ H5 ⟨v4, v5, rfl, s5, ok⟩
      refine fin2 _ ?_ _ s5
      rw [ap]
      unfold apart2
      rw [List.all_eq_true]
      intro b hb
      obtain ⟨j, hj, rfl⟩ := List.mem_map.mp hb
      exact ok j (List.mem_range.mp hj)
end
end K56
/-! what repr tells of data, built up from its parts -/
namespace L2.My
open PySem PySem.Spec PyProof.Rows L2
theorem told_int {i : Int} (h : i.natAbs < 2 ^ 1900) : Told (.int i) 0 1921 := by
  have z : i.natAbs.log2 < 1900 := PySem.Flt.log2_lt_of (by decide : 0 < 1900) h
  refine ⟨?_, by simp [PyData.hasDict], by simp [PyData.depth], PyProof.Rows.int_text_len_1921 (by omega)⟩
  rw [PyData.showable]
  exact decide_eq_true (by omega)
theorem told_bl (b : Bool) : Told (.bool b) 0 1921 := ⟨by simp [PyData.showable], by simp [PyData.hasDict], by simp [PyData.depth], Nat.le_trans (m := 5) (by cases b <;> decide +kernel) (by decide)⟩
theorem told_str {x : Str} (h : (PyData.str x).shown.length ≤ 1921) : Told (.str x) 0 1921 := ⟨by simp [PyData.showable], by simp [PyData.hasDict], by simp [PyData.depth], h⟩
theorem Told.up {d : PyData} {n c m e : Nat} (t : Told d n c) (h : n ≤ m := by decide) (g : c ≤ e := by decide) : Told d m e := ⟨t.sh, t.nd, Nat.le_trans t.dp h, Nat.le_trans t.le g⟩
theorem told_all {n c : Nat} : ∀ ds : List PyData, (∀ d ∈ ds, Told d n c) → PyData.showableAll ds = true ∧ PyData.hasDictAll ds = false ∧ PyData.depthAll ds ≤ n ∧ piled (PyData.shownAll ds) ≤ ds.length * (c + 2)
  | [], _ => by simp [PyData.showableAll, PyData.hasDictAll, PyData.depthAll, PyData.shownAll, piled]
  | d :: ds, h => by
    have t := h d (List.mem_cons_self ..)
    obtain ⟨g2, g3, g4, g5⟩ := told_all ds fun z hz => h z (List.mem_cons_of_mem _ hz)
    refine ⟨by simp [PyData.showableAll, t.sh, g2], by simp [PyData.hasDictAll, t.nd, g3], ?_, ?_⟩
    · rw [PyData.depthAll]
      exact Nat.max_le.mpr ⟨t.dp, g4⟩
    · rw [PyData.shownAll, piled_cons, List.length_cons, Nat.succ_mul]
      have := t.le
      omega
theorem told_list {n c : Nat} {ds : List PyData} (h : ∀ d ∈ ds, Told d n c) : Told (.list ds) (n + 1) (2 + ds.length * (c + 2)) := by
  obtain ⟨g2, g3, g4, g5⟩ := told_all ds h
  refine ⟨by simpa [PyData.showable] using g2, by simpa [PyData.hasDict] using g3, ?_, ?_⟩
  · rw [PyData.depth]
    omega
  · rw [PyData.shown]
    have := listText_up (PyData.shownAll ds)
    omega
theorem told_tup {n c : Nat} {ds : List PyData} (h : ∀ d ∈ ds, Told d n c) : Told (.tuple ds) (n + 1) (3 + ds.length * (c + 2)) := by
  obtain ⟨g2, g3, g4, g5⟩ := told_all ds h
  refine ⟨by simpa [PyData.showable] using g2, by simpa [PyData.hasDict] using g3, ?_, ?_⟩
  · rw [PyData.depth]
    omega
  · rw [PyData.shown]
    have := tupleText_up (PyData.shownAll ds)
    omega
end L2.My
namespace L2
theorem Room.u70 {k : Nat} {A : PySem.Around} (r : Room k A) : A.units + 70 < PySem.cLine := by have := r.un; omega
end L2
namespace K56
open PySem L2
open L2.My
open Liv
/-! ### what a roll of the cup keeps -/
theorem ButX.lv {C c x n dx D N : Addr} {H H' : Hp} {R : List Row} {xs : List V} (b : ButX c H H') (ec : H c = some (.lst xs)) (l : LvAt C H x n R dx D N) : LvAt C H' x n R dx D N := by
  obtain ⟨kvs, eD, rv⟩ := l.rows
  exact ⟨b _ _ (ne_of l.ob ec (fun z => by cases z)) l.ob, ⟨kvs, b _ _ (ne_of eD ec (fun z => by cases z)) eD, rv.mono fun t l e => b _ _ (ne_of e ec (fun z => by cases z)) e⟩, b _ _ (ne_of l.names ec (fun z => by cases z)) l.names, l.ord, l.ok, l.n0, l.n1⟩
theorem ButX.lives {C c x n : Addr} {H H' : Hp} {R : List Row} {xs : List V} (b : ButX c H H') (ec : H c = some (.lst xs)) (l : LivesAt C H x n R) : LivesAt C H' x n R := by
  obtain ⟨dx, D, N, l⟩ := l
  exact ⟨dx, D, N, b.lv ec l⟩
theorem ButX.lr {c D n : Addr} {H H' : Hp} {U R : List Row} {xs : List V} (b : ButX c H H') (ec : H c = some (.lst xs)) (l : LR H D n U R) : LR H' D n U R := by
  obtain ⟨kvs, eD, rv⟩ := l.at_
  exact ⟨⟨kvs, b _ _ (ne_of eD ec (fun z => by cases z)) eD, rv.mono fun t l e => b _ _ (ne_of e ec (fun z => by cases z)) e⟩, l.dr, l.pm, l.so⟩
theorem CupAt.lst {H : Hp} {c : Addr} {m : Nat} (h : CupAt H c m) : ∃ xs, H c = some (.lst xs) := by
  obtain ⟨_, _, _, e, _⟩ := h
  exact ⟨_, e⟩
/-! ### counts are small -/
theorem sumA_b {H : Hp} {D n : Nat} {U R : List Row} (l : LR H D n U R) (n0 : 0 < n) (ns : List Str) (t : Int) : 0 ≤ sumA n (lives (sel R ns)) t ∧ sumA n (lives (sel R ns)) t ≤ 48 := by
  have a := vals_len n0 t (sel R ns) fun r m => (l.sel_lt ns r m).1
  have b := vals_few n0 t (sel R ns) (l.sel_lt ns)
  have c := Nat.le_trans (sel_len R ns) l.few
  omega
theorem sumX_b {H : Hp} {D n : Nat} {U R : List Row} (l : LR H D n U R) (n0 : 0 < n) (ns : List Str) (t : Int) : 0 ≤ sumX n (lives (sel R ns)) t ∧ sumX n (lives (sel R ns)) t ≤ 48 := by
  have a := across_len n0 t (sel_ord l.ord ns).nd fun r m => (l.sel_lt ns r m).1
  have b := vals_few n0 (t - 1) (sel R ns) (l.sel_lt ns)
  have c := Nat.le_trans (sel_len R ns) l.few
  have d : ((vals n (sel R ns) (t - 1)).filter fun p => decide (p ∈ vals n (sel R ns) t)).length ≤ (vals n (sel R ns) (t - 1)).length := List.length_filter_le ..
  omega
theorem most_b {H : Hp} {D n : Nat} {U R : List Row} (l : LR H D n U R) (n0 : 0 < n) (ns : List Str) : 0 ≤ Liv.most n (lives (sel R ns)) ∧ Liv.most n (lives (sel R ns)) ≤ 48 := by
  refine ⟨(le_foldl_max _ 0).1, foldl_max_le _ 0 (by decide) fun x hx => ?_⟩
  obtain ⟨s, _, rfl⟩ := List.mem_map.mp hx
  exact (sumA_b l n0 ns s).2
theorem i48 {i : Int} (h : 0 ≤ i ∧ i ≤ 48) : i.natAbs < 2 ^ 1900 := Nat.lt_of_le_of_lt (m := 48) (by omega) (by decide +kernel)
theorem sel_keys_all (R : List Row) : sel R (keys R) = R := sel_all fun _ h => h
theorem sel_same (R : List Row) {ns ms : List Str} (h : ∀ x, x ∈ ns ↔ x ∈ ms) : sel R ns = sel R ms := by
  unfold sel
  exact List.filter_congr fun r _ => decide_eq_decide.mpr (h r.1)
theorem told4 {a b d : Int} {c : Bool} (ha : 0 ≤ a ∧ a ≤ 48) (hb : 0 ≤ b ∧ b ≤ 48) (hd : 0 ≤ d ∧ d ≤ 48) : Told (.list [.int a, .int b, .bool c, .int d]) 1 7694 := told_list (c := 1921) (n := 0) fun x hx => by
  simp only [List.mem_cons, List.not_mem_nil, or_false] at hx
  rcases hx with rfl | rfl | rfl | rfl
  · exact told_int (i48 ha)
  · exact told_int (i48 hb)
  · exact told_bl c
  · exact told_int (i48 hd)
theorem told6 {a b d : Int} {c e f : Bool} (ha : 0 ≤ a ∧ a ≤ 48) (hb : 0 ≤ b ∧ b ≤ 48) (hd : 0 ≤ d ∧ d ≤ 48) : Told (.list [.int a, .int b, .bool c, .int d, .bool e, .bool f]) 1 11540 := told_list (c := 1921) (n := 0) fun x hx => by
  simp only [List.mem_cons, List.not_mem_nil, or_false] at hx
  rcases hx with rfl | rfl | rfl | rfl | rfl | rfl
  · exact told_int (i48 ha)
  · exact told_int (i48 hb)
  · exact told_bl c
  · exact told_int (i48 hd)
  · exact told_bl e
  · exact told_bl f
theorem sl_of (c : Nat) (h : c ≤ 20000 := by decide) : c ≤ sizeLine := Nat.le_trans h (by decide)
theorem sl_n {n : Nat} (h : n ≤ 1000) : n ≤ sizeLine := Nat.le_of_lt (lt_line h)
theorem most_nil (n : Nat) : Liv.most n [] = 0 := by
  have a := (le_foldl_max (counts n []) 0).1
  have b := foldl_max_le (counts n []) 0 (Int.le_refl 0) fun x hx => by
    obtain ⟨s, _, rfl⟩ := List.mem_map.mp hx
    exact Int.le_refl 0
  unfold Liv.most
  omega
theorem sel_none (R : List Row) : sel R [] = [] := by simp [sel]
theorem cut2 (x y : V) (r : List V) : cutV (x :: y :: r) none (some 2) = [x, y] := by
  unfold cutV
  simp [HT.sIx]
/-- a star method's promise, as its caller keeps it -/
theorem star_tick {C : Addr} {f : Nat → List Row → List Str → Int → V} {H : Hp} {x n : Nat} {R : List Row} {t : Int} {ns : List Str} {v : V} {Q : VK} {E : XK} (lv : LivesAt C H x n R) (sub : ∀ s ∈ ns, s ∈ keys R) (t0 : -great < t) (t1 : t < great) (few : ns.length ≤ 100) (ev : f n R ns t = v) (k : ∀ H', Same H H' → Q v H') :
    spStar 2 (spTick C f) (.ref x :: .int t :: ns.map V.str) H Q E :=
  ⟨[.ref x, .int t], ns.map V.str, rfl, rfl, Nat.le_of_lt (lt_line (by rw [List.length_map]; omega)), fun p np => ⟨x, n, R, t, p, ns, rfl, lv.same (grow np), upd_same, sub, t0, t1, fun H' s' => by rw [ev]; exact k H' ((grow np).trans s')⟩⟩
theorem star_names {C : Addr} {f : Nat → List Row → List Str → V} {H : Hp} {x n : Nat} {R : List Row} {ns : List Str} {v : V} {Q : VK} {E : XK} (lv : LivesAt C H x n R) (sub : ∀ s ∈ ns, s ∈ keys R) (few : ns.length ≤ 100) (ev : f n R ns = v) (k : ∀ H', Same H H' → Q v H') :
    spStar 1 (spNames C f) (.ref x :: ns.map V.str) H Q E :=
  ⟨[.ref x], ns.map V.str, rfl, rfl, Nat.le_of_lt (lt_line (by rw [List.length_map]; omega)), fun p np => ⟨x, n, R, p, ns, rfl, lv.same (grow np), upd_same, sub, fun H' s' => by rw [ev]; exact k H' ((grow np).trans s')⟩⟩
/-- a generator method -/
structure Gn (P : Program) (w : World) (K : PySem.W.Frag) (mg : Str → Option Value) (base : Heap) (C : Addr) (x : Str) (ps : List Str) (k : Nat) (sp : SpG) (f : Addr) (fd : FuncData) : Prop where
  G : GFn P w K mg base k f fd ps sp
  m : Meth K C x f
  b : Binds K fd ps []
section
variable {P : Program} {w : World} {K : PySem.W.Frag} {mg : Str → Option Value} {base : Heap}
def spLCounts (C : Addr) : Sp := fun vs H Q _ => ∃ (c x D n m : Nat) (U R : List Row), vs = [.ref c, .ref x, .ref D, .int n] ∧ CupAt H c m ∧ m ≤ 5000 ∧ LivesAt C H x n R ∧ LR H D n U R ∧ 0 < n ∧ n ≤ 6 ∧ ∀ H', ButX c H H' → CupAt H' c (m + 20) → Q (.bl true) H'
abbrev lCounts : Stmt := top 40
abbrev n_cr : List Str := ["_law_cup_here", "_law_lives", "_law_rows_here", "_law_interval", "_law_tick", "_law_names", "_law_every", "_law_told", "_law_due", "_law_one", "_law_other", "_law_some"]
theorem sl_cr : FnScope n_cr ["_law_cup_here", "_law_lives", "_law_rows_here", "_law_interval"] (defScope lCounts) := ⟨rfl, rfl, rfl, by decide +kernel, rfl, by decide +kernel, by decide +kernel⟩
theorem ok_cr {f ffe fro fla fva flf2 flm flp : Addr} {fd fdfe fdro fdla fdva fdlf2 fdlm fdlp : FuncData} (F : Fun K "_law_counts_right" "_law_counts_right" lCounts f fd) {C fEA fAl fAc fFu fMf fAp aM gM : Addr} {fdEA fdM : FuncData} (T : Txt mg) (X : CTxt K C) (nEA : Gn P w K mg base C "each_alive" ["self", "tick"] 4 (spEach C) fEA fdEA) (nAl : Vn P w K mg base C "alive" 4 (spStar 2 (spTick C fAlive)) fAl) (nAc : Vn P w K mg base C "across" 4 (spStar 2 (spTick C fAcross)) fAc) (nFu : Vn P w K mg base C "is_full" 4 (spStar 2 (spTick C fFull)) fFu) (nMf : Vn P w K mg base C "most_of" 3 (spStar 1 (spNames C fMost)) fMf) (nAp : Vn P w K mg base C "is_apart" 4 (spStar 1 (spNames C fApart)) fAp) (pM : Pn P w K mg base C "most" (spGet C (fun n R => .int (Liv.most n (lives R)))) aM gM fdM) (dfe : Dn P w K mg base CX0 "_law_few" ["_law_cup_here", "_law_items", "_law_many"] 2 spFew ffe fdfe) (dro : Dn P w K mg base CX0 "_law_roll" ["_law_cup_here", "_law_total"] 1 spRoll fro fdro) (dla : Dn P w K mg base CX0 "_law_across" ["_law_rows_here", "_law_interval", "_law_moment", "_law_names"] 2 spLAcross fla fdla) (dva : Dn P w K mg base CX0 "_law_values" ["_law_rows_here", "_law_interval", "_law_tick", "_law_names"] 1 spVals fva fdva) (dlf2 : Dn P w K mg base CX0 "_law_is_full" ["_law_rows_here", "_law_interval", "_law_moment", "_law_names"] 3 spLFull flf2 fdlf2) (dlm : Dn P w K mg base CX0 "_law_most" ["_law_rows_here", "_law_interval", "_law_names"] 2 spLMost flm fdlm) (dlp : Dn P w K mg base CX0 "_law_is_apart" ["_law_rows_here", "_law_interval", "_law_names"] 4 spLApart flp fdlp) : FnG P w K mg base 9 f fd ["_law_cup_here", "_law_lives", "_law_rows_here", "_law_interval"] (spLCounts C) := by
  refine L2.My.Fun.okG F sl_cr (fun vs H Q E h => ?_) (fun cdv A outer s H vs Q E _ hr gd h => ?_)
  · obtain ⟨c, x, D, n, m, U, R, rfl, _⟩ := h
    rfl
  · obtain ⟨c, x, D, n, m, U, R, rfl, cup, mm, lv, lr, n0, n6, k⟩ := h
    have hr1 : Room 1 _ := hr.mono (by decide)
    have hr2 : Room 2 _ := hr.mono (by decide)
    have hr3 : Room 3 _ := hr.mono (by decide)
    have hr4 : Room 4 _ := hr.mono (by decide)
    have hr7 : Room 7 _ := hr.mono (by decide)
    refine ⟨_, pss_cons (ps_par (i := 4) (j := 5) rfl sl_cr.nd rfl rfl (by decide) rfl rfl (pa_cons (pe_op op_sub (pe_call dro.G hr1 rfl dro.g dro.kp dro.b .nil pass0 (pa_cons (pv 0) (pa_cons (pe_op op_mulW pe_int (pv 3)) pa_nil))) (pe_op op_mulW pe_int (pv 3))) (pa_cons (pe_call dfe.G hr2 rfl dfe.g dfe.kp dfe.b .nil pass0 (pa_cons (pv 0) (pa_cons (pe_callB (call_sortedD rfl) (by rfl) T.sorted (by decide +kernel) (pa_cons (pv 2) pa_nil)) (pa_cons (pe_call dro.G hr1 rfl dro.g dro.kp dro.b .nil pass0 (pa_cons (pv 0) (pa_cons pe_int pa_nil))) pa_nil)))) pa_nil)) (by rfl)) (pss_cons (ps_set (i := 6) sl_cr.nd rfl (.inl rfl) (pe_callB (call_sortedD rfl) (by rfl) T.sorted (by decide +kernel) (pa_cons (pv 2) pa_nil))) (pss_cons (ps_set (i := 7) sl_cr.nd rfl (.inl rfl) (pe_lst (pa_cons (pe_methR (pv 1) X.cl nAl.m nAl.G hr4 pass0 (pa_cons (pv 4) pa_nil)) (pa_cons (pe_methR (pv 1) X.cl nAc.m nAc.G hr4 pass0 (pa_cons (pv 4) pa_nil)) (pa_cons (pe_methR (pv 1) X.cl nFu.m nFu.G hr4 pass0 (pa_cons (pv 4) pa_nil)) (pa_cons (pe_prop (pv 1) X.cl pM.h pM.G hr2 pM.b .nil pass0 rfl) pa_nil)))))) (pss_cons (ps_set (i := 8) sl_cr.nd rfl (.inl rfl) (pe_lst (pa_cons (pe_callB call_len_seq (by rfl) T.len PySem.boot_len (pa_cons (pe_call dva.G hr1 rfl dva.g dva.kp dva.b .nil pass0 (pa_cons (pv 2) (pa_cons (pv 3) (pa_cons (pv 4) (pa_cons (pv 6) pa_nil))))) pa_nil)) (pa_cons (pe_call dla.G hr2 rfl dla.g dla.kp dla.b .nil pass0 (pa_cons (pv 2) (pa_cons (pv 3) (pa_cons (pv 4) (pa_cons (pv 6) pa_nil))))) pa_nil)))) (pss_cons (ps_expr (pe_bm PySem.F.plainAttrs_list PySem.F.slot_list_append PySem.F.type_list_append mt_append (pv 8) (pa_cons (pe_call dlf2.G hr3 rfl dlf2.g dlf2.kp dlf2.b .nil pass0 (pa_cons (pv 2) (pa_cons (pv 3) (pa_cons (pv 4) (pa_cons (pv 6) pa_nil))))) pa_nil))) (pss_cons (ps_if (pt_cmpR op_ne (pe_callB (call_repr gd hr.u70) (by rfl) T.repr (by decide +kernel) (pa_cons (pv 7) pa_nil)) (pe_callB (call_repr gd hr.u70) (by rfl) T.repr (by decide +kernel) (pa_cons (pe_op op_cat (pv 8) (pe_lst (pa_cons (pe_call dlm.G hr2 rfl dlm.g dlm.kp dlm.b .nil pass0 (pa_cons (pv 2) (pa_cons (pv 3) (pa_cons (pv 6) pa_nil)))) pa_nil))) pa_nil)) (nomark _)) (pss_one (ps_ret pe_bl)) pss_nil) (pss_cons (ps_if (pt_cmpR ((op_neD hr.units)) (pe_listG (pgen_meth (pv 1) X.cl nEA.m nEA.G hr4 nEA.b .nil (pa_cons (pv 4) pa_nil)) passL (fun _ _ _ h => h.elim) hr7 (by rfl) T.list (by decide +kernel)) (pe_call dva.G hr1 rfl dva.g dva.kp dva.b .nil pass0 (pa_cons (pv 2) (pa_cons (pv 3) (pa_cons (pv 4) (pa_cons (pv 6) pa_nil))))) (nomark _)) (pss_one (ps_ret pe_bl)) pss_nil) (pss_cons (ps_asg (pe_ifExp (pt_cmpR (op_neNil (Room.u0 hr)) (pv 5) (pe_lst pa_nil) (nomark _)) (pe_slice sl_list (pe_op op_cat (pe_op op_cat (pv 5) (pv 5)) (pv 6)) po_none (po_some pe_int)) (pe_tup (pa_cons pe_str (pa_cons pe_str pa_nil)))) (pg_seq rfl (pgs_cons (pg_name (i := 9) sl_cr.nd rfl (.inl rfl)) (pgs_cons (pg_name (i := 10) sl_cr.nd rfl (.inl rfl)) pgs_nil)))) (pss_cons (ps_if (PW.pt (pw_and (pt_cmpR op_ne (pv 9) pe_str (nomark _)) (pw_and1 (pt_cmpR op_ne (pv 10) pe_str (nomark _))))) (pss_cons (ps_set (i := 7) sl_cr.nd rfl (.inl rfl) (pe_lst (pa_cons (pe_methR (pv 1) X.cl nAl.m nAl.G hr4 pass0 (pa_cons (pv 4) (pa_cons (pv 9) (pa_cons (pv 10) (pa_cons (pv 9) pa_nil))))) (pa_cons (pe_methR (pv 1) X.cl nAc.m nAc.G hr4 pass0 (pa_cons (pv 4) (pa_cons (pv 9) (pa_cons (pv 10) pa_nil)))) (pa_cons (pe_methR (pv 1) X.cl nFu.m nFu.G hr4 pass0 (pa_cons (pv 4) (pa_cons (pv 9) (pa_cons (pv 10) pa_nil)))) pa_nil))))) (pss_cons (ps_set (i := 7) sl_cr.nd rfl (.inl rfl) (pe_op op_cat (pv 7) (pe_lst (pa_cons (pe_methR (pv 1) X.cl nMf.m nMf.G hr3 pass0 (pa_cons (pv 9) (pa_cons (pv 10) (pa_cons (pv 10) pa_nil)))) (pa_cons (pe_methR (pv 1) X.cl nAp.m nAp.G hr4 pass0 (pa_cons (pv 9) (pa_cons (pv 10) pa_nil))) (pa_cons (pe_methR (pv 1) X.cl nAp.m nAp.G hr4 pass0 (pa_cons (pv 10) pa_nil)) pa_nil)))))) (pss_cons (ps_set (i := 11) sl_cr.nd rfl (.inl rfl) (pe_lst (pa_cons (pv 9) (pa_cons (pv 10) pa_nil)))) (pss_cons (ps_set (i := 8) sl_cr.nd rfl (.inl rfl) (pe_lst (pa_cons (pe_callB call_len_seq (by rfl) T.len PySem.boot_len (pa_cons (pe_call dva.G hr1 rfl dva.g dva.kp dva.b .nil pass0 (pa_cons (pv 2) (pa_cons (pv 3) (pa_cons (pv 4) (pa_cons (pv 11) pa_nil))))) pa_nil)) (pa_cons (pe_call dla.G hr2 rfl dla.g dla.kp dla.b .nil pass0 (pa_cons (pv 2) (pa_cons (pv 3) (pa_cons (pv 4) (pa_cons (pv 11) pa_nil))))) pa_nil)))) (pss_cons (ps_set (i := 8) sl_cr.nd rfl (.inl rfl) (pe_op op_cat (pv 8) (pe_lst (pa_cons (pe_call dlf2.G hr3 rfl dlf2.g dlf2.kp dlf2.b .nil pass0 (pa_cons (pv 2) (pa_cons (pv 3) (pa_cons (pv 4) (pa_cons (pv 11) pa_nil))))) (pa_cons (pe_call dlm.G hr2 rfl dlm.g dlm.kp dlm.b .nil pass0 (pa_cons (pv 2) (pa_cons (pv 3) (pa_cons (pv 11) pa_nil)))) pa_nil))))) (pss_cons (ps_set (i := 8) sl_cr.nd rfl (.inl rfl) (pe_op op_cat (pv 8) (pe_lst (pa_cons (pe_call dlp.G hr4 rfl dlp.g dlp.kp dlp.b .nil pass0 (pa_cons (pv 2) (pa_cons (pv 3) (pa_cons (pv 11) pa_nil)))) (pa_cons (pe_call dlp.G hr4 rfl dlp.g dlp.kp dlp.b .nil pass0 (pa_cons (pv 2) (pa_cons (pv 3) (pa_cons (pe_lst (pa_cons (pv 10) pa_nil)) pa_nil)))) pa_nil))))) (pss_one (ps_if (pt_cmpR op_ne (pe_callB (call_repr gd hr.u70) (by rfl) T.repr (by decide +kernel) (pa_cons (pv 7) pa_nil)) (pe_callB (call_repr gd hr.u70) (by rfl) T.repr (by decide +kernel) (pa_cons (pv 8) pa_nil)) (nomark _)) (pss_one (ps_ret pe_bl)) pss_nil)))))))) pss_nil) (pss_one (ps_ret (pe_and (pe_cmpR op_eq (pe_methR0 (pv 1) X.cl nMf.m nMf.G hr3 pass0) pe_int (nomark _)) (pe_one (pe_cmpR op_isBl (pe_methR0 (pv 1) X.cl nAp.m nAp.G hr4 pass0) pe_bl (nomark _)))))))))))))), ?_⟩
    have n6b : B 6 (n : Int) := Bi (by have : (33 : Nat) ≤ 2 ^ 6 := by decide
                                       omega)
    obtain ⟨xc, ec⟩ := cup.lst
    refine ⟨_, rfl, _, rfl, _, _, rfl, rfl, B.ml (n := 4) Bd n6b, c, m, _, rfl, cup, by omega, by omega, Bsm (by omega) (by omega), fun r1 H1 b1 cup1 h1 => ?_⟩
    have lv1 := b1.lives ec lv
    have lr1 := b1.lr ec lr
    obtain ⟨xc1, ec1⟩ := cup1.lst
    obtain ⟨kvs, eD, rv⟩ := lr1.at_
    refine ⟨_, rfl, _, _, rfl, rfl, B.ml (n := 4) Bd n6b, _, _, rfl, rfl, _, rfl, _, rfl, D, kvs, keys U, rfl, .inl eD, rv.keys, ?_, fun ys S pm so nS => ?_⟩
    · rw [List.length_map]; have := lr.dr.few; omega
    obtain rfl : ys = keys R := sorted_one (pm.trans (lr.pm.map Prod.fst).symm) so lr.so
    obtain ⟨H2, z2, s2, e2⟩ := mk_at (o := .lst ((keys R).map V.str)) nS
    rw [z2]
    have Sc : S ≠ c := ne_of_none_some nS ec1
    refine ⟨_, rfl, c, _, 4, rfl, cup1.same s2, by omega, by decide, Bd, fun r2 H3 b3 cup3 h2 => ?_⟩
    have few8 := lr.few
    have kl : ((keys R).map V.str).length = R.length := by rw [List.length_map, List.length_map]
    refine ⟨c, S, _, _, r2, rfl, cup3, by rw [kl]; omega, b3 _ _ Sc e2, Sc, by rw [kl]; omega, by omega, fun F ys rest H4 b4 nF eF Fc pmF _ le cup4 => ?_⟩
    rw [kl] at cup4
    have b13 : ButX c H1 H3 := (ButX.of s2).trans b3
    have b14 : ButX c H1 H4 := b13.trans b4
    have b04 : ButX c H H4 := b1.trans b14
    have lv4 := b04.lives ec lv
    have lr4 := b04.lr ec lr
    obtain ⟨L1, hL1, pL1⟩ := perm_lift pmF rfl
    obtain ⟨ns, hns, sub0⟩ : ∃ ns : List Str, ys = ns.map V.str ∧ ns.Sublist L1 := by
      refine ⟨L1.take ys.length, ?_, List.take_sublist ..⟩
      rw [List.map_take, ← hL1, List.take_left]
    have sub : ∀ s ∈ ns, s ∈ keys R := fun s h => pL1.mem_iff.mp (sub0.mem h)
    subst hns
    rw [List.length_map] at le
    have ns3 : ns.length ≤ 3 := by omega
    refine ⟨_, _, rfl, ?_⟩
    have tk0 : -18 ≤ (r1 : Int) - 3 * n ∧ (r1 : Int) - 3 * n < 18 := by omega
    clear lv lr cup cup1 lv1 lr1 eD rv nS pm so e2 b3 cup3 b4 b13 b14 b1 ec ec1 z2 s2 mm
    have g1000 : (1000 : Int) < great := by decide
    have kf : (keys R).length < 60 := by rw [List.length_map]; omega
    obtain ⟨kvs, eD, rv⟩ := lr4.at_
    refine ⟨_, rfl, D, kvs, keys U, rfl, .inl eD, rv.keys, by rw [List.length_map]; have := lr4.dr.few; omega, fun ys S2 pm so nS => ?_⟩
    obtain rfl : ys = keys R := sorted_one (pm.trans (lr4.pm.map Prod.fst).symm) so lr4.so
    obtain ⟨H5, z5, s5, e5⟩ := mk_at (o := .lst ((keys R).map V.str)) nS
    rw [z5]
    try dsimp only [L2.start, List.set, List.map, List.length, List.replicate, List.append, List.cons_append, List.nil_append]
    have lv5 := lv4.same s5
    have ln5 : LN H5 D n S2 U R (keys R) := ⟨lr4.same s5, e5, kf, fun _ h => h, n0, by omega⟩
    have c0 : cnt R [] = R := if_pos rfl
    have e0 := sel_keys_all R
    have subN : ∀ s ∈ ([] : List Str), s ∈ keys R := fun _ h => by cases h
    have ins : ∀ {H : Hp}, LivesAt C H x n R → ∃ dx D N, H x = some (.ins C dx (flds n D N (lives R))) := fun l => by
      obtain ⟨dx, D, N, l⟩ := l
      exact ⟨dx, D, N, l.ob⟩
    obtain ⟨dx, D', N', ob5⟩ := ins lv5
    refine ⟨_, rfl, x, dx, _, rfl, ob5, rfl, _, rfl, star_tick (ns := []) (v := .int (sumA n (lives R) ((r1 : Int) - 3 * n))) lv5 subN (by omega) (by omega) (by decide) (by show V.int _ = _; rw [c0]) fun H6 s6 => ?_⟩
    refine ⟨_, rfl, x, dx, _, rfl, s6 _ _ ob5, rfl, _, rfl, star_tick (ns := []) (v := .int (sumX n (lives R) ((r1 : Int) - 3 * n))) (lv5.same s6) subN (by omega) (by omega) (by decide) (by show V.int _ = _; rw [c0]) fun H7 s7 => ?_⟩
    have s57 := s6.trans s7
    refine ⟨_, rfl, x, dx, _, rfl, s57 _ _ ob5, rfl, _, rfl, star_tick (ns := []) (v := .bl (isFull n (lives R) ((r1 : Int) - 3 * n))) (lv5.same s57) subN (by omega) (by omega) (by decide) (by show V.bl _ = _; rw [c0]) fun H8 s8 => ?_⟩
    have s58 := s57.trans s8
    refine ⟨_, rfl, x, dx, _, rfl, s58 _ _ ob5, x, n, R, rfl, lv5.same s58, n_line, fun T1 nT => ?_⟩
    obtain ⟨H9, z9, s9, e9⟩ := mk_at (o := .lst [.int (sumA n (lives R) ((r1 : Int) - 3 * n)), .int (sumX n (lives R) ((r1 : Int) - 3 * n)), .bl (isFull n (lives R) ((r1 : Int) - 3 * n)), .int (Liv.most n (lives R))]) nT
    rw [z9]
    try dsimp only [L2.start, List.set, List.map, List.length, List.replicate, List.append, List.cons_append, List.nil_append]
    have s59 := s58.trans s9
    have ln9 := ln5.same s59
    have lt9 := ln9.lr.sel_lt (keys R)
    refine ⟨_, rfl, _, rfl, _, rfl, _, rfl, D, n, S2, ((r1 : Int) - 3 * n), U, R, keys R, rfl, ln9.lr, ln9.eN, kf, ln9.sub, n0, by omega, by omega, by omega, fun V1 ys1 Ha sa nV1 eV1 pv1 => ?_⟩
    have vl : (ys1.length : Int) = sumA n (lives R) ((r1 : Int) - 3 * n) := by
      rw [Paired.length pv1, vals_len n0 _ _ fun r m => (lt9 r m).1, e0]
    rw [e0] at pv1
    refine ⟨V1, _, rfl, .inl (SqL.of eV1), _, rfl, _, rfl, _, rfl, _, rfl, D, n, S2, ((r1 : Int) - 3 * n), U, R, keys R, rfl, ln9.same sa, by omega, by omega, fun Hb sb => ⟨n_line, fun T2 nT2 => ?_⟩⟩
    rw [e0, vl]
    obtain ⟨Hc, zc, sc, ec⟩ := mk_at (o := .lst [.int (sumA n (lives R) ((r1 : Int) - 3 * n)), .int (sumX n (lives R) ((r1 : Int) - 3 * n))]) nT2
    rw [zc]
    try dsimp only [L2.start, List.set, List.map, List.length, List.replicate, List.append, List.cons_append, List.nil_append]
    have s9c := sa.trans (sb.trans sc)
    have lnc := ln9.same s9c
    have e9c := s9c _ _ e9
    refine ⟨_, rfl, .inl ⟨rfl, _, SqL.of ec⟩, _, rfl, _, rfl, _, rfl, _, rfl, D, n, S2, ((r1 : Int) - 3 * n), U, R, keys R, rfl, lnc, by omega, by omega, fun Hd sd => ?_⟩
    rw [e0]
    refine ⟨T2, _, _, rfl, rfl, sd _ _ ec, lt_line (by show 2 ≤ 1000; decide), ?_⟩
    obtain ⟨He, ze, kee, ee⟩ : ∃ He, upd Hd T2 (.lst [.int (sumA n (lives R) ((r1 : Int) - 3 * n)), .int (sumX n (lives R) ((r1 : Int) - 3 * n)), .bl (isFull n (lives R) ((r1 : Int) - 3 * n))]) = He ∧ (∀ b o, b ≠ T2 → Hd b = some o → He b = some o) ∧ He T2 = some (.lst [.int (sumA n (lives R) ((r1 : Int) - 3 * n)), .int (sumX n (lives R) ((r1 : Int) - 3 * n)), .bl (isFull n (lives R) ((r1 : Int) - 3 * n))]) := ⟨_, rfl, fun b o ne e => (upd_ne ne).trans e, upd_same⟩
    refine (?_ : (_ : L2.St → Hp → Prop) _ (upd Hd T2 (.lst [.int (sumA n (lives R) ((r1 : Int) - 3 * n)), .int (sumX n (lives R) ((r1 : Int) - 3 * n)), .bl (isFull n (lives R) ((r1 : Int) - 3 * n))])))
    rw [ze]
    have s9e : Same H9 He := fun b o e => kee _ _ (ne_of_none (sb _ _ (sa _ _ e)) nT2) (sd _ _ (sc _ _ (sb _ _ (sa _ _ e))))
    have lne := ln9.same s9e
    have bA := sumA_b lr4 n0 (keys R) ((r1 : Int) - 3 * n)
    have bX := sumX_b lr4 n0 (keys R) ((r1 : Int) - 3 * n)
    have bM := most_b lr4 n0 (keys R)
    rw [e0] at bA bX bM
    have td := told4 (c := isFull n (lives R) ((r1 : Int) - 3 * n)) bA bX bM
    have dpe : ∀ {H : Hp} {a : Addr}, H a = some (.lst [.int (sumA n (lives R) ((r1 : Int) - 3 * n)), .int (sumX n (lives R) ((r1 : Int) - 3 * n)), .bl (isFull n (lives R) ((r1 : Int) - 3 * n)), .int (Liv.most n (lives R))]) → Dp K H (.ref a) (.list [.int (sumA n (lives R) ((r1 : Int) - 3 * n)), .int (sumX n (lives R) ((r1 : Int) - 3 * n)), .bool (isFull n (lives R) ((r1 : Int) - 3 * n)), .int (Liv.most n (lives R))]) :=
      fun e => .lst (SqL.of e) (.cons (.int _) (.cons (.int _) (.cons (.bl _) (.cons (.int _) .nil))))
    refine ⟨_, rfl, _, _, rfl, dpe (s9e _ _ e9), td.sh, td.nd, Nat.le_trans td.dp (by decide), Nat.le_trans td.le (sl_of _), ?_⟩
    refine ⟨_, rfl, _, rfl, _, rfl, _, rfl, D, n, S2, U, R, keys R, rfl, lne, fun Hf sf => ⟨n_line, fun p np => ?_⟩⟩
    rw [e0]
    obtain ⟨Hg, zg, sg, eg⟩ := mk_at (o := .lst [.int (Liv.most n (lives R))]) np
    rw [zg]
    refine ⟨T2, p, _, _, rfl, rfl, sg _ _ (sf _ _ ee), eg, sl_n (by show 3 + 1 ≤ 1000; decide), fun q nq => ?_⟩
    obtain ⟨Hh, zh, sh, eh⟩ := mk_at (o := .lst [.int (sumA n (lives R) ((r1 : Int) - 3 * n)), .int (sumX n (lives R) ((r1 : Int) - 3 * n)), .bl (isFull n (lives R) ((r1 : Int) - 3 * n)), .int (Liv.most n (lives R))]) nq
    refine ⟨_, _, rfl, dpe (H := upd Hg q _) upd_same, td.sh, td.nd, Nat.le_trans td.dp (by decide), Nat.le_trans td.le (sl_of _), ?_⟩
    have seh : Same He (upd Hg q (.lst [.int (sumA n (lives R) ((r1 : Int) - 3 * n)), .int (sumX n (lives R) ((r1 : Int) - 3 * n)), .bl (isFull n (lives R) ((r1 : Int) - 3 * n)), .int (Liv.most n (lives R))])) := sf.trans (sg.trans (grow nq))
    refine ⟨rfl, _, rfl, iteFe (by simp) ?_⟩
    have lnh := lne.same seh
    have lvh := lv5.same (s59.trans (s9e.trans seh))
    clear z9 zc ze zg zh eh sh nq eg np e9 e9c ee kee nT nT2 eV1 nV1 sd
    refine (?_ : (_ : L2.St → Hp → Prop) _ (upd Hg q (.lst [.int (sumA n (lives R) ((r1 : Int) - 3 * n)), .int (sumX n (lives R) ((r1 : Int) - 3 * n)), .bl (isFull n (lives R) ((r1 : Int) - 3 * n)), .int (Liv.most n (lives R))])))
    have s5h := s59.trans (s9e.trans seh)
    generalize upd Hg q (.lst [.int (sumA n (lives R) ((r1 : Int) - 3 * n)), .int (sumX n (lives R) ((r1 : Int) - 3 * n)), .bl (isFull n (lives R) ((r1 : Int) - 3 * n)), .int (Liv.most n (lives R))]) = Hi at lnh lvh s5h ⊢
    have vf : (vals n R ((r1 : Int) - 3 * n)).length ≤ 1000 := by
      have := vals_few n0 ((r1 : Int) - 3 * n) R lr4.lt
      omega
    obtain ⟨dxi, Di, Ni, obi⟩ := ins lvh
    refine ⟨_, rfl, x, dxi, _, rfl, obi, rfl, _, rfl, x, n, R, ((r1 : Int) - 3 * n), rfl, lvh, by omega, by omega, vf, fun ws Hj sj pw p np => ?_⟩
    obtain ⟨Hk, zk, sk, ek⟩ := mk_at (o := .lst ws) np
    rw [zk]
    have sik := sj.trans sk
    have lnk := lnh.same sik
    refine ⟨_, rfl, _, rfl, _, rfl, _, rfl, D, n, S2, ((r1 : Int) - 3 * n), U, R, keys R, rfl, lnk.lr, lnk.eN, kf, lnk.sub, n0, by omega, by omega, by omega, fun V2 ys2 Hl sl2 nV2 eV2 pv2 => ?_⟩
    rw [e0] at pv2
    have kk := vals_key (n := n) (t := ((r1 : Int) - 3 * n)) lr4.key
    refine ⟨_, _, prs_dp (sl2 _ _ ek) (pw.same (sk.trans sl2)), prs_dp eV2 pv2, prs_shaped kk, prs_shaped kk, _, rfl, iteFe (by rw [shaped_refl (prs_shaped kk)]; rfl) ?_⟩
    have s5l := s5h.trans (sik.trans sl2)
    have lvl := lvh.same (sik.trans sl2)
    have lnl := lnh.same (sik.trans sl2)
    have eFl := s5l _ _ (s5 _ _ eF)
    clear sik sl2 sk sj eV2 pv2 nV2 np ek zk pw obi
    have fin : ∀ H', Same Hl H' → Q (.bl true) H' := fun H' s' => k _ (b04.trans (ButX.of (s5.trans (s5l.trans s')))) ((cup4.same (s5.trans (s5l.trans s'))).le (by omega))
    obtain ⟨dxl, Dl, Nl, obl⟩ := ins lvl
    refine ⟨_, rfl, n_line, fun p np => ?_⟩
    obtain ⟨Hm, zm, sm, em⟩ := mk_at (o := .lst []) np
    rw [zm]
    refine ⟨F, p, _, rfl, rfl, sm _ _ eFl, em, _, rfl, ?_⟩
    by_cases cn : ns = []
    · subst cn
      refine iteFe rfl ⟨n_line, fun q nq => ?_⟩
      obtain ⟨Hn, zn, sn, en⟩ := mk_at (o := .tup [.str "", .str ""]) nq
      rw [zn]
      try dsimp only [L2.start, List.set, List.map, List.length, List.replicate, List.append, List.cons_append, List.nil_append]
      refine .inl ⟨q, _, rfl, SqT.of en, rfl, _, _, rfl, _, _, rfl, rfl, ?_⟩
      refine ⟨_, rfl, rfl, _, rfl, iteFe (by simp) (iteFe rfl ?_)⟩
      have sln := sm.trans sn
      refine ⟨_, rfl, x, dxl, _, rfl, sln _ _ obl, rfl, star_names (ns := []) (v := .int 0) (lvl.same sln) subN (by decide) ?_ fun Ho so => ?_⟩
      · show V.int (Liv.most n (lives (sel R []))) = _
        rw [sel_none]
        exact congrArg V.int (most_nil n)
      refine ⟨rfl, _, rfl, iteTe (by simp) ?_⟩
      refine ⟨_, rfl, x, dxl, _, rfl, (sln.trans so) _ _ obl, rfl, star_names (ns := []) (v := .bl false) (lvl.same (sln.trans so)) subN (by decide) ?_ fun Hq sq => ?_⟩
      · show V.bl (isApart n R []) = _
        unfold isApart
        rw [sel_none]
        rfl
      refine ⟨_, _, rfl, rfl, ?_⟩
      exact fin _ (sln.trans (so.trans sq))
    · obtain ⟨a, b, tl, hab, ma, mb⟩ : ∃ a b tl, ns ++ ns = a :: b :: tl ∧ a ∈ ns ∧ b ∈ ns := by
        match ns, cn with
        | [a], _ => exact ⟨a, a, [], rfl, by simp, by simp⟩
        | a :: b :: r, _ => exact ⟨a, b, r ++ (a :: b :: r), rfl, by simp, by simp⟩
      have eF' := sm _ _ eFl
      have eS' := sm _ _ lnl.eN
      have l1 : (ns.map V.str).length ≤ 3 := by rw [List.length_map]; exact ns3
      refine iteTe (by cases ns with | nil => exact absurd rfl cn | cons _ _ => rfl) ?_
      refine ⟨_, rfl, _, rfl, F, F, _, _, rfl, rfl, eF', eF', sl_n (by omega), fun a1 na1 => ?_⟩
      obtain ⟨Hn, zn, sn, en⟩ := mk_at (o := .lst (ns.map V.str ++ ns.map V.str)) na1
      rw [zn]
      try dsimp only [L2.start, List.set, List.map, List.length, List.replicate, List.append, List.cons_append, List.nil_append]
      refine ⟨_, rfl, a1, S2, _, _, rfl, rfl, en, sn _ _ eS', sl_n (by rw [List.length_append]; rw [kl]; omega), fun a2 na2 => ?_⟩
      obtain ⟨Ho, zo, so, eo⟩ := mk_at (o := .lst (ns.map V.str ++ ns.map V.str ++ (keys R).map V.str)) na2
      rw [zo]
      refine ⟨2, rfl, a2, _, rfl, SqL.of eo, fun a3 na3 => ?_⟩
      have ect : cutV (ns.map V.str ++ ns.map V.str ++ (keys R).map V.str) none (some 2) = [.str a, .str b] := by
        rw [← List.map_append, hab]
        exact cut2 _ _ _
      rw [ect]
      obtain ⟨HP, zp, sp, ep⟩ := mk_at (o := .lst [.str a, .str b]) na3
      rw [zp]
      have slp := sm.trans (sn.trans (so.trans sp))
      refine .inr ⟨a3, _, rfl, SqL.of ep, rfl, _, _, rfl, _, _, rfl, rfl, ?_⟩
      have kka : ∀ y, y ∈ ns → y ≠ "" := fun y hy e => by
        obtain ⟨r, hr, er⟩ := List.mem_map.mp (sub y hy)
        have q := (lr4.key r hr).l1
        rw [er, e] at q
        exact absurd q (by decide)
      refine ⟨_, rfl, rfl, _, rfl, iteTe (by simp [kka a ma]) ⟨_, rfl, rfl, _, rfl, iteTe (by simp [kka b mb]) ?_⟩⟩
      have s5p := s5l.trans slp
      have lvp := lvl.same slp
      have lnp := lnl.same slp
      obtain ⟨dxp, Dp', Np, obp⟩ := ins lvp
      clear na1 na2 na3 zn zo zp en eo ep sp so sn sm eF' eS' zm em np
      have sab : ∀ s ∈ [a, b], s ∈ keys R := fun s h => by
        rcases List.mem_cons.mp h with rfl | h
        · exact sub _ ma
        · rw [List.mem_singleton] at h; rw [h]; exact sub _ mb
      have saba : ∀ s ∈ [a, b, a], s ∈ keys R := fun s h => sab s (by simp at h ⊢; rcases h with rfl | rfl | rfl <;> simp)
      have sabb : ∀ s ∈ [a, b, b], s ∈ keys R := fun s h => sab s (by simp at h ⊢; rcases h with rfl | rfl | rfl <;> simp)
      have sb1 : ∀ s ∈ [b], s ∈ keys R := fun s h => sab s (by simp at h ⊢; exact .inr h)
      have q1 : cnt R [a, b, a] = sel R [a, b] := (if_neg (by simp)).trans (sel_same R fun s => by
        simp only [List.mem_cons, List.not_mem_nil, or_false]
        exact ⟨fun h => by rcases h with h | h | h <;> simp [h], fun h => by rcases h with h | h <;> simp [h]⟩)
      have q2 : cnt R [a, b] = sel R [a, b] := if_neg (by simp)
      have q3 : sel R [a, b, b] = sel R [a, b] := sel_same R fun s => by simp
      refine ⟨_, rfl, x, dxp, _, rfl, obp, rfl, _, rfl, _, rfl, _, rfl, _, rfl, star_tick (ns := [a, b, a]) (v := .int (sumA n (lives (sel R [a, b])) ((r1 : Int) - 3 * n))) lvp saba (by omega) (by omega) (by show 3 ≤ 100; decide) (by show V.int _ = _; rw [q1]) fun J1 j1 => ?_⟩
      refine ⟨_, rfl, x, dxp, _, rfl, j1 _ _ obp, rfl, _, rfl, _, rfl, _, rfl, star_tick (ns := [a, b]) (v := .int (sumX n (lives (sel R [a, b])) ((r1 : Int) - 3 * n))) (lvp.same j1) sab (by omega) (by omega) (by show 2 ≤ 100; decide) (by show V.int _ = _; rw [q2]) fun J2 j2 => ?_⟩
      have j12 := j1.trans j2
      refine ⟨_, rfl, x, dxp, _, rfl, j12 _ _ obp, rfl, _, rfl, _, rfl, _, rfl, star_tick (ns := [a, b]) (v := .bl (isFull n (lives (sel R [a, b])) ((r1 : Int) - 3 * n))) (lvp.same j12) sab (by omega) (by omega) (by show 2 ≤ 100; decide) (by show V.bl _ = _; rw [q2]) fun J3 j3 => ⟨n_line, fun T3 nT3 => ?_⟩⟩
      have j13 := j12.trans j3
      obtain ⟨J4, y4, j4, g4⟩ := mk_at (o := .lst [.int (sumA n (lives (sel R [a, b])) ((r1 : Int) - 3 * n)), .int (sumX n (lives (sel R [a, b])) ((r1 : Int) - 3 * n)), .bl (isFull n (lives (sel R [a, b])) ((r1 : Int) - 3 * n))]) nT3
      rw [y4]
      try dsimp only [L2.start, List.set, List.map, List.length, List.replicate, List.append, List.cons_append, List.nil_append]
      have j14 := j13.trans j4
      refine ⟨_, rfl, _, rfl, x, dxp, _, rfl, j14 _ _ obp, rfl, _, rfl, _, rfl, _, rfl, star_names (ns := [a, b, b]) (v := .int (Liv.most n (lives (sel R [a, b])))) (lvp.same j14) sabb (by show 3 ≤ 100; decide) (by show V.int _ = _; rw [q3]) fun J5 j5 => ?_⟩
      have j15 := j14.trans j5
      refine ⟨_, rfl, x, dxp, _, rfl, j15 _ _ obp, rfl, _, rfl, _, rfl, star_names (ns := [a, b]) (v := .bl (isApart n R [a, b])) (lvp.same j15) sab (by show 2 ≤ 100; decide) rfl fun J6 j6 => ?_⟩
      have j16 := j15.trans j6
      refine ⟨_, rfl, x, dxp, _, rfl, j16 _ _ obp, rfl, _, rfl, star_names (ns := [b]) (v := .bl (isApart n R [b])) (lvp.same j16) sb1 (by show 1 ≤ 100; decide) rfl fun J7 j7 => ⟨n_line, fun u1 nu1 => ?_⟩⟩
      have j17 := j16.trans j7
      obtain ⟨J8, y8, j8, g8⟩ := mk_at (o := .lst [.int (Liv.most n (lives (sel R [a, b]))), .bl (isApart n R [a, b]), .bl (isApart n R [b])]) nu1
      rw [y8]
      refine ⟨T3, u1, _, _, rfl, rfl, (j5.trans (j6.trans (j7.trans j8))) _ _ g4, g8, sl_n (by show 3 + 3 ≤ 1000; decide), fun u2 nu2 => ?_⟩
      obtain ⟨J9, y9, j9, g9⟩ := mk_at (o := .lst ([.int (sumA n (lives (sel R [a, b])) ((r1 : Int) - 3 * n)), .int (sumX n (lives (sel R [a, b])) ((r1 : Int) - 3 * n)), .bl (isFull n (lives (sel R [a, b])) ((r1 : Int) - 3 * n))] ++ [.int (Liv.most n (lives (sel R [a, b]))), .bl (isApart n R [a, b]), .bl (isApart n R [b])])) nu2
      rw [y9]
      try dsimp only [L2.start, List.set, List.map, List.length, List.replicate, List.append, List.cons_append, List.nil_append]
      have g9 : J9 u2 = some (.lst [.int (sumA n (lives (sel R [a, b])) ((r1 : Int) - 3 * n)), .int (sumX n (lives (sel R [a, b])) ((r1 : Int) - 3 * n)), .bl (isFull n (lives (sel R [a, b])) ((r1 : Int) - 3 * n)), .int (Liv.most n (lives (sel R [a, b]))), .bl (isApart n R [a, b]), .bl (isApart n R [b])]) := g9
      have j19 := j17.trans (j8.trans j9)
      have lv9 := lvp.same j19
      have ln9 := lnp.same j19
      have s59' := s5p.trans j19
      clear y4 y8 y9 g4 g8 nu1 nu2 nT3 j8 j9 j17 j16 j15 j14 j13 j12 j7 j6 j5 j4 j3 j2 j1
      refine ⟨_, rfl, _, rfl, n_line, fun G nG => ?_⟩
      obtain ⟨Ja, ya, ja, ga⟩ := mk_at (o := .lst ([.str a, .str b])) nG
      rw [ya]
      try dsimp only [L2.start, List.set, List.map, List.length, List.replicate, List.append, List.cons_append, List.nil_append]
      have ga : Ja G = some (.lst ([a, b].map V.str)) := ga
      have lng : LN Ja D n G U R [a, b] := ⟨ln9.lr.same ja, ga, by show 2 < 60; decide, sab, n0, by omega⟩
      have ltg := lng.lr.sel_lt [a, b]
      refine ⟨_, rfl, _, rfl, _, rfl, _, rfl, D, n, G, ((r1 : Int) - 3 * n), U, R, [a, b], rfl, lng.lr, ga, lng.few, sab, n0, by omega, by omega, by omega, fun V3 ys3 Jb jb nV3 eV3 pv3 => ?_⟩
      have vl3 : (ys3.length : Int) = sumA n (lives (sel R [a, b])) ((r1 : Int) - 3 * n) := by
        rw [Paired.length pv3, vals_len n0 _ _ fun r m => (ltg r m).1]
      refine ⟨V3, _, rfl, .inl (SqL.of eV3), _, rfl, _, rfl, _, rfl, _, rfl, D, n, G, ((r1 : Int) - 3 * n), U, R, [a, b], rfl, lng.same jb, by omega, by omega, fun Jc jc => ⟨n_line, fun w1 nw1 => ?_⟩⟩
      rw [vl3]
      obtain ⟨Jd, yd, jd, gd'⟩ := mk_at (o := .lst [.int (sumA n (lives (sel R [a, b])) ((r1 : Int) - 3 * n)), .int (sumX n (lives (sel R [a, b])) ((r1 : Int) - 3 * n))]) nw1
      rw [yd]
      try dsimp only [L2.start, List.set, List.map, List.length, List.replicate, List.append, List.cons_append, List.nil_append]
      have jad := jb.trans (jc.trans jd)
      have lnd := lng.same jad
      refine ⟨_, rfl, _, rfl, _, rfl, _, rfl, _, rfl, D, n, G, ((r1 : Int) - 3 * n), U, R, [a, b], rfl, lnd, by omega, by omega, fun Je je => ?_⟩
      refine ⟨_, rfl, _, rfl, _, rfl, D, n, G, U, R, [a, b], rfl, lnd.same je, fun Jf jf => ⟨n_line, fun w2 nw2 => ?_⟩⟩
      obtain ⟨Jg, yg, jg, gg⟩ := mk_at (o := .lst [.bl (isFull n (lives (sel R [a, b])) ((r1 : Int) - 3 * n)), .int (Liv.most n (lives (sel R [a, b])))]) nw2
      rw [yg]
      have jdg := je.trans (jf.trans jg)
      refine ⟨w1, w2, _, _, rfl, rfl, jdg _ _ gd', gg, sl_n (by show 2 + 2 ≤ 1000; decide), fun w3 nw3 => ?_⟩
      obtain ⟨Jh, yh, jh, gh⟩ := mk_at (o := .lst ([.int (sumA n (lives (sel R [a, b])) ((r1 : Int) - 3 * n)), .int (sumX n (lives (sel R [a, b])) ((r1 : Int) - 3 * n))] ++ [.bl (isFull n (lives (sel R [a, b])) ((r1 : Int) - 3 * n)), .int (Liv.most n (lives (sel R [a, b])))])) nw3
      rw [yh]
      try dsimp only [L2.start, List.set, List.map, List.length, List.replicate, List.append, List.cons_append, List.nil_append]
      have gh : Jh w3 = some (.lst [.int (sumA n (lives (sel R [a, b])) ((r1 : Int) - 3 * n)), .int (sumX n (lives (sel R [a, b])) ((r1 : Int) - 3 * n)), .bl (isFull n (lives (sel R [a, b])) ((r1 : Int) - 3 * n)), .int (Liv.most n (lives (sel R [a, b])))]) := gh
      have lnh' := lnd.same (jdg.trans jh)
      refine ⟨_, rfl, _, rfl, _, rfl, _, rfl, D, n, G, U, R, [a, b], rfl, lnh', fun Ji ji => ?_⟩
      refine ⟨_, rfl, _, rfl, _, rfl, n_line, fun G2 nG2 => ?_⟩
      obtain ⟨Jj, yj, jj, gj⟩ := mk_at (o := .lst ([.str b])) nG2
      rw [yj]
      have gj : Jj G2 = some (.lst ([b].map V.str)) := gj
      refine ⟨D, n, G2, U, R, [b], rfl, ⟨(lnh'.same (ji.trans jj)).lr, gj, by show 1 < 60; decide, sb1, n0, by omega⟩, fun Jk jk => ⟨n_line, fun w4 nw4 => ?_⟩⟩
      obtain ⟨Jl, yl, jl, gl⟩ := mk_at (o := .lst [.bl (isApart n R [a, b]), .bl (isApart n R [b])]) nw4
      rw [yl]
      have jhl := ji.trans (jj.trans (jk.trans jl))
      refine ⟨w3, w4, _, _, rfl, rfl, jhl _ _ gh, gl, sl_n (by show 4 + 2 ≤ 1000; decide), fun w5 nw5 => ?_⟩
      have bA' := sumA_b lr4 n0 [a, b] ((r1 : Int) - 3 * n)
      have bX' := sumX_b lr4 n0 [a, b] ((r1 : Int) - 3 * n)
      have bM' := most_b lr4 n0 [a, b]
      have td6 := told6 (c := isFull n (lives (sel R [a, b])) ((r1 : Int) - 3 * n)) (e := isApart n R [a, b]) (f := isApart n R [b]) bA' bX' bM'
      have dp6 : ∀ {H : Hp} {q : Addr}, H q = some (.lst [.int (sumA n (lives (sel R [a, b])) ((r1 : Int) - 3 * n)), .int (sumX n (lives (sel R [a, b])) ((r1 : Int) - 3 * n)), .bl (isFull n (lives (sel R [a, b])) ((r1 : Int) - 3 * n)), .int (Liv.most n (lives (sel R [a, b]))), .bl (isApart n R [a, b]), .bl (isApart n R [b])]) → Dp K H (.ref q) (.list [.int (sumA n (lives (sel R [a, b])) ((r1 : Int) - 3 * n)), .int (sumX n (lives (sel R [a, b])) ((r1 : Int) - 3 * n)), .bool (isFull n (lives (sel R [a, b])) ((r1 : Int) - 3 * n)), .int (Liv.most n (lives (sel R [a, b]))), .bool (isApart n R [a, b]), .bool (isApart n R [b])]) :=
        fun e => .lst (SqL.of e) (.cons (.int _) (.cons (.int _) (.cons (.bl _) (.cons (.int _) (.cons (.bl _) (.cons (.bl _) .nil))))))
      have j9l : Same J9 Jl := ja.trans (jad.trans (jdg.trans (jh.trans jhl)))
      obtain ⟨Jm, ym, jw, gm⟩ := mk_at (o := .lst ([.int (sumA n (lives (sel R [a, b])) ((r1 : Int) - 3 * n)), .int (sumX n (lives (sel R [a, b])) ((r1 : Int) - 3 * n)), .bl (isFull n (lives (sel R [a, b])) ((r1 : Int) - 3 * n)), .int (Liv.most n (lives (sel R [a, b])))] ++ [.bl (isApart n R [a, b]), .bl (isApart n R [b])])) nw5
      rw [ym]
      have gm : Jm w5 = some (.lst [.int (sumA n (lives (sel R [a, b])) ((r1 : Int) - 3 * n)), .int (sumX n (lives (sel R [a, b])) ((r1 : Int) - 3 * n)), .bl (isFull n (lives (sel R [a, b])) ((r1 : Int) - 3 * n)), .int (Liv.most n (lives (sel R [a, b]))), .bl (isApart n R [a, b]), .bl (isApart n R [b])]) := gm
      refine ⟨_, rfl, _, _, rfl, dp6 (jw _ _ (j9l _ _ g9)), td6.sh, td6.nd, Nat.le_trans td6.dp (by decide), Nat.le_trans td6.le (sl_of _), ?_⟩
      refine ⟨_, rfl, _, _, rfl, dp6 gm, td6.sh, td6.nd, Nat.le_trans td6.dp (by decide), Nat.le_trans td6.le (sl_of _), ?_⟩
      refine ⟨rfl, _, rfl, iteFe (by rw [decide_eq_true rfl]; rfl) ?_⟩
      have slz := slp.trans (j19.trans (j9l.trans jw))
      refine ⟨_, rfl, x, dxl, _, rfl, slz _ _ obl, rfl, star_names (ns := []) (v := .int 0) (lvl.same slz) subN (by decide) ?_ fun Ho so => ?_⟩
      · show V.int (Liv.most n (lives (sel R []))) = _
        rw [sel_none]
        exact congrArg V.int (most_nil n)
      refine ⟨rfl, _, rfl, iteTe (by simp) ?_⟩
      refine ⟨_, rfl, x, dxl, _, rfl, (slz.trans so) _ _ obl, rfl, star_names (ns := []) (v := .bl false) (lvl.same (slz.trans so)) subN (by decide) ?_ fun Hq sq => ?_⟩
      · show V.bl (isApart n R []) = _
        unfold isApart
        rw [sel_none]
        rfl
      refine ⟨_, _, rfl, rfl, ?_⟩
      exact fin _ (slz.trans (so.trans sq))
end
end K56
namespace K56
open PySem L2
open L2.My
open Liv
/-! ### what is told of lives -/
def rwD (r : Row) : PyData := .tuple [.str r.1, lfD r.2]
def toldD (n : Nat) (R : List Row) : PyData := .list [.int n, .list (R.map rwD), .tuple ((keys R).map PyData.str), .int R.length]
theorem key_shown : ∀ k ∈ lawKeys, (PyData.str k).shown.length ≤ 1921 := by
  have a : ∀ k ∈ lawKeys, decide ((PyData.str k).shown.length ≤ 1921) = true := by decide +kernel
  exact fun k h => of_decide_eq_true (a k h)
theorem great_s {i : Int} (h0 : -great < i) (h1 : i < great) : i.natAbs < 2 ^ 1900 := by
  have a : i.natAbs < great.natAbs := by
    have : great.natAbs = great.toNat := rfl
    omega
  exact Nat.lt_trans a (by decide +kernel)
theorem told_rw {r : Row} (hk : r.1 ∈ lawKeys) (g : IsLife r.2) : Told (rwD r) 2 7705 := by
  have a : Told (lfD r.2) 1 3849 := told_tup (ds := [.int r.2.1, .int r.2.2]) (n := 0) (c := 1921) fun d hd => by
    simp only [List.mem_cons, List.not_mem_nil, or_false] at hd
    rcases hd with rfl | rfl
    · exact told_int (great_s g.b0 g.b1)
    · exact told_int (great_s g.e0 g.e1)
  exact told_tup (ds := [.str r.1, lfD r.2]) (n := 1) (c := 3849) fun d hd => by
    simp only [List.mem_cons, List.not_mem_nil, or_false] at hd
    rcases hd with rfl | rfl
    · exact (told_str (key_shown _ hk)).up
    · exact a
theorem told_d {H : Hp} {D n : Nat} {U R : List Row} (l : LR H D n U R) (n1 : n ≤ 32) : Told (toldD n R) 4 300000 := by
  have f := l.few
  have ik : ∀ r ∈ R, r.1 ∈ lawKeys := fun r h => l.dr.keys _ (List.mem_map_of_mem (l.pm.mem_iff.mp h))
  have il : ∀ r ∈ R, IsLife r.2 := fun r h => (l.dr.ok n1).life r (l.pm.mem_iff.mp h)
  have a : Told (.list (R.map rwD)) 3 61658 := by
    have q := told_list (ds := R.map rwD) (n := 2) (c := 7705) fun d hd => by
      obtain ⟨r, hr, rfl⟩ := List.mem_map.mp hd
      exact told_rw (ik r hr) (il r hr)
    rw [List.length_map] at q
    exact ⟨q.sh, q.nd, q.dp, Nat.le_trans q.le (by omega)⟩
  have b : Told (.tuple ((keys R).map PyData.str)) 3 61658 := by
    have q := told_tup (ds := (keys R).map PyData.str) (n := 0) (c := 1921) fun d hd => by
      obtain ⟨k, hk, rfl⟩ := List.mem_map.mp hd
      obtain ⟨r, hr, rfl⟩ := List.mem_map.mp hk
      exact told_str (key_shown _ (ik r hr))
    rw [List.length_map, List.length_map] at q
    exact ⟨q.sh, q.nd, Nat.le_trans q.dp (by decide), Nat.le_trans q.le (by omega)⟩
  have q := told_list (ds := [.int n, .list (R.map rwD), .tuple ((keys R).map PyData.str), .int R.length]) (n := 3) (c := 61658) fun d hd => by
    simp only [List.mem_cons, List.not_mem_nil, or_false] at hd
    rcases hd with rfl | rfl | rfl | rfl
    · exact (told_int (i48 (by omega))).up
    · exact a
    · exact b
    · exact (told_int (i48 (by omega))).up
  exact ⟨q.sh, q.nd, q.dp, Nat.le_trans q.le (by show 2 + 4 * (61658 + 2) ≤ 300000; decide)⟩
theorem sum_perm {a b : List Int} (p : a.Perm b) : a.sum = b.sum := by
  induction p with
  | nil => rfl
  | cons x _ ih => rw [List.sum_cons, List.sum_cons, ih]
  | swap x y l => rw [List.sum_cons, List.sum_cons, List.sum_cons, List.sum_cons]; omega
  | trans _ _ a b => exact a.trans b
theorem total_perm {R U : List Row} (p : R.Perm U) : total (lives R) = total (lives U) := sum_perm ((p.map _).map _)
theorem LvAt.lock {C x n dx Dx Nx D : Addr} {H : Hp} {R : List Row} {kvs : List (Key × V)} {o : Obj} (l : LvAt C H x n R dx Dx Nx) (e : H D = some (.dK kvs)) (ne : Dx ≠ D) : LvAt C (upd H D (.frz o (.dK kvs))) x n R dx Dx Nx := by
  obtain ⟨ks, eD, rv⟩ := l.rows
  exact ⟨(upd_ne (ne_of l.ob e (fun z => by cases z))).trans l.ob, ⟨ks, (upd_ne ne).trans eD, rv.lock e⟩, (upd_ne (ne_of l.names e (fun z => by cases z))).trans l.names, l.ord, l.ok, l.n0, l.n1⟩
/-- rows as a list of pairs -/
def RowsL (H : Hp) : List V → List Row → Prop := Paired fun v r => ∃ T t, v = .ref T ∧ H T = some (.tup [.str r.1, .ref t]) ∧ LifeAt H t r.2
theorem RowsL.dp {K : PySem.W.Frag} {H : Hp} {vs : List V} {R : List Row} (h : RowsL H vs R) : DpAll K H vs (R.map rwD) := by
  induction h with
  | nil => exact .nil
  | cons x _ ih =>
    obtain ⟨T, t, rfl, e, el⟩ := x
    exact .cons (.tup (SqT.of e) (.cons (.str _) (.cons (.tup (SqT.of el) (.cons (.int _) (.cons (.int _) .nil))) .nil))) ih
theorem RowsL.same {H H' : Hp} {vs : List V} {R : List Row} (h : RowsL H vs R) (s : Same H H') : RowsL H' vs R := by
  induction h with
  | nil => exact .nil
  | cons x _ ih =>
    obtain ⟨T, t, e0, e, el⟩ := x
    exact .cons ⟨T, t, e0, s _ _ e, s _ _ el⟩ ih
theorem RowsL.mono {H H' : Hp} (k : ∀ t l, H t = some (.tup l) → H' t = some (.tup l)) {vs : List V} {R : List Row} (h : RowsL H vs R) : RowsL H' vs R := by
  induction h with
  | nil => exact .nil
  | cons x _ ih =>
    obtain ⟨T, t, e0, e, el⟩ := x
    exact .cons ⟨T, t, e0, k _ _ e, k _ _ el⟩ ih
theorem items_rows {H : Hp} : ∀ {ts : List Addr} {kvs : List (Key × V)} {R : List Row}, Paired (fun (t : Addr) (q : Key × V) => H t = some (.tup [kV q.1, q.2])) ts kvs → Rv H kvs R → RowsL H (ts.map V.ref) R
  | _, _, _, .nil, .nil => .nil
  | _, _, _, .cons (a := T) e p, .cons ⟨ek, t, ev, el⟩ r => .cons ⟨T, t, rfl, by rw [e, ek, ev]; rfl, el⟩ (items_rows p r)
theorem strs_all {K : PySem.W.Frag} {H : Hp} : ∀ xs : List Str, DpAll K H (xs.map V.str) (xs.map PyData.str)
  | [] => .nil
  | x :: xs => .cons (.str x) (strs_all xs)
theorem told_dp {K : PySem.W.Frag} {H : Hp} {a L N n : Addr} {vs : List V} {R : List Row} (e : H a = some (.lst [.int n, .ref L, .ref N, .int R.length])) (eL : H L = some (.lst vs)) (rl : RowsL H vs R) (eN : H N = some (.tup ((keys R).map V.str))) : Dp K H (.ref a) (toldD n R) :=
  .lst (SqL.of e) (.cons (.int _) (.cons (.lst (SqL.of eL) rl.dp) (.cons (.tup (SqT.of eN) (strs_all _)) (.cons (.int _) .nil))))
/-- a special method that is told no repr is under way -/
structure SnG (P : Program) (w : World) (K : PySem.W.Frag) (mg : Str → Option Value) (base : Heap) (C : Addr) (x : Str) (ps : List Str) (k : Nat) (sp : Sp) (f : Addr) (fd : FuncData) : Prop where
  G : FnG P w K mg base k f fd ps sp
  b : Binds K fd ps []
  hs : PySem.W.findIn K (.ref C) x = some (some (.ref f))
  hf : PySem.W.isFn K (.ref f) = true
section
variable {P : Program} {w : World} {K : PySem.W.Frag} {mg : Str → Option Value} {base : Heap}
def spLTold (C : Addr) : Sp := fun vs H Q _ => ∃ (x D n : Nat) (U R : List Row), vs = [.ref x, .ref D, .int n] ∧ LivesAt C H x n R ∧ LR H D n U R ∧ (∀ dx m Dx Nx ls, H x = some (.ins C dx (flds m Dx Nx ls)) → Dx ≠ D) ∧ 0 < n ∧ n ≤ 6 ∧ ∀ H', Same H H' → Q (.bl true) H'
abbrev lTold : Stmt := top 41
abbrev n_tr2 : List Str := ["_law_lives", "_law_rows_here", "_law_interval", "_law_told", "_law_due", "_law_summed", "_law_key", "_law_value"]
theorem sl_tr2 : FnScope n_tr2 ["_law_lives", "_law_rows_here", "_law_interval"] (defScope lTold) := ⟨rfl, rfl, rfl, by decide +kernel, rfl, by decide +kernel, by decide +kernel⟩
theorem ok_tr2 {f  : Addr} {fd  : FuncData} (F : Fun K "_law_told_right" "_law_told_right" lTold f fd) {C aR gR aI gI aN gN aT gT fLe fG fH fIt fS : Addr} {fdR fdI fdN fdT fdLe fdG fdH fdS : FuncData} (T : Txt mg) (X : CTxt K C) (pR : Pn P w K mg base C "rows" (spGR C) aR gR fdR) (pI : Pn P w K mg base C "interval" (spGet C (fun n _ => .int n)) aI gI fdI) (pN : Pn P w K mg base C "names" (spGN C) aN gN fdN) (pT : Pn P w K mg base C "total" (spGet C (fun n R => .int (total (lives R)))) aT gT fdT) (nLe : Sn P w K mg base C "__len__" ["self"] 1 (spLen C) fLe fdLe) (nGi : Sn P w K mg base C "__getitem__" ["self", "at"] 1 (spItem C) fG fdG) (fGi : PySem.W.fnIn K fG = true) (nHa : Sn P w K mg base C "__contains__" ["self", "x"] 1 (spHas C) fH fdH) (iL : IterC P w K mg base C fIt "_names") (nSt : SnG P w K mg base C "__str__" ["self"] 1 (spStr C) fS fdS)  : FnG P w K mg base 6 f fd ["_law_lives", "_law_rows_here", "_law_interval"] (spLTold C) := by
  refine L2.My.Fun.okG F sl_tr2 (fun vs H Q E h => ?_) (fun cdv A outer s H vs Q E _ hr gd h => ?_)
  · obtain ⟨x, D, n, U, R, rfl, _⟩ := h
    rfl
  · obtain ⟨x, D, n, U, R, rfl, lv, lr, apt, n0, n6, k⟩ := h
    have hr1 : Room 1 _ := hr.mono (by decide)
    have hr2 : Room 2 _ := hr.mono (by decide)
    have hr3 : Room 3 _ := hr.mono (by decide)
    refine ⟨_, pss_cons (ps_set (i := 3) sl_tr2.nd rfl (.inl rfl) (pe_prop (pv 0) X.cl pR.h pR.G hr2 pR.b .nil pass0 rfl)) (pss_cons (ps_set (i := 4) sl_tr2.nd rfl (.inl rfl) (pe_lst (pa_cons (pv 2) (pa_cons (pe_lc (own := [("_law_key", 6)]) (g := gName 6) (tt := tYes) (by rfl) sl_tr2.nd (pi_list (pe_callB (call_sortedD rfl) (by rfl) T.sorted (by decide +kernel) (pa_cons (pv 1) pa_nil))) (blkOk_by (own := [("_law_key", 6)]) (N := n_tr2) (sc := defScope lTold) (by decide +kernel)) (fun _ _ _ _ _ => pg_name (i := 6) sl_tr2.nd rfl (Or.inl rfl)) (fun _ _ _ _ _ => pts_nil) (fun _ _ _ _ _ => pe_tup (pa_cons (pv 6) (pa_cons (pe_dget (Room.one_up hr) (pv 1) (pv 6) (fun _ _ => rfl)) pa_nil)))) (pa_cons (pe_callTy call_tuple_of (by rfl) T.tuple (by decide +kernel) (pa_cons (pe_callB (call_sortedD rfl) (by rfl) T.sorted (by decide +kernel) (pa_cons (pv 1) pa_nil)) pa_nil)) (pa_cons (pe_callB call_lenD (by rfl) T.len PySem.boot_len (pa_cons (pv 1) pa_nil)) pa_nil)))))) (pss_cons (ps_if (pt_cmpR op_ne (pe_callB (call_repr gd hr.u70) (by rfl) T.repr (by decide +kernel) (pa_cons (pe_lst (pa_cons (pe_prop (pv 0) X.cl pI.h pI.G hr2 pI.b .nil pass0 rfl) (pa_cons (LiI.pe_listItems rfl (pv 3) rfl T.list (by decide +kernel)) (pa_cons (pe_prop (pv 0) X.cl pN.h pN.G hr2 pN.b .nil pass0 rfl) (pa_cons (pe_callB (call_lenO nLe.hs nLe.hf nLe.G nLe.b rfl hr2 pass0) (by rfl) T.len PySem.boot_len (pa_cons (pv 0) pa_nil)) pa_nil))))) pa_nil)) (pe_callB (call_repr gd hr.u70) (by rfl) T.repr (by decide +kernel) (pa_cons (pv 4) pa_nil)) (nomark _)) (pss_one (ps_ret pe_bl)) pss_nil) (pss_cons (ps_dput (Room.one_up hr) (pv 3) pe_str (pe_tup (pa_cons pe_int (pa_cons pe_int pa_nil))) rfl) (pss_cons (ps_set (i := 5) sl_tr2.nd rfl (.inl rfl) (pe_callB (cr_sum rfl) (by rfl) T.sum (by decide +kernel) (pa_cons (pe_lock (pe_lc (own := [("_law_key", 6)]) (g := gName 6) (tt := tYes) (by rfl) sl_tr2.nd (pi_keys (pv 1)) (blkOk_by (own := [("_law_key", 6)]) (N := n_tr2) (sc := defScope lTold) (by decide +kernel)) (fun _ _ _ _ _ => pg_name (i := 6) sl_tr2.nd rfl (Or.inl rfl)) (fun _ _ _ _ _ => pts_nil) (fun _ _ _ _ _ => pe_op op_sub (pe_ix (ixt_at (K := K) rfl) (pe_dget (Room.one_up hr) (pv 1) (pv 6) (fun _ _ => rfl)) pe_int (fun _ _ => rfl)) (pe_ix (ixt_at (K := K) rfl) (pe_dget (Room.one_up hr) (pv 1) (pv 6) (fun _ _ => rfl)) pe_int (fun _ _ => rfl))))) pa_nil))) (pss_cons (ps_if (PW.pt (pw_or (pt_cmpR op_ne (pe_prop (pv 0) X.cl pT.h pT.G hr2 pT.b .nil pass0 rfl) (pv 5) (nomark _)) (pw_or1 (pt_cmpR ((op_neDD hr.u65)) (pe_prop (pv 0) X.cl pR.h pR.G hr2 pR.b .nil pass0 rfl) (pv 1) (nomark _))))) (pss_one (ps_ret pe_bl)) pss_nil) (pss_cons (ps_if (PW.pt (pw_or (pt_cmpR ((op_neD hr.units)) (pe_lc (own := [("_law_key", 6)]) (g := gName 6) (tt := tYes) (by rfl) sl_tr2.nd (pi_own iL hr1 (pv 0)) (blkOk_by (own := [("_law_key", 6)]) (N := n_tr2) (sc := defScope lTold) (by decide +kernel)) (fun _ _ _ _ _ => pg_name (i := 6) sl_tr2.nd rfl (Or.inl rfl)) (fun _ _ _ _ _ => pts_nil) (fun _ _ _ _ _ => pv 6)) (pe_callB (call_sortedD rfl) (by rfl) T.sorted (by decide +kernel) (pa_cons (pv 1) pa_nil)) (nomark _)) (pw_or1 (pt_cmpR ((op_neNil (Room.u0 hr))) (pe_lock (pe_lc (own := [("_law_key", 6)]) (g := gName 6) (by rfl) sl_tr2.nd (pi_keys (pv 1)) (blkOk_by (own := [("_law_key", 6)]) (N := n_tr2) (sc := defScope lTold) (by decide +kernel)) (fun _ _ _ _ _ => pg_name (i := 6) sl_tr2.nd rfl (Or.inl rfl)) (fun _ _ _ _ _ => pts_one (pt_cmpR ((op_at (K := K) (r := rNeD) rfl (op_neD hr.units))) (pe_ixOwn (pv 0) (pv 6) nGi.hs nGi.hf fGi nGi.G nGi.b rfl hr2 pass0) (pe_dget (Room.one_up hr) (pv 1) (pv 6) (fun _ _ => rfl)) (nomark _))) (fun _ _ _ _ _ => pv 6))) (pe_lst pa_nil) (nomark _))))) (pss_one (ps_ret pe_bl)) pss_nil) (pss_cons (ps_if (pt_cmpR ((op_neNil (Room.u0 hr))) (pe_lc (own := [("_law_value", 7)]) (g := gName 7) (by rfl) sl_tr2.nd (pi_tup (pe_tup (pa_cons pe_non (pa_cons pe_int (pa_cons pe_str (pa_cons pe_str (pa_cons (pe_tup (pa_cons pe_str pa_nil)) (pa_cons (pe_lst pa_nil) (pa_cons pe_dnewK (pa_cons pe_bl pa_nil)))))))))) (blkOk_by (own := [("_law_value", 7)]) (N := n_tr2) (sc := defScope lTold) (by decide +kernel)) (fun _ _ _ _ _ => pg_name (i := 7) sl_tr2.nd rfl (Or.inl rfl)) (fun _ _ _ _ _ => pts_one (pt_cmpR ((op_inOwn nHa.hs nHa.hf nHa.G nHa.b rfl hr1 pass0)) (pv 7) (pv 0) (by rfl))) (fun _ _ _ _ _ => pe_int)) (pe_lst pa_nil) (nomark _)) (pss_one (ps_ret pe_bl)) pss_nil) (pss_one (ps_ret (pe_cmpR op_eq (pe_callTy (call_strOwn nSt.hs nSt.hf nSt.G nSt.b rfl hr3 gd) (by rfl) T.str (by decide +kernel) (pa_cons (pv 0) pa_nil)) (pe_op op_add_str (pe_op op_add_str (pe_op op_add_str pe_str (pe_callTy call_str_int (by rfl) T.str (by decide +kernel) (pa_cons (pe_callB call_lenD (by rfl) T.len PySem.boot_len (pa_cons (pv 1) pa_nil)) pa_nil))) pe_str) (pe_callTy call_str_int (by rfl) T.str (by decide +kernel) (pa_cons (pv 2) pa_nil))) (nomark _))))))))))), ?_⟩
    have hr1 : Room 1 _ := hr.mono (by decide)
    have c1 : ∀ {H : Hp}, LivesAt C H x n R → ∃ dx D N, H x = some (.ins C dx (flds n D N (lives R))) := fun l => by
      obtain ⟨dx, D, N, l⟩ := l
      exact ⟨dx, D, N, l.ob⟩
    obtain ⟨dx, Dx, Nx, lv0⟩ := id lv
    have ob := lv0.ob
    have few8 := lr.few
    have nd := lr.ord.nd
    refine ⟨_, rfl, x, dx, _, rfl, ob, x, n, R, rfl, lv, fun D2 H1 s1 nD2 er2 => ?_⟩
    have lr1 := lr.same s1
    obtain ⟨kvs, eD, rv⟩ := lr1.at_
    have ul : (keys U).length < 64 := by rw [List.length_map]; have := lr.dr.few; omega
    have klen : kvs.length = R.length := by rw [rv.len, lr.pm.length_eq]
    refine ⟨_, rfl, _, rfl, D, kvs, keys U, rfl, .inl eD, rv.keys, ul, fun ys S pm so nS => ?_⟩
    obtain rfl : ys = keys R := sorted_one (pm.trans (lr.pm.map Prod.fst).symm) so lr.so
    obtain ⟨H2, z2, s2, e2⟩ := mk_at (o := .lst ((keys R).map V.str)) nS
    rw [z2]
    have eD2 := s2 _ _ eD
    have rv2 := rv.same s2
    refine ⟨S, rfl, ⟨_, SqL.of e2⟩, fun M nM => lc_it walk_list (fun i H' => ∃ vs, Acc H2 M vs H' ∧ RowsL H' vs (R.take i)) ⟨[], Acc.start nM, .nil⟩ (fun i H' _ a => SqL.of (by obtain ⟨_, a, _⟩ := a; exact a.1 _ _ e2)) ?_ ?_⟩
    · rintro i v Ha Hb hi ⟨vs, a, rl⟩ ⟨rfl, hv⟩
      obtain ⟨k0, rfl, hk⟩ := strs_at2 hv
      obtain ⟨r, hr, rfl⟩ := row_at hk
      obtain ⟨t, ht, elt⟩ := rv2.get lr.dr.nd (lr.pm.mem_iff.mp (List.mem_of_getElem? hr))
      have i8 : i < 8 := by have := (List.getElem?_eq_some_iff.mp hr).1; omega
      refine ⟨rfl, _, rfl, _, rfl, _, rfl, D, .ref t, rfl, dget_of (k := Sum.inr r.1) (.inl (a.1 _ _ eD2)) ht, n_line, fun p np => ?_⟩
      have s3 : Same Hb (upd Hb p (.tup [.str r.1, .ref t])) := grow np
      have a3 := a.on s3
      refine ⟨vs, a3.2.2, lt_line (by rw [Paired.length rl]; have := List.length_take_le i R; omega), vs ++ [.ref p], a3.put, ?_⟩
      have kp : ∀ q l, (upd Hb p (.tup [.str r.1, .ref t])) q = some (.tup l) → (upd (upd Hb p (.tup [.str r.1, .ref t])) M (.lst (vs ++ [.ref p]))) q = some (.tup l) := fun q l e => (upd_ne (ne_of e a3.2.2 (fun z => by cases z))).trans e
      rw [take_step hr]
      refine paired_snoc ?_ ⟨p, t, rfl, kp _ _ upd_same, kp _ _ (a3.1 _ _ elt)⟩
      exact RowsL.mono kp (rl.same s3)
    rintro H3 ⟨vs, a, rl⟩
    rw [List.length_map, List.length_map, List.take_length] at rl
    have s13 := s2.trans a.1
    have eM := a.2.2
    refine ⟨_, rfl, D, kvs, keys U, rfl, .inl (s13 _ _ eD), rv.keys, ul, fun ys S2 pm so nS2 => ?_⟩
    obtain rfl : ys = keys R := sorted_one (pm.trans (lr.pm.map Prod.fst).symm) so lr.so
    obtain ⟨H4, z4, s4, e4⟩ := mk_at (o := .lst ((keys R).map V.str)) nS2
    rw [z4]
    refine ⟨S2, _, rfl, .inl ⟨SqL.of e4, fun N2 nN2 => ?_⟩⟩
    obtain ⟨H5, z5, s5, e5⟩ := mk_at (o := .tup ((keys R).map V.str)) nN2
    rw [z5]
    have s35 := s4.trans s5
    refine ⟨_, rfl, D, kvs, rfl, s35 _ _ (s13 _ _ eD), n_line, fun due ndue => ?_⟩
    rw [klen]
    obtain ⟨H6, z6, s6, e6⟩ := mk_at (o := .lst [.int n, .ref M, .ref N2, .int R.length]) ndue
    rw [z6]
    try dsimp only [L2.start, List.set, List.map, List.length, List.replicate, List.append, List.cons_append, List.nil_append]
    have s16 := s13.trans (s35.trans s6)
    have s06 := s1.trans s16
    have lv6 := lv.same s06
    obtain ⟨kvs2, eD2', rv2'⟩ := er2
    refine ⟨_, rfl, x, dx, _, rfl, s06 _ _ ob, x, n, R, rfl, lv6, ?_⟩
    refine ⟨_, rfl, D2, kvs2, rfl, s16 _ _ eD2', fun H7 L7 ts s7 nL7 nts nin eL7 pr7 => ?_⟩
    have s7 : Same H6 H7 := s7
    have lv7 := lv6.same s7
    refine ⟨_, rfl, x, dx, _, rfl, s7 _ _ (s06 _ _ ob), x, n, R, rfl, lv7, fun N3 eN3 => ?_⟩
    refine ⟨_, rfl, x, dx, _, rfl, s7 _ _ (s06 _ _ ob), x, n, R, rfl, lv7, R.length, Nat.lt_of_le_of_lt few8 (by decide), rfl, n_line, fun L8 nL8 => ?_⟩
    obtain ⟨H8, z8, s8, e8⟩ := mk_at (o := .lst [.int n, .ref L7, .ref N3, .int R.length]) nL8
    rw [z8]
    have td := told_d lr (by omega : n ≤ 32)
    have big : 300000 ≤ sizeLine := by decide
    have rl7 : RowsL H7 (ts.map V.ref) R := by
      exact items_rows pr7 (rv2'.same (s16.trans s7))
    refine ⟨_, toldD n R, rfl, told_dp e8 (s8 _ _ eL7) (rl7.same s8) (s8 _ _ eN3), td.sh, td.nd, Nat.le_trans td.dp (by decide), Nat.le_trans td.le big, ?_⟩
    have s68 := s7.trans s8
    have s38 := s35.trans (s6.trans s68)
    refine ⟨_, rfl, _, toldD n R, rfl, told_dp (s68 _ _ e6) (s38 _ _ eM) (rl.same s38) (s68 _ _ (s6 _ _ e5)), td.sh, td.nd, Nat.le_trans td.dp (by decide), Nat.le_trans td.le big, ?_⟩
    refine ⟨rfl, _, rfl, iteFe (by rw [decide_eq_true rfl]; rfl) ?_⟩
    have s08 := s06.trans s68
    have s18 := s16.trans s68
    have eD8 := s18 _ _ eD2'
    try dsimp only [L2.start, List.set, List.map, List.length, List.replicate, List.append, List.cons_append, List.nil_append]
    refine ⟨n_line, fun pt npt => ⟨_, rfl, D2, _, rfl, DPut.k (k := Sum.inr "a") ((grow npt) _ _ eD8) (lt_line (by rw [rv2'.len]; omega)), ?_⟩⟩
    obtain ⟨Hz, zz, s0z⟩ : ∃ Hz, upd (upd H8 pt (.tup [.int 0, .int 99])) D2 (.dK (putK kvs2 (Sum.inr "a") (.ref pt))) = Hz ∧ Same H Hz := ⟨_, rfl, fun b o e => (upd_ne (ne_of_none e nD2)).trans ((grow npt) _ _ (s08 _ _ e))⟩
    refine (?_ : (_ : L2.St → Hp → Prop) _ (upd (upd H8 pt (.tup [.int 0, .int 99])) D2 (.dK (putK kvs2 (Sum.inr "a") (.ref pt)))))
    rw [zz]
    clear zz npt eD8 s18 s08 s38 s68 td z8 e8 s8 nL8 rl7 lv7 s7 eL7 nL7 nin nts pr7 z6 e6 s6 ndue z5 e5 s5 nN2 z4 e4 s4 nS2 a rl eM s13 s16 s06 lv6 s35
    obtain ⟨kvz, eDz, rvz⟩ := lr.at_
    have eDz := s0z _ _ eDz
    have rvz := rvz.same s0z
    have lvz : LvAt C Hz x n R dx Dx Nx := lv0.same s0z
    have nDD : Dx ≠ D := apt _ _ _ _ _ ob
    refine ⟨D, _, eDz, trivial, fun od => ?_⟩
    have rl := rvz.lock (o := od) eDz
    have fz : (upd Hz D (.frz od (.dK kvz))) D = some (.frz od (.dK kvz)) := upd_same
    have fin : ∀ H', Same (upd Hz D (.frz od (.dK kvz))) H' → Same Hz (upd H' D (.dK kvz)) := fun H' s' => unlock_same eDz s'
    generalize upd Hz D (.frz od (.dK kvz)) = Hb at rl fz fin ⊢
    refine ⟨_, rfl, D, od, rfl, .inl ⟨kvz, fz, fun M2 nM2 => lc_it walk_keys (fun i H' => Acc Hb M2 (((lives (U.take i)).map fun l => l.2 - l.1).map V.int) H') (Acc.start nM2) (fun i H' _ a => a.1 _ _ fz) ?_ ?_⟩⟩
    · intro i v Ha Hc hi a y
      obtain ⟨rfl, r, rfl, hr⟩ := rl.key y
      obtain ⟨t, ht, elt⟩ := rl.get lr.dr.nd (List.mem_of_getElem? hr)
      have elt := a.1 _ _ elt
      have i8 : i < 8 := by have := (List.getElem?_eq_some_iff.mp hr).1; have := lr.dr.few; omega
      have dg : DGet Hc D (kV (Sum.inr r.1)) (some (.ref t)) := dget_of (.inr ⟨od, a.1 _ _ fz⟩) ht
      refine ⟨rfl, _, rfl, _, rfl, D, .ref t, rfl, dg, t, _, 1, _, rfl, rfl, SqT.of elt, atI_nat (j := 1) rfl, _, rfl, _, rfl, D, .ref t, rfl, dg, t, _, 0, _, rfl, rfl, SqT.of elt, atI_nat (j := 0) rfl, _, _, rfl, rfl, _, a.2.2, ?_, ?_⟩
      · rw [List.length_map, List.length_map, List.length_map]; exact lt_line (by have := List.length_take_le i U; omega)
      · rw [take_step hr, lives_app, List.map_append, List.map_append]
        exact a.put
    intro Hc a
    rw [rl.len, List.take_length] at a
    refine ⟨a.1 _ _ fz, M2, _, rfl, SqL.of (acc_lock a fz), ?_⟩
    have szc := fin _ a.1
    generalize upd Hc D (.dK kvz) = H9 at szc ⊢
    clear a nM2 rl fz fin
    try dsimp only [L2.start, List.set, List.map, List.length, List.replicate, List.append, List.cons_append, List.nil_append]
    have lv9 : LvAt C H9 x n R dx Dx Nx := lvz.same szc
    have eD9 := szc _ _ eDz
    have rv9 := rvz.same szc
    refine ⟨_, rfl, x, dx, _, rfl, lv9.ob, x, n, R, rfl, ⟨dx, Dx, Nx, lv9⟩, _, rfl, rfl, _, rfl, iteFe ?_ ?_⟩
    · have e : ((lives U).map fun l => l.2 - l.1).sum = total (lives R) := (total_perm lr.pm).symm
      rw [e]
      simp
    refine ⟨_, rfl, x, dx, _, rfl, lv9.ob, x, n, R, rfl, ⟨dx, Dx, Nx, lv9⟩, fun D3 Ha sa nD3 er3 => ?_⟩
    obtain ⟨kvs3, eD3, rv3⟩ := er3
    refine ⟨_, rfl, D3, D, kvs3, kvz, dsOf R, dsOf U, rfl, rfl, eD3, sa _ _ eD9, rv3.dpk, (rv9.same sa).dpk, ds_shaped _, ds_shaped _, _, rfl, iteFe (by rw [eqv_perm lr.pm lr.dr.nd]; rfl) ?_⟩
    have lva := lv9.same sa
    have eDa := sa _ _ eD9
    have rva := rv9.same sa
    -- the keys
    refine ⟨_, rfl, x, dx, _, Nx, _, rfl, lva.ob, rfl, SqT.of lva.names, fun M3 nM3 => lc_it walk_tup (fun i H' => Acc Ha M3 (((keys R).take i).map V.str) H') (Acc.start nM3) (fun i H' _ a => SqT.of (a.1 _ _ lva.names)) ?_ ?_⟩
    · rintro i v Hb Hc hi a ⟨rfl, hv⟩
      obtain ⟨k0, rfl, hk⟩ := strs_at2 hv
      have i8 : i < 8 := by have := (List.getElem?_eq_some_iff.mp hk).1; rw [List.length_map] at this; omega
      refine ⟨rfl, _, rfl, _, a.2.2, lt_line (by rw [List.length_map]; have := List.length_take_le i (keys R); omega), ?_⟩
      rw [take_step hk, List.map_append]
      exact a.put
    intro Hb ab
    rw [List.length_map, List.take_length] at ab
    have sab := ab.1
    refine ⟨_, rfl, D, kvz, keys U, rfl, .inl (sab _ _ eDa), rva.keys, ul, fun ys S3 pm so nS3 => ?_⟩
    obtain rfl : ys = keys R := sorted_one (pm.trans (lr.pm.map Prod.fst).symm) so lr.so
    obtain ⟨Hd, zd, sd, ed⟩ := mk_at (o := .lst ((keys R).map V.str)) nS3
    rw [zd]
    have kk : ∀ y ∈ keys R, IsKey y := fun y hy => by
      obtain ⟨r, hr, rfl⟩ := List.mem_map.mp hy
      exact lr.key r hr
    refine ⟨_, _, strs_dp (sd _ _ ab.2.2), strs_dp ed, strs_shaped kk, strs_shaped kk, _, rfl, iteFe (by rw [shaped_refl (strs_shaped kk)]; rfl) ?_⟩
    have sad := sab.trans sd
    clear ab nM3 nS3 zd ed
    have lvd := lva.same sad
    have eDd := sad _ _ eDa
    have rvd := rva.same sad
    refine ⟨D, _, eDd, trivial, fun od2 => ?_⟩
    have rl2 := rvd.lock (o := od2) eDd
    have lvl := lvd.lock (o := od2) eDd nDD
    have fz2 : (upd Hd D (.frz od2 (.dK kvz))) D = some (.frz od2 (.dK kvz)) := upd_same
    have fin2 : ∀ H', Same (upd Hd D (.frz od2 (.dK kvz))) H' → Same Hd (upd H' D (.dK kvz)) := fun H' s' => unlock_same eDd s'
    generalize upd Hd D (.frz od2 (.dK kvz)) = He at rl2 lvl fz2 fin2 ⊢
    refine ⟨_, rfl, D, od2, rfl, .inl ⟨kvz, fz2, fun M4 nM4 => lc_it walk_keys (fun i H' => Acc He M4 [] H') (Acc.start nM4) (fun i H' _ a => a.1 _ _ fz2) ?_ ?_⟩⟩
    · intro i v Hx Hy hi a y
      obtain ⟨rfl, r, rfl, hr⟩ := rl2.key y
      have mU := List.mem_of_getElem? hr
      obtain ⟨t, ht, elt⟩ := rl2.get lr.dr.nd mU
      have lvy : LvAt C Hy x n R dx Dx Nx := lvl.same a.1
      refine ⟨rfl, _, rfl, _, rfl, x, dx, _, rfl, lvy.ob, x, n, R, r, rfl, ⟨dx, Dx, Nx, lvy⟩, lr.pm.mem_iff.mpr mU, fun t2 el2 => ?_⟩
      have dg : DGet Hy D (kV (Sum.inr r.1)) (some (.ref t)) := dget_of (.inr ⟨od2, a.1 _ _ fz2⟩) ht
      refine ⟨_, rfl, _, rfl, D, .ref t, rfl, dg, lfD r.2, lfD r.2, .tup (SqT.of el2) (.cons (.int _) (.cons (.int _) .nil)), .tup (SqT.of (a.1 _ _ elt)) (.cons (.int _) (.cons (.int _) .nil)), lf_shaped _, lf_shaped _, _, rfl, iteFe (by rw [lf_refl]; rfl) a⟩
    intro Hf af
    refine ⟨af.1 _ _ fz2, ?_⟩
    have eM4 : (upd Hf D (.dK kvz)) M4 = some (.lst []) := acc_lock af fz2
    have sdf := fin2 _ af.1
    generalize upd Hf D (.dK kvz) = Hg at eM4 sdf ⊢
    clear af nM4 rl2 lvl fz2 fin2
    refine ⟨n_line, fun p np => ?_⟩
    obtain ⟨Hh, zh, sh, eh⟩ := mk_at (o := .lst []) np
    rw [zh]
    refine ⟨M4, p, [], rfl, rfl, sh _ _ eM4, eh, _, rfl, iteFe rfl ?_⟩
    have lvh := lvd.same (sdf.trans sh)
    have s0h : Same H Hh := s0z.trans (szc.trans (sa.trans (sad.trans (sdf.trans sh))))
    clear zh eh np eM4
    try dsimp only [L2.start, List.set, List.map, List.length, List.replicate, List.append, List.cons_append, List.nil_append]
    -- no such values
    refine ⟨n_line, fun ta nta => ?_⟩
    obtain ⟨Ja, ya, ja, ga⟩ := mk_at (o := .tup [.str "a"]) nta
    rw [ya]
    refine ⟨n_line, fun tb ntb => ?_⟩
    obtain ⟨Jb, yb, jb, gb⟩ := mk_at (o := .lst []) ntb
    rw [yb]
    intro td ntd
    obtain ⟨Jc, yc, jc, gc⟩ := mk_at (o := .dK []) ntd
    rw [yc]
    refine ⟨n_line, fun tt ntt => ?_⟩
    obtain ⟨Jd, yd, jd, gd2⟩ := mk_at (o := .tup [.non, .int 0, .str "A", .str "q", .ref ta, .ref tb, .ref td, .bl true]) ntt
    rw [yd]
    have shd : Same Hh Jd := ja.trans (jb.trans (jc.trans jd))
    have gaD := jd _ _ (jc _ _ (jb _ _ ga))
    have gbD := jd _ _ (jc _ _ gb)
    have gcD := jd _ _ gc
    have noA : ("A" : Str) ∉ keys R ∧ ("q" : Str) ∉ keys R := by
      have e : ∀ k ∈ keys R, k ∈ lawKeys := fun k hk => lr.dr.keys k ((lr.pm.map Prod.fst).mem_iff.mp hk)
      exact ⟨fun h => absurd (e _ h) (by decide +kernel), fun h => absurd (e _ h) (by decide +kernel)⟩
    have cond : ∀ v ∈ [V.non, .int 0, .str "A", .str "q", .ref ta, .ref tb, .ref td, .bl true], ∀ H', Same Jd H' → (∃ s, v = .str s ∧ s ∉ keys R) ∨ ∃ T, T ≠ "str" ∧ Kin H' v T := by
      intro v hv H' s'
      simp only [List.mem_cons, List.not_mem_nil, or_false] at hv
      rcases hv with rfl | rfl | rfl | rfl | rfl | rfl | rfl | rfl
      · exact .inr ⟨_, by decide, .non⟩
      · exact .inr ⟨_, by decide, .int 0⟩
      · exact .inl ⟨_, rfl, noA.1⟩
      · exact .inl ⟨_, rfl, noA.2⟩
      · exact .inr ⟨_, by decide, .tup (s' _ _ gaD)⟩
      · exact .inr ⟨_, by decide, .lst (s' _ _ gbD)⟩
      · exact .inr ⟨_, by decide, .dic (s' _ _ gcD)⟩
      · exact .inr ⟨_, by decide, .bl true⟩
    refine ⟨tt, rfl, ⟨_, SqT.of gd2⟩, fun M5 nM5 => lc_it walk_tup (fun i H' => Acc Jd M5 [] H') (Acc.start nM5) (fun i H' _ a => SqT.of (a.1 _ _ gd2)) ?_ ?_⟩
    · rintro i v Hx Hy hi a ⟨rfl, hv⟩
      have lvy : LvAt C Hy x n R dx Dx Nx := lvh.same (shd.trans a.1)
      exact ⟨rfl, _, rfl, _, rfl, x, dx, _, rfl, lvy.ob, x, n, R, v, rfl, ⟨dx, Dx, Nx, lvy⟩, cond v (List.mem_of_getElem? hv) _ a.1, false, rfl, _, rfl, iteFe rfl a⟩
    intro Je ae
    refine ⟨n_line, fun p np => ?_⟩
    obtain ⟨Jf, yf, jf, gf⟩ := mk_at (o := .lst []) np
    rw [yf]
    refine ⟨M5, p, [], rfl, rfl, jf _ _ ae.2.2, gf, _, rfl, iteFe rfl ?_⟩
    have shf := shd.trans (ae.1.trans jf)
    have lvf := lvh.same shf
    refine ⟨_, rfl, x, dx, _, rfl, lvf.ob, x, n, R, rfl, ⟨dx, Dx, Nx, lvf⟩, livText n R, rfl, ?_⟩
    have kz : kvz.length = R.length := by rw [rvz.len, lr.pm.length_eq]
    have z1 : (("lives of " : Str)).length = 9 := rfl
    have z2 : ((" keys, interval " : Str)).length = 16 := rfl
    have a1 := short2 (k := R.length) (by omega)
    have a2 := short2 (k := n) (by omega)
    have big2 : 100 ≤ sizeLine := by decide
    refine ⟨_, rfl, D, kvz, rfl, (sad.trans (sdf.trans (sh.trans shf))) _ _ eDa, ?_⟩
    rw [kz]
    refine ⟨_, rfl, small (by omega), _, _, rfl, rfl, ?_, _, _, rfl, rfl, ?_, _, rfl, _, rfl, small (by omega), _, _, rfl, rfl, ?_, rfl, ?_⟩
    · rw [z1]; omega
    · rw [Str.length_append, z1, z2]; omega
    · rw [Str.length_append, Str.length_append, z1, z2]; omega
    refine (?_ : Q (.bl (decide (V.str (livText n R) = V.str (livText n R)))) Jf)
    rw [decide_eq_true rfl]
    exact k _ (s0h.trans shf)
end
end K56
/-! lives moved: their counts are the same (pure) -/
namespace Liv
theorem alive_shift (n : Int) (l : Lf) (t s : Int) : alive n (l.1 + t, l.2 + t) s = alive n l (s - t) := by
  unfold alive
  show (s - (l.1 + t)).fdiv n + (l.2 + t - 1 - s).fdiv n + 1 = _
  rw [show s - (l.1 + t) = s - t - l.1 by omega, show l.2 + t - 1 - s = l.2 - 1 - (s - t) by omega]
theorem alive_period {n : Int} (h : 0 < n) (l : Lf) (s k : Int) : alive n l (s + n * k) = alive n l s := by
  rw [alive_eq h, alive_eq h]
  unfold hi lo
  rw [show s + n * k - l.1 = (s - l.1) + n * k by omega, show s + n * k - l.2 = (s - l.2) + n * k by omega, Int.add_mul_ediv_left _ _ (Int.ne_of_gt h), Int.add_mul_ediv_left _ _ (Int.ne_of_gt h)]
  omega
theorem sumA_period {n : Int} (h : 0 < n) (ls : List Lf) (s k : Int) : sumA n ls (s + n * k) = sumA n ls s := by
  unfold sumA
  congr 1
  exact List.map_congr_left fun l _ => alive_period h l s k
theorem sumA_le {n : Int} (h : 0 < n) (ls : List Lf) (s : Int) : sumA n ls s ≤ most n ls := by
  have e : sumA n ls s = sumA n ls (s % n) := by
    have := sumA_period h ls (s % n) (s / n)
    rw [Int.emod_add_mul_ediv] at this
    exact this
  rw [e]
  have r0 := Int.emod_nonneg s (Int.ne_of_gt h)
  have r1 := Int.emod_lt_of_pos s h
  refine (le_foldl_max _ 0).2 _ (List.mem_map.mpr ⟨(s % n).toNat, List.mem_range.mpr (by omega), ?_⟩)
  rw [Int.toNat_of_nonneg r0]
theorem most_shift_le {n : Int} (h : 0 < n) (ls : List Lf) (t : Int) : most n (ls.map fun l => (l.1 + t, l.2 + t)) ≤ most n ls := by
  refine foldl_max_le _ 0 (le_foldl_max _ 0).1 fun x hx => ?_
  obtain ⟨s, _, rfl⟩ := List.mem_map.mp hx
  have e : sumA n (ls.map fun l => (l.1 + t, l.2 + t)) s = sumA n ls (s - t) := by
    unfold sumA
    rw [List.map_map]
    congr 1
    exact List.map_congr_left fun l _ => alive_shift n l t s
  rw [e]
  exact sumA_le h ls _
theorem most_shift {n : Int} (h : 0 < n) (ls : List Lf) (t : Int) : most n (ls.map fun l => (l.1 + t, l.2 + t)) = most n ls := by
  refine Int.le_antisymm (most_shift_le h ls t) ?_
  have a := most_shift_le h (ls.map fun l => (l.1 + t, l.2 + t)) (-t)
  rw [List.map_map] at a
  have e : ((fun l : Lf => (l.1 + -t, l.2 + -t)) ∘ fun l : Lf => (l.1 + t, l.2 + t)) = id := by
    funext l
    obtain ⟨b, c⟩ := l
    show (b + t + -t, c + t + -t) = (b, c)
    rw [show b + t + -t = b by omega, show c + t + -t = c by omega]
  rw [e, List.map_id] at a
  exact a
end Liv
namespace K56
open PySem L2
open L2.My
open Liv
/-- a method that an operator calls -/
structure On (P : Program) (w : World) (K : PySem.W.Frag) (mg : Str → Option Value) (base : Heap) (C : Addr) (x : String) (ps : List Str) (k : Nat) (sp : Sp) (f : Addr) (fd : FuncData) : Prop where
  G : FnOk P w K mg base CX0 k f fd ps sp
  b : Binds K fd ps []
  c : OpC K C f x
/-- an operator whose other side is of a builtin kind -/
structure SideT (K : PySem.W.Frag) (C : Addr) (T nm : String) : Prop where
  a : ∃ fo, PySem.W.findIn K (.type T) (PySem.dunder nm) = some fo
  b : ∃ ro, PySem.W.findIn K (.type T) (PySem.dunderR nm) = some ro
  s : PySem.W.subIn K (.type T) (.ref C) = some false
theorem later_ok {H : Hp} {D n : Nat} {U R : List Row} (l : LR H D n U R) (n1 : n ≤ 32) {t : Int} (t0 : -(10 ^ 29) ≤ t) (t1 : t ≤ 10 ^ 29) : IsRows (later t R) := by
  refine ⟨by unfold later mapL; rw [List.length_map]; have := l.few; omega, fun r h => ?_, fun r h => ?_⟩
  · obtain ⟨q, hq, rfl⟩ := List.mem_map.mp h
    exact l.key q hq
  · obtain ⟨q, hq, rfl⟩ := List.mem_map.mp h
    have mU := l.pm.mem_iff.mp hq
    have a := l.dr.b0 q mU
    have b := l.dr.lt q mU
    have c := l.dr.near q mU
    have g : (10 : Int) ^ 29 + 1000 < great := by decide
    exact ⟨by show q.2.1 + t < q.2.2 + t; omega, by show -great < q.2.1 + t; omega, by show q.2.1 + t < great; omega, by show -great < q.2.2 + t; omega, by show q.2.2 + t < great; omega⟩
theorem eqL_perm {n : Nat} {R U : List Row} (p : R.Perm U) (nd : (keys U).Nodup) : eqL n R n U = true := by
  unfold eqL
  rw [eqv_perm p nd]
  simp
/-- the row that lies far off -/
def far : Row := ("far", ((10 : Int) ^ (25 : Int).toNat, (10 : Int) ^ (25 : Int).toNat + 1))
theorem far_ok : IsRows [far] := by
  refine ⟨by decide, fun r h => ?_, fun r h => ?_⟩
  · rw [List.mem_singleton] at h
    subst h
    exact ⟨by decide, by decide, by decide +kernel⟩
  · rw [List.mem_singleton] at h
    subst h
    exact ⟨by decide +kernel, by decide +kernel, by decide +kernel, by decide +kernel, by decide +kernel⟩
theorem LivesAt.nd {C x n : Addr} {H : Hp} {R : List Row} (l : LivesAt C H x n R) : (keys R).Nodup := by
  obtain ⟨_, _, _, l⟩ := l
  exact l.ord.nd
theorem mapL_perm {f : Lf → Lf} {R U : List Row} (p : R.Perm U) : (mapL f R).Perm (mapL f U) := p.map _
theorem merge_rows {H : Hp} {kvs : List (Key × V)} {R : List Row} (rv : Rv H kvs R) (nd : (keys R).Nodup) : mergeK [] kvs = kvs := merge_app kvs [] (rv.nd nd) (fun _ _ h => by cases h)
/-- a list of pairs that tells these rows -/
def PairsL (H : Hp) (ps : List Addr) (kvs : List (Key × V)) (W : List Row) : Prop := Paired (fun (p : Addr) (kv : Key × V) => H p = some (.tup [kV kv.1, kv.2])) ps kvs ∧ Rv H kvs W
theorem paired_mono {H H' : Hp} (k : ∀ t l, H t = some (.tup l) → H' t = some (.tup l)) {ps : List Addr} {kvs : List (Key × V)} (p : Paired (fun (p : Addr) (kv : Key × V) => H p = some (.tup [kV kv.1, kv.2])) ps kvs) : Paired (fun (p : Addr) (kv : Key × V) => H' p = some (.tup [kV kv.1, kv.2])) ps kvs := by
  induction p with
  | nil => exact .nil
  | cons x _ ih => exact .cons (k _ _ x) ih
theorem PairsL.put {H H2 : Hp} {ps : List Addr} {kvs : List (Key × V)} {W : List Row} (h : PairsL H ps kvs W) {p t : Addr} {r : Row} (k : ∀ t l, H t = some (.tup l) → H2 t = some (.tup l)) (ep : H2 p = some (.tup [.str r.1, .ref t])) (et : LifeAt H2 t r.2) : PairsL H2 (ps ++ [p]) (kvs ++ [(Sum.inr r.1, .ref t)]) (W ++ [r]) := by
  obtain ⟨a, b⟩ := h
  exact ⟨paired_snoc (paired_mono k a) ep, (b.mono fun t l e => k _ _ e).snoc et⟩
theorem PairsL.sq {K : PySem.W.Frag} {H : Hp} {ps : List Addr} {kvs : List (Key × V)} {W : List Row} (h : PairsL H ps kvs W) : Paired (fun p kv => SqT K H p [kV kv.1, kv.2]) ps kvs := by
  obtain ⟨a, b⟩ := h
  clear b
  induction a with
  | nil => exact .nil
  | cons x _ ih => exact .cons (SqT.of x) ih
theorem PairsL.len {H : Hp} {ps : List Addr} {kvs : List (Key × V)} {W : List Row} (h : PairsL H ps kvs W) : ps.length = W.length := (Paired.length h.1).trans h.2.len
section
variable {P : Program} {w : World} {K : PySem.W.Frag} {mg : Str → Option Value} {base : Heap}
def spLOthers (C : Addr) : Sp := fun vs H Q _ => ∃ (c x D n m : Nat) (U R : List Row), vs = [.ref c, .ref x, .ref D, .int n] ∧ CupAt H c m ∧ m ≤ 5000 ∧ LivesAt C H x n R ∧ LR H D n U R ∧ 0 < n ∧ n ≤ 6 ∧ ∀ H', ButX c H H' → CupAt H' c (m + 40) → Q (.bl true) H'
abbrev lOthers : Stmt := top 42
abbrev n_or2 : List Str := ["_law_cup_here", "_law_lives", "_law_rows_here", "_law_interval", "_law_ticks", "_law_later", "_law_turned", "_law_some", "_law_rest", "_law_far", "_law_both", "_law_key"]
theorem sl_or2 : FnScope n_or2 ["_law_cup_here", "_law_lives", "_law_rows_here", "_law_interval"] (defScope lOthers) := ⟨rfl, rfl, rfl, by decide +kernel, rfl, by decide +kernel, by decide +kernel⟩
theorem ok_or2 {f fpk ffe fro : Addr} {fd fdpk fdfe fdro : FuncData} (F : Fun K "_law_others_right" "_law_others_right" lOthers f fd) {C fI fAd fAn fOr fEq fTu fLe aR gR aM gM : Addr} {fdI fdAd fdAn fdOr fdEq fdTu fdLe fdR fdM : FuncData} (T : Txt mg) (X : CTxt K C) (nM : Mk5 P w K mg base C fI fdI) (nAd : On P w K mg base C "add" ["self", "other"] 7 (spAdd C) fAd fdAd) (nAn : On P w K mg base C "and" ["self", "other"] 7 (spAnd C) fAn fdAn) (nOr : On P w K mg base C "or" ["self", "other"] 7 (spOr C) fOr fdOr) (eC : EqC K C fEq) (nEq : Sn P w K mg base C "__eq__" ["self", "other"] 1 (spEqL C) fEq fdEq) (nTu : Mn P w K mg base C "turned" ["self"] 7 (spTurned C) fTu fdTu) (nLe : Sn P w K mg base C "__len__" ["self"] 1 (spLen C) fLe fdLe) (pR : Pn P w K mg base C "rows" (spGR C) aR gR fdR) (pM : Pn P w K mg base C "most" (spGet C (fun n R => .int (Liv.most n (lives R)))) aM gM fdM) (fInt : SideT K C "int" "add") (fTup : SideT K C "tuple" "and") (dpk : Dn P w K mg base CX0 "_law_pick" ["_law_cup_here", "_law_items"] 2 spPick fpk fdpk) (dfe : Dn P w K mg base CX0 "_law_few" ["_law_cup_here", "_law_items", "_law_many"] 2 spFew ffe fdfe) (dro : Dn P w K mg base CX0 "_law_roll" ["_law_cup_here", "_law_total"] 1 spRoll fro fdro) : FnOk P w K mg base CX0 9 f fd ["_law_cup_here", "_law_lives", "_law_rows_here", "_law_interval"] (spLOthers C) := by
  refine F.ok sl_or2 (fun vs H Q E h => ?_) (fun cdv A outer s H vs Q E hr h => ?_)
  · obtain ⟨c, x, D, n, m, U, R, rfl, _⟩ := h
    rfl
  · obtain ⟨c, x, D, n, m, U, R, rfl, cup, mm, lv, lr, n0, n6, k⟩ := h
    have hr1 : Room 1 _ := hr.mono (by decide)
    have hr2 : Room 2 _ := hr.mono (by decide)
    have hr6 : Room 6 _ := hr.mono (by decide)
    have hr7 : Room 7 _ := hr.mono (by decide)
    refine ⟨_, pss_cons (ps_set (i := 4) sl_or2.nd rfl (.inr rfl) (pe_call dpk.G hr2 rfl dpk.g dpk.kp dpk.b .nil pass0 (pa_cons (pv 0) (pa_cons (pe_lst (pa_cons pe_int (pa_cons pe_int (pa_cons (pe_un un_neg (pv 3)) (pa_cons (pe_op op_pow pe_int pe_int) (pa_cons (pe_un un_neg (pe_op op_pow pe_int pe_int)) (pa_cons (pe_op op_sub pe_int (pv 3)) pa_nil))))))) pa_nil)))) (pss_cons (ps_set (i := 5) sl_or2.nd rfl (.inl rfl) (pe_callTy (call_dictP rfl) (by rfl) T.dict (by decide +kernel) (pa_cons (pe_lock (pe_lc (own := [("_law_key", 11)]) (g := gName 11) (tt := tYes) (by rfl) sl_or2.nd (pi_keys (pv 2)) (blkOk_by (own := [("_law_key", 11)]) (N := n_or2) (sc := defScope lOthers) (by decide +kernel)) (fun _ _ _ _ _ => pg_name (i := 11) sl_or2.nd rfl (Or.inl rfl)) (fun _ _ _ _ _ => pts_nil) (fun _ _ _ _ _ => pe_tup (pa_cons (pv 11) (pa_cons (pe_tup (pa_cons (pe_op op_add (pe_ix (ixt_at (K := K) rfl) (pe_dget (Room.one_up hr) (pv 2) (pv 11) (fun _ _ => rfl)) pe_int (fun _ _ => rfl)) (pv 4)) (pa_cons (pe_op op_add (pe_ix (ixt_at (K := K) rfl) (pe_dget (Room.one_up hr) (pv 2) (pv 11) (fun _ _ => rfl)) pe_int (fun _ _ => rfl)) (pv 4)) pa_nil))) pa_nil))))) pa_nil))) (pss_cons (ps_set (i := 6) sl_or2.nd rfl (.inl rfl) (pe_callTy (call_dictP rfl) (by rfl) T.dict (by decide +kernel) (pa_cons (pe_lock (pe_lc (own := [("_law_key", 11)]) (g := gName 11) (tt := tYes) (by rfl) sl_or2.nd (pi_keys (pv 2)) (blkOk_by (own := [("_law_key", 11)]) (N := n_or2) (sc := defScope lOthers) (by decide +kernel)) (fun _ _ _ _ _ => pg_name (i := 11) sl_or2.nd rfl (Or.inl rfl)) (fun _ _ _ _ _ => pts_nil) (fun _ _ _ _ _ => pe_tup (pa_cons (pv 11) (pa_cons (pe_tup (pa_cons (pe_op op_sub pe_int (pe_ix (ixt_at (K := K) rfl) (pe_dget (Room.one_up hr) (pv 2) (pv 11) (fun _ _ => rfl)) pe_int (fun _ _ => rfl))) (pa_cons (pe_op op_sub pe_int (pe_ix (ixt_at (K := K) rfl) (pe_dget (Room.one_up hr) (pv 2) (pv 11) (fun _ _ => rfl)) pe_int (fun _ _ => rfl))) pa_nil))) pa_nil))))) pa_nil))) (pss_cons (ps_if (PW.pt (pw_or (pt_cmpR ((op_neK eC nEq.G nEq.b rfl hr2)) (pe_op (op_ownT nAd.c fInt.a.choose_spec fInt.b.choose_spec fInt.s nAd.G nAd.b rfl hr7 pass0) (pv 1) (pv 4)) (pe_make nM.M nM.G hr6 rfl nM.g nM.b .nil pass0 (pa_cons (pv 3) (pa_cons (pv 5) pa_nil))) (nomark _)) (pw_or1 (pt_cmpR ((op_neK eC nEq.G nEq.b rfl hr2)) (pe_meth0 (pv 1) X.cl nTu.m nTu.G hr7 nTu.b .nil pass0) (pe_make nM.M nM.G hr6 rfl nM.g nM.b .nil pass0 (pa_cons (pv 3) (pa_cons (pv 6) pa_nil))) (nomark _))))) (pss_one (ps_ret pe_bl)) pss_nil) (pss_cons (ps_if (PW.pt (pw_or (pt_cmpR op_ne (pe_prop (pe_op (op_ownT nAd.c fInt.a.choose_spec fInt.b.choose_spec fInt.s nAd.G nAd.b rfl hr7 pass0) (pv 1) (pv 4)) X.cl pM.h pM.G hr2 pM.b .nil pass0 rfl) (pe_prop (pv 1) X.cl pM.h pM.G hr2 pM.b .nil pass0 rfl) (nomark _)) (pw_or1 (pt_cmpR ((op_neK eC nEq.G nEq.b rfl hr2)) (pe_meth0 (pe_meth0 (pv 1) X.cl nTu.m nTu.G hr7 nTu.b .nil pass0) X.cl nTu.m nTu.G hr7 nTu.b .nil pass0) (pv 1) (nomark _))))) (pss_one (ps_ret pe_bl)) pss_nil) (pss_cons (ps_set (i := 7) sl_or2.nd rfl (.inr rfl) (pe_callTy call_tuple_of (by rfl) T.tuple (by decide +kernel) (pa_cons (pe_callB cr_sortedS (by rfl) T.sorted (by decide +kernel) (pa_cons (pe_call dfe.G hr2 rfl dfe.g dfe.kp dfe.b .nil pass0 (pa_cons (pv 0) (pa_cons (pe_callB (call_sortedD rfl) (by rfl) T.sorted (by decide +kernel) (pa_cons (pv 2) pa_nil)) (pa_cons (pe_call dro.G hr1 rfl dro.g dro.kp dro.b .nil pass0 (pa_cons (pv 0) (pa_cons (pe_op op_add pe_int (pe_callB call_lenD (by rfl) T.len PySem.boot_len (pa_cons (pv 2) pa_nil))) pa_nil))) pa_nil)))) pa_nil)) pa_nil))) (pss_cons (ps_set (i := 8) sl_or2.nd rfl (.inl rfl) (pe_callTy call_tuple_of (by rfl) T.tuple (by decide +kernel) (pa_cons (pe_lc (own := [("_law_key", 11)]) (g := gName 11) (by rfl) sl_or2.nd (pi_list (pe_callB (call_sortedD rfl) (by rfl) T.sorted (by decide +kernel) (pa_cons (pv 2) pa_nil))) (blkOk_by (own := [("_law_key", 11)]) (N := n_or2) (sc := defScope lOthers) (by decide +kernel)) (fun _ _ _ _ _ => pg_name (i := 11) sl_or2.nd rfl (Or.inl rfl)) (fun _ _ _ _ _ => pts_one (pt_cmpR ((notIn_at (K := K) rfl)) (pv 11) (pv 7) (by rfl))) (fun _ _ _ _ _ => pv 11)) pa_nil))) (pss_cons (ps_if (PW.pt (pw_or (pt_cmpR ((op_neDD hr.u65)) (pe_prop (pe_op (op_ownT nAn.c fTup.a.choose_spec fTup.b.choose_spec fTup.s nAn.G nAn.b rfl hr7 pass0) (pv 1) (pv 7)) X.cl pR.h pR.G hr2 pR.b .nil pass0 rfl) (pe_callTy (call_dictP rfl) (by rfl) T.dict (by decide +kernel) (pa_cons (pe_lc (own := [("_law_key", 11)]) (g := gName 11) (tt := tYes) (by rfl) sl_or2.nd (pi_tup (pv 7)) (blkOk_by (own := [("_law_key", 11)]) (N := n_or2) (sc := defScope lOthers) (by decide +kernel)) (fun _ _ _ _ _ => pg_name (i := 11) sl_or2.nd rfl (Or.inl rfl)) (fun _ _ _ _ _ => pts_nil) (fun _ _ _ _ _ => pe_tup (pa_cons (pv 11) (pa_cons (pe_dget (Room.one_up hr) (pv 2) (pv 11) (fun _ _ => rfl)) pa_nil)))) pa_nil)) (nomark _)) (pw_or1 (pt_cmpR ((op_neK eC nEq.G nEq.b rfl hr2)) (pe_op (op_ownO nOr.c nOr.G nOr.b rfl hr7 pass0) (pe_op (op_ownT nAn.c fTup.a.choose_spec fTup.b.choose_spec fTup.s nAn.G nAn.b rfl hr7 pass0) (pv 1) (pv 7)) (pe_op (op_ownT nAn.c fTup.a.choose_spec fTup.b.choose_spec fTup.s nAn.G nAn.b rfl hr7 pass0) (pv 1) (pv 8))) (pv 1) (nomark _))))) (pss_one (ps_ret pe_bl)) pss_nil) (pss_cons (ps_if (PW.pt (pw_or (pt_cmpR op_ne (pe_callB (call_lenO nLe.hs nLe.hf nLe.G nLe.b rfl hr2 pass0) (by rfl) T.len PySem.boot_len (pa_cons (pe_op (op_ownT nAn.c fTup.a.choose_spec fTup.b.choose_spec fTup.s nAn.G nAn.b rfl hr7 pass0) (pv 1) (pe_tup pa_nil)) pa_nil)) pe_int (nomark _)) (pw_or1 (PW.pt (pw_and (pt_cmpR ((op_eqK eC nEq.G nEq.b rfl hr1)) (pe_op (op_ownT nAn.c fTup.a.choose_spec fTup.b.choose_spec fTup.s nAn.G nAn.b rfl hr7 pass0) (pv 1) (pv 7)) (pv 1) (nomark _)) (pw_and1 (pt_cmpR ((op_neUnit (Room.u0 hr))) (pv 8) (pe_tup pa_nil) (nomark _)))))))) (pss_one (ps_ret pe_bl)) pss_nil) (pss_cons (ps_set (i := 9) sl_or2.nd rfl (.inl rfl) (pe_make nM.M nM.G hr6 rfl nM.g nM.b .nil pass0 (pa_cons (pv 3) (pa_cons (pe_callTy (call_dictP rfl) (by rfl) T.dict (by decide +kernel) (pa_cons (pe_lst (pa_cons (pe_tup (pa_cons pe_str (pa_cons (pe_tup (pa_cons (pe_op op_pow pe_int pe_int) (pa_cons (pe_op op_add (pe_op op_pow pe_int pe_int) pe_int) pa_nil))) pa_nil))) pa_nil)) pa_nil)) pa_nil)))) (pss_cons (ps_set (i := 10) sl_or2.nd rfl (.inl rfl) (pe_op (op_ownO nOr.c nOr.G nOr.b rfl hr7 pass0) (pv 1) (pv 9))) (pss_one (ps_ret (pe_and (pe_cmpR ((op_eqK eC nEq.G nEq.b rfl hr1)) (pv 10) (pe_op (op_ownO nOr.c nOr.G nOr.b rfl hr7 pass0) (pv 9) (pv 1)) (nomark _)) (pe_and (pe_cmpR op_eq (pe_callB (call_lenO nLe.hs nLe.hf nLe.G nLe.b rfl hr2 pass0) (by rfl) T.len PySem.boot_len (pa_cons (pv 10) pa_nil)) (pe_op op_add (pe_callB call_lenD (by rfl) T.len PySem.boot_len (pa_cons (pv 2) pa_nil)) pe_int) (nomark _)) (pe_and (pe_cmpR ((op_eqDD hr.u65)) (pe_prop (pv 1) X.cl pR.h pR.G hr2 pR.b .nil pass0 rfl) (pv 2) (nomark _)) (pe_one (pe_cmpR op_eq (pe_callB (call_lenO nLe.hs nLe.hf nLe.G nLe.b rfl hr2 pass0) (by rfl) T.len PySem.boot_len (pa_cons (pv 9) pa_nil)) pe_int (nomark _)))))))))))))))))), ?_⟩
    have hr1 : Room 1 _ := hr.mono (by decide)
    have ins : ∀ {H : Hp} {y : Addr} {W : List Row}, LivesAt C H y n W → ∃ dx D N, H y = some (.ins C dx (flds n D N (lives W))) := fun l => by
      obtain ⟨dx, D, N, l⟩ := l
      exact ⟨dx, D, N, l.ob⟩
    obtain ⟨xc, ec⟩ := cup.lst
    refine ⟨_, rfl, _, rfl, _, rfl, _, _, rfl, rfl, (by unfold CPow; decide), _, _, rfl, rfl, (by unfold CPow; decide), _, rfl, _, rfl, _, _, rfl, rfl, n_line, fun L nL => ?_⟩
    have Lc : L ≠ c := ne_of_none_some nL ec
    refine ⟨c, L, m, [0, 1, -(n : Int), (10 : Int) ^ (20 : Int).toNat, -((10 : Int) ^ (28 : Int).toNat), 3 - (n : Int)], rfl, cup.same (grow nL), by omega, upd_same, Lc, by show 0 < 6; decide, by show 6 < 1000; decide, fun i H1 b1 cup1 mi => ?_⟩
    have b01 : ButX c H H1 := (ButX.of (grow nL)).trans b1
    have ib : -(10 ^ 29) ≤ i ∧ i ≤ 10 ^ 29 := by
      have g : (1000 : Int) ≤ 10 ^ 29 := by decide
      simp only [List.mem_cons, List.not_mem_nil, or_false] at mi
      rcases mi with rfl | rfl | rfl | rfl | rfl | rfl
      · decide
      · decide
      · generalize (10 : Int) ^ 29 = w at *; omega
      · decide
      · decide
      · generalize (10 : Int) ^ 29 = w at *; omega
    clear mi b1 nL
    have lv1 := b01.lives ec lv
    have lr1 := b01.lr ec lr
    obtain ⟨xc1, ec1⟩ := cup1.lst
    try dsimp only [L2.start, List.set, List.map, List.length, List.replicate, List.append, List.cons_append, List.nil_append]
    obtain ⟨kvs, eD, rv⟩ := lr1.at_
    have ok1 := later_ok lr (by omega : n ≤ 32) ib.1 ib.2
    have ok2 := flip_ok (lr.dr.ok (by omega : n ≤ 32))
    refine ⟨D, _, eD, trivial, fun od => ?_⟩
    have rl5 := rv.lock (o := od) eD
    have fz5 : (upd H1 D (.frz od (.dK kvs))) D = some (.frz od (.dK kvs)) := upd_same
    have fin5 : ∀ H', Same (upd H1 D (.frz od (.dK kvs))) H' → Same H1 (upd H' D (.dK kvs)) := fun H' s' => unlock_same eD s'
    generalize upd H1 D (.frz od (.dK kvs)) = Hb at rl5 fz5 fin5 ⊢
    refine ⟨_, rfl, D, od, rfl, .inl ⟨kvs, fz5, fun M nM => lc_it walk_keys (fun j H' => ∃ ps kv, Acc Hb M (ps.map V.ref) H' ∧ PairsL H' ps kv (mapL (fun l : Lf => (l.1 + i, l.2 + i)) (U.take j))) ⟨[], [], Acc.start nM, .nil, .nil⟩ (fun j H' _ a => by obtain ⟨_, _, a, _⟩ := a; exact a.1 _ _ fz5) ?_ ?_⟩⟩
    · rintro j v Ha Hc hj ⟨ps, kv, a, pl⟩ y
      obtain ⟨rfl, r, rfl, hr⟩ := rl5.key y
      obtain ⟨t, ht, elt⟩ := rl5.get lr.dr.nd (List.mem_of_getElem? hr)
      have elt := a.1 _ _ elt
      have j8 : j < 8 := by have := (List.getElem?_eq_some_iff.mp hr).1; have := lr.dr.few; omega
      have dg : DGet Hc D (kV (Sum.inr r.1)) (some (.ref t)) := dget_of (.inr ⟨od, a.1 _ _ fz5⟩) ht
      refine ⟨rfl, _, rfl, _, rfl, _, rfl, D, .ref t, rfl, dg, t, _, 0, _, rfl, rfl, SqT.of elt, atI_nat (j := 0) rfl, _, rfl, _, _, rfl, rfl, _, rfl, _, rfl, D, .ref t, rfl, dg, t, _, 1, _, rfl, rfl, SqT.of elt, atI_nat (j := 1) rfl, _, rfl, _, _, rfl, rfl, n_line, fun p2 np2 => ⟨n_line, fun p np => ?_⟩⟩
      have s2 : Same Hc (upd Hc p2 (.tup [.int ((fun l : Lf => (l.1 + i, l.2 + i)) r.2).1, .int ((fun l : Lf => (l.1 + i, l.2 + i)) r.2).2])) := grow np2
      have s3 : Same (upd Hc p2 (.tup [.int ((fun l : Lf => (l.1 + i, l.2 + i)) r.2).1, .int ((fun l : Lf => (l.1 + i, l.2 + i)) r.2).2])) (upd (upd Hc p2 (.tup [.int ((fun l : Lf => (l.1 + i, l.2 + i)) r.2).1, .int ((fun l : Lf => (l.1 + i, l.2 + i)) r.2).2])) p (.tup [.str r.1, .ref p2])) := grow np
      have a3 := a.on (s2.trans s3)
      refine ⟨ps.map V.ref, a3.2.2, lt_line (by rw [List.length_map, pl.len]; unfold mapL; rw [List.length_map]; have := List.length_take_le j U; omega), ps ++ [p], kv ++ [(Sum.inr r.1, .ref p2)], ?_, ?_⟩
      · rw [List.map_append]
        exact a3.put
      · rw [mapL_snoc hr]
        have kp : ∀ q l, (upd (upd Hc p2 (.tup [.int ((fun l : Lf => (l.1 + i, l.2 + i)) r.2).1, .int ((fun l : Lf => (l.1 + i, l.2 + i)) r.2).2])) p (.tup [.str r.1, .ref p2])) q = some (.tup l) → (upd (upd (upd Hc p2 (.tup [.int ((fun l : Lf => (l.1 + i, l.2 + i)) r.2).1, .int ((fun l : Lf => (l.1 + i, l.2 + i)) r.2).2])) p (.tup [.str r.1, .ref p2])) M (.lst (ps.map V.ref ++ [.ref p]))) q = some (.tup l) := fun q l e => (upd_ne (ne_of e a3.2.2 (fun z => by cases z))).trans e
        exact PairsL.put (r := (r.1, (fun l : Lf => (l.1 + i, l.2 + i)) r.2)) (t := p2) pl (fun q l e => kp _ _ (s3 _ _ (s2 _ _ e))) (kp _ _ upd_same) (kp _ _ (s3 _ _ upd_same))
    rintro Hc ⟨ps, kv, a, pl⟩
    rw [rl5.len, List.take_length] at pl
    have ef5 := fin5 _ a.1
    have eM5 : (upd Hc D (.dK kvs)) M = some (.lst (ps.map V.ref)) := acc_lock a fz5
    have pl5 : PairsL (upd Hc D (.dK kvs)) ps kv (mapL (fun l : Lf => (l.1 + i, l.2 + i)) U) := ⟨paired_mono (fun t l e => (upd_ne (ne_of e (a.1 _ _ fz5) (fun z => by cases z))).trans e) pl.1, pl.2.mono fun t l e => (upd_ne (ne_of e (a.1 _ _ fz5) (fun z => by cases z))).trans e⟩
    refine ⟨a.1 _ _ fz5, M, ps, kv, rfl, SqL.of eM5, pl5.sq, fun D5 nD5 => ?_⟩
    generalize upd Hc D (.dK kvs) = Hd5 at ef5 eM5 pl5 nD5 ⊢
    rw [merge_rows pl5.2 (by rw [mapL_keys]; exact lr.dr.nd)]
    obtain ⟨G5, zG, sG5, eG5⟩ := mk_at (o := .dK kv) nD5
    rw [zG]
    have ra5 : RowsAt G5 D5 (mapL (fun l : Lf => (l.1 + i, l.2 + i)) U) := ⟨kv, eG5, pl5.2.same sG5⟩
    have st5 : Same H1 G5 := ef5.trans sG5
    clear zG eG5 nD5 pl5 eM5 ef5 a pl rl5 fz5 fin5 nM
    have eD' := st5 _ _ eD
    have rv' := rv.same st5
    refine ⟨D, _, eD', trivial, fun od => ?_⟩
    have rl6 := rv'.lock (o := od) eD'
    have fz6 : (upd G5 D (.frz od (.dK kvs))) D = some (.frz od (.dK kvs)) := upd_same
    have fin6 : ∀ H', Same (upd G5 D (.frz od (.dK kvs))) H' → Same G5 (upd H' D (.dK kvs)) := fun H' s' => unlock_same eD' s'
    generalize upd G5 D (.frz od (.dK kvs)) = Hb at rl6 fz6 fin6 ⊢
    refine ⟨_, rfl, D, od, rfl, .inl ⟨kvs, fz6, fun M nM => lc_it walk_keys (fun j H' => ∃ ps kv, Acc Hb M (ps.map V.ref) H' ∧ PairsL H' ps kv (mapL (fun l : Lf => (0 - l.2, 0 - l.1)) (U.take j))) ⟨[], [], Acc.start nM, .nil, .nil⟩ (fun j H' _ a => by obtain ⟨_, _, a, _⟩ := a; exact a.1 _ _ fz6) ?_ ?_⟩⟩
    · rintro j v Ha Hc hj ⟨ps, kv, a, pl⟩ y
      obtain ⟨rfl, r, rfl, hr⟩ := rl6.key y
      obtain ⟨t, ht, elt⟩ := rl6.get lr.dr.nd (List.mem_of_getElem? hr)
      have elt := a.1 _ _ elt
      have j8 : j < 8 := by have := (List.getElem?_eq_some_iff.mp hr).1; have := lr.dr.few; omega
      have dg : DGet Hc D (kV (Sum.inr r.1)) (some (.ref t)) := dget_of (.inr ⟨od, a.1 _ _ fz6⟩) ht
      refine ⟨rfl, _, rfl, _, rfl, _, rfl, D, .ref t, rfl, dg, t, _, 1, _, rfl, rfl, SqT.of elt, atI_nat (j := 1) rfl, _, _, rfl, rfl, _, rfl, _, rfl, D, .ref t, rfl, dg, t, _, 0, _, rfl, rfl, SqT.of elt, atI_nat (j := 0) rfl, _, _, rfl, rfl, n_line, fun p2 np2 => ⟨n_line, fun p np => ?_⟩⟩
      have s2 : Same Hc (upd Hc p2 (.tup [.int ((fun l : Lf => (0 - l.2, 0 - l.1)) r.2).1, .int ((fun l : Lf => (0 - l.2, 0 - l.1)) r.2).2])) := grow np2
      have s3 : Same (upd Hc p2 (.tup [.int ((fun l : Lf => (0 - l.2, 0 - l.1)) r.2).1, .int ((fun l : Lf => (0 - l.2, 0 - l.1)) r.2).2])) (upd (upd Hc p2 (.tup [.int ((fun l : Lf => (0 - l.2, 0 - l.1)) r.2).1, .int ((fun l : Lf => (0 - l.2, 0 - l.1)) r.2).2])) p (.tup [.str r.1, .ref p2])) := grow np
      have a3 := a.on (s2.trans s3)
      refine ⟨ps.map V.ref, a3.2.2, lt_line (by rw [List.length_map, pl.len]; unfold mapL; rw [List.length_map]; have := List.length_take_le j U; omega), ps ++ [p], kv ++ [(Sum.inr r.1, .ref p2)], ?_, ?_⟩
      · rw [List.map_append]
        exact a3.put
      · rw [mapL_snoc hr]
        have kp : ∀ q l, (upd (upd Hc p2 (.tup [.int ((fun l : Lf => (0 - l.2, 0 - l.1)) r.2).1, .int ((fun l : Lf => (0 - l.2, 0 - l.1)) r.2).2])) p (.tup [.str r.1, .ref p2])) q = some (.tup l) → (upd (upd (upd Hc p2 (.tup [.int ((fun l : Lf => (0 - l.2, 0 - l.1)) r.2).1, .int ((fun l : Lf => (0 - l.2, 0 - l.1)) r.2).2])) p (.tup [.str r.1, .ref p2])) M (.lst (ps.map V.ref ++ [.ref p]))) q = some (.tup l) := fun q l e => (upd_ne (ne_of e a3.2.2 (fun z => by cases z))).trans e
        exact PairsL.put (r := (r.1, (fun l : Lf => (0 - l.2, 0 - l.1)) r.2)) (t := p2) pl (fun q l e => kp _ _ (s3 _ _ (s2 _ _ e))) (kp _ _ upd_same) (kp _ _ (s3 _ _ upd_same))
    rintro Hc ⟨ps, kv, a, pl⟩
    rw [rl6.len, List.take_length] at pl
    have ef6 := fin6 _ a.1
    have eM6 : (upd Hc D (.dK kvs)) M = some (.lst (ps.map V.ref)) := acc_lock a fz6
    have pl6 : PairsL (upd Hc D (.dK kvs)) ps kv (mapL (fun l : Lf => (0 - l.2, 0 - l.1)) U) := ⟨paired_mono (fun t l e => (upd_ne (ne_of e (a.1 _ _ fz6) (fun z => by cases z))).trans e) pl.1, pl.2.mono fun t l e => (upd_ne (ne_of e (a.1 _ _ fz6) (fun z => by cases z))).trans e⟩
    refine ⟨a.1 _ _ fz6, M, ps, kv, rfl, SqL.of eM6, pl6.sq, fun D6 nD6 => ?_⟩
    generalize upd Hc D (.dK kvs) = Hd6 at ef6 eM6 pl6 nD6 ⊢
    rw [merge_rows pl6.2 (by rw [mapL_keys]; exact lr.dr.nd)]
    obtain ⟨G6, zG, sG6, eG6⟩ := mk_at (o := .dK kv) nD6
    rw [zG]
    have ra6 : RowsAt G6 D6 (mapL (fun l : Lf => (0 - l.2, 0 - l.1)) U) := ⟨kv, eG6, pl6.2.same sG6⟩
    have st6 : Same G5 G6 := ef6.trans sG6
    clear zG eG6 nD6 pl6 eM6 ef6 a pl rl6 fz6 fin6 nM
    try dsimp only [L2.start, List.set, List.map, List.length, List.replicate, List.append, List.cons_append, List.nil_append]
    have s16 := st5.trans st6
    have lv6 := lv1.same s16
    have ra5' := ra5.same st6
    have eft : mapL (fun l : Lf => (0 - l.2, 0 - l.1)) U = flip U := by
      unfold flip
      congr 1
      funext l
      simp
    rw [eft] at ra6
    have ra5' : RowsAt G6 D5 (later i U) := ra5'
    have eq2 : ∀ {X : Cx} {H : Hp} {y1 y2 : Addr} {R1 R2 : List Row} {g : Bool → Bool} {Q : VK}, LivesAt C H y1 n R1 → LivesAt C H y2 n R2 → Q (.bl (g (eqL n R1 n R2))) H → rEqK (X := X) C (spEqL C) g (.ref y1) (.ref y2) H Q := fun l1 l2 k => by
      obtain ⟨d1, D1, N1, l1⟩ := l1
      obtain ⟨d2, D2, N2, l2⟩ := l2
      exact ⟨_, d1, _, rfl, l1.ob, .inl ⟨_, d2, _, rfl, l2.ob⟩, _, n, _, _, rfl, ⟨d1, D1, N1, l1⟩, .inl ⟨_, n, _, rfl, ⟨d2, D2, N2, l2⟩, _, rfl, k⟩⟩
    have i0 : -great < i := Int.lt_of_lt_of_le (by decide) ib.1
    have i1 : i < great := Int.lt_of_le_of_lt ib.2 (by decide)
    have n32 : n ≤ 32 := by omega
    have ndU := lr.dr.nd
    have pl : (later i R).Perm (later i U) := mapL_perm (f := fun l : Lf => (l.1 + i, l.2 + i)) lr.pm
    have pf : (flip R).Perm (flip U) := mapL_perm (f := fun l : Lf => (-l.2, -l.1)) lr.pm
    have okU1 : IsRows (later i U) := ok1.perm pl.symm
    have okU2 : IsRows (flip U) := ok2
    have nd1 : (keys (later i U)).Nodup := by unfold later; rw [mapL_keys]; exact ndU
    have nd2 : (keys (flip U)).Nodup := by unfold flip; rw [mapL_keys]; exact ndU
    obtain ⟨dx, Dx, Nx, ob⟩ := ins lv6
    refine ⟨_, rfl, _, rfl, x, dx, _, rfl, ob, .int i, x, n, R, i, rfl, lv6, i0, i1, ok1, fun y1 Ha sa ly => ⟨⟨y1, rfl⟩, ?_⟩⟩
    refine ⟨_, rfl, _, rfl, made_of (Q := fun v H => rEqK C (spEqL C) (fun b => !b) (.ref y1) v H _) (ra5'.same sa) nd1 okU1 n0 n32 fun y2 Hb R2 sb p2 l2 _ => eq2 (ly.same sb) l2 ?_⟩
    refine ⟨_, rfl, iteFe (by rw [eqL_perm (pl.trans p2.symm) ((p2.map Prod.fst).nodup_iff.mpr nd1)]; rfl) ?_⟩
    have s6b := sa.trans sb
    refine ⟨_, rfl, x, dx, _, rfl, s6b _ _ ob, rfl, x, n, R, rfl, lv6.same s6b, fun y3 Hc sc l3 => ?_⟩
    refine ⟨_, rfl, _, rfl, made_of (Q := fun v H => rEqK C (spEqL C) (fun b => !b) (.ref y3) v H _) (ra6.same (s6b.trans sc)) nd2 okU2 n0 n32 fun y4 Hd R4 sd p4 l4 _ => eq2 (l3.same sd) l4 ?_⟩
    refine ⟨_, rfl, iteFe (by rw [eqL_perm (pf.trans p4.symm) ((p4.map Prod.fst).nodup_iff.mpr nd2)]; rfl) ?_⟩
    have s6d := s6b.trans (sc.trans sd)
    have lvd := lv6.same s6d
    refine ⟨_, rfl, _, rfl, x, dx, _, rfl, s6d _ _ ob, .int i, x, n, R, i, rfl, lvd, i0, i1, ok1, fun y5 He se l5 => ⟨⟨y5, rfl⟩, ?_⟩⟩
    obtain ⟨d5, D5', N5, ob5⟩ := ins l5
    have s6e := s6d.trans se
    refine ⟨y5, d5, _, rfl, ob5, y5, n, _, rfl, l5, _, rfl, x, dx, _, rfl, s6e _ _ ob, x, n, R, rfl, lv6.same s6e, rfl, _, rfl, iteFe ?_ ?_⟩
    · have e : Liv.most n (lives (later i R)) = Liv.most n (lives R) := by
        have q : lives (later i R) = (lives R).map fun l => (l.1 + i, l.2 + i) := by
          unfold later mapL lives
          rw [List.map_map, List.map_map]
          rfl
        rw [q]
        exact most_shift (n := (n : Int)) (by omega) _ _
      show (!decide (V.int (Liv.most n (lives (later i R))) = V.int (Liv.most n (lives R)))) = false
      rw [e]
      simp
    refine ⟨_, rfl, x, dx, _, rfl, s6e _ _ ob, rfl, x, n, R, rfl, lv6.same s6e, fun y6 Hf sf l6 => ?_⟩
    obtain ⟨d6, D6', N6, ob6⟩ := ins l6
    refine ⟨y6, d6, _, rfl, ob6, rfl, y6, n, _, rfl, l6, fun y7 Hg sg l7 => ?_⟩
    have s6g := s6e.trans (sf.trans sg)
    have lvg := lv6.same s6g
    have ff : flip (flip R) = R := by
      unfold flip mapL
      rw [List.map_map]
      conv => rhs; rw [← List.map_id R]
      refine List.map_congr_left fun r _ => ?_
      show (r.1, (- -r.2.1, - -r.2.2)) = r
      rw [Int.neg_neg, Int.neg_neg]
    rw [ff] at l7
    refine ⟨_, rfl, eq2 l7 lvg ⟨_, rfl, iteFe (by rw [eqL_perm (.refl _) lr.ord.nd]; rfl) ?_⟩⟩
    have s1g := s16.trans s6g
    have b0g : ButX c H Hg := b01.trans (ButX.of s1g)
    have cupg := cup1.same s1g
    have lrg := lr1.same s1g
    have obg := s6g _ _ ob
    have eDg := s1g _ _ eD
    have rvg := rv.same s1g
    clear ra5 ra5' ra6 st5 st6 eD' rv' lv6 lv1 s6g s6e s6d s6b l2 l3 l4 l5 l6 l7 ob5 ob6 sa sb sc sd se sf sg ly ob p2 p4 s1g s16 cup1 lr1 ec1
    try dsimp only [L2.start, List.set, List.map, List.length, List.replicate, List.append, List.cons_append, List.nil_append]
    -- some
    have ul : (keys U).length < 64 := by rw [List.length_map]; have := lr.dr.few; omega
    have few8 := lr.few
    have kl : ((keys R).map V.str).length = R.length := by rw [List.length_map, List.length_map]
    have klen : kvs.length = R.length := by rw [rv.len, lr.pm.length_eq]
    obtain ⟨xcg, ecg⟩ := cupg.lst
    refine ⟨_, rfl, _, rfl, D, kvs, keys U, rfl, .inl eDg, rvg.keys, ul, fun ys S pm so nS => ?_⟩
    obtain rfl : ys = keys R := sorted_one (pm.trans (lr.pm.map Prod.fst).symm) so lr.so
    obtain ⟨Hh, zh, sh, eh⟩ := mk_at (o := .lst ((keys R).map V.str)) nS
    rw [zh]
    have Sc : S ≠ c := ne_of_none_some nS ecg
    refine ⟨_, rfl, _, rfl, D, kvs, rfl, sh _ _ eDg, _, _, rfl, rfl, c, _, _, rfl, cupg.same sh, by omega, by omega, Bsm (by omega) (by omega), fun r2 Hi bi cupi h2 => ?_⟩
    refine ⟨c, S, _, _, r2, rfl, cupi, by rw [kl]; omega, bi _ _ Sc eh, Sc, by rw [kl]; omega, by omega, fun F ys rest Hj bj nF eF Fc pmF _ le cupj => ?_⟩
    rw [kl] at cupj
    obtain ⟨L1, hL1, pL1⟩ := perm_lift pmF rfl
    obtain ⟨ns, hns, sub0⟩ : ∃ ns : List Str, ys = ns.map V.str ∧ ns.Sublist L1 := by
      refine ⟨L1.take ys.length, ?_, List.take_sublist ..⟩
      rw [List.map_take, ← hL1, List.take_left]
    have sub : ∀ s ∈ ns, s ∈ keys R := fun s h => pL1.mem_iff.mp (sub0.mem h)
    have nsnd : ns.Nodup := sub0.nodup (pL1.nodup_iff.mpr lr.ord.nd)
    subst hns
    have bgj : ButX c Hg Hj := (ButX.of sh).trans (bi.trans bj)
    have lvj := bgj.lives ecg lvg
    have lrj := bgj.lr ecg lrg
    have nslen : ns.length ≤ 8 := by
      have q := sub0.length_le
      rw [pL1.length_eq, List.length_map] at q
      omega
    refine ⟨F, ns, rfl, SqL.of eF, by omega, fun zs S2 pm2 so2 nS2 => ?_⟩
    have ez : zs = keys (sel R ns) := sel_names lr.ord sub (pm2.nodup_iff.mpr nsnd) (fun s => pm2.mem_iff) so2
    subst ez
    obtain ⟨Hk, zk, sk, ek⟩ := mk_at (o := .lst ((keys (sel R ns)).map V.str)) nS2
    rw [zk]
    refine ⟨S2, _, rfl, .inl ⟨SqL.of ek, fun tS ntS => ?_⟩⟩
    obtain ⟨Hl, zl, sl, el⟩ := mk_at (o := .tup ((keys (sel R ns)).map V.str)) ntS
    rw [zl]
    have ess0 : ∀ r ∈ R, (r.1 ∈ keys (sel R ns) ↔ r.1 ∈ ns) := fun r hr => by
      rw [sel_keys, List.mem_filter, decide_eq_true_iff]
      exact ⟨fun h => h.2, fun h => ⟨List.mem_map_of_mem hr, h⟩⟩
    have ess : sel R (keys (sel R ns)) = sel R ns := List.filter_congr fun r hr => decide_eq_decide.mpr (ess0 r hr)
    have ssn : (keys (sel R ns)).length ≤ 8 := by rw [List.length_map]; exact Nat.le_trans (sel_len R ns) few8
    generalize hss : keys (sel R ns) = ss at *
    have kss : ss = keys (sel R ss) := by rw [ess, hss]
    have sjl : Same Hj Hl := sk.trans sl
    have bgl : ButX c Hg Hl := bgj.trans (ButX.of sjl)
    have b0l : ButX c H Hl := b0g.trans bgl
    have lvl := lvj.same sjl
    have lrl := lrj.same sjl
    have cupl := cupj.same sjl
    clear zk zl ek ntS nS2 pm2 so2 sub nsnd pmF pL1 hL1 sub0 nF eF bj bi cupi zh eh nS pm so lvj lrj bgj sk ess0 hss ess
    obtain ⟨kvl, eDl, rvl⟩ := lrl.at_
    -- rest
    refine ⟨_, rfl, D, kvl, keys U, rfl, .inl eDl, rvl.keys, ul, fun ys S pm so nS => ?_⟩
    obtain rfl : ys = keys R := sorted_one (pm.trans (lr.pm.map Prod.fst).symm) so lr.so
    obtain ⟨Ja, ya, ja, ga⟩ := mk_at (o := .lst ((keys R).map V.str)) nS
    rw [ya]
    refine ⟨S, rfl, ⟨_, SqL.of ga⟩, fun M nM => lc_it walk_list (fun j H' => Acc Ja M ((keys (out (R.take j) ss)).map V.str) H') (Acc.start nM) (fun j H' _ a => SqL.of (a.1 _ _ ga)) ?_ ?_⟩
    · rintro j v Hx Hy hj a ⟨rfl, hv⟩
      obtain ⟨k0, rfl, hk⟩ := strs_at2 hv
      obtain ⟨r, hr, rfl⟩ := row_at hk
      have j8 : j < 8 := by have := (List.getElem?_eq_some_iff.mp hr).1; omega
      refine ⟨rfl, _, rfl, _, rfl, tS, _, rfl, .inr (SqT.of (a.1 _ _ (ja _ _ el))), rfl, by simp [flatV], _, rfl, ?_⟩
      rw [if_pos rfl, in_iff, out_take hr ss]
      by_cases q : r.1 ∈ ss
      · rw [decide_eq_true q, if_pos q, List.append_nil]
        exact iteFe rfl a
      · rw [decide_eq_false q, if_neg q]
        refine iteTe rfl ⟨_, rfl, _, a.2.2, ?_, ?_⟩
        · rw [List.length_map, List.length_map]
          have h1 : (out (R.take j) ss).length ≤ (R.take j).length := List.length_filter_le ..
          have h2 := List.length_take_le j R
          exact lt_line (by omega)
        · rw [keys_app, List.map_append]
          exact a.put
    intro Jb ab
    rw [List.length_map, List.length_map, List.take_length] at ab
    refine ⟨M, _, rfl, .inl ⟨SqL.of ab.2.2, fun tR ntR => ?_⟩⟩
    obtain ⟨Jc, yc, jc, gc⟩ := mk_at (o := .tup ((keys (out R ss)).map V.str)) ntR
    rw [yc]
    have jlc : Same Hl Jc := ja.trans (ab.1.trans jc)
    have elc := jlc _ _ el
    have krr : keys (out R ss) = keys (sel R (keys (out R ss))) := by rw [sel_out (.refl R)]
    have lvc := lvl.same jlc
    have lrc := lrl.same jlc
    have cupc := cupl.same jlc
    have b0c : ButX c H Jc := b0l.trans (ButX.of jlc)
    clear ab nM nS ya yc ntR ga pm so
    try dsimp only [L2.start, List.set, List.map, List.length, List.replicate, List.append, List.cons_append, List.nil_append]
    obtain ⟨dz, Dz, Nz, obc⟩ := ins lvc
    refine ⟨_, rfl, _, rfl, x, dz, _, rfl, obc, .tup elc, x, n, R, tS, ss, rfl, lvc, elc, kss, fun y1 Jd jd l1 => ⟨⟨y1, rfl⟩, ?_⟩⟩
    obtain ⟨d1, D1, N1, ob1⟩ := ins l1
    refine ⟨y1, d1, _, rfl, ob1, y1, n, _, rfl, l1, fun D8 Je je nD8 er8 => ?_⟩
    have jce := jd.trans je
    have ele := jce _ _ elc
    obtain ⟨kve, eDe, rve⟩ := (lrc.same jce).at_
    have so := sel_ord lr.ord ss
    have sl8 := Nat.le_trans (sel_len R ss) few8
    refine ⟨_, rfl, tS, rfl, ⟨_, SqT.of ele⟩, fun M nM => lc_it walk_tup (fun j H' => ∃ ps kv, Acc Je M (ps.map V.ref) H' ∧ PairsL H' ps kv ((sel R ss).take j)) ⟨[], [], Acc.start nM, .nil, .nil⟩ (fun j H' _ a => SqT.of (by obtain ⟨_, _, a, _⟩ := a; exact a.1 _ _ ele)) ?_ ?_⟩
    · rintro j v Hx Hy hj ⟨ps, kv, a, pl⟩ ⟨rfl, hv⟩
      obtain ⟨k0, rfl, hk⟩ := strs_at2 hv
      rw [kss] at hk
      obtain ⟨r, hr, rfl⟩ := row_at hk
      have mR : r ∈ R := (List.mem_filter.mp (List.mem_of_getElem? hr)).1
      obtain ⟨t, ht, elt⟩ := rve.get lr.dr.nd (lr.pm.mem_iff.mp mR)
      have elt := a.1 _ _ elt
      have j8 : j < 8 := by have := (List.getElem?_eq_some_iff.mp hr).1; omega
      refine ⟨rfl, _, rfl, _, rfl, _, rfl, D, .ref t, rfl, dget_of (k := Sum.inr r.1) (.inl (a.1 _ _ eDe)) ht, n_line, fun p np => ?_⟩
      have s3 : Same Hy (upd Hy p (.tup [.str r.1, .ref t])) := grow np
      have a3 := a.on s3
      refine ⟨ps.map V.ref, a3.2.2, lt_line (by rw [List.length_map, pl.len]; have := List.length_take_le j (sel R ss); omega), ps ++ [p], kv ++ [(Sum.inr r.1, .ref t)], ?_, ?_⟩
      · rw [List.map_append]
        exact a3.put
      · rw [take_step hr]
        have kp : ∀ q l, (upd Hy p (.tup [.str r.1, .ref t])) q = some (.tup l) → (upd (upd Hy p (.tup [.str r.1, .ref t])) M (.lst (ps.map V.ref ++ [.ref p]))) q = some (.tup l) := fun q l e => (upd_ne (ne_of e a3.2.2 (fun z => by cases z))).trans e
        exact PairsL.put (r := r) (t := t) pl (fun q l e => kp _ _ (s3 _ _ e)) (kp _ _ upd_same) (kp _ _ (s3 _ _ elt))
    rintro Jf ⟨ps, kv, a, pl⟩
    have lens : (ss.map V.str).length = (sel R ss).length := by
      rw [List.length_map]
      conv => lhs; rw [kss]
      rw [List.length_map]
    rw [lens, List.take_length] at pl
    refine ⟨M, ps, kv, rfl, SqL.of a.2.2, pl.sq, fun D9 nD9 => ?_⟩
    rw [merge_rows pl.2 so.nd]
    obtain ⟨Jg, yg, jg, gg⟩ := mk_at (o := .dK kv) nD9
    rw [yg]
    obtain ⟨kv8, e8, r8⟩ := er8
    have jeg := a.1.trans jg
    refine ⟨D8, D9, kv8, kv, dsOf (sel R ss), dsOf (sel R ss), rfl, rfl, jeg _ _ e8, gg, (r8.same jeg).dpk, (pl.2.same jg).dpk, ds_shaped _, ds_shaped _, _, rfl, iteFe (by rw [eqv_perm (.refl _) so.nd]; rfl) ?_⟩
    have jcg := jce.trans jeg
    have lvg2 := lvc.same jcg
    clear a pl gg yg nD9 nM e8 r8 l1 ob1 jd je jeg
    have ecs := jcg _ _ elc
    have ecr := jcg _ _ gc
    have obg2 := jcg _ _ obc
    have lrg2 := lrc.same jcg
    have disj : ∀ k ∈ keys (sel R ss), k ∉ keys (out R ss) := fun k h1 h2 => by
      rw [sel_keys, List.mem_filter, decide_eq_true_iff] at h1
      obtain ⟨r, hr, rfl⟩ := List.mem_map.mp h2
      have q := (List.mem_filter.mp hr).2
      rw [decide_eq_true h1.2] at q
      cases q
    have pso : (sel R ss ++ out R ss).Perm R := List.filter_append_perm _ _
    have sor : sel R (keys (out R ss)) = out R ss := sel_out (.refl R)
    have len8 : (sel R ss).length + (out R ss).length ≤ 48 := by
      have q := pso.length_eq
      rw [List.length_append] at q
      omega
    refine ⟨_, rfl, _, rfl, x, dz, _, rfl, obg2, .tup ecs, x, n, R, tS, ss, rfl, lvg2, ecs, kss, fun y1 J1 j1 l1 => ⟨⟨y1, rfl⟩, ?_⟩⟩
    refine ⟨_, rfl, _, rfl, x, dz, _, rfl, j1 _ _ obg2, .tup (j1 _ _ ecr), x, n, R, tR, _, rfl, lvg2.same j1, j1 _ _ ecr, krr, fun y2 J2 j2 l2 => ⟨⟨y2, rfl⟩, ?_⟩⟩
    rw [sor] at l2
    have l1 := l1.same j2
    obtain ⟨d1, D1, N1, ob1⟩ := ins l1
    obtain ⟨d2, D2, N2, ob2⟩ := ins l2
    refine ⟨y1, d1, _, y2, d2, _, rfl, ob1, rfl, ob2, y1, y2, n, _, _, rfl, l1, l2, disj, len8, fun y3 J3 W j3 pW l3 => ⟨⟨y3, rfl⟩, ?_⟩⟩
    have j13 := j1.trans (j2.trans j3)
    refine ⟨_, rfl, eq2 l3 (lvg2.same j13) ⟨_, rfl, iteFe (by rw [eqL_perm (pW.trans pso) lr.ord.nd]; rfl) ?_⟩⟩
    have lv3 := lvg2.same j13
    have ob3 := j13 _ _ obg2
    have ecs3 := j13 _ _ ecs
    have ecr3 := j13 _ _ ecr
    try dsimp only [L2.start, List.set, List.map, List.length, List.replicate, List.append, List.cons_append, List.nil_append]
    -- nothing of it; not all of it
    refine ⟨_, rfl, n_line, fun t0 nt0 => ?_⟩
    obtain ⟨J4, y4, j4, g4⟩ := mk_at (o := .tup []) nt0
    rw [y4]
    refine ⟨x, dz, _, rfl, j4 _ _ ob3, .tup g4, x, n, R, t0, [], rfl, lv3.same j4, g4, by rw [sel_none]; rfl, fun y5 J5 j5 l5 => ⟨⟨y5, rfl⟩, ?_⟩⟩
    obtain ⟨d5, D5', N5, ob5⟩ := ins l5
    refine ⟨y5, d5, _, rfl, ob5, y5, n, _, rfl, l5, (sel R []).length, ?_, rfl, rfl, _, rfl, iteFe ?_ ?_⟩
    · rw [sel_none]; decide
    · rw [sel_none]; rfl
    have j35 := j4.trans j5
    refine ⟨_, rfl, _, rfl, x, dz, _, rfl, j35 _ _ ob3, .tup (j35 _ _ ecs3), x, n, R, tS, ss, rfl, lv3.same j35, j35 _ _ ecs3, kss, fun y6 J6 j6 l6 => ⟨⟨y6, rfl⟩, ?_⟩⟩
    refine ⟨_, rfl, eq2 l6 ((lv3.same j35).same j6) ⟨_, rfl, ?_⟩⟩
    have j36 := j35.trans j6
    have sc36 := jcg.trans (j13.trans j36)
    have lv36 := lv3.same j36
    have ob36 := j36 _ _ ob3
    have lr36 := lrc.same sc36
    cases hq : eqL n (sel R ss) n R with
    | false =>
      refine iteFe rfl ?_
      try dsimp only [L2.start, List.set, List.map, List.length, List.replicate, List.append, List.cons_append, List.nil_append]
      refine ⟨_, rfl, _, _, rfl, rfl, (by unfold CPow; decide), _, _, rfl, rfl, (by unfold CPow; decide), _, _, rfl, rfl, n_line, fun q1 nq1 => ?_⟩
      obtain ⟨K1, w1, k1, h1⟩ := mk_at (o := .tup [.int ((10 : Int) ^ (25 : Int).toNat), .int ((10 : Int) ^ (25 : Int).toNat + 1)]) nq1
      rw [w1]
      refine ⟨n_line, fun q2 nq2 => ?_⟩
      obtain ⟨K2, w2, k2, h2'⟩ := mk_at (o := .tup [.str "far", .ref q1]) nq2
      rw [w2]
      refine ⟨n_line, fun q3 nq3 => ?_⟩
      obtain ⟨K3, w3, k3, h3⟩ := mk_at (o := .lst [.ref q2]) nq3
      rw [w3]
      refine ⟨q3, [q2], [(Sum.inr "far", .ref q1)], rfl, SqL.of h3, .cons (SqT.of (k3 _ _ h2')) .nil, fun D9 nD9 => ?_⟩
      have k4 : Same K3 (upd K3 D9 (.dK [(Sum.inr "far", .ref q1)])) := grow nD9
      have k04 := k1.trans (k2.trans (k3.trans k4))
      have rf : RowsAt (upd K3 D9 (.dK [(Sum.inr "far", .ref q1)])) D9 [far] := ⟨_, upd_same, .cons ⟨rfl, q1, rfl, k4 _ _ (k3 _ _ (k2 _ _ h1))⟩ .nil⟩
      refine made_of (Q := fun v H => gName 9 v _ H _) rf (by simp) far_ok n0 n32 fun z9 K5 R9 k5 p9 l9 _ => ?_
      obtain rfl : R9 = [far] := List.perm_singleton.mp p9
      have k05 := k04.trans k5
      have lv5 := lv36.same k05
      have ob5' := k05 _ _ ob36
      obtain ⟨d9, D9', N9, ob9⟩ := ins l9
      have nof : ∀ k ∈ keys R, k ∉ keys [far] := fun k hk h => by
        have e : k ∈ lawKeys := lr.dr.keys k ((lr.pm.map Prod.fst).mem_iff.mp hk)
        have e2 : k = "far" := by simpa [far] using h
        rw [e2] at e
        exact absurd e (by decide +kernel)
      have nof2 : ∀ k ∈ keys [far], k ∉ keys R := fun k hk h => nof k h hk
      refine ⟨_, rfl, _, rfl, x, dz, _, z9, d9, _, rfl, ob5', rfl, ob9, x, z9, n, R, [far], rfl, lv5, l9, nof, by show R.length + 1 ≤ 48; omega, fun y10 K6 W k6 pW l10 => ⟨⟨y10, rfl⟩, ?_⟩⟩
      have lv6 := lv5.same k6
      have l9 := l9.same k6
      have ob6' := k6 _ _ ob5'
      have ob9 := k6 _ _ ob9
      try dsimp only [L2.start, List.set, List.map, List.length, List.replicate, List.append, List.cons_append, List.nil_append]
      refine ⟨_, rfl, _, rfl, _, rfl, z9, d9, _, x, dz, _, rfl, ob9, rfl, ob6', z9, x, n, [far], R, rfl, l9, lv6, nof2, by show 1 + R.length ≤ 48; omega, fun y11 K7 W2 k7 pW2 l11 => ⟨⟨y11, rfl⟩, eq2 (l10.same k7) l11 ⟨_, rfl, iteTe ?_ ?_⟩⟩⟩
      · exact eqL_perm (pW.trans (List.perm_append_comm.trans pW2.symm)) l11.nd
      obtain ⟨d10, D10, N10, ob10⟩ := ins (l10.same k7)
      have wl : W.length = R.length + 1 := by
        have q := pW.length_eq
        rw [List.length_append] at q
        exact q
      have k07 := k05.trans (k6.trans k7)
      have lr7 := lr36.same k07
      obtain ⟨kv7, e7, r7⟩ := lr7.at_
      have kl7 : kv7.length = R.length := by rw [r7.len, lr.pm.length_eq]
      refine ⟨_, rfl, y10, d10, _, rfl, ob10, y10, n, W, rfl, l10.same k7, W.length, Nat.lt_of_le_of_lt (show W.length ≤ 9 by omega) (by decide), rfl, _, rfl, D, kv7, rfl, e7, _, _, rfl, rfl, rfl, _, rfl, iteTe ?_ ?_⟩
      · rw [kl7, wl]
        simp
      have ob7 := k7 _ _ ob6'
      refine ⟨_, rfl, x, dz, _, rfl, ob7, x, n, R, rfl, lv6.same k7, fun D11 K8 k8 nD11 er11 => ?_⟩
      obtain ⟨kv11, e11, r11⟩ := er11
      refine ⟨_, rfl, D11, D, kv11, kv7, dsOf R, dsOf U, rfl, rfl, e11, k8 _ _ e7, r11.dpk, (r7.same k8).dpk, ds_shaped _, ds_shaped _, _, rfl, iteTe (eqv_perm lr.pm lr.dr.nd) ?_⟩
      have ob98 := k8 _ _ (k7 _ _ ob9)
      refine ⟨_, rfl, z9, d9, _, rfl, ob98, z9, n, [far], rfl, (l9.same k7).same k8, 1, by decide, rfl, rfl, ?_⟩
      exact k _ (b0c.trans (ButX.of (sc36.trans (k07.trans k8)))) (cupc.same (sc36.trans (k07.trans k8)) |>.le (by omega))
    | true =>
      refine iteTe rfl ?_
      have on : out R ss = [] := by
        have q := pso.length_eq
        rw [List.length_append] at q
        have e : (sel R ss).length = R.length := by
          by_cases h : (sel R ss).length = R.length
          · exact h
          · have z := eqv_len h
            unfold eqL at hq
            rw [z, Bool.and_false] at hq
            cases hq
        exact List.length_eq_zero_iff.mp (by omega)
      refine ⟨_, rfl, n_line, fun u0 nu0 => ?_⟩
      obtain ⟨J7, y7, j7, g7⟩ := mk_at (o := .tup []) nu0
      rw [y7]
      have ecr7 := j7 _ _ (j36 _ _ ecr3)
      rw [on] at ecr7
      refine ⟨tR, u0, [], rfl, rfl, ecr7, g7, _, rfl, iteFe rfl ?_⟩
      have sc36 := sc36.trans j7
      have lv36 := lv36.same j7
      have ob36 := j7 _ _ ob36
      have lr36 := lr36.same j7
      try dsimp only [L2.start, List.set, List.map, List.length, List.replicate, List.append, List.cons_append, List.nil_append]
      refine ⟨_, rfl, _, _, rfl, rfl, (by unfold CPow; decide), _, _, rfl, rfl, (by unfold CPow; decide), _, _, rfl, rfl, n_line, fun q1 nq1 => ?_⟩
      obtain ⟨K1, w1, k1, h1⟩ := mk_at (o := .tup [.int ((10 : Int) ^ (25 : Int).toNat), .int ((10 : Int) ^ (25 : Int).toNat + 1)]) nq1
      rw [w1]
      refine ⟨n_line, fun q2 nq2 => ?_⟩
      obtain ⟨K2, w2, k2, h2'⟩ := mk_at (o := .tup [.str "far", .ref q1]) nq2
      rw [w2]
      refine ⟨n_line, fun q3 nq3 => ?_⟩
      obtain ⟨K3, w3, k3, h3⟩ := mk_at (o := .lst [.ref q2]) nq3
      rw [w3]
      refine ⟨q3, [q2], [(Sum.inr "far", .ref q1)], rfl, SqL.of h3, .cons (SqT.of (k3 _ _ h2')) .nil, fun D9 nD9 => ?_⟩
      have k4 : Same K3 (upd K3 D9 (.dK [(Sum.inr "far", .ref q1)])) := grow nD9
      have k04 := k1.trans (k2.trans (k3.trans k4))
      have rf : RowsAt (upd K3 D9 (.dK [(Sum.inr "far", .ref q1)])) D9 [far] := ⟨_, upd_same, .cons ⟨rfl, q1, rfl, k4 _ _ (k3 _ _ (k2 _ _ h1))⟩ .nil⟩
      refine made_of (Q := fun v H => gName 9 v _ H _) rf (by simp) far_ok n0 n32 fun z9 K5 R9 k5 p9 l9 _ => ?_
      obtain rfl : R9 = [far] := List.perm_singleton.mp p9
      have k05 := k04.trans k5
      have lv5 := lv36.same k05
      have ob5' := k05 _ _ ob36
      obtain ⟨d9, D9', N9, ob9⟩ := ins l9
      have nof : ∀ k ∈ keys R, k ∉ keys [far] := fun k hk h => by
        have e : k ∈ lawKeys := lr.dr.keys k ((lr.pm.map Prod.fst).mem_iff.mp hk)
        have e2 : k = "far" := by simpa [far] using h
        rw [e2] at e
        exact absurd e (by decide +kernel)
      have nof2 : ∀ k ∈ keys [far], k ∉ keys R := fun k hk h => nof k h hk
      refine ⟨_, rfl, _, rfl, x, dz, _, z9, d9, _, rfl, ob5', rfl, ob9, x, z9, n, R, [far], rfl, lv5, l9, nof, by show R.length + 1 ≤ 48; omega, fun y10 K6 W k6 pW l10 => ⟨⟨y10, rfl⟩, ?_⟩⟩
      have lv6 := lv5.same k6
      have l9 := l9.same k6
      have ob6' := k6 _ _ ob5'
      have ob9 := k6 _ _ ob9
      try dsimp only [L2.start, List.set, List.map, List.length, List.replicate, List.append, List.cons_append, List.nil_append]
      refine ⟨_, rfl, _, rfl, _, rfl, z9, d9, _, x, dz, _, rfl, ob9, rfl, ob6', z9, x, n, [far], R, rfl, l9, lv6, nof2, by show 1 + R.length ≤ 48; omega, fun y11 K7 W2 k7 pW2 l11 => ⟨⟨y11, rfl⟩, eq2 (l10.same k7) l11 ⟨_, rfl, iteTe ?_ ?_⟩⟩⟩
      · exact eqL_perm (pW.trans (List.perm_append_comm.trans pW2.symm)) l11.nd
      obtain ⟨d10, D10, N10, ob10⟩ := ins (l10.same k7)
      have wl : W.length = R.length + 1 := by
        have q := pW.length_eq
        rw [List.length_append] at q
        exact q
      have k07 := k05.trans (k6.trans k7)
      have lr7 := lr36.same k07
      obtain ⟨kv7, e7, r7⟩ := lr7.at_
      have kl7 : kv7.length = R.length := by rw [r7.len, lr.pm.length_eq]
      refine ⟨_, rfl, y10, d10, _, rfl, ob10, y10, n, W, rfl, l10.same k7, W.length, Nat.lt_of_le_of_lt (show W.length ≤ 9 by omega) (by decide), rfl, _, rfl, D, kv7, rfl, e7, _, _, rfl, rfl, rfl, _, rfl, iteTe ?_ ?_⟩
      · rw [kl7, wl]
        simp
      have ob7 := k7 _ _ ob6'
      refine ⟨_, rfl, x, dz, _, rfl, ob7, x, n, R, rfl, lv6.same k7, fun D11 K8 k8 nD11 er11 => ?_⟩
      obtain ⟨kv11, e11, r11⟩ := er11
      refine ⟨_, rfl, D11, D, kv11, kv7, dsOf R, dsOf U, rfl, rfl, e11, k8 _ _ e7, r11.dpk, (r7.same k8).dpk, ds_shaped _, ds_shaped _, _, rfl, iteTe (eqv_perm lr.pm lr.dr.nd) ?_⟩
      have ob98 := k8 _ _ (k7 _ _ ob9)
      refine ⟨_, rfl, z9, d9, _, rfl, ob98, z9, n, [far], rfl, (l9.same k7).same k8, 1, by decide, rfl, rfl, ?_⟩
      exact k _ (b0c.trans (ButX.of (sc36.trans (k07.trans k8)))) (cupc.same (sc36.trans (k07.trans k8)) |>.le (by omega))
end
end K56
namespace K56
open PySem L2
open L2.My
open Liv
theorem pairsL_perm {H : Hp} {ts' ts : List Addr} (p : ts'.Perm ts) : ∀ {kvs : List (Key × V)} {U : List Row}, PairsL H ts kvs U → ∃ kvs' U', PairsL H ts' kvs' U' ∧ U'.Perm U := by
  induction p with
  | nil =>
    rintro kvs U ⟨a, b⟩
    cases a
    cases b
    exact ⟨[], [], ⟨.nil, .nil⟩, .nil⟩
  | cons x _ ih =>
    rintro kvs U ⟨a, b⟩
    cases a with
    | cons e a =>
      cases b with
      | cons f b =>
        obtain ⟨ks, us, ⟨c, d⟩, q⟩ := ih ⟨a, b⟩
        exact ⟨_, _, ⟨.cons e c, .cons f d⟩, q.cons _⟩
  | swap x y l =>
    rintro kvs U ⟨a, b⟩
    cases a with
    | cons e a =>
      cases b with
      | cons f b =>
        cases a with
        | cons e2 a =>
          cases b with
          | cons f2 b => exact ⟨_, _, ⟨.cons e2 (.cons e a), .cons f2 (.cons f b)⟩, .swap _ _ _⟩
  | trans _ _ ih1 ih2 =>
    rintro kvs U h
    obtain ⟨ks, us, h2, q2⟩ := ih2 h
    obtain ⟨ks1, us1, h1, q1⟩ := ih1 h2
    exact ⟨ks1, us1, h1, q1.trans q2⟩
structure NoSub (K : PySem.W.Frag) (C : Addr) : Prop where
  n : PySem.W.subIn K (.type "NoneType") (.ref C) = some false
  d : PySem.W.subIn K (.type "dict") (.ref C) = some false
section
variable {P : Program} {w : World} {K : PySem.W.Frag} {mg : Str → Option Value} {base : Heap}
def spLRight : Sp := fun vs H Q _ => ∃ (c m : Nat), vs = [.ref c] ∧ CupAt H c m ∧ m ≤ 100 ∧ ∀ H', ButX c H H' → Q (.bl true) H'
abbrev lRight : Stmt := top 43
abbrev n_ri : List Str := ["_law_cup_here", "_law_interval", "_law_rows_here", "_law_lives", "_law_turn"]
theorem sl_ri : FnScope n_ri ["_law_cup_here"] (defScope lRight) := ⟨rfl, rfl, rfl, by decide +kernel, rfl, by decide +kernel, by decide +kernel⟩
theorem ok_ri {f fpk flr fro ffe ftr2 fcr for2 : Addr} {fd fdpk fdlr fdro fdfe fdtr2 fdcr fdor2 : FuncData} (F : Fun K "_law_right" "_law_right" lRight f fd) {C fI fEq : Addr} {fdI fdEq : FuncData} (T : Txt mg) (X : CTxt K C) (nM : Mk5 P w K mg base C fI fdI) (eC : EqC K C fEq) (nEq : Sn P w K mg base C "__eq__" ["self", "other"] 1 (spEqL C) fEq fdEq) (sb : NoSub K C) (dpk : Dn P w K mg base CX0 "_law_pick" ["_law_cup_here", "_law_items"] 2 spPick fpk fdpk) (dlr : Dn P w K mg base CX0 "_law_rows" ["_law_cup_here", "_law_interval", "_law_many", "_law_long"] 3 spLRows flr fdlr) (dro : Dn P w K mg base CX0 "_law_roll" ["_law_cup_here", "_law_total"] 1 spRoll fro fdro) (dfe : Dn P w K mg base CX0 "_law_few" ["_law_cup_here", "_law_items", "_law_many"] 2 spFew ffe fdfe) (dtr2 : DnG P w K mg base "_law_told_right" ["_law_lives", "_law_rows_here", "_law_interval"] 6 (spLTold C) ftr2 fdtr2) (dcr : DnG P w K mg base "_law_counts_right" ["_law_cup_here", "_law_lives", "_law_rows_here", "_law_interval"] 9 (spLCounts C) fcr fdcr) (dor2 : Dn P w K mg base CX0 "_law_others_right" ["_law_cup_here", "_law_lives", "_law_rows_here", "_law_interval"] 9 (spLOthers C) for2 fdor2) : FnG P w K mg base 10 f fd ["_law_cup_here"] spLRight := by
  refine L2.My.Fun.okG F sl_ri (fun vs H Q E h => ?_) (fun cdv A outer s H vs Q E _ hr gd h => ?_)
  · obtain ⟨c, m, rfl, _⟩ := h
    rfl
  · obtain ⟨c, m, rfl, cup, mm, k⟩ := h
    have hr1 : Room 1 _ := hr.mono (by decide)
    have hr2 : Room 2 _ := hr.mono (by decide)
    have hr3 : Room 3 _ := hr.mono (by decide)
    have hr6 : Room 6 _ := hr.mono (by decide)
    refine ⟨_, pss_cons (ps_set (i := 1) sl_ri.nd rfl (.inl rfl) (pe_call dpk.G hr2 rfl dpk.g dpk.kp dpk.b .nil pass0 (pa_cons (pv 0) (pa_cons (pe_lst (pa_cons pe_int (pa_cons pe_int (pa_cons pe_int (pa_cons pe_int (pa_cons pe_int (pa_cons pe_int (pa_cons pe_int pa_nil)))))))) pa_nil)))) (pss_cons (ps_set (i := 2) sl_ri.nd rfl (.inl rfl) (pe_call dlr.G hr3 rfl dlr.g dlr.kp dlr.b .nil pass0 (pa_cons (pv 0) (pa_cons (pv 1) (pa_cons (pe_call dro.G hr1 rfl dro.g dro.kp dro.b .nil pass0 (pa_cons (pv 0) (pa_cons pe_int pa_nil))) (pa_cons pe_int pa_nil)))))) (pss_cons (ps_set (i := 3) sl_ri.nd rfl (.inl rfl) (pe_make nM.M nM.G hr6 rfl nM.g nM.b .nil pass0 (pa_cons (pv 1) (pa_cons (pe_callTy (call_dictP rfl) (by rfl) T.dict (by decide +kernel) (pa_cons (pe_call dfe.G hr2 rfl dfe.g dfe.kp dfe.b .nil pass0 (pa_cons (pv 0) (pa_cons (LiI.pe_listItems rfl (pv 2) rfl T.list (by decide +kernel)) (pa_cons pe_int pa_nil)))) pa_nil)) pa_nil)))) (pss_cons (ps_if (pt_not (pt_val (pe_callG dtr2.G hr6 gd rfl dtr2.g dtr2.kp dtr2.b (pa_cons (pv 3) (pa_cons (pv 2) (pa_cons (pv 1) pa_nil)))))) (pss_one (ps_ret pe_bl)) pss_nil) (pss_cons (ps_for PassesOwn.never rfl (pi_range1 rfl T.range (pa_cons pe_int pa_nil)) (pg_name (i := 4) sl_ri.nd rfl (.inl rfl)) (pss_one (ps_if (pt_not (pt_val (pe_callG dcr.G hr gd rfl dcr.g dcr.kp dcr.b (pa_cons (pv 0) (pa_cons (pv 3) (pa_cons (pv 2) (pa_cons (pv 1) pa_nil))))))) (pss_one (ps_ret pe_bl)) pss_nil))) (pss_one (ps_ret (pe_and (pe_call dor2.G hr rfl dor2.g dor2.kp dor2.b .nil pass0 (pa_cons (pv 0) (pa_cons (pv 3) (pa_cons (pv 2) (pa_cons (pv 1) pa_nil))))) (pe_and (pe_cmpR ((op_neK eC nEq.G nEq.b rfl hr2)) (pv 3) pe_non (nomark _)) (pe_one (pe_cmpR ((op_neK eC nEq.G nEq.b rfl hr2)) (pv 3) (pv 2) (nomark _))))))))))), ?_⟩
    have hr2 : Room 2 _ := hr.mono (by decide)
    obtain ⟨xc, ec⟩ := cup.lst
    refine ⟨_, rfl, n_line, fun L nL => ?_⟩
    have Lc : L ≠ c := ne_of_none_some nL ec
    refine ⟨c, L, m, [1, 2, 3, 3, 4, 5, 6], rfl, cup.same (grow nL), by omega, upd_same, Lc, by show 0 < 7; decide, by show 7 < 1000; decide, fun i H1 b1 cup1 mi => ?_⟩
    have b01 : ButX c H H1 := (ButX.of (grow nL)).trans b1
    obtain ⟨n, rfl, n0, n6⟩ : ∃ n : Nat, i = n ∧ 0 < n ∧ n ≤ 6 := by
      simp only [List.mem_cons, List.not_mem_nil, or_false] at mi
      refine ⟨i.toNat, ?_, ?_, ?_⟩ <;> omega
    clear mi b1 nL
    try dsimp only [L2.start, List.set, List.map, List.length, List.replicate, List.append, List.cons_append, List.nil_append]
    refine ⟨_, rfl, _, rfl, _, rfl, c, _, 7, rfl, cup1, by omega, by decide, Bd, fun r H2 b2 cup2 hr7 => ?_⟩
    refine ⟨c, _, n, r, rfl, cup2, by omega, n0, by omega, by omega, fun D H3 U b3 nD er dr cup3 => ?_⟩
    have b03 := b01.trans (b2.trans b3)
    try dsimp only [L2.start, List.set, List.map, List.length, List.replicate, List.append, List.cons_append, List.nil_append]
    obtain ⟨kvs, eD, rv⟩ := er
    obtain ⟨xc3, ec3⟩ := cup3.lst
    have u8 := dr.few
    refine ⟨_, rfl, _, rfl, _, rfl, D, kvs, rfl, eD, fun H4 L4 ts s4 nL4 nts nin eL4 pr4 => ?_⟩
    have s4 : Same H3 H4 := s4
    have tl : ts.length = U.length := (Paired.length pr4).trans rv.len
    have Lc4 : L4 ≠ c := ne_of_none_some nL4 ec3
    refine ⟨c, L4, _, ts.map V.ref, 9, rfl, cup3.same s4, by rw [List.length_map]; omega, eL4, Lc4, by rw [List.length_map]; omega, by decide, fun F ys rest H5 b5 nF eF Fc pm all le cup5 => ?_⟩
    rw [List.length_map, tl] at cup5
    have pl := pm.length_eq
    rw [List.length_append, List.length_map, tl] at pl
    have re : rest = [] := all (by omega)
    subst re
    rw [List.append_nil] at pm
    obtain ⟨ts', rfl, pts⟩ := perm_lift pm rfl
    obtain ⟨ec4⟩ : ∃ xs, H4 c = some (.lst xs) := ⟨_, s4 _ _ ec3⟩
    have hx4 : H4 c = some (.lst xc3) := s4 _ _ ec3
    have pl4 : PairsL H4 ts kvs U := ⟨pr4, rv.same s4⟩
    have pl5 : PairsL H5 ts kvs U := ⟨paired_mono (fun t l e => b5 _ _ (ne_of e hx4 (fun z => by cases z)) e) pl4.1, pl4.2.mono fun t l e => b5 _ _ (ne_of e hx4 (fun z => by cases z)) e⟩
    obtain ⟨kvs', U', pl6, pU⟩ := pairsL_perm pts pl5
    have nd' : (keys U').Nodup := (pU.map Prod.fst).nodup_iff.mpr dr.nd
    refine ⟨F, ts', kvs', rfl, SqL.of eF, pl6.sq, fun D6 nD6 => ?_⟩
    rw [merge_rows pl6.2 nd']
    obtain ⟨H6, z6, s6, e6⟩ := mk_at (o := .dK kvs') nD6
    rw [z6]
    have b05 : ButX c H H5 := b03.trans ((ButX.of s4).trans b5)
    have eD5 : H5 D = some (.dK kvs) := b5 _ _ (ne_of (s4 _ _ eD) hx4 (fun z => by cases z)) (s4 _ _ eD)
    refine made_of (Q := fun v H => gName 3 v _ H _) ⟨kvs', e6, pl6.2.same s6⟩ nd' ((dr.ok (by omega)).perm pU) n0 (by omega) fun x H7 R s7 pR lv fresh => ?_
    have s57 := s6.trans s7
    have pRU := pR.trans pU
    have so : PyProof.Rows.sortedS (keys R) = true := by
      obtain ⟨_, _, _, l⟩ := lv
      exact l.ord.so
    have eD6 := s6 _ _ eD5
    have lr : LR H7 D n U R := ⟨⟨kvs, s7 _ _ eD6, pl5.2.same s57⟩, dr, pRU, so⟩
    have cup7 := cup5.same s57
    have b07 : ButX c H H7 := b05.trans (ButX.of s57)
    clear z6 e6 pl6 pl5 pl4 eF nF nts nin nL4 eL4 pr4 b5 cup5 hx4 cup1 cup2 cup3 pm pts nD6
    try dsimp only [L2.start, List.set, List.map, List.length, List.replicate, List.append, List.cons_append, List.nil_append]
    refine ⟨_, rfl, _, rfl, _, rfl, x, D, n, U, R, rfl, lv, lr, fun dx m' Dx Nx ls e h => ?_, n0, n6, fun H8 s8 => ⟨_, rfl, iteFe rfl ?_⟩⟩
    · have z := fresh dx m' Dx Nx ls e
      rw [h, eD6] at z
      cases z
    obtain ⟨xc7, ec7⟩ := cup7.lst
    have lv8 := lv.same s8
    have lr8 := lr.same s8
    have ec8 := s8 _ _ ec7
    have cup8 : CupAt H8 c (m + 60) := (cup7.same s8).le (by omega)
    have b08 : ButX c H H8 := b07.trans (ButX.of s8)
    refine ⟨2, rfl, by decide, by decide, for_range (n := 2) (fun i σ H' => ∃ v4, σ = [some (.ref c), some (.int n), some (.ref D), some (.ref x), v4] ∧ ButX c H8 H' ∧ CupAt H' c (m + 60 + 20 * i)) ⟨none, rfl, ButX.of (fun _ _ e => e), cup8⟩ ?_ ?_⟩
    · rintro i σ H9 hi ⟨v4, rfl, b9, cup9⟩
      refine ⟨_, rfl, _, rfl, _, rfl, _, rfl, c, x, D, n, _, U, R, rfl, cup9, by omega, b9.lives ec8 lv8, b9.lr ec8 lr8, n0, n6, fun Ha ba cupa => ⟨_, rfl, iteFe rfl ⟨_, rfl, b9.trans ba, cupa.le (by omega)⟩⟩⟩
    rintro σ H9 ⟨v4, rfl, b9, cup9⟩
    refine ⟨_, rfl, _, rfl, _, rfl, _, rfl, c, x, D, n, _, U, R, rfl, cup9, by omega, b9.lives ec8 lv8, b9.lr ec8 lr8, n0, n6, fun Ha ba cupa => ⟨_, rfl, iteTe rfl ?_⟩⟩
    have b8a := b9.trans ba
    have lva := b8a.lives ec8 lv8
    have lra := b8a.lr ec8 lr8
    obtain ⟨dx, Dx, Nx, la⟩ := id lva
    obtain ⟨kva, ea, ra⟩ := lra.at_
    refine ⟨_, rfl, x, dx, _, rfl, la.ob, .inr ⟨_, .non, sb.n⟩, x, n, R, _, rfl, lva, .inr (.inl ⟨rfl, _, rfl, _, rfl, iteTe rfl ?_⟩)⟩
    exact ⟨_, rfl, _, rfl, x, dx, _, rfl, la.ob, .inr ⟨_, .dic ea, sb.d⟩, x, n, R, _, rfl, lva, .inr (.inr ⟨D, kva, rfl, ea, _, rfl, k _ (b08.trans b8a)⟩)⟩
end
end K56
namespace K56
open PySem L2
open L2.My
open Liv
theorem Same.seqL {K : PySem.W.Frag} {H H' : Hp} {a : Addr} {xs : List V} (s : Same H H') (h : SqL K H a xs) : SqL K H' a xs := by
  rcases h with h | ⟨o, h⟩
  · exact .inl (h.elim (fun h => .inl (s _ _ h)) (fun ⟨o, h⟩ => .inr ⟨o, s _ _ h⟩))
  · exact .inr ⟨o, h⟩
def kname (i : Nat) : Str := ("k" : Str) ++ (toString (i : Int) : Str)
def w48 : List Row := (List.range 48).map fun i : Nat => (kname i, ((i : Int), (i : Int) + 1))
theorem w48_nd : (keys w48).Nodup := by decide +kernel
theorem w48_ok : IsRows w48 := by
  refine ⟨by decide +kernel, fun r h => ?_, fun r h => ?_⟩
  · have a : ∀ k ∈ keys w48, (decide (1 ≤ k.length) && decide (k.length ≤ 30) && k.cps.toList.all fun c => decide (c ∈ ("abcdefghijklmnopqrstuvwxyz0123456789.:" : Str).cps.toList)) = true := by decide +kernel
    have q := a r.1 (List.mem_map_of_mem h)
    rw [Bool.and_eq_true, Bool.and_eq_true, decide_eq_true_iff, decide_eq_true_iff, List.all_eq_true] at q
    exact ⟨q.1.1, q.1.2, fun c hc => of_decide_eq_true (q.2 c hc)⟩
  · obtain ⟨i, hi, rfl⟩ := List.mem_map.mp h
    have hi := List.mem_range.mp hi
    have g : (1000 : Int) < great := by decide
    exact ⟨by show (i : Int) < i + 1; omega, by show -great < (i : Int); omega, by show (i : Int) < great; omega, by show -great < (i : Int) + 1; omega, by show (i : Int) + 1 < great; omega⟩
abbrev p20 : Int := (10 : Int) ^ (20 : Int).toNat
abbrev p29 : Int := (10 : Int) ^ (29 : Int).toNat
def rowsF : List Row := [("a", (p29, 2 * p29)), ("b", (0, 3 * p20 + 1))]
theorem rowsF_nd : (keys rowsF).Nodup := by decide +kernel
theorem rowsF_ok : IsRows rowsF := by
  refine ⟨by decide, fun r h => ?_, fun r h => ?_⟩
  · simp only [rowsF, List.mem_cons, List.not_mem_nil, or_false] at h
    rcases h with rfl | rfl
    · exact ⟨by decide, by decide, by decide +kernel⟩
    · exact ⟨by decide, by decide, by decide +kernel⟩
  · simp only [rowsF, List.mem_cons, List.not_mem_nil, or_false] at h
    rcases h with rfl | rfl
    · exact ⟨by decide +kernel, by decide +kernel, by decide +kernel, by decide +kernel, by decide +kernel⟩
    · exact ⟨by decide +kernel, by decide +kernel, by decide +kernel, by decide +kernel, by decide +kernel⟩
theorem sumA_perm {n : Int} {R U : List Row} (p : R.Perm U) (t : Int) : sumA n (lives R) t = sumA n (lives U) t := sum_perm ((p.map _).map _)
theorem sumX_perm {n : Int} {R U : List Row} (p : R.Perm U) (t : Int) : sumX n (lives R) t = sumX n (lives U) t := sum_perm ((p.map _).map _)
theorem most_perm {n : Int} {R U : List Row} (p : R.Perm U) : Liv.most n (lives R) = Liv.most n (lives U) := by
  unfold Liv.most counts
  congr 1
  exact List.map_congr_left fun s _ => sumA_perm p s
section
variable {P : Program} {w : World} {K : PySem.W.Frag} {mg : Str → Option Value} {base : Heap}
def spLaw (K : PySem.W.Frag) : Sp := fun vs H Q _ => ∃ (a : Addr) (ns : List Int), vs = [.ref a] ∧ SqL K H a (ns.map V.int) ∧ ns.length ≤ 63 ∧ ∀ H', Q (.bl true) H'
abbrev tLaw : Stmt := top 44
abbrev n_lw : List Str := ["_law_script", "_law_spot", "_law_rows_here", "_law_wide", "_law_told", "_law_far", "_law_due", "_law_number"]
theorem sl_lw : FnScope n_lw ["_law_script"] (defScope tLaw) := ⟨rfl, rfl, rfl, by decide +kernel, rfl, by decide +kernel, by decide +kernel⟩
theorem ok_lw {f fri fcu : Addr} {fd fdri fdcu : FuncData} (F : Fun K "law" "law" tLaw f fd) {C fI fAl fAc fMf fLe aM gM aT gT : Addr} {fdI fdLe fdM fdT : FuncData} (T : Txt mg) (X : CTxt K C) (nM : Mk5 P w K mg base C fI fdI) (nAl : Vn P w K mg base C "alive" 4 (spStar 2 (spTick C fAlive)) fAl) (nAc : Vn P w K mg base C "across" 4 (spStar 2 (spTick C fAcross)) fAc) (nMf : Vn P w K mg base C "most_of" 3 (spStar 1 (spNames C fMost)) fMf) (nLe : Sn P w K mg base C "__len__" ["self"] 1 (spLen C) fLe fdLe) (pM : Pn P w K mg base C "most" (spGet C (fun n R => .int (Liv.most n (lives R)))) aM gM fdM) (pT : Pn P w K mg base C "total" (spGet C (fun n R => .int (total (lives R)))) aT gT fdT) {tK : Tok} (hK : mg "MAX_KEYS" = some (.int 48 tK)) (dri : DnG P w K mg base "_law_right" ["_law_cup_here"] 10 spLRight fri fdri) (dcu : Dn P w K mg base CX0 "_law_cup" ["_law_script", "_law_spot"] 1 (spCup K) fcu fdcu) : FnG P w K mg base 11 f fd ["_law_script"] (spLaw K) := by
  refine L2.My.Fun.okG F sl_lw (fun vs H Q E h => ?_) (fun cdv A outer s H vs Q E _ hr gd h => ?_)
  · obtain ⟨a, ns, rfl, _⟩ := h
    rfl
  · obtain ⟨a, ns, rfl, hS, hl, k⟩ := h
    have hr1 : Room 1 _ := hr.mono (by decide)
    have hr2 : Room 2 _ := hr.mono (by decide)
    have hr3 : Room 3 _ := hr.mono (by decide)
    have hr4 : Room 4 _ := hr.mono (by decide)
    have hr6 : Room 6 _ := hr.mono (by decide)
    refine ⟨_, pss_cons (ps_for PassesOwn.never rfl (pi_range1 rfl T.range (pa_cons (pe_callB (call_max2 rfl) (by rfl) T.max (by decide +kernel) (pa_cons pe_int (pa_cons (pe_callB (call_min2 rfl) (by rfl) T.min (by decide +kernel) (pa_cons pe_int (pa_cons (pe_callB call_len_seq (by rfl) T.len PySem.boot_len (pa_cons (pv 0) pa_nil)) pa_nil))) pa_nil))) pa_nil)) (pg_name (i := 1) sl_lw.nd rfl (.inl rfl)) (pss_one (ps_if (pt_not (pt_val (pe_callG dri.G hr gd rfl dri.g dri.kp dri.b (pa_cons (pe_call dcu.G hr1 rfl dcu.g dcu.kp dcu.b .nil pass0 (pa_cons (pv 0) (pa_cons (pv 1) pa_nil))) pa_nil)))) (pss_one (ps_ret pe_bl)) pss_nil))) (pss_cons (ps_set (i := 2) sl_lw.nd rfl (.inl rfl) (pe_callTy (call_dictP rfl) (by rfl) T.dict (by decide +kernel) (pa_cons (pe_lc (own := [("_law_number", 7)]) (g := gName 7) (tt := tYes) (by rfl) sl_lw.nd (pi_range1 rfl T.range (pa_cons pe_int pa_nil)) (blkOk_by (own := [("_law_number", 7)]) (N := n_lw) (sc := defScope tLaw) (by decide +kernel)) (fun _ _ _ _ _ => pg_name (i := 7) sl_lw.nd rfl (Or.inl rfl)) (fun _ _ _ _ _ => pts_nil) (fun _ _ _ _ _ => pe_tup (pa_cons (pe_op op_add_str pe_str (pe_callTy call_str_int (by rfl) T.str (by decide +kernel) (pa_cons (pv 7) pa_nil))) (pa_cons (pe_tup (pa_cons (pv 7) (pa_cons (pe_op op_add (pv 7) pe_int) pa_nil))) pa_nil)))) pa_nil))) (pss_cons (ps_set (i := 3) sl_lw.nd rfl (.inl rfl) (pe_make nM.M nM.G hr6 rfl nM.g nM.b .nil pass0 (pa_cons pe_int (pa_cons (pv 2) pa_nil)))) (pss_cons (ps_set (i := 4) sl_lw.nd rfl (.inl rfl) (pe_lst (pa_cons (pe_glob (v := .int 48) rfl hK ⟨_, rfl⟩) (pa_cons (pe_prop (pv 3) X.cl pM.h pM.G hr2 pM.b .nil pass0 rfl) (pa_cons (pe_methR (pv 3) X.cl nAl.m nAl.G hr4 pass0 (pa_cons pe_int pa_nil)) (pa_cons (pe_methR (pv 3) X.cl nAl.m nAl.G hr4 pass0 (pa_cons pe_int pa_nil)) (pa_cons (pe_methR (pv 3) X.cl nAc.m nAc.G hr4 pass0 (pa_cons pe_int pa_nil)) (pa_cons (pe_prop (pv 3) X.cl pT.h pT.G hr2 pT.b .nil pass0 rfl) (pa_cons (pe_callB (call_lenO nLe.hs nLe.hf nLe.G nLe.b rfl hr2 pass0) (by rfl) T.len PySem.boot_len (pa_cons (pv 3) pa_nil)) pa_nil))))))))) (pss_cons (ps_set (i := 5) sl_lw.nd rfl (.inl rfl) (pe_make nM.M nM.G hr6 rfl nM.g nM.b .nil pass0 (pa_cons pe_int (pa_cons (pe_disp (pps_cons pe_str (pe_tup (pa_cons (pe_op op_pow pe_int pe_int) (pa_cons (pe_op op_mulW pe_int (pe_op op_pow pe_int pe_int)) pa_nil))) (pps_cons pe_str (pe_tup (pa_cons pe_int (pa_cons (pe_op op_add (pe_op op_mulW pe_int (pe_op op_pow pe_int pe_int)) pe_int) pa_nil))) pps_nil)) rfl rfl (by simp) (by decide)) pa_nil)))) (pss_cons (ps_set (i := 4) sl_lw.nd rfl (.inl rfl) (pe_op op_cat (pv 4) (pe_lst (pa_cons (pe_methR (pv 5) X.cl nAl.m nAl.G hr4 pass0 (pa_cons pe_int (pa_cons pe_str pa_nil))) (pa_cons (pe_methR (pv 5) X.cl nAl.m nAl.G hr4 pass0 (pa_cons pe_int (pa_cons pe_str pa_nil))) (pa_cons (pe_methR (pv 5) X.cl nAc.m nAc.G hr4 pass0 (pa_cons pe_int (pa_cons pe_str pa_nil))) (pa_cons (pe_methR (pv 5) X.cl nMf.m nMf.G hr3 pass0 (pa_cons pe_str pa_nil)) pa_nil))))))) (pss_cons (ps_set (i := 6) sl_lw.nd rfl (.inl rfl) (pe_lst (pa_cons pe_int (pa_cons pe_int (pa_cons pe_int (pa_cons pe_int (pa_cons pe_int (pa_cons pe_int (pa_cons pe_int (pa_cons (pe_op op_add (pe_op op_pow pe_int pe_int) pe_int) (pa_cons (pe_op op_pow pe_int pe_int) (pa_cons (pe_op op_pow pe_int pe_int) (pa_cons (pe_op op_add (pe_op op_pow pe_int pe_int) pe_int) pa_nil))))))))))))) (pss_one (ps_ret (pe_and (pe_cmpR ((op_eqD hr.units)) (pv 4) (pv 6) (nomark _)) (pe_one (pe_cmpR op_eq (pe_op op_add (pe_op op_add (pe_methR (pv 5) X.cl nAl.m nAl.G hr4 pass0 (pa_cons pe_int (pa_cons pe_str pa_nil))) (pe_methR (pv 5) X.cl nAl.m nAl.G hr4 pass0 (pa_cons pe_int (pa_cons pe_str pa_nil)))) (pe_methR (pv 5) X.cl nAl.m nAl.G hr4 pass0 (pa_cons pe_int (pa_cons pe_str pa_nil)))) (pe_op op_pow pe_int pe_int) (nomark _)))))))))))), ?_⟩
    have hr2 : Room 2 _ := hr.mono (by decide)
    obtain ⟨N, hN, N3⟩ : ∃ N : Nat, (if (if (ns.length : Int) < 3 then (ns.length : Int) else 3) > 1 then (if (ns.length : Int) < 3 then (ns.length : Int) else 3) else 1) = (N : Int) ∧ N ≤ 3 := by
      refine ⟨((if (if (ns.length : Int) < 3 then (ns.length : Int) else 3) > 1 then (if (ns.length : Int) < 3 then (ns.length : Int) else 3) else 1)).toNat, ?_, ?_⟩ <;> split <;> split <;> omega
    refine ⟨_, rfl, a, _, rfl, .inl hS, _, _, rfl, _, _, rfl, N, ?_, by omega, by omega, for_range (n := N) (fun i σ H' => ∃ v1, σ = [some (.ref a), v1, none, none, none, none, none, none] ∧ Same H H') ⟨none, rfl, fun _ _ e => e⟩ ?_ ?_⟩
    · rw [List.length_map, hN]
    · rintro i σ H1 hi ⟨v1, rfl, s1⟩
      rw [Int.zero_add]
      refine ⟨_, rfl, _, rfl, a, ns, i, rfl, K56.Same.seqL s1 hS, hl, by omega, fun c H2 s2 nc cup => ⟨c, 0, rfl, cup, by decide, fun H3 b3 => ⟨_, rfl, iteFe rfl ⟨_, rfl, fun b o e => b3 _ _ (ne_of_none (s1 _ _ e) nc) (s2 _ _ (s1 _ _ e))⟩⟩⟩⟩
    rintro σ H1 ⟨v1, rfl, s1⟩
    refine ⟨48, rfl, by decide, by decide, fun M nM => lc_range (n := 48) (fun i H' => ∃ ps kv, Acc H1 M (ps.map V.ref) H' ∧ PairsL H' ps kv (w48.take i)) ⟨[], [], Acc.start nM, .nil, .nil⟩ ?_ ?_⟩
    · rintro i H2 hi ⟨ps, kv, ac, pl⟩
      rw [Int.zero_add]
      have hi : i < 48 := hi
      have hr : w48[i]? = some (kname i, ((i : Int), (i : Int) + 1)) := by
        unfold w48
        rw [List.getElem?_map, List.getElem?_range hi]
        rfl
      refine ⟨rfl, _, rfl, _, rfl, small (by omega), _, _, rfl, rfl, ?_, _, rfl, _, rfl, _, _, rfl, rfl, n_line, fun p2 np2 => ⟨n_line, fun p np => ?_⟩⟩
      · have a1 := short2 (k := i) (by omega)
        have z1 : (("k" : Str)).length = 1 := rfl
        have big : 100 ≤ sizeLine := by decide
        rw [z1]
        omega
      have s2 : Same H2 (upd H2 p2 (.tup [.int i, .int ((i : Int) + 1)])) := grow np2
      have s3 : Same (upd H2 p2 (.tup [.int i, .int ((i : Int) + 1)])) (upd (upd H2 p2 (.tup [.int i, .int ((i : Int) + 1)])) p (.tup [.str (kname i), .ref p2])) := grow np
      have a3 := ac.on (s2.trans s3)
      have wl : (w48.take i).length ≤ 48 := by rw [List.length_take]; unfold w48; rw [List.length_map, List.length_range]; omega
      refine ⟨ps.map V.ref, a3.2.2, lt_line (by rw [List.length_map, pl.len]; omega), ps ++ [p], kv ++ [(Sum.inr (kname i), .ref p2)], ?_, ?_⟩
      · rw [List.map_append]
        exact a3.put
      · rw [take_step hr]
        have kp : ∀ q l, (upd (upd H2 p2 (.tup [.int i, .int ((i : Int) + 1)])) p (.tup [.str (kname i), .ref p2])) q = some (.tup l) → (upd (upd (upd H2 p2 (.tup [.int i, .int ((i : Int) + 1)])) p (.tup [.str (kname i), .ref p2])) M (.lst (ps.map V.ref ++ [.ref p]))) q = some (.tup l) := fun q l e => (upd_ne (ne_of e a3.2.2 (fun z => by cases z))).trans e
        exact PairsL.put (r := (kname i, ((i : Int), (i : Int) + 1))) (t := p2) pl (fun q l e => kp _ _ (s3 _ _ (s2 _ _ e))) (kp _ _ upd_same) (kp _ _ (s3 _ _ upd_same))
    rintro H2 ⟨ps, kv, ac, pl⟩
    rw [show w48.take 48 = w48 from rfl] at pl
    refine ⟨M, ps, kv, rfl, SqL.of ac.2.2, pl.sq, fun D nD => ?_⟩
    rw [merge_rows pl.2 w48_nd]
    obtain ⟨H3, z3, s3, e3⟩ := mk_at (o := .dK kv) nD
    rw [z3]
    try dsimp only [L2.start, List.set, List.map, List.length, List.replicate, List.append, List.cons_append, List.nil_append]
    refine ⟨_, rfl, made_of (Q := fun v H => gName 3 v _ H _) ⟨kv, e3, pl.2.same s3⟩ w48_nd w48_ok (n := 32) (by decide) (by decide) fun x H4 R s4 pR lv _ => ?_⟩
    try dsimp only [L2.start, List.set, List.map, List.length, List.replicate, List.append, List.cons_append, List.nil_append]
    have ins : ∀ {H : Hp} {y m : Nat} {W : List Row}, LivesAt C H y m W → ∃ dx D N, H y = some (.ins C dx (flds m D N (lives W))) := fun l => by
      obtain ⟨dx, D, N, l⟩ := l
      exact ⟨dx, D, N, l.ob⟩
    obtain ⟨dx, Dx, Nx, ob⟩ := ins lv
    have subN : ∀ s ∈ ([] : List Str), s ∈ keys R := fun _ h => by cases h
    have c0 : cnt R [] = R := if_pos rfl
    have g1000 : (1000 : Int) < great := by decide
    have v1 : Liv.most 32 (lives R) = 2 := (most_perm pR).trans (by decide +kernel)
    have v2 : sumA 32 (lives R) 0 = 2 := (sumA_perm pR 0).trans (by decide +kernel)
    have v3 : sumA 32 (lives R) 17 = 1 := (sumA_perm pR 17).trans (by decide +kernel)
    have v4 : sumX 32 (lives R) 5 = 0 := (sumX_perm pR 5).trans (by decide +kernel)
    have v5 : total (lives R) = 48 := (total_perm pR).trans (by decide +kernel)
    have v6 : R.length = 48 := pR.length_eq
    refine ⟨_, rfl, x, dx, _, rfl, ob, x, 32, R, rfl, lv, ?_⟩
    refine ⟨_, rfl, x, dx, _, rfl, ob, rfl, star_tick (ns := []) (v := .int 2) lv subN (by omega) (by omega) (by decide) (by show V.int (sumA ((32 : Nat) : Int) (lives (cnt R [])) 0) = _; rw [c0]; exact congrArg V.int v2) fun H5 s5 => ?_⟩
    refine ⟨_, rfl, x, dx, _, rfl, s5 _ _ ob, rfl, star_tick (ns := []) (v := .int 1) (lv.same s5) subN (by omega) (by omega) (by decide) (by show V.int (sumA ((32 : Nat) : Int) (lives (cnt R [])) 17) = _; rw [c0]; exact congrArg V.int v3) fun H6 s6 => ?_⟩
    have s46 := s5.trans s6
    refine ⟨_, rfl, x, dx, _, rfl, s46 _ _ ob, rfl, star_tick (ns := []) (v := .int 0) (lv.same s46) subN (by omega) (by omega) (by decide) (by show V.int (sumX ((32 : Nat) : Int) (lives (cnt R [])) 5) = _; rw [c0]; exact congrArg V.int v4) fun H7 s7 => ?_⟩
    have s47 := s46.trans s7
    have lv7 := lv.same s47
    refine ⟨_, rfl, x, dx, _, rfl, s47 _ _ ob, x, 32, R, rfl, lv7, ?_⟩
    refine ⟨_, rfl, x, dx, _, rfl, s47 _ _ ob, x, 32, R, rfl, lv7, R.length, by rw [v6]; decide, rfl, n_line, fun L8 nL8 => ?_⟩
    try dsimp only
    obtain ⟨H8, z8, s8, e8⟩ := mk_at (o := .lst [.int 48, .int (Liv.most ((32 : Nat) : Int) (lives R)), .int 2, .int 1, .int 0, .int (total (lives R)), .int R.length]) nL8
    rw [z8]
    rw [v5, v6, show Liv.most ((32 : Nat) : Int) (lives R) = 2 from v1] at e8
    have e8 : H8 L8 = some (.lst [.int 48, .int 2, .int 2, .int 1, .int 0, .int 48, .int 48]) := e8
    try dsimp only [L2.start, List.set, List.map, List.length, List.replicate, List.append, List.cons_append, List.nil_append]
    intro D9 nD9
    obtain ⟨H9, z9, s9, e9⟩ := mk_at (o := .dK []) nD9
    rw [z9]
    refine ⟨_, _, rfl, rfl, (by unfold CPow; decide), _, _, rfl, rfl, (by unfold CPow; decide), _, _, rfl, rfl, B.ml (n := 4) (m := 200) Bd Bd, n_line, fun ta nta => ?_⟩
    obtain ⟨Ha, za, sa, ea⟩ := mk_at (o := .tup [.int p29, .int (2 * p29)]) nta
    rw [za]
    refine ⟨_, _, rfl, rfl, (by unfold CPow; decide), _, _, rfl, rfl, B.ml (n := 4) (m := 200) Bd Bd, _, _, rfl, rfl, n_line, fun tb ntb => ?_⟩
    obtain ⟨Hb, zb, sb, eb⟩ := mk_at (o := .tup [.int 0, .int (3 * p20 + 1)]) ntb
    rw [zb]
    refine ⟨sb _ _ (sa _ _ e9), [(Sum.inr "a", .ref ta), (Sum.inr "b", .ref tb)], rfl, by show 2 ≤ 15; decide, ?_⟩
    have rv9 : Rv Hb [(Sum.inr "a", .ref ta), (Sum.inr "b", .ref tb)] rowsF := .cons ⟨rfl, ta, rfl, sb _ _ ea⟩ (.cons ⟨rfl, tb, rfl, eb⟩ .nil)
    rw [merge_rows rv9 rowsF_nd]
    obtain ⟨Hc, zc, kc, ec⟩ : ∃ Hc, upd Hb D9 (.dK [(Sum.inr "a", .ref ta), (Sum.inr "b", .ref tb)]) = Hc ∧ (∀ b o, b ≠ D9 → Hb b = some o → Hc b = some o) ∧ Hc D9 = some (.dK [(Sum.inr "a", .ref ta), (Sum.inr "b", .ref tb)]) := ⟨_, rfl, fun b o ne e => (upd_ne ne).trans e, upd_same⟩
    rw [zc]
    have s8c : Same H8 Hc := fun b o e => kc _ _ (ne_of_none e nD9) (sb _ _ (sa _ _ (s9 _ _ e)))
    have rvc : Rv Hc [(Sum.inr "a", .ref ta), (Sum.inr "b", .ref tb)] rowsF := rv9.mono fun t l e => kc _ _ (ne_of e (sb _ _ (sa _ _ e9)) (fun z => by cases z)) e
    refine made_of (Q := fun v H => gName 5 v _ H _) ⟨_, ec, rvc⟩ rowsF_nd rowsF_ok (n := 3) (by decide) (by decide) fun y Hd R2 sd p2 l2 _ => ?_
    have s8d := s8c.trans sd
    have ed := s8d _ _ e8
    obtain ⟨d2, D2, N2, ob2⟩ := ins l2
    have inb : ∀ s ∈ [("b" : Str)], s ∈ keys R2 := fun s h => by
      rw [List.mem_singleton] at h
      rw [h]
      exact (p2.map Prod.fst).mem_iff.mpr (by decide +kernel)
    have ina : ∀ s ∈ [("a" : Str)], s ∈ keys R2 := fun s h => by
      rw [List.mem_singleton] at h
      rw [h]
      exact (p2.map Prod.fst).mem_iff.mpr (by decide +kernel)
    have pb : ∀ ns : List Str, (sel R2 ns).Perm (sel rowsF ns) := fun ns => p2.filter _
    have cb : cnt R2 ["b"] = sel R2 ["b"] := if_neg (by simp)
    have ca : cnt R2 ["a"] = sel R2 ["a"] := if_neg (by simp)
    have b0 : sumA 3 (lives (sel R2 ["b"])) 0 = p20 + 1 := (sumA_perm (pb _) 0).trans (by decide +kernel)
    have b1 : sumA 3 (lives (sel R2 ["b"])) 1 = p20 := (sumA_perm (pb _) 1).trans (by decide +kernel)
    have b2 : sumX 3 (lives (sel R2 ["b"])) 0 = p20 := (sumX_perm (pb _) 0).trans (by decide +kernel)
    have b3 : Liv.most 3 (lives (sel R2 ["b"])) = p20 + 1 := (most_perm (pb _)).trans (by decide +kernel)
    try dsimp only [L2.start, List.set, List.map, List.length, List.replicate, List.append, List.cons_append, List.nil_append]
    refine ⟨_, rfl, _, rfl, y, d2, _, rfl, ob2, rfl, star_tick (ns := ["b"]) (v := .int (p20 + 1)) l2 inb (by omega) (by omega) (by decide) (by show V.int (sumA ((3 : Nat) : Int) (lives (cnt R2 ["b"])) 0) = _; rw [cb]; exact congrArg V.int b0) fun He se => ?_⟩
    refine ⟨_, rfl, y, d2, _, rfl, se _ _ ob2, rfl, star_tick (ns := ["b"]) (v := .int p20) (l2.same se) inb (by omega) (by omega) (by decide) (by show V.int (sumA ((3 : Nat) : Int) (lives (cnt R2 ["b"])) 1) = _; rw [cb]; exact congrArg V.int b1) fun Hf sf => ?_⟩
    have sdf := se.trans sf
    refine ⟨_, rfl, y, d2, _, rfl, sdf _ _ ob2, rfl, star_tick (ns := ["b"]) (v := .int p20) (l2.same sdf) inb (by omega) (by omega) (by decide) (by show V.int (sumX ((3 : Nat) : Int) (lives (cnt R2 ["b"])) 0) = _; rw [cb]; exact congrArg V.int b2) fun Hg sg => ?_⟩
    have sdg := sdf.trans sg
    refine ⟨_, rfl, y, d2, _, rfl, sdg _ _ ob2, rfl, star_names (ns := ["b"]) (v := .int (p20 + 1)) (l2.same sdg) inb (by decide) (by show V.int (Liv.most ((3 : Nat) : Int) (lives (sel R2 ["b"]))) = _; exact congrArg V.int b3) fun Hh sh => ⟨n_line, fun q nq => ?_⟩⟩
    obtain ⟨Hi, zi, si, ei⟩ := mk_at (o := .lst [.int (p20 + 1), .int p20, .int p20, .int (p20 + 1)]) nq
    rw [zi]
    refine ⟨L8, q, _, _, rfl, rfl, (sdg.trans (sh.trans si)) _ _ ed, ei, sl_n (by show 7 + 4 ≤ 1000; decide), fun q2 nq2 => ?_⟩
    obtain ⟨Hj, zj, sj, ej⟩ := mk_at (o := .lst ([.int 48, .int 2, .int 2, .int 1, .int 0, .int 48, .int 48] ++ [.int (p20 + 1), .int p20, .int p20, .int (p20 + 1)])) nq2
    rw [zj]
    have sdj := sdg.trans (sh.trans (si.trans sj))
    try dsimp only [L2.start, List.set, List.map, List.length, List.replicate, List.append, List.cons_append, List.nil_append]
    refine ⟨_, _, rfl, rfl, (by unfold CPow; decide), _, _, rfl, rfl, _, _, rfl, rfl, (by unfold CPow; decide), _, _, rfl, rfl, (by unfold CPow; decide), _, _, rfl, rfl, (by unfold CPow; decide), _, _, rfl, rfl, n_line, fun Ld nLd => ?_⟩
    obtain ⟨Hk, zk, sk, ek⟩ := mk_at (o := .lst [.int 48, .int 2, .int 2, .int 1, .int 0, .int 48, .int 48, .int (p20 + 1), .int p20, .int p20, .int (p20 + 1)]) nLd
    rw [zk]
    try dsimp only [L2.start, List.set, List.map, List.length, List.replicate, List.append, List.cons_append, List.nil_append]
    have ej : Hj q2 = some (.lst [.int 48, .int 2, .int 2, .int 1, .int 0, .int 48, .int 48, .int (p20 + 1), .int p20, .int p20, .int (p20 + 1)]) := ej
    have dpA : ∀ {H : Hp} {q : Addr}, H q = some (.lst [.int 48, .int 2, .int 2, .int 1, .int 0, .int 48, .int 48, .int (p20 + 1), .int p20, .int p20, .int (p20 + 1)]) → Dp K H (.ref q) (.list [.int 48, .int 2, .int 2, .int 1, .int 0, .int 48, .int 48, .int (p20 + 1), .int p20, .int p20, .int (p20 + 1)]) :=
      fun e => .lst (SqL.of e) (.cons (.int _) (.cons (.int _) (.cons (.int _) (.cons (.int _) (.cons (.int _) (.cons (.int _) (.cons (.int _) (.cons (.int _) (.cons (.int _) (.cons (.int _) (.cons (.int _) .nil)))))))))))
    have shA : SeqAt.shaped (.list [.int 48, .int 2, .int 2, .int 1, .int 0, .int 48, .int 48, .int (p20 + 1), .int p20, .int p20, .int (p20 + 1)]) = true := by
      simp [SeqAt.shaped, PyData.canLay0, PyData.canLayAll0, PyData.depth, PyData.depthAll]
    refine ⟨_, rfl, _, rfl, _, _, dpA (sk _ _ ej), dpA ek, shA, shA, _, rfl, iteTe (shaped_refl shA) ?_⟩
    have sdk := sdj.trans sk
    refine ⟨_, rfl, y, d2, _, rfl, sdk _ _ ob2, rfl, star_tick (ns := ["a"]) (v := .int (sumA 3 (lives (sel rowsF ["a"])) 0)) (l2.same sdk) ina (by omega) (by omega) (by decide) (by show V.int (sumA ((3 : Nat) : Int) (lives (cnt R2 ["a"])) 0) = _; rw [ca]; exact congrArg V.int (sumA_perm (pb _) 0)) fun Hl sl => ?_⟩
    have sdl := sdk.trans sl
    refine ⟨_, rfl, y, d2, _, rfl, sdl _ _ ob2, rfl, star_tick (ns := ["a"]) (v := .int (sumA 3 (lives (sel rowsF ["a"])) 1)) (l2.same sdl) ina (by omega) (by omega) (by decide) (by show V.int (sumA ((3 : Nat) : Int) (lives (cnt R2 ["a"])) 1) = _; rw [ca]; exact congrArg V.int (sumA_perm (pb _) 1)) fun Hm sm => ?_⟩
    have sdm := sdl.trans sm
    refine ⟨_, _, rfl, rfl, _, rfl, y, d2, _, rfl, sdm _ _ ob2, rfl, star_tick (ns := ["a"]) (v := .int (sumA 3 (lives (sel rowsF ["a"])) 2)) (l2.same sdm) ina (by omega) (by omega) (by decide) (by show V.int (sumA ((3 : Nat) : Int) (lives (cnt R2 ["a"])) 2) = _; rw [ca]; exact congrArg V.int (sumA_perm (pb _) 2)) fun Hn sn => ?_⟩
    refine ⟨_, _, rfl, rfl, _, _, rfl, rfl, (by unfold CPow; decide), rfl, ?_⟩
    have fin : sumA 3 (lives (sel rowsF ["a"])) 0 + sumA 3 (lives (sel rowsF ["a"])) 1 + sumA 3 (lives (sel rowsF ["a"])) 2 = p29 := by decide +kernel
    refine (?_ : Q (.bl (decide (V.int (sumA 3 (lives (sel rowsF ["a"])) 0 + sumA 3 (lives (sel rowsF ["a"])) 1 + sumA 3 (lives (sel rowsF ["a"])) 2) = V.int p29))) Hn)
    rw [fin, decide_eq_true rfl]
    exact k _
end
end K56
namespace K56
open PySem L2
open L2.My
open Liv
structure AtTop (K : PySem.W.Frag) (x : Str) (st : Stmt) (f : Addr) (fd : FuncData) : Prop where
  ns : PySem.W.nsIn K mainGlobals x = some (some (.ref f))
  fn : Fun K x x st f fd
theorem atTop {K : PySem.W.Frag} {x : Str} {st : Stmt} {f : Addr} {oc : Value} {od an : Option Addr} {sl : Array (Option Value)} {kV dc pm cd ct : Value} (a : PySem.W.nsIn K mainGlobals x = some (some (.ref f)))
    (l : K.lookup f = some ⟨oc, od, .func (PySem.W.fnOf x x (defArgs st) (defBody st) (defScope st) .none kV dc pm an cd ct), sl⟩) (c : PySem.W.codeIn K cd x = true) (k : PySem.W.keepIn K (.ref f) = true) :
    AtTop K x st f (PySem.W.fnOf x x (defArgs st) (defBody st) (defScope st) .none kV dc pm an cd ct) := ⟨a, fun_mk (st := st) l c k⟩
/-- a method's def, and a property's -/
theorem atM {K : PySem.W.Frag} {x q : Str} {st : Stmt} {f : Addr} {oc : Value} {od an : Option Addr} {sl : Array (Option Value)} {kV dc pm cd ct : Value}
    (l : K.lookup f = some ⟨oc, od, .func (PySem.W.fnOf x q (defArgs st) (defBody st) (defScope st) .none kV dc pm an cd ct), sl⟩) (c : PySem.W.codeIn K cd q = true) (k : PySem.W.keepIn K (.ref f) = true) :
    Fun K x q st f (PySem.W.fnOf x q (defArgs st) (defBody st) (defScope st) .none kV dc pm an cd ct) := fun_mk (st := st) l c k
structure AtP (K : PySem.W.Frag) (C : Addr) (x q : Str) (st : Stmt) (p g : Addr) (fd : FuncData) : Prop where
  pr : PropOf K C x p g
  fn : Fun K x q st g fd
theorem atP {K : PySem.W.Frag} {C p g : Addr} {x q : Str} {st : Stmt} {oc : Value} {od an : Option Addr} {sl : Array (Option Value)} {kV dc pm cd ct : Value} {rest : List Value} (a : PySem.W.findIn K (.ref C) x = some (some (.ref p)))
    (b : PySem.W.specialIn K (.ref p) "__get__" = some (some (.builtin "property.__get__"))) (t : PySem.W.takesIn K (.ref p) = some true) (r : PySem.W.recIn K p "property" = some (.ref g :: rest))
    (l : K.lookup g = some ⟨oc, od, .func (PySem.W.fnOf x q (defArgs st) (defBody st) (defScope st) .none kV dc pm an cd ct), sl⟩) (c : PySem.W.codeIn K cd q = true) (k : PySem.W.keepIn K (.ref g) = true) :
    AtP K C x q st p g (PySem.W.fnOf x q (defArgs st) (defBody st) (defScope st) .none kV dc pm an cd ct) := ⟨⟨a, b, t, rest, r⟩, fun_mk (st := st) l c k⟩

theorem kit_no {K : PySem.W.Frag} {C : Addr} {n : String} (ic : PySem.W.isClsIn K C = true) (ty : PySem.W.typeIn K (.ref C) = some (.type "type")) (s : PySem.W.subIn K (.type n) (.ref C) = some false) : PySem.W.kitOne K (.type n) (.ref C) = some false := by
  unfold PySem.W.kitOne
  rw [if_neg (by intro z; cases z)]
  have i2 : (PySem.W.clsIn K C).isSome = true := ic
  show (if ((PySem.W.clsIn K C).isSome && PySem.W.typeIn K (.ref C) == some (.type "type")) = true then PySem.W.subIn K (.type n) (.ref C) else none) = some false
  rw [i2, ty, if_pos (by rfl)]
  exact s
structure Class (K : PySem.W.Frag) (C fI fEA fIt flo fco fal fac2 ffu fmf fap feq fle fgi fha fss fad ftr forr fan : Addr) : Prop where
  nC : PySem.W.nsIn K mainGlobals "Lives" = some (some (.ref C))
  t : CTxt K C
  m : Mk K C fI
  elo : Meth K C "_lives_of" flo
  eco : Meth K C "_counted" fco
  eal : Meth K C "alive" fal
  eac2 : Meth K C "across" fac2
  efu : Meth K C "is_full" ffu
  emf : Meth K C "most_of" fmf
  eap : Meth K C "is_apart" fap
  eeq : PySem.W.findIn K (.ref C) "__eq__" = some (some (.ref feq)) ∧ PySem.W.isFn K (.ref feq) = true
  ele : PySem.W.findIn K (.ref C) "__len__" = some (some (.ref fle)) ∧ PySem.W.isFn K (.ref fle) = true
  egi : PySem.W.findIn K (.ref C) "__getitem__" = some (some (.ref fgi)) ∧ PySem.W.isFn K (.ref fgi) = true
  eha : PySem.W.findIn K (.ref C) "__contains__" = some (some (.ref fha)) ∧ PySem.W.isFn K (.ref fha) = true
  ess : PySem.W.findIn K (.ref C) "__str__" = some (some (.ref fss)) ∧ PySem.W.isFn K (.ref fss) = true
  ead : OpC K C fad "add"
  etr : Meth K C "turned" ftr
  eorr : OpC K C forr "or"
  ean : OpC K C fan "and"
  eEA : Meth K C "each_alive" fEA
  eIt : PySem.W.findIn K (.ref C) "__iter__" = some (some (.ref fIt)) ∧ PySem.W.isFn K (.ref fIt) = true
  fg : PySem.W.fnIn K fgi = true
  eq : EqC K C feq
  ha : PySem.W.findIn K (.ref C) "__class__" = some (some (.builtin "object.__class__"))
  hn : PySem.W.specialIn K (.builtin "object.__class__") "__get__" = some (some (.builtin "getset_descriptor.__get__"))
  htk : PySem.W.takesIn K (.builtin "object.__class__") = some true
  hm : PySem.W.mroIn K C (.type "object") = some true
  ic : PySem.W.isClsIn K C = true
  ty : PySem.W.typeIn K (.ref C) = some (.type "type")
  sb : NoSub K C
  si : SideT K C "int" "add"
  st : SideT K C "tuple" "and"
theorem all_mk {l : PySem.W.OpenLaw} {w : World} {K : PySem.W.Frag} {h : Heap} {mg : Str → Option Value} {fa C fI fEA fIt flo fco fal fac2 ffu fmf fap feq fle fgi fha fss fad ftr forr fan : Addr} {tk0 tk1 tk2 tk3 tk4 : Tok} (X : K.In h) (G : h.Ns mainGlobals mg) (hfa : mg "law" = some (.ref fa))
    {fwh fit fbw fcn fci fck fky flf frw fca fcx fax fac fmo ffm fcu fro fpk ffe flr fva flm fla flf2 flp fcr ftr2 for2 fri flw : Addr} {fdwh fdit fdbw fdcn fdci fdck fdky fdlf fdrw fdca fdcx fdax fdac fdmo fdfm fdcu fdro fdpk fdfe fdlr fdva fdlm fdla fdlf2 fdlp fdcr fdtr2 fdor2 fdri fdlw : FuncData} {agI ggI agM ggM agT ggT agN ggN agR ggR : Addr} {hgI hgM hgT hgN hgR fdI fdEA fdIt fdlo fdco fdal fdac2 fdfu fdmf fdap fdeq fdle fdgi fdha fdss fdad fdtr fdorr fdan : FuncData} (CL : Class K C fI fEA fIt flo fco fal fac2 ffu fmf fap feq fle fgi fha fss fad ftr forr fan)
    (v0 : PySem.W.nsIn K mainGlobals "LONG" = some (some (.int (10 ^ 30) tk0))) (v1 : PySem.W.nsIn K mainGlobals "MAX_SIGNS" = some (some (.int 30 tk1))) (v2 : PySem.W.nsIn K mainGlobals "SIGNS" = some (some (.str "abcdefghijklmnopqrstuvwxyz0123456789.:" tk2))) (v3 : PySem.W.nsIn K mainGlobals "MAX_KEYS" = some (some (.int 48 tk3))) (v4 : PySem.W.nsIn K mainGlobals "MAX_INTERVAL" = some (some (.int 32 tk4)))
    (mI : Fun K "__init__" "Lives.__init__" mInit fI fdI) (mEA : Fun K "each_alive" "Lives.each_alive" mEach fEA fdEA) (mIt : Fun K "__iter__" "Lives.__iter__" mIter fIt fdIt)
    (mlo : Fun K "_lives_of" "Lives._lives_of" mLivesOf flo fdlo)
    (mco : Fun K "_counted" "Lives._counted" mCounted fco fdco)
    (mal : Fun K "alive" "Lives.alive" mAlive fal fdal)
    (mac2 : Fun K "across" "Lives.across" mAcross fac2 fdac2)
    (mfu : Fun K "is_full" "Lives.is_full" mFull ffu fdfu)
    (mmf : Fun K "most_of" "Lives.most_of" mMostOf fmf fdmf)
    (map : Fun K "is_apart" "Lives.is_apart" mApart fap fdap)
    (meq : Fun K "__eq__" "Lives.__eq__" mEq feq fdeq)
    (mle : Fun K "__len__" "Lives.__len__" mLen fle fdle)
    (mgi : Fun K "__getitem__" "Lives.__getitem__" mItem fgi fdgi)
    (mha : Fun K "__contains__" "Lives.__contains__" mHas fha fdha)
    (mss : Fun K "__str__" "Lives.__str__" mStr fss fdss)
    (mad : Fun K "__add__" "Lives.__add__" mAdd fad fdad)
    (mtr : Fun K "turned" "Lives.turned" mTurned ftr fdtr)
    (morr : Fun K "__or__" "Lives.__or__" mOr forr fdorr)
    (man : Fun K "__and__" "Lives.__and__" mAnd fan fdan)
    (pgI : AtP K C "interval" "Lives.interval" mInterval agI ggI hgI) (pgM : AtP K C "most" "Lives.most" mMost agM ggM hgM) (pgT : AtP K C "total" "Lives.total" mTotal agT ggT hgT) (pgN : AtP K C "names" "Lives.names" mNames agN ggN hgN) (pgR : AtP K C "rows" "Lives.rows" mRows agR ggR hgR)
    (dwh : AtTop K "is_whole" tWhole fwh fdwh) (dit : AtTop K "is_integer" tInt fit fdit) (dbw : AtTop K "is_between" tBtw fbw fdbw) (dcn : AtTop K "check_number" tChkN fcn fdcn) (dci : AtTop K "check_integer" tChkI fci fdci) (dck : AtTop K "check_known" tKnown fck fdck) (dky : AtTop K "is_key" tKey fky fdky) (dlf : AtTop K "is_life" tLife flf fdlf) (drw : AtTop K "is_rows" tRows frw fdrw) (dca : AtTop K "count_alive" tCa fca fdca) (dcx : AtTop K "count_across" tCx fcx fdcx) (dax : AtTop K "all_across" tAx fax fdax) (dac : AtTop K "alive_counts" tAc fac fdac) (dmo : AtTop K "most_alive" tMo fmo fdmo) (dfm : AtTop K "full_moments" tFm ffm fdfm) (dcu : AtTop K "_law_cup" lCup fcu fdcu) (dro : AtTop K "_law_roll" lRoll fro fdro) (dpk : AtTop K "_law_pick" lPick fpk fdpk) (dfe : AtTop K "_law_few" lFew ffe fdfe) (dlr : AtTop K "_law_rows" lRows flr fdlr) (dva : AtTop K "_law_values" lValues fva fdva) (dlm : AtTop K "_law_most" lMost flm fdlm) (dla : AtTop K "_law_across" lAcross fla fdla) (dlf2 : AtTop K "_law_is_full" lFull flf2 fdlf2) (dlp : AtTop K "_law_is_apart" lApart flp fdlp) (dcr : AtTop K "_law_counts_right" lCounts fcr fdcr) (dtr2 : AtTop K "_law_told_right" lTold ftr2 fdtr2) (dor2 : AtTop K "_law_others_right" lOthers for2 fdor2) (dri : AtTop K "_law_right" lRight fri fdri) (dlw : AtTop K "law" tLaw flw fdlw)
    (z0 : PySem.W.nsIn K mainGlobals "isinstance" = some none) (z1 : PySem.W.nsIn K mainGlobals "int" = some none) (z2 : PySem.W.nsIn K mainGlobals "bool" = some none) (z3 : PySem.W.nsIn K mainGlobals "tuple" = some none) (z4 : PySem.W.nsIn K mainGlobals "str" = some none) (z5 : PySem.W.nsIn K mainGlobals "list" = some none) (z6 : PySem.W.nsIn K mainGlobals "dict" = some none) (z7 : PySem.W.nsIn K mainGlobals "set" = some none) (z8 : PySem.W.nsIn K mainGlobals "len" = some none) (z9 : PySem.W.nsIn K mainGlobals "abs" = some none) (z10 : PySem.W.nsIn K mainGlobals "sum" = some none) (z11 : PySem.W.nsIn K mainGlobals "all" = some none) (z12 : PySem.W.nsIn K mainGlobals "any" = some none) (z13 : PySem.W.nsIn K mainGlobals "max" = some none) (z14 : PySem.W.nsIn K mainGlobals "min" = some none) (z15 : PySem.W.nsIn K mainGlobals "range" = some none) (z16 : PySem.W.nsIn K mainGlobals "sorted" = some none) (z17 : PySem.W.nsIn K mainGlobals "iter" = some none) (z18 : PySem.W.nsIn K mainGlobals "repr" = some none)
    (hb : ∀ (s : Shared) (v : Value), BindsTo s fdlw ⟨[v], []⟩ [("_law_script", v)]) :
    LawG l w K 11 63 "_law_script" mg fa h := by
  have e := hfa.symm.trans (PySem.W.mg_of X G dlw.ns)
  cases e
  refine ⟨fdlw, [], spLaw K, (fun p hp => by cases hp), (fun p hp => by cases hp), (fun p hp => by cases hp), hb, fun H a ns hl _ _ hS => ⟨a, ns, rfl, hS, hl, fun _ => rfl⟩, fun base _ _ _ => ?_⟩
  have TX : Txt mg := ⟨PySem.W.mg_none_of X G z0, PySem.W.mg_none_of X G z1, PySem.W.mg_none_of X G z2, PySem.W.mg_none_of X G z3, PySem.W.mg_none_of X G z4, PySem.W.mg_none_of X G z5, PySem.W.mg_none_of X G z6, PySem.W.mg_none_of X G z7, PySem.W.mg_none_of X G z8, PySem.W.mg_none_of X G z9, PySem.W.mg_none_of X G z10, PySem.W.mg_none_of X G z11, PySem.W.mg_none_of X G z12, PySem.W.mg_none_of X G z13, PySem.W.mg_none_of X G z14, PySem.W.mg_none_of X G z15, PySem.W.mg_none_of X G z16, PySem.W.mg_none_of X G z17, PySem.W.mg_none_of X G z18⟩
  have gLONG := PySem.W.mg_of X G v0
  have gMAX_SIGNS := PySem.W.mg_of X G v1
  have gSIGNS := PySem.W.mg_of X G v2
  have gMAX_KEYS := PySem.W.mg_of X G v3
  have gMAX_INTERVAL := PySem.W.mg_of X G v4
  have gC : mg "Lives" = some (.ref C) := PySem.W.mg_of X G CL.nC
  have QT : QTxt K mg C := ⟨CL.ha, CL.hn, CL.htk, CL.hm, gC, if_pos (beq_self_eq_true _), kit_no CL.ic CL.ty CL.sb.n, kit_no CL.ic CL.ty CL.sb.d⟩
  have Dwh : Dn l.prog w K mg base CX0 "is_whole" ["value"] 1 (spWhole) fwh fdwh := ⟨ok_wh dwh.fn TX, dwh.fn.kp, dwh.fn.binds (ps := ["value"]) fun _ _ _ _ _ _ us hl => match us, hl with | [_], _ => rfl, PySem.W.mg_of X G dwh.ns⟩
  have Dit : Dn l.prog w K mg base CX0 "is_integer" ["value"] 2 (spInt) fit fdit := ⟨ok_it dit.fn gLONG Dwh, dit.fn.kp, dit.fn.binds (ps := ["value"]) fun _ _ _ _ _ _ us hl => match us, hl with | [_], _ => rfl, PySem.W.mg_of X G dit.ns⟩
  have Dbw : Dn l.prog w K mg base CX0 "is_between" ["value", "least", "most"] 3 (spBtw) fbw fdbw := ⟨ok_bw dbw.fn Dit, dbw.fn.kp, dbw.fn.binds (ps := ["value", "least", "most"]) fun _ _ _ _ _ _ us hl => match us, hl with | [_, _, _], _ => rfl, PySem.W.mg_of X G dbw.ns⟩
  have Dcn : Dn l.prog w K mg base CX0 "check_number" ["value", "least", "most"] 4 (spChkN) fcn fdcn := ⟨ok_cn dcn.fn Dbw, dcn.fn.kp, dcn.fn.binds (ps := ["value", "least", "most"]) fun _ _ _ _ _ _ us hl => match us, hl with | [_, _, _], _ => rfl, PySem.W.mg_of X G dcn.ns⟩
  have Dci : Dn l.prog w K mg base CX0 "check_integer" ["value"] 3 (spChkI) fci fdci := ⟨ok_ci dci.fn Dit, dci.fn.kp, dci.fn.binds (ps := ["value"]) fun _ _ _ _ _ _ us hl => match us, hl with | [_], _ => rfl, PySem.W.mg_of X G dci.ns⟩
  have Dck : Dn l.prog w K mg base CX0 "check_known" ["name", "known"] 1 (spKnown) fck fdck := ⟨ok_ck dck.fn , dck.fn.kp, dck.fn.binds (ps := ["name", "known"]) fun _ _ _ _ _ _ us hl => match us, hl with | [_, _], _ => rfl, PySem.W.mg_of X G dck.ns⟩
  have Dky : Dn l.prog w K mg base CX0 "is_key" ["value"] 1 (spKey) fky fdky := ⟨ok_ky dky.fn TX gMAX_SIGNS gSIGNS, dky.fn.kp, dky.fn.binds (ps := ["value"]) fun _ _ _ _ _ _ us hl => match us, hl with | [_], _ => rfl, PySem.W.mg_of X G dky.ns⟩
  have Dlf : Dn l.prog w K mg base CX0 "is_life" ["value"] 3 (spLife) flf fdlf := ⟨ok_lf dlf.fn TX Dit, dlf.fn.kp, dlf.fn.binds (ps := ["value"]) fun _ _ _ _ _ _ us hl => match us, hl with | [_], _ => rfl, PySem.W.mg_of X G dlf.ns⟩
  have Drw : Dn l.prog w K mg base CX0 "is_rows" ["value"] 4 (spRows) frw fdrw := ⟨ok_rw drw.fn TX gMAX_KEYS Dlf Dky, drw.fn.kp, drw.fn.binds (ps := ["value"]) fun _ _ _ _ _ _ us hl => match us, hl with | [_], _ => rfl, PySem.W.mg_of X G drw.ns⟩
  have Dca : Dn l.prog w K mg base CX0 "count_alive" ["life", "interval", "tick"] 1 ((spCnt alive)) fca fdca := ⟨ok_ca dca.fn , dca.fn.kp, dca.fn.binds (ps := ["life", "interval", "tick"]) fun _ _ _ _ _ _ us hl => match us, hl with | [_, _, _], _ => rfl, PySem.W.mg_of X G dca.ns⟩
  have Dcx : Dn l.prog w K mg base CX0 "count_across" ["life", "interval", "moment"] 1 ((spCnt across)) fcx fdcx := ⟨ok_cx dcx.fn , dcx.fn.kp, dcx.fn.binds (ps := ["life", "interval", "moment"]) fun _ _ _ _ _ _ us hl => match us, hl with | [_, _, _], _ => rfl, PySem.W.mg_of X G dcx.ns⟩
  have Dax : Dn l.prog w K mg base CX0 "all_across" ["rows", "interval", "moment"] 2 (spAll) fax fdax := ⟨ok_ax dax.fn TX Dcx, dax.fn.kp, dax.fn.binds (ps := ["rows", "interval", "moment"]) fun _ _ _ _ _ _ us hl => match us, hl with | [_, _, _], _ => rfl, PySem.W.mg_of X G dax.ns⟩
  have Dac : Dn l.prog w K mg base CX0 "alive_counts" ["rows", "interval"] 1 (spCounts) fac fdac := ⟨ok_ac dac.fn TX, dac.fn.kp, dac.fn.binds (ps := ["rows", "interval"]) fun _ _ _ _ _ _ us hl => match us, hl with | [_, _], _ => rfl, PySem.W.mg_of X G dac.ns⟩
  have Dmo : Dn l.prog w K mg base CX0 "most_alive" ["rows", "interval"] 2 (spMost) fmo fdmo := ⟨ok_mo dmo.fn TX Dac, dmo.fn.kp, dmo.fn.binds (ps := ["rows", "interval"]) fun _ _ _ _ _ _ us hl => match us, hl with | [_, _], _ => rfl, PySem.W.mg_of X G dmo.ns⟩
  have Dfm : Dn l.prog w K mg base CX0 "full_moments" ["rows", "interval"] 3 (spFull) ffm fdfm := ⟨ok_fm dfm.fn TX Dmo Dax, dfm.fn.kp, dfm.fn.binds (ps := ["rows", "interval"]) fun _ _ _ _ _ _ us hl => match us, hl with | [_, _], _ => rfl, PySem.W.mg_of X G dfm.ns⟩
  have MK : Mk5 l.prog w K mg base C fI fdI := ⟨gC, CL.m, ok_in mI TX CL.t gMAX_INTERVAL Dcn Drw Dmo, mI.binds (ps := ["self", "interval", "rows"]) fun _ _ _ _ _ _ us hl => match us, hl with | [_, _, _], _ => rfl⟩
  have N_interval : Pn l.prog w K mg base C "interval" ((spGet C (fun n _ => .int n))) agI ggI hgI := ⟨ok_gI pgI.fn CL.t, pgI.pr, pgI.fn.binds (ps := ["self"]) fun _ _ _ _ _ _ us hl => match us, hl with | [_], _ => rfl⟩
  have N_most : Pn l.prog w K mg base C "most" ((spGet C (fun n R => .int (Liv.most n (lives R))))) agM ggM hgM := ⟨ok_gM pgM.fn CL.t, pgM.pr, pgM.fn.binds (ps := ["self"]) fun _ _ _ _ _ _ us hl => match us, hl with | [_], _ => rfl⟩
  have N_total : Pn l.prog w K mg base C "total" ((spGet C (fun n R => .int (total (lives R))))) agT ggT hgT := ⟨ok_gT pgT.fn CL.t, pgT.pr, pgT.fn.binds (ps := ["self"]) fun _ _ _ _ _ _ us hl => match us, hl with | [_], _ => rfl⟩
  have N_names : Pn l.prog w K mg base C "names" ((spGN C)) agN ggN hgN := ⟨ok_gN pgN.fn CL.t, pgN.pr, pgN.fn.binds (ps := ["self"]) fun _ _ _ _ _ _ us hl => match us, hl with | [_], _ => rfl⟩
  have N_rows : Pn l.prog w K mg base C "rows" ((spGR C)) agR ggR hgR := ⟨ok_gR pgR.fn TX CL.t, pgR.pr, pgR.fn.binds (ps := ["self"]) fun _ _ _ _ _ _ us hl => match us, hl with | [_], _ => rfl⟩
  have N__lives_of : Mn l.prog w K mg base C "_lives_of" ["self", "names"] 2 ((spLivesOf C)) flo fdlo := ⟨ok_lo mlo CL.t Dck, CL.elo, mlo.binds (ps := ["self", "names"]) fun _ _ _ _ _ _ us hl => match us, hl with | [_, _], _ => rfl⟩
  have N__counted : Mn l.prog w K mg base C "_counted" ["self", "names"] 3 ((spCounted C)) fco fdco := ⟨ok_co mco TX CL.t N__lives_of, CL.eco, mco.binds (ps := ["self", "names"]) fun _ _ _ _ _ _ us hl => match us, hl with | [_, _], _ => rfl⟩
  have N_alive := (⟨ok_al mal TX CL.t N__counted Dci Dca, CL.eal⟩ : Vn l.prog w K mg base C "alive" 4 (spStar 2 ((spTick C fAlive))) fal)
  have N_across := (⟨ok_ac2 mac2 TX CL.t N__counted Dci Dax, CL.eac2⟩ : Vn l.prog w K mg base C "across" 4 (spStar 2 ((spTick C fAcross))) fac2)
  have N_is_full := (⟨ok_fu mfu TX CL.t N__counted Dci Dax Dmo, CL.efu⟩ : Vn l.prog w K mg base C "is_full" 4 (spStar 2 ((spTick C fFull))) ffu)
  have N_most_of := (⟨ok_mf mmf CL.t N__lives_of Dmo, CL.emf⟩ : Vn l.prog w K mg base C "most_of" 3 (spStar 1 ((spNames C fMost))) fmf)
  have N_each_alive : Gn l.prog w K mg base C "each_alive" ["self", "tick"] 4 (spEach C) fEA fdEA := ⟨gok_each mEA CL.t Dci, CL.eEA, mEA.binds (ps := ["self", "tick"]) fun _ _ _ _ _ _ us hl => match us, hl with | [_, _], _ => rfl⟩
  have IT : IterC l.prog w K mg base C fIt "_names" := iter_c mIt TX CL.t CL.eIt.1 CL.eIt.2
  have N_is_apart := (⟨ok_ap map TX CL.t N__lives_of Dfm, CL.eap⟩ : Vn l.prog w K mg base C "is_apart" 4 (spStar 1 ((spNames C fApart))) fap)
  have N___eq__ : Sn l.prog w K mg base C "__eq__" ["self", "other"] 1 ((spEqL C)) feq fdeq := ⟨ok_eq meq TX CL.t QT, meq.binds (ps := ["self", "other"]) fun _ _ _ _ _ _ us hl => match us, hl with | [_, _], _ => rfl, CL.eeq.1, CL.eeq.2⟩
  have N___len__ : Sn l.prog w K mg base C "__len__" ["self"] 1 ((spLen C)) fle fdle := ⟨ok_le mle TX CL.t, mle.binds (ps := ["self"]) fun _ _ _ _ _ _ us hl => match us, hl with | [_], _ => rfl, CL.ele.1, CL.ele.2⟩
  have N___getitem__ : Sn l.prog w K mg base C "__getitem__" ["self", "at"] 1 ((spItem C)) fgi fdgi := ⟨ok_gi mgi TX CL.t, mgi.binds (ps := ["self", "at"]) fun _ _ _ _ _ _ us hl => match us, hl with | [_, _], _ => rfl, CL.egi.1, CL.egi.2⟩
  have N___contains__ : Sn l.prog w K mg base C "__contains__" ["self", "x"] 1 ((spHas C)) fha fdha := ⟨ok_ha mha TX CL.t, mha.binds (ps := ["self", "x"]) fun _ _ _ _ _ _ us hl => match us, hl with | [_, _], _ => rfl, CL.eha.1, CL.eha.2⟩
  have N___str__ : SnG l.prog w K mg base C "__str__" ["self"] 1 ((spStr C)) fss fdss := ⟨ok_ss mss TX CL.t, mss.binds (ps := ["self"]) fun _ _ _ _ _ _ us hl => match us, hl with | [_], _ => rfl, CL.ess.1, CL.ess.2⟩
  have N___add__ : On l.prog w K mg base C "add" ["self", "other"] 7 ((spAdd C)) fad fdad := ⟨ok_ad mad TX CL.t MK Dit Drw, mad.binds (ps := ["self", "other"]) fun _ _ _ _ _ _ us hl => match us, hl with | [_, _], _ => rfl, CL.ead⟩
  have N_turned : Mn l.prog w K mg base C "turned" ["self"] 7 ((spTurned C)) ftr fdtr := ⟨ok_tr mtr TX CL.t MK, CL.etr, mtr.binds (ps := ["self"]) fun _ _ _ _ _ _ us hl => match us, hl with | [_], _ => rfl⟩
  have N___or__ : On l.prog w K mg base C "or" ["self", "other"] 7 ((spOr C)) forr fdorr := ⟨ok_orr morr TX CL.t QT MK gMAX_KEYS, morr.binds (ps := ["self", "other"]) fun _ _ _ _ _ _ us hl => match us, hl with | [_, _], _ => rfl, CL.eorr⟩
  have N___and__ : On l.prog w K mg base C "and" ["self", "other"] 7 ((spAnd C)) fan fdan := ⟨ok_an man TX CL.t MK, man.binds (ps := ["self", "other"]) fun _ _ _ _ _ _ us hl => match us, hl with | [_, _], _ => rfl, CL.ean⟩
  have Dcu : Dn l.prog w K mg base CX0 "_law_cup" ["_law_script", "_law_spot"] 1 ((spCup K)) fcu fdcu := ⟨ok_cu dcu.fn TX, dcu.fn.kp, dcu.fn.binds (ps := ["_law_script", "_law_spot"]) fun _ _ _ _ _ _ us hl => match us, hl with | [_, _], _ => rfl, PySem.W.mg_of X G dcu.ns⟩
  have Dro : Dn l.prog w K mg base CX0 "_law_roll" ["_law_cup_here", "_law_total"] 1 (spRoll) fro fdro := ⟨ok_ro dro.fn TX, dro.fn.kp, dro.fn.binds (ps := ["_law_cup_here", "_law_total"]) fun _ _ _ _ _ _ us hl => match us, hl with | [_, _], _ => rfl, PySem.W.mg_of X G dro.ns⟩
  have Dpk : Dn l.prog w K mg base CX0 "_law_pick" ["_law_cup_here", "_law_items"] 2 (spPick) fpk fdpk := ⟨ok_pk dpk.fn TX Dro, dpk.fn.kp, dpk.fn.binds (ps := ["_law_cup_here", "_law_items"]) fun _ _ _ _ _ _ us hl => match us, hl with | [_, _], _ => rfl, PySem.W.mg_of X G dpk.ns⟩
  have Dfe : Dn l.prog w K mg base CX0 "_law_few" ["_law_cup_here", "_law_items", "_law_many"] 2 (spFew) ffe fdfe := ⟨ok_fe dfe.fn TX Dro, dfe.fn.kp, dfe.fn.binds (ps := ["_law_cup_here", "_law_items", "_law_many"]) fun _ _ _ _ _ _ us hl => match us, hl with | [_, _, _], _ => rfl, PySem.W.mg_of X G dfe.ns⟩
  have Dlr : Dn l.prog w K mg base CX0 "_law_rows" ["_law_cup_here", "_law_interval", "_law_many", "_law_long"] 3 (spLRows) flr fdlr := ⟨ok_lr dlr.fn TX Dfe Dro, dlr.fn.kp, dlr.fn.binds (ps := ["_law_cup_here", "_law_interval", "_law_many", "_law_long"]) fun _ _ _ _ _ _ us hl => match us, hl with | [_, _, _, _], _ => rfl, PySem.W.mg_of X G dlr.ns⟩
  have Dva : Dn l.prog w K mg base CX0 "_law_values" ["_law_rows_here", "_law_interval", "_law_tick", "_law_names"] 1 (spVals) fva fdva := ⟨ok_va dva.fn TX, dva.fn.kp, dva.fn.binds (ps := ["_law_rows_here", "_law_interval", "_law_tick", "_law_names"]) fun _ _ _ _ _ _ us hl => match us, hl with | [_, _, _, _], _ => rfl, PySem.W.mg_of X G dva.ns⟩
  have Dlm : Dn l.prog w K mg base CX0 "_law_most" ["_law_rows_here", "_law_interval", "_law_names"] 2 (spLMost) flm fdlm := ⟨ok_lm dlm.fn TX Dva, dlm.fn.kp, dlm.fn.binds (ps := ["_law_rows_here", "_law_interval", "_law_names"]) fun _ _ _ _ _ _ us hl => match us, hl with | [_, _, _], _ => rfl, PySem.W.mg_of X G dlm.ns⟩
  have Dla : Dn l.prog w K mg base CX0 "_law_across" ["_law_rows_here", "_law_interval", "_law_moment", "_law_names"] 2 (spLAcross) fla fdla := ⟨ok_la dla.fn TX Dva, dla.fn.kp, dla.fn.binds (ps := ["_law_rows_here", "_law_interval", "_law_moment", "_law_names"]) fun _ _ _ _ _ _ us hl => match us, hl with | [_, _, _, _], _ => rfl, PySem.W.mg_of X G dla.ns⟩
  have Dlf2 : Dn l.prog w K mg base CX0 "_law_is_full" ["_law_rows_here", "_law_interval", "_law_moment", "_law_names"] 3 (spLFull) flf2 fdlf2 := ⟨ok_lf2 dlf2.fn Dla Dlm, dlf2.fn.kp, dlf2.fn.binds (ps := ["_law_rows_here", "_law_interval", "_law_moment", "_law_names"]) fun _ _ _ _ _ _ us hl => match us, hl with | [_, _, _, _], _ => rfl, PySem.W.mg_of X G dlf2.ns⟩
  have Dlp : Dn l.prog w K mg base CX0 "_law_is_apart" ["_law_rows_here", "_law_interval", "_law_names"] 4 (spLApart) flp fdlp := ⟨ok_lp dlp.fn TX Dlf2, dlp.fn.kp, dlp.fn.binds (ps := ["_law_rows_here", "_law_interval", "_law_names"]) fun _ _ _ _ _ _ us hl => match us, hl with | [_, _, _], _ => rfl, PySem.W.mg_of X G dlp.ns⟩
  have Dcr : DnG l.prog w K mg base "_law_counts_right" ["_law_cup_here", "_law_lives", "_law_rows_here", "_law_interval"] 9 ((spLCounts C)) fcr fdcr := ⟨ok_cr dcr.fn TX CL.t N_each_alive N_alive N_across N_is_full N_most_of N_is_apart N_most Dfe Dro Dla Dva Dlf2 Dlm Dlp, dcr.fn.kp, dcr.fn.binds (ps := ["_law_cup_here", "_law_lives", "_law_rows_here", "_law_interval"]) fun _ _ _ _ _ _ us hl => match us, hl with | [_, _, _, _], _ => rfl, PySem.W.mg_of X G dcr.ns⟩
  have Dtr2 : DnG l.prog w K mg base "_law_told_right" ["_law_lives", "_law_rows_here", "_law_interval"] 6 ((spLTold C)) ftr2 fdtr2 := ⟨ok_tr2 dtr2.fn TX CL.t N_rows N_interval N_names N_total N___len__ N___getitem__ CL.fg N___contains__ IT N___str__, dtr2.fn.kp, dtr2.fn.binds (ps := ["_law_lives", "_law_rows_here", "_law_interval"]) fun _ _ _ _ _ _ us hl => match us, hl with | [_, _, _], _ => rfl, PySem.W.mg_of X G dtr2.ns⟩
  have Dor2 : Dn l.prog w K mg base CX0 "_law_others_right" ["_law_cup_here", "_law_lives", "_law_rows_here", "_law_interval"] 9 ((spLOthers C)) for2 fdor2 := ⟨ok_or2 dor2.fn TX CL.t MK N___add__ N___and__ N___or__ CL.eq N___eq__ N_turned N___len__ N_rows N_most CL.si CL.st Dpk Dfe Dro, dor2.fn.kp, dor2.fn.binds (ps := ["_law_cup_here", "_law_lives", "_law_rows_here", "_law_interval"]) fun _ _ _ _ _ _ us hl => match us, hl with | [_, _, _, _], _ => rfl, PySem.W.mg_of X G dor2.ns⟩
  have Dri : DnG l.prog w K mg base "_law_right" ["_law_cup_here"] 10 (spLRight) fri fdri := ⟨ok_ri dri.fn TX CL.t MK CL.eq N___eq__ CL.sb Dpk Dlr Dro Dfe Dtr2 Dcr Dor2, dri.fn.kp, dri.fn.binds (ps := ["_law_cup_here"]) fun _ _ _ _ _ _ us hl => match us, hl with | [_], _ => rfl, PySem.W.mg_of X G dri.ns⟩
  exact ok_lw dlw.fn TX CL.t MK N_alive N_across N_most_of N___len__ N_most N_total gMAX_KEYS Dri Dcu
end K56
open PySem PySem.W PyProof.Rows
set_option maxRecDepth 100000 in
set_option maxHeartbeats 0 in
theorem PySem.Challenge.cw_loopfoundry_k56_lives_counted_round_by_r_holds : PySem.Challenge.rw_loopfoundry_k56_lives_counted_round_by_r.Holds := by
  w_on; o_law; k_head; (case hw => w_witness2)
  k_fill
  refine L2.My.walkG (l := PySem.Challenge.rw_loopfoundry_k56_lives_counted_round_by_r) (n := 63) (k := 11) (x := "_law_script") rfl (by decide) rfl ⟨rfl, by decide, by decide⟩ (fun w h Y => PySem.W.kIn_of Y) ?F
  case F =>
    intro w mg fa h Y KX G hmg
    refine' K56.all_mk KX G hmg ?CL ?v0 ?v1 ?v2 ?v3 ?v4 (K56.atM ?ml_I ?mc_I ?mk_I) (K56.atM ?ml_EA ?mc_EA ?mk_EA) (K56.atM ?ml_It ?mc_It ?mk_It) (K56.atM ?ml_lo ?mc_lo ?mk_lo) (K56.atM ?ml_co ?mc_co ?mk_co) (K56.atM ?ml_al ?mc_al ?mk_al) (K56.atM ?ml_ac2 ?mc_ac2 ?mk_ac2) (K56.atM ?ml_fu ?mc_fu ?mk_fu) (K56.atM ?ml_mf ?mc_mf ?mk_mf) (K56.atM ?ml_ap ?mc_ap ?mk_ap) (K56.atM ?ml_eq ?mc_eq ?mk_eq) (K56.atM ?ml_le ?mc_le ?mk_le) (K56.atM ?ml_gi ?mc_gi ?mk_gi) (K56.atM ?ml_ha ?mc_ha ?mk_ha) (K56.atM ?ml_ss ?mc_ss ?mk_ss) (K56.atM ?ml_ad ?mc_ad ?mk_ad) (K56.atM ?ml_tr ?mc_tr ?mk_tr) (K56.atM ?ml_orr ?mc_orr ?mk_orr) (K56.atM ?ml_an ?mc_an ?mk_an) (K56.atP ?pa_gI ?pb_gI ?pc_gI ?pd_gI ?pl_gI ?pe_gI ?pk_gI) (K56.atP ?pa_gM ?pb_gM ?pc_gM ?pd_gM ?pl_gM ?pe_gM ?pk_gM) (K56.atP ?pa_gT ?pb_gT ?pc_gT ?pd_gT ?pl_gT ?pe_gT ?pk_gT) (K56.atP ?pa_gN ?pb_gN ?pc_gN ?pd_gN ?pl_gN ?pe_gN ?pk_gN) (K56.atP ?pa_gR ?pb_gR ?pc_gR ?pd_gR ?pl_gR ?pe_gR ?pk_gR) (K56.atTop ?a_wh ?l_wh ?c_wh ?k_wh) (K56.atTop ?a_it ?l_it ?c_it ?k_it) (K56.atTop ?a_bw ?l_bw ?c_bw ?k_bw) (K56.atTop ?a_cn ?l_cn ?c_cn ?k_cn) (K56.atTop ?a_ci ?l_ci ?c_ci ?k_ci) (K56.atTop ?a_ck ?l_ck ?c_ck ?k_ck) (K56.atTop ?a_ky ?l_ky ?c_ky ?k_ky) (K56.atTop ?a_lf ?l_lf ?c_lf ?k_lf) (K56.atTop ?a_rw ?l_rw ?c_rw ?k_rw) (K56.atTop ?a_ca ?l_ca ?c_ca ?k_ca) (K56.atTop ?a_cx ?l_cx ?c_cx ?k_cx) (K56.atTop ?a_ax ?l_ax ?c_ax ?k_ax) (K56.atTop ?a_ac ?l_ac ?c_ac ?k_ac) (K56.atTop ?a_mo ?l_mo ?c_mo ?k_mo) (K56.atTop ?a_fm ?l_fm ?c_fm ?k_fm) (K56.atTop ?a_cu ?l_cu ?c_cu ?k_cu) (K56.atTop ?a_ro ?l_ro ?c_ro ?k_ro) (K56.atTop ?a_pk ?l_pk ?c_pk ?k_pk) (K56.atTop ?a_fe ?l_fe ?c_fe ?k_fe) (K56.atTop ?a_lr ?l_lr ?c_lr ?k_lr) (K56.atTop ?a_va ?l_va ?c_va ?k_va) (K56.atTop ?a_lm ?l_lm ?c_lm ?k_lm) (K56.atTop ?a_la ?l_la ?c_la ?k_la) (K56.atTop ?a_lf2 ?l_lf2 ?c_lf2 ?k_lf2) (K56.atTop ?a_lp ?l_lp ?c_lp ?k_lp) (K56.atTop ?a_cr ?l_cr ?c_cr ?k_cr) (K56.atTop ?a_tr2 ?l_tr2 ?c_tr2 ?k_tr2) (K56.atTop ?a_or2 ?l_or2 ?c_or2 ?k_or2) (K56.atTop ?a_ri ?l_ri ?c_ri ?k_ri) (K56.atTop ?a_lw ?l_lw ?c_lw ?k_lw) ?z0 ?z1 ?z2 ?z3 ?z4 ?z5 ?z6 ?z7 ?z8 ?z9 ?z10 ?z11 ?z12 ?z13 ?z14 ?z15 ?z16 ?z17 ?z18 ?hb
    case CL =>
      refine' ⟨?q_nC, ⟨⟨?q_cpg, ?q_chd, ?q_cpo, ?q_csa⟩, ?q_nI, ?q_nR, ?q_nN, ?q_nM, ?q_nT⟩, ⟨?q_mm, ?q_mi, ?q_mf, ?q_mk⟩, ⟨?q_m1_lo, ?q_m2_lo, ?q_m3_lo⟩, ⟨?q_m1_co, ?q_m2_co, ?q_m3_co⟩, ⟨?q_m1_al, ?q_m2_al, ?q_m3_al⟩, ⟨?q_m1_ac2, ?q_m2_ac2, ?q_m3_ac2⟩, ⟨?q_m1_fu, ?q_m2_fu, ?q_m3_fu⟩, ⟨?q_m1_mf, ?q_m2_mf, ?q_m3_mf⟩, ⟨?q_m1_ap, ?q_m2_ap, ?q_m3_ap⟩, ⟨?q_s1_eq, ?q_s2_eq⟩, ⟨?q_s1_le, ?q_s2_le⟩, ⟨?q_s1_gi, ?q_s2_gi⟩, ⟨?q_s1_ha, ?q_s2_ha⟩, ⟨?q_s1_ss, ?q_s2_ss⟩, ⟨?q_o1_ad, ?q_o2_ad, ?q_o3_ad, ?q_o4_ad⟩, ⟨?q_m1_tr, ?q_m2_tr, ?q_m3_tr⟩, ⟨?q_o1_orr, ?q_o2_orr, ?q_o3_orr, ?q_o4_orr⟩, ⟨?q_o1_an, ?q_o2_an, ?q_o3_an, ?q_o4_an⟩, ⟨?q_m1_EA, ?q_m2_EA, ?q_m3_EA⟩, ⟨?q_s1_It, ?q_s2_It⟩, ?q_fg, ⟨?q_e1, ?q_e2, ?q_e3, ?q_e4, ?q_e5⟩, ?q_ha, ?q_hn, ?q_htk, ?q_hm, ?q_ic, ?q_ty, ⟨?q_sn, ?q_sd⟩, ⟨⟨some (.builtin "int.__add__"), ?q_sa_i⟩, ⟨some (.builtin "int.__radd__"), ?q_sb_i⟩, ?q_ss_i⟩, ⟨⟨none, ?q_sa_t⟩, ⟨none, ?q_sb_t⟩, ?q_ss_t⟩⟩
      (case q_nC => k_is)
      (case q_cpg => k_is)
      (case q_chd => k_is)
      (case q_cpo => k_is)
      (case q_csa => k_is)
      (case q_nI => unfold L2.NoAttr; k_is)
      (case q_nR => unfold L2.NoAttr; k_is)
      (case q_nN => unfold L2.NoAttr; k_is)
      (case q_nM => unfold L2.NoAttr; k_is)
      (case q_nT => unfold L2.NoAttr; k_is)
      (case q_mm => k_is)
      (case q_mi => k_is)
      (case q_mf => k_is)
      (case q_mk => k_is)
      (case q_m1_lo => k_is)
      (case q_m2_lo => k_is)
      (case q_m3_lo => k_is)
      (case q_m1_co => k_is)
      (case q_m2_co => k_is)
      (case q_m3_co => k_is)
      (case q_m1_al => k_is)
      (case q_m2_al => k_is)
      (case q_m3_al => k_is)
      (case q_m1_ac2 => k_is)
      (case q_m2_ac2 => k_is)
      (case q_m3_ac2 => k_is)
      (case q_m1_fu => k_is)
      (case q_m2_fu => k_is)
      (case q_m3_fu => k_is)
      (case q_m1_mf => k_is)
      (case q_m2_mf => k_is)
      (case q_m3_mf => k_is)
      (case q_m1_ap => k_is)
      (case q_m2_ap => k_is)
      (case q_m3_ap => k_is)
      (case q_s1_eq => k_is)
      (case q_s2_eq => k_is)
      (case q_s1_le => k_is)
      (case q_s2_le => k_is)
      (case q_s1_gi => k_is)
      (case q_s2_gi => k_is)
      (case q_s1_ha => k_is)
      (case q_s2_ha => k_is)
      (case q_s1_ss => k_is)
      (case q_s2_ss => k_is)
      (case q_o1_ad => k_is)
      (case q_o2_ad => k_is)
      (case q_o3_ad => k_is)
      (case q_o4_ad => k_is)
      (case q_m1_tr => k_is)
      (case q_m2_tr => k_is)
      (case q_m3_tr => k_is)
      (case q_o1_orr => k_is)
      (case q_o2_orr => k_is)
      (case q_o3_orr => k_is)
      (case q_o4_orr => k_is)
      (case q_o1_an => k_is)
      (case q_o2_an => k_is)
      (case q_o3_an => k_is)
      (case q_o4_an => k_is)
      (case q_m1_EA => k_is)
      (case q_m2_EA => k_is)
      (case q_m3_EA => k_is)
      (case q_s1_It => k_is)
      (case q_s2_It => k_is)
      (case q_fg => k_is)
      (case q_e1 => k_is)
      (case q_e2 => k_is)
      (case q_e3 => k_is)
      (case q_e4 => k_is)
      (case q_e5 => k_is)
      (case q_ha => k_is)
      (case q_hn => k_is)
      (case q_htk => k_is)
      (case q_hm => k_is)
      (case q_ic => k_is)
      (case q_ty => k_is)
      (case q_sn => k_is)
      (case q_sd => k_is)
      (case q_sa_i => k_is)
      (case q_sb_i => k_is)
      (case q_ss_i => k_is)
      (case q_sa_t => k_is)
      (case q_sb_t => k_is)
      (case q_ss_t => k_is)
    (case v0 => k_is)
    (case v1 => k_is)
    (case v2 => k_is)
    (case v3 => k_is)
    (case v4 => k_is)
    (case ml_I => k_is); (case mc_I => k_is); (case mk_I => k_is)
    (case ml_EA => k_is); (case mc_EA => k_is); (case mk_EA => k_is)
    (case ml_It => k_is); (case mc_It => k_is); (case mk_It => k_is)
    (case ml_lo => k_is); (case mc_lo => k_is); (case mk_lo => k_is)
    (case ml_co => k_is); (case mc_co => k_is); (case mk_co => k_is)
    (case ml_al => k_is); (case mc_al => k_is); (case mk_al => k_is)
    (case ml_ac2 => k_is); (case mc_ac2 => k_is); (case mk_ac2 => k_is)
    (case ml_fu => k_is); (case mc_fu => k_is); (case mk_fu => k_is)
    (case ml_mf => k_is); (case mc_mf => k_is); (case mk_mf => k_is)
    (case ml_ap => k_is); (case mc_ap => k_is); (case mk_ap => k_is)
    (case ml_eq => k_is); (case mc_eq => k_is); (case mk_eq => k_is)
    (case ml_le => k_is); (case mc_le => k_is); (case mk_le => k_is)
    (case ml_gi => k_is); (case mc_gi => k_is); (case mk_gi => k_is)
    (case ml_ha => k_is); (case mc_ha => k_is); (case mk_ha => k_is)
    (case ml_ss => k_is); (case mc_ss => k_is); (case mk_ss => k_is)
    (case ml_ad => k_is); (case mc_ad => k_is); (case mk_ad => k_is)
    (case ml_tr => k_is); (case mc_tr => k_is); (case mk_tr => k_is)
    (case ml_orr => k_is); (case mc_orr => k_is); (case mk_orr => k_is)
    (case ml_an => k_is); (case mc_an => k_is); (case mk_an => k_is)
    (case pa_gI => k_is); (case pb_gI => k_is); (case pc_gI => k_is); (case pd_gI => k_is); (case pl_gI => k_is); (case pe_gI => k_is); (case pk_gI => k_is)
    (case pa_gM => k_is); (case pb_gM => k_is); (case pc_gM => k_is); (case pd_gM => k_is); (case pl_gM => k_is); (case pe_gM => k_is); (case pk_gM => k_is)
    (case pa_gT => k_is); (case pb_gT => k_is); (case pc_gT => k_is); (case pd_gT => k_is); (case pl_gT => k_is); (case pe_gT => k_is); (case pk_gT => k_is)
    (case pa_gN => k_is); (case pb_gN => k_is); (case pc_gN => k_is); (case pd_gN => k_is); (case pl_gN => k_is); (case pe_gN => k_is); (case pk_gN => k_is)
    (case pa_gR => k_is); (case pb_gR => k_is); (case pc_gR => k_is); (case pd_gR => k_is); (case pl_gR => k_is); (case pe_gR => k_is); (case pk_gR => k_is)
    (case a_wh => k_is); (case l_wh => k_is); (case c_wh => k_is); (case k_wh => k_is)
    (case a_it => k_is); (case l_it => k_is); (case c_it => k_is); (case k_it => k_is)
    (case a_bw => k_is); (case l_bw => k_is); (case c_bw => k_is); (case k_bw => k_is)
    (case a_cn => k_is); (case l_cn => k_is); (case c_cn => k_is); (case k_cn => k_is)
    (case a_ci => k_is); (case l_ci => k_is); (case c_ci => k_is); (case k_ci => k_is)
    (case a_ck => k_is); (case l_ck => k_is); (case c_ck => k_is); (case k_ck => k_is)
    (case a_ky => k_is); (case l_ky => k_is); (case c_ky => k_is); (case k_ky => k_is)
    (case a_lf => k_is); (case l_lf => k_is); (case c_lf => k_is); (case k_lf => k_is)
    (case a_rw => k_is); (case l_rw => k_is); (case c_rw => k_is); (case k_rw => k_is)
    (case a_ca => k_is); (case l_ca => k_is); (case c_ca => k_is); (case k_ca => k_is)
    (case a_cx => k_is); (case l_cx => k_is); (case c_cx => k_is); (case k_cx => k_is)
    (case a_ax => k_is); (case l_ax => k_is); (case c_ax => k_is); (case k_ax => k_is)
    (case a_ac => k_is); (case l_ac => k_is); (case c_ac => k_is); (case k_ac => k_is)
    (case a_mo => k_is); (case l_mo => k_is); (case c_mo => k_is); (case k_mo => k_is)
    (case a_fm => k_is); (case l_fm => k_is); (case c_fm => k_is); (case k_fm => k_is)
    (case a_cu => k_is); (case l_cu => k_is); (case c_cu => k_is); (case k_cu => k_is)
    (case a_ro => k_is); (case l_ro => k_is); (case c_ro => k_is); (case k_ro => k_is)
    (case a_pk => k_is); (case l_pk => k_is); (case c_pk => k_is); (case k_pk => k_is)
    (case a_fe => k_is); (case l_fe => k_is); (case c_fe => k_is); (case k_fe => k_is)
    (case a_lr => k_is); (case l_lr => k_is); (case c_lr => k_is); (case k_lr => k_is)
    (case a_va => k_is); (case l_va => k_is); (case c_va => k_is); (case k_va => k_is)
    (case a_lm => k_is); (case l_lm => k_is); (case c_lm => k_is); (case k_lm => k_is)
    (case a_la => k_is); (case l_la => k_is); (case c_la => k_is); (case k_la => k_is)
    (case a_lf2 => k_is); (case l_lf2 => k_is); (case c_lf2 => k_is); (case k_lf2 => k_is)
    (case a_lp => k_is); (case l_lp => k_is); (case c_lp => k_is); (case k_lp => k_is)
    (case a_cr => k_is); (case l_cr => k_is); (case c_cr => k_is); (case k_cr => k_is)
    (case a_tr2 => k_is); (case l_tr2 => k_is); (case c_tr2 => k_is); (case k_tr2 => k_is)
    (case a_or2 => k_is); (case l_or2 => k_is); (case c_or2 => k_is); (case k_or2 => k_is)
    (case a_ri => k_is); (case l_ri => k_is); (case c_ri => k_is); (case k_ri => k_is)
    (case a_lw => k_is); (case l_lw => k_is); (case c_lw => k_is); (case k_lw => k_is)
    (case z0 => k_is); (case z1 => k_is); (case z2 => k_is); (case z3 => k_is); (case z4 => k_is); (case z5 => k_is); (case z6 => k_is); (case z7 => k_is); (case z8 => k_is); (case z9 => k_is); (case z10 => k_is); (case z11 => k_is); (case z12 => k_is); (case z13 => k_is); (case z14 => k_is); (case z15 => k_is); (case z16 => k_is); (case z17 => k_is); (case z18 => k_is)
    (case hb => exact fun s v => .of_eq rfl)
