import PyProof.Rows.All
import Wide.All
import OpenK.AllK
import Wide.FinOn
import PyProof.ReprRoads
import PyProof.CallFns
import HandS.ForMost
import HandS.ForExc
import HandS.Lambda
import HandS.EndBits
import HandS.EndTab
import PyProof.NeKinds
import PyProof.NeData
import PyProof.FactsAll.dict_1
import PyProof.FactsAll.dict_2
import PyProof.FactsAll.subtypes
import HandS.Zip
import HandS.Walk
import KE.DataCmp
import PyProof.ReprLoop
import PyProof.ReprReads
import PyProof.EqAt
import PyProof.EqKinds
import PyProof.TupleCall
import HandS.Base
import HandS.Call
import HandS.Exc
import KE.KExcInit
import HandS.Ends
import KE.KIsAll
import KE.KExcIs
import HandS.ExcIs
import HandS.ExcField
import HandS.ExcValue
import HandS.IsInst
import HandS.Comp
import HandS.ExcInit
import PyProof.StrOps2
import HandS.Dict
import HandS.Words
import HandS.WordsList
import HandS.WordsDict
import HandS.ExcOwn
import HandS.Wide
import HandS.TupLe
import HandS.TupAny
import HandS.TupMul
import HandS.Text
import PyProof.Fits
import HandS.WordsExc
import HandS.Style
import KE.KNest
import PySem.Challenge.RW_loopfoundry_k00_errors_and_numbers
set_option Elab.async false
set_option linter.all false
set_option maxRecDepth 100000
set_option maxHeartbeats 4000000
/-! defs that are told that no repr is under way around them; repr of data; the end of a law for them -/
namespace L2.My
open PySem PySem.Spec PyProof.Rows
/-- as FnOk, where the guards around are none -/
structure FnG (P : Program) (w : World) (K : PySem.W.Frag) (mg : Str → Option Value) (base : Heap) (k : Nat) (f : Addr) (fd : FuncData) (ps : List Str) (sp : Sp) : Prop where
  len : ∀ vs H Q E, sp vs H Q E → vs.length = ps.length
  run : ∀ (A : Around) (outer : List Env) (s : Shared) (H : Hp) (args : Args) (us : List Value) (vs : List V) (Q : VK) (E : XK), Room k A → A.guards = some [] → Env0 P w K mg base A outer s H →
    BindsTo s fd args (ps.zip us) → Vals vs us → sp vs H Q E → codeAny (model P w) A (.call (.ref f) args) (CR CX0 outer P w H s Q E) s
theorem guards_deeper {A : Around} {env : Env} (h : A.guards = some []) : (A.deeper env).guards = some [] := h
section
variable {P : Program} {w : World} {K : PySem.W.Frag} {mg : Str → Option Value} {base : Heap}
theorem Fun.okG {x qual : Str} {st : Stmt} {f : Addr} {fd : FuncData} {N ps : List Str} {k : Nat} {sp : Sp} (F : Fun K x qual st f fd) (S : FnScope N ps (defScope st)) (len : ∀ vs H Q E, sp vs H Q E → vs.length = ps.length)
    (hbody : ∀ (cdv : Value) (A : Around) (outer : List Env) (s : Shared) (H : Hp) (vs : List V) (Q : VK) (E : XK), PySem.W.codeIn K cdv qual = true → Room k (A.deeper (envOfC qual (defScope st) s.heap.objs.size f cdv)) → A.guards = some [] → sp vs H Q E →
      ∃ t, PSs (cxOf CX0 P w K mg base N qual (defScope st) f cdv A outer s H E).nox (defBody st) t ∧ t { nx := fun _ H' => Q .non H', rt := Q } (start N vs) H) : FnG P w K mg base (k + 1) f fd ps sp := by
  obtain ⟨oc, od, kV, doc, pm, an, cdv, ct, osl, rfl, lk, hcd⟩ := F.ex
  refine ⟨len, fun A outer s H args us vs Q E hr hg e0 hb r h => ?_⟩
  refine LamX.run_ofS lk hcd S hr e0 hb r (len _ _ _ _ h) fun hr' => ?_
  obtain ⟨t, ht, q⟩ := hbody cdv A outer s H vs Q E hcd hr' hg h
  exact ⟨t, ht.nox, q⟩
end
section
variable {X : Cx}
/-- f(e, ..), f such a def -/
theorem pe_callG {k : Nat} {f : Addr} {fd : FuncData} {ps : List Str} {sp : Sp} {x : Str} {p pos : Pos} {e : Expr} {es : List Expr} {t : TA} (F : FnG X.prog X.w X.K X.mg X.base k f fd ps sp) (hr : Room k X.A) (gd : X.A.guards = some []) (hg : Gl X x) (hm : X.mg x = some (.ref f))
    (hk : PySem.W.keepIn X.K (.ref f) = true) (hb : Binds X.K fd ps []) (ha : PA X (e :: es) t) (hdb : (x == ("__debug__" : Str)) = false := by decide)
    (he : starEach (e :: es) X.env = (false, eval e X.env) :: starEach es X.env := by rfl) (hpl : (backTo pos (starEach es X.env)).any (·.1) = false := by rfl) :
    PE X (.Call (.Name x p) (e :: es) [] pos) (tCall sp [] E0 t) := by
  refine ⟨fun pins s σ H Q I h => wpAny_Call_Name_kw (ld_glob I hg hm (PySem.W.callWith_K (h₀ := X.base) I.ok.mod.kin hk (thn (ha.run pos pins s σ H _ I h) fun us s1 hh => ?_) he hpl) hdb)⟩
  obtain ⟨vs, H1, I1, r, q⟩ := hh
  rw [List.append_nil] at q
  have hl : us.length = ps.length := by rw [← r.length]; exact F.len _ _ _ _ q
  have hb2 := hb s1 us I1.kIn (by rw [List.append_nil]; exact hl)
  rw [List.append_nil] at hb2
  refine ⟨I1.kIn, wpAny_call (codeAny_mono (F.run X.A X.stack s1 H1 ⟨us, []⟩ us vs Q E0 hr gd I1.env0 hb2 r q) fun r2 s2 hq => ?_)⟩
  match r2, hq with
  | .error e, hq => exact (show False from hq).elim
  | .ok (.ret u), hq => exact I1.after hq
  | .ok .next, hq => exact False.elim hq
  | .ok .brk, hq => exact False.elim hq
  | .ok .cont, hq => exact False.elim hq
/-- repr(v) of data without dicts -/
def rRepr (K : PySem.W.Frag) : List V → Hp → VK → Prop := fun xs H Q => ∃ v d, xs = [v] ∧ Dp K H v d ∧ d.showable = true ∧ d.hasDict = false ∧ d.depth ≤ 64 ∧ d.shown.length ≤ sizeLine ∧ Q (.str d.shown) H
theorem call_repr (gd : X.A.guards = some []) (hu : X.A.units + 70 < cLine) : CallR X (.builtin "repr") (rRepr X.K) := by
  intro pins s σ H xs us Q I r h
  obtain ⟨v, d, rfl, dp, sh, nd, dd, sz, q⟩ := h
  obtain ⟨u, rfl, ru⟩ : ∃ u, us = [u] ∧ RelV v u := by
    cases r with
    | cons ra rn =>
      cases rn
      exact ⟨_, rfl, ra⟩
  have done : ∀ t tk, EP X pins σ Q (.str d.shown t) { s with toks := tk } := fun t tk => ⟨.str d.shown, H, I.tok tk, ⟨t, rfl⟩, q⟩
  obtain ⟨as, rd⟩ := Dp.reads I d v u dp ru
  cases rd with
  | none => exact PySem.P.repr_of_none (done _ _)
  | bool b => exact PySem.P.repr_of_bool (done _ _)
  | int i t => exact PySem.P.repr_of_int (by simpa [PyData.showable] using sh) (done _ _)
  | str x t => exact PySem.P.repr_of_str (done _ _) sz
  | list e1 e2 e3 ra =>
    refine repr_of_reads' (.list e1 e2 e3 ra) sh (PyData.noDict_hsm nd) gd (by omega) (fun _ _ e => e) (fun h' t tk hk => ?_) sz
    exact ⟨.str _, H, I.kept (t' := tk) hk, ⟨t, rfl⟩, q⟩
  | tuple e1 e2 e3 ra =>
    refine repr_of_reads' (.tuple e1 e2 e3 ra) sh (PyData.noDict_hsm nd) gd (by omega) (fun _ _ e => e) (fun h' t tk hk => ?_) sz
    exact ⟨.str _, H, I.kept (t' := tk) hk, ⟨t, rfl⟩, q⟩
  | dict => cases nd
end
end L2.My
/-! the end of a law for such defs, with tables of code objects -/
namespace L2.My
open PySem PySem.Spec PyProof.Rows
abbrev scrO (vs : List Value) : Obj := { cls := .type "list", data := .seq vs.toArray }
abbrev tabO : Obj := { cls := .none, data := .fields #[] }
/-- the abstract heap at the law's entry: the tables, and the script if it is no object of the module -/
structure Begin (K : PySem.W.Frag) (a : Addr) (vs : List Value) (ns : List Int) (ts : List Addr) (H : Hp) : Prop where
  tab : ∀ b ∈ ts, H b = some (.tbl #[])
  cas : ∀ b u, H b = some u → (b ∈ ts ∧ u = .tbl #[]) ∨ (b = a ∧ K.lookup a = none ∧ u = .frz (scrO vs) (.lst (ns.map V.int)))
  scr : SqL K H a (ns.map V.int)
theorem begin_ex {K : PySem.W.Frag} {h : Heap} {a : Addr} {vs : List Value} {ns : List Int} {ts : List Addr} (KX : K.In h) (ha : h.get? a = some (scrO vs)) (hi : IntsAre vs ns) (hl : ns.length ≤ sizeLine) (na : a ∉ ts) : ∃ H, Begin K a vs ns ts H := by
  cases hk : K.lookup a with
  | some o =>
    have e := (KX a o hk).symm.trans ha
    cases e
    have sz : vs.toArray.size ≤ sizeLine := by rw [List.size_toArray, hi.length]; exact hl
    refine ⟨fun b => if b ∈ ts then some (.tbl #[]) else none, fun b hb => if_pos hb, fun b u e => ?_, .inr ⟨_, vs.toArray, _, hk, rfl, rfl, rfl, sz, by simpa using vals_ints hi⟩⟩
    by_cases hb : b ∈ ts
    · exact .inl ⟨hb, (Option.some.inj ((if_pos hb).symm.trans e)).symm⟩
    · cases (if_neg hb).symm.trans e
  | none =>
    refine ⟨fun b => if b ∈ ts then some (.tbl #[]) else if b = a then some (.frz (scrO vs) (.lst (ns.map V.int))) else none, fun b hb => if_pos hb, fun b u e => ?_, .inl (.inr ⟨scrO vs, (if_neg na).trans (if_pos rfl)⟩)⟩
    by_cases hb : b ∈ ts
    · exact .inl ⟨hb, (Option.some.inj ((if_pos hb).symm.trans e)).symm⟩
    · have e2 := (if_neg hb).symm.trans e
      by_cases h2 : b = a
      · exact .inr ⟨h2, hk, (Option.some.inj ((if_pos h2).symm.trans e2)).symm⟩
      · cases (if_neg h2).symm.trans e2
section
variable {P : Program} {w : World} {K : PySem.W.Frag} {h : Heap} {a : Addr} {vs : List Value} {ns : List Int} {ts : List Addr} {H : Hp}
theorem Begin.holds (B : Begin K a vs ns ts H) (ha : h.get? a = some (scrO vs)) (hi : IntsAre vs ns) (hl : ns.length ≤ sizeLine) (hT : ∀ b ∈ ts, h.get? b = some tabO) : HOk P w H h := by
  intro b u e
  rcases B.cas b u e with ⟨hb, rfl⟩ | ⟨rfl, _, rfl⟩
  · exact hT b hb
  · exact ⟨ha, by rw [List.length_map]; exact hl, vs, _, vals_ints hi, ha⟩
/-- an object that is neither a table nor the script's list is not tracked -/
theorem Begin.off (B : Begin K a vs ns ts H) (ha : h.get? a = some (scrO vs)) (hT : ∀ b ∈ ts, h.get? b = some tabO) {b : Addr} {o : Obj} (e : h.get? b = some o) (h1 : o ≠ tabO) (h2 : o ≠ scrO vs) : H b = none := by
  cases q : H b with
  | none => rfl
  | some u =>
    rcases B.cas b u q with ⟨hb, _⟩ | ⟨rfl, _, _⟩
    · exact absurd (Option.some.inj (e.symm.trans (hT b hb))) h1
    · exact absurd (Option.some.inj (e.symm.trans ha)) h2
theorem Begin.kin (B : Begin K a vs ns ts H) (KX : K.In h) (nT : ∀ b ∈ ts, K.lookup b = none) : K.In (hidT h H) := by
  intro b o e
  refine hidT_get (KX b o e) ?_
  cases q : H b with
  | none => rfl
  | some u =>
    rcases B.cas b u q with ⟨hb, _⟩ | ⟨rfl, hk, _⟩
    · rw [nT b hb] at e
      cases e
    · rw [hk] at e
      cases e
theorem Begin.nsAt (B : Begin K a vs ns ts H) (ha : h.get? a = some (scrO vs)) (hT : ∀ b ∈ ts, h.get? b = some tabO) {b : Addr} {m : Str → Option Value} (n : h.Ns b m) : (hidT h H).Ns b m := by
  obtain ⟨o, es, ep, e, d, r⟩ := n
  refine ⟨o, es, ep, hidT_get e (B.off ha hT e ?_ ?_), d, r⟩
  · rintro rfl
    cases d
  · rintro rfl
    cases d
end
/-- what is known of the law's promise behind the top -/
def LawG (l : PySem.W.OpenLaw) (w : World) (K : PySem.W.Frag) (k n : Nat) (x : Str) (mg : Str → Option Value) (fa : Addr) (h : Heap) : Prop :=
  ∃ (fd : FuncData) (cs : List (Addr × Addr)) (sp : Sp), (∀ p ∈ cs, h.get? p.2 = some tabO) ∧ (∀ p ∈ cs, K.lookup p.2 = none) ∧ (∀ p ∈ cs, PySem.W.CodeHd h p.1 p.2) ∧ (∀ (s : Shared) (u : Value), BindsTo s fd ⟨[u], []⟩ [(x, u)]) ∧
    (∀ (H : Hp) (a : Addr) (ns : List Int), ns.length ≤ n → (∀ z ∈ ns, Builtin.Int.intBits z ≤ 1048576) → (∀ p ∈ cs, H p.2 = some (.tbl #[])) → SqL K H a (ns.map V.int) → sp [.ref a] H (fun v _ => v = .bl true) E0) ∧
    ∀ base : Heap, K.In base → base.Ns mainGlobals mg → (∀ p ∈ cs, LamX.TabB base mg p.1 p.2) → FnG l.prog w K mg base k fa fd [x] sp
theorem walkG {l : PySem.W.OpenLaw} {n k : Nat} {q : Program} {loose : List Str} {XP : (Str → Option Value) → Heap → Prop} {YP : World → Heap → Prop} {d : DefRec} {K : Params → PySem.W.Frag} {x : Str}
    (hn : l.most = some n) (hn2 : n ≤ sizeLine) (hdf : d.params.defaults = []) (hr : Room k callerA) (hY : ∀ (w : World) (h : Heap), YP w h → (K w.params).In h)
    (F : ∀ (w : World) (mg : Str → Option Value) (fa : Addr) (h : Heap), YP w h → (K w.params).In h → h.Ns mainGlobals mg → mg d.name = some (.ref fa) → LawG l w (K w.params) k n x mg fa h) :
    PySem.W.WalkO q loose XP YP l.row.toRowW d [] (fun f vs => PySem.call f vs) := by
  refine Att.attach_callB hn hdf fun w s0 s1 mg mb fa o pm cd doc a vs ns G Y ho hd hcd hmg ha hi hlen hbits hg => ?_
  have KX := hY w _ Y
  obtain ⟨fd, cs, sp, hT, nT, hC, hb, hsp, hF⟩ := F w mg fa _ Y KX G.T.g hmg
  have hl : ns.length ≤ sizeLine := Nat.le_trans hlen hn2
  have hTs : ∀ b ∈ cs.map (·.2), s1.heap.get? b = some tabO := by
    intro b hb
    obtain ⟨p, hp, rfl⟩ := List.mem_map.mp hb
    exact hT p hp
  have nTs : ∀ b ∈ cs.map (·.2), (K w.params).lookup b = none := by
    intro b hb
    obtain ⟨p, hp, rfl⟩ := List.mem_map.mp hb
    exact nT p hp
  have na : a ∉ cs.map (·.2) := by
    intro z
    cases ha.symm.trans (hTs a z)
  obtain ⟨H, B⟩ := begin_ex KX ha hi hl na
  have hok : HOk l.prog w H s1.heap := B.holds ha hi hl hTs
  have kin := B.kin KX nTs
  have gns := B.nsAt ha hTs G.T.g
  have tabs : ∀ p ∈ cs, H p.2 = some (.tbl #[]) := fun p hp => B.tab _ (List.mem_map.mpr ⟨p, hp, rfl⟩)
  have hM : Mod (K w.params) mg (hidT s1.heap H) := ⟨kin, gns, ⟨mb, B.nsAt ha hTs G.T.b, G.T.builtins⟩, let ⟨mc, h1, h2⟩ := G.T.nolimit; ⟨mc, B.nsAt ha hTs h1, h2⟩⟩
  have TB : ∀ p ∈ cs, LamX.TabB (hidT s1.heap H) mg p.1 p.2 := by
    intro p hp
    obtain ⟨oc, us, file, tf, flags, tg, inF, text, tt, e1, r1, r2, r3, r4, r5, r6, r7, r8, hne⟩ := hC p hp
    obtain ⟨bm, ob, b1, b2, b3, b4, b5, b6⟩ := G.T.bmain
    obtain ⟨og, es, ep, eg, dg, _⟩ := G.T.g
    refine ⟨⟨oc, us, file, tf, flags, tg, inF, text, tt, hidT_get e1 (B.off ha hTs e1 ?_ ?_), r1, r2, r3, r4, r5, r6, r7, r8, hne⟩, ⟨bm, ob, b1, b2, ?_, ?_, hidT_get b3 (B.off ha hTs b3 ?_ ?_), b4, b5, b6⟩, ?_⟩
    · rintro rfl
      cases r2
      simp at r3
    · rintro rfl
      cases r2
    · rintro rfl
      cases b3.symm.trans eg
      rw [b6] at dg
      cases dg
    · rintro rfl
      cases b3.symm.trans (hT p hp)
      cases b6
    · rintro rfl
      cases b6
    · rintro rfl
      cases b6
    · intro z
      rw [z] at eg
      cases eg.symm.trans (hT p hp)
      cases dg
  have e0 : Env0 l.prog w (K w.params) mg (hidT s1.heap H) callerA [] s1 H :=
    ⟨rfl, hM, fun b o e => of_hidT e, Nat.le_of_eq (hidT_size _ _), trivial, fun b hb => absurd (show b ∈ ([] : List Addr) from hb) (by simp), hok, .of_eq hg⟩
  refine codeAny_mono ((hF _ kin gns TB).run callerA [] s1 H ⟨[.ref a], []⟩ [.ref a] [.ref a] _ _ hr rfl e0 (hb s1 (.ref a)) (.cons rfl .nil) (hsp H a ns hlen hbits tabs B.scr)) fun r s2 hq => ?_
  match r, hq with
  | .error e, hq => exact (show False from hq).elim
  | .ok .next, hq => exact False.elim hq
  | .ok .brk, hq => exact False.elim hq
  | .ok .cont, hq => exact False.elim hq
  | .ok (.ret u), hq =>
    obtain ⟨v, H2, os, bare, un, hok2, rv, ev⟩ := hq
    obtain rfl : v = .bl true := ev
    obtain rfl : u = Value.bool true := rv
    have grown : ∀ b ∈ cs.map (·.2), ∃ more : Array Value, s2.heap.get? b = some { cls := .none, data := .fields more } := by
      intro b hb
      obtain ⟨more, z⟩ := un.tbls b #[] (B.tab b hb)
      exact ⟨_, hok2 b _ z⟩
    have same : ∀ b o, b ∉ cs.map (·.2) → s1.heap.get? b = some o → s2.heap.get? b = some o := by
      intro b o nb e
      cases qh : H b with
      | none => exact un.keep b o e qh (by intro z; exact absurd (show b ∈ ([] : List Addr) from z) (by simp)) (by simp)
      | some u =>
        rcases B.cas b u qh with ⟨hb, _⟩ | ⟨rfl, _, rfl⟩
        · exact absurd hb nb
        · have z2 := un.frzs b _ _ qh
          obtain ⟨e2, _⟩ := hok2 b _ z2
          cases e.symm.trans ha
          exact e2
    refine ⟨rfl, ⟨fun b o e => ?_, fun b o e => ?_⟩, os, bare⟩
    · by_cases hb : b ∈ cs.map (·.2)
      · obtain ⟨more, hm⟩ := grown b hb
        obtain ⟨p, hp, rfl⟩ := List.mem_map.mp hb
        cases e.symm.trans (hT p hp)
        exact .inr (.inl ⟨((hC p hp).tab (hT p hp)).isCodeTable, rfl, #[], more, rfl, by rw [Array.empty_append]; exact hm⟩)
      · exact .inl (same b o hb e)
    · by_cases hb : b ∈ cs.map (·.2)
      · obtain ⟨more, hm⟩ := grown b hb
        exact ⟨_, hm⟩
      · exact ⟨o, same b o hb e⟩
end L2.My
/-! == and != of a text with data of any kind; of lists with the empty one; great powers -/
namespace PySem.SeqAt
open MeetsSeq
open AutoSeq1 (wpAny_loadPart')
theorem dict_eq_no_str (l : Addr) (es : Array DictEntry) (n : Nat) (dd : Option Addr) (sl : Array (Option Value)) (b : Str) (u : Tok) :
    Meets (Builtin.«dict.__eq__» ⟨[.ref l, .str b u], []⟩) (fun _ R s => s.heap.get? l = some { cls := .type "dict", dict := dd, data := .dict es n, slots := sl } ∧ R (.ok (.ret .notImplemented)) s) :=
  .of_wp fun prog w A R s h => by
    obtain ⟨hp, g, d, tk, os⟩ := s
    obtain ⟨hl, h⟩ := h
    have f1 := F.sub_str_dict
    wp_walk using wpAny_loadPart' hl
    exact ⟨_, rfl, h⟩
theorem dict_ne_no_str (l : Addr) (es : Array DictEntry) (n : Nat) (dd : Option Addr) (sl : Array (Option Value)) (b : Str) (u : Tok) :
    Meets (Builtin.«dict.__ne__» ⟨[.ref l, .str b u], []⟩) (fun _ R s => s.heap.get? l = some { cls := .type "dict", dict := dd, data := .dict es n, slots := sl } ∧ R (.ok (.ret .notImplemented)) s) :=
  .of_wp fun prog w A R s h => by
    obtain ⟨hp, g, d, tk, os⟩ := s
    obtain ⟨hl, h⟩ := h
    have f1 := F.sub_str_dict
    wp_walk using wpAny_loadPart' hl
    exact ⟨_, rfl, h⟩
theorem str_eq_no_dict (b : Str) (u : Tok) (l : Addr) (es : Array DictEntry) (n : Nat) (dd : Option Addr) (sl : Array (Option Value)) :
    Meets (Builtin.«str.__eq__» ⟨[.str b u, .ref l], []⟩) (fun _ R s => s.heap.get? l = some { cls := .type "dict", dict := dd, data := .dict es n, slots := sl } ∧ R (.ok (.ret .notImplemented)) s) :=
  .of_wp fun prog w A R s h => by
    obtain ⟨hp, g, d, tk, os⟩ := s
    obtain ⟨hl, h⟩ := h
    wp_walk using wpAny_loadPart' hl, wpAny_load hl
    exact ⟨_, rfl, h⟩
theorem str_ne_no_dict (b : Str) (u : Tok) (l : Addr) (es : Array DictEntry) (n : Nat) (dd : Option Addr) (sl : Array (Option Value)) :
    Meets (Builtin.«str.__ne__» ⟨[.str b u, .ref l], []⟩) (fun _ R s => s.heap.get? l = some { cls := .type "dict", dict := dd, data := .dict es n, slots := sl } ∧ R (.ok (.ret .notImplemented)) s) :=
  .of_wp fun prog w A R s h => by
    obtain ⟨hp, g, d, tk, os⟩ := s
    obtain ⟨hl, h⟩ := h
    wp_walk using wpAny_loadPart' hl, wpAny_load hl
    exact ⟨_, rfl, h⟩
section
variable {A : Around} {s : Shared}
theorem RcAt.dict_str {l : Addr} {es : Array DictEntry} {n : Nat} {dd : Option Addr} {sl : Array (Option Value)} (b : Str) (u : Tok) (ho : s.heap.get? l = some { cls := .type "dict", dict := dd, data := .dict es n, slots := sl }) (hu : A.units < cLine) : RcAt A s (.ref l) (.str b u) false :=
  fun prog w E Q h => rc_eq_decline_or (k := false) ⟨_, ho, rfl⟩ (typeIs_str s b u) (by decide) F.sub_str_dict F.slot_dict_eq F.slot_str_eq_refl
    (fun _ hq => call_meets F.slot_dict_eq ⟨_, ho, rfl⟩ F.entry_dict_eq (F.args_dict_eq_2 _ _) (dict_eq_no_str l es n dd sl b u) ⟨ho, hq⟩)
    (fun _ hq => call_meets F.slot_str_eq_refl (typeIs_str s b u) F.entry_str_eq (F.args_str_eq_2 _ _) (str_eq_no_dict b u l es n dd sl) ⟨ho, hq⟩)
    (fun _ hq => wpAny_of_eq (rfl : isSame (.ref l) (.str b u) = pure false) hq) (.inr hu) h
theorem RcNeAt.dict_str {l : Addr} {es : Array DictEntry} {n : Nat} {dd : Option Addr} {sl : Array (Option Value)} (b : Str) (u : Tok) (ho : s.heap.get? l = some { cls := .type "dict", dict := dd, data := .dict es n, slots := sl }) (hu : A.units < cLine) : RcNeAt A s (.ref l) (.str b u) true :=
  fun prog w E Q h => rc_ne_decline_or (k := false) ⟨_, ho, rfl⟩ (typeIs_str s b u) (by decide) F.sub_str_dict F.slot_dict_ne F.slot_str_ne_refl
    (fun _ hq => call_meets F.slot_dict_ne ⟨_, ho, rfl⟩ F.entry_dict_ne (F.args_dict_ne_2 _ _) (dict_ne_no_str l es n dd sl b u) ⟨ho, hq⟩)
    (fun _ hq => call_meets F.slot_str_ne_refl (typeIs_str s b u) F.entry_str_ne (F.args_str_ne_2 _ _) (str_ne_no_dict b u l es n dd sl) ⟨ho, hq⟩)
    (fun _ hq => wpAny_of_eq (rfl : isSame (.ref l) (.str b u) = pure false) hq) (.inr hu) h
end
end PySem.SeqAt
namespace L2.My
open PySem PySem.Spec PyProof.Rows
/-- a value as a text sees it: the text that it is, or none -/
inductive AsText (H : Hp) : V → Option Str → Prop
  | str (z : Str) : AsText H (.str z) (some z)
  | non : AsText H .non none
  | bl (b : Bool) : AsText H (.bl b) none
  | int (i : Int) : AsText H (.int i) none
  | lst {a : Addr} {xs : List V} (e : H a = some (.lst xs)) : AsText H (.ref a) none
  | tup {a : Addr} {xs : List V} (e : H a = some (.tup xs)) : AsText H (.ref a) none
  | dic {a : Addr} {kvs : List (Key × V)} (e : H a = some (.dK kvs)) : AsText H (.ref a) none
section
variable {X : Cx} {pins : List (Addr × Obj)} {σ : L2.St} {H : Hp} {s : Shared}
theorem dict_get (I : Inv X pins σ H s) {a : Addr} {kvs : List (Key × V)} (e : H a = some (.dK kvs)) : ∃ dd es n sl, s.heap.get? a = some { cls := .type "dict", dict := dd, data := .dict es n, slots := sl } := by
  obtain ⟨_, _, vs, _, o, es, ep, h1, h2, h3, _⟩ := (show ObjOk X.prog X.w H s.heap a (.dK kvs) from I.hok a _ e)
  obtain ⟨oc, od, dt, sl⟩ := o
  obtain ⟨c1, _⟩ := h2
  simp only at c1 h3
  subst c1 h3
  exact ⟨od, es, ep, sl, h1⟩
def rEqX : R2 := fun x y H Q => ∃ k z, y = .str z ∧ AsText H x k ∧ Q (.bl (decide (k = some z))) H
def rNeX : R2 := fun x y H Q => ∃ k z, y = .str z ∧ AsText H x k ∧ Q (.bl (!decide (k = some z))) H
theorem some_eq (a b : Str) : decide ((some a : Option Str) = some b) = (a == b) := by
  by_cases e : a = b
  · subst e
    simp
  · simp [e]
theorem op_eqX (hu : X.A.units < cLine) : OpR X (compareOp .Eq) rEqX := by
  intro pins s σ H x y v u Q I rx ry h
  obtain ⟨k, z, rfl, tx, q⟩ := h
  obtain ⟨t, rfl⟩ := ry
  have done : ∀ b : Bool, decide (k = some z) = b → EP X pins σ Q (.bool b) s := fun b e => ⟨.bl b, H, I, rfl, e ▸ q⟩
  cases tx with
  | str z' =>
    obtain ⟨t', rfl⟩ := rx
    exact SeqAt.RcAt.str_str z' t' z t _ _ _ _ (done _ (some_eq z' z))
  | non =>
    cases rx
    exact SeqAt.RcAt.none_str z t _ _ _ _ (done _ (by simp))
  | bl b =>
    cases rx
    exact SeqAt.RcAt.bool_str b z t _ _ _ _ (done _ (by simp))
  | int i =>
    obtain ⟨t', rfl⟩ := rx
    exact SeqAt.RcAt.int_str i t' z t _ _ _ _ (done _ (by simp))
  | @lst a xs e =>
    cases rx
    obtain ⟨_, its, n, _, h1⟩ := (show ObjOk X.prog X.w H s.heap a (.lst xs) from I.hok a _ e)
    exact SeqAt.RcAt.list_str z t ⟨_, h1, rfl, n, rfl⟩ hu _ _ _ _ (done _ (by simp))
  | @tup a xs e =>
    cases rx
    obtain ⟨_, its, _, o, h1, h2, n, h3⟩ := (show ObjOk X.prog X.w H s.heap a (.tup xs) from I.hok a _ e)
    exact SeqAt.RcAt.tuple_str z t ⟨_, h1, h2, n, h3⟩ hu _ _ _ _ (done _ (by simp))
  | @dic a kvs e =>
    cases rx
    obtain ⟨dd, es, n, sl, h1⟩ := dict_get I e
    exact SeqAt.RcAt.dict_str z t h1 hu _ _ _ _ (done _ (by simp))
theorem op_neX (hu : X.A.units < cLine) : OpR X (compareOp .NotEq) rNeX := by
  intro pins s σ H x y v u Q I rx ry h
  obtain ⟨k, z, rfl, tx, q⟩ := h
  obtain ⟨t, rfl⟩ := ry
  have done : ∀ b : Bool, (!decide (k = some z)) = b → EP X pins σ Q (.bool b) s := fun b e => ⟨.bl b, H, I, rfl, e ▸ q⟩
  cases tx with
  | str z' =>
    obtain ⟨t', rfl⟩ := rx
    exact SeqAt.RcNeAt.str_str z' t' z t _ _ _ _ (done _ (by rw [some_eq z' z]))
  | non =>
    cases rx
    exact SeqAt.RcNeAt.none_str z t _ _ _ _ (done _ (by simp))
  | bl b =>
    cases rx
    exact SeqAt.RcNeAt.bool_str b z t _ _ _ _ (done _ (by simp))
  | int i =>
    obtain ⟨t', rfl⟩ := rx
    exact SeqAt.RcNeAt.int_str i t' z t _ _ _ _ (done _ (by simp))
  | @lst a xs e =>
    cases rx
    obtain ⟨_, its, n, _, h1⟩ := (show ObjOk X.prog X.w H s.heap a (.lst xs) from I.hok a _ e)
    exact SeqAt.RcNeAt.list_str z t ⟨_, h1, rfl, n, rfl⟩ hu _ _ _ _ (done _ (by simp))
  | @tup a xs e =>
    cases rx
    obtain ⟨_, its, _, o, h1, h2, n, h3⟩ := (show ObjOk X.prog X.w H s.heap a (.tup xs) from I.hok a _ e)
    exact SeqAt.RcNeAt.tuple_str z t ⟨_, h1, h2, n, h3⟩ hu _ _ _ _ (done _ (by simp))
  | @dic a kvs e =>
    cases rx
    obtain ⟨dd, es, n, sl, h1⟩ := dict_get I e
    exact SeqAt.RcNeAt.dict_str z t h1 hu _ _ _ _ (done _ (by simp))
/-- xs == [] -/
def rEqNil : R2 := fun x y H Q => ∃ a b xs, x = .ref a ∧ y = .ref b ∧ H a = some (.lst xs) ∧ H b = some (.lst []) ∧ Q (.bl xs.isEmpty) H
theorem op_eqNil (hu : X.A.units < cLine) : OpR X (compareOp .Eq) rEqNil := by
  intro pins s σ H x y v u Q I rx ry h
  obtain ⟨a, b, xs, rfl, rfl, ea, eb, q⟩ := h
  cases rx
  cases ry
  obtain ⟨_, its, n, r1, h1⟩ := (show ObjOk X.prog X.w H s.heap a (.lst xs) from I.hok a _ ea)
  obtain ⟨_, its2, n2, r2, h2⟩ := (show ObjOk X.prog X.w H s.heap b (.lst []) from I.hok b _ eb)
  cases r2
  have la : s.heap.IsList a its.toArray := ⟨_, h1, rfl, n, rfl⟩
  have lb : s.heap.IsList b #[] := ⟨_, h2, rfl, n2, rfl⟩
  cases r1 with
  | nil => exact SeqAt.RcAt.lists (e := fun _ => true) la lb rfl hu (fun j h1 _ => absurd h1 (by simp)) _ _ _ _ ⟨.bl true, H, I, rfl, q⟩
  | cons r t => exact SeqAt.RcAt.lists_lengths la lb (by simp) hu _ _ _ _ ⟨.bl false, H, I, rfl, q⟩
/-- t != () -/
def rNeUnit : R2 := fun x y H Q => ∃ a b xs, x = .ref a ∧ y = .ref b ∧ H a = some (.tup xs) ∧ H b = some (.tup []) ∧ Q (.bl (!xs.isEmpty)) H
theorem op_neUnit (hu : X.A.units < cLine) : OpR X (compareOp .NotEq) rNeUnit := by
  intro pins s σ H x y v u Q I rx ry h
  obtain ⟨a, b, xs, rfl, rfl, ea, eb, q⟩ := h
  cases rx
  cases ry
  obtain ⟨_, its, r1, o, h1, h2, n, h3⟩ := (show ObjOk X.prog X.w H s.heap a (.tup xs) from I.hok a _ ea)
  obtain ⟨_, its2, r2, o2, g1, g2, n2, g3⟩ := (show ObjOk X.prog X.w H s.heap b (.tup []) from I.hok b _ eb)
  cases r2
  have la : s.heap.IsTuple a its.toArray := ⟨_, h1, h2, n, h3⟩
  have lb : s.heap.IsTuple b #[] := ⟨_, g1, g2, n2, g3⟩
  refine SeqAt.RcNeAt.tuples (e := fun _ => true) la lb hu (fun j _ h2 => absurd h2 (by simp)) _ _ _ _ ?_
  cases r1 with
  | nil => exact ⟨.bl false, H, I, rfl, q⟩
  | cons r t => exact ⟨.bl true, H, I, by simp [RelV], q⟩
/-- a great power -/
def CPowW (i j : Int) : Prop := 0 ≤ j ∧ (Builtin.Int.intBits i : Int) * j ≤ 2 ^ 27
theorem op_powW : OpR X (binaryOp .Pow) (rI CPowW fun i j => .int (i ^ j.toNat)) := opI fun _ _ _ _ _ _ _ hc q => pow_int hc.1 hc.2 q
end
end L2.My
/-! a tuple of any data compared with a tuple of one text -/
namespace L2.My
open PySem PySem.Spec PyProof.Rows
section
variable {A : Around} {s : Shared}
/-- what == tells of a text, where the two are not the same object -/
theorem eqAt_of {x : Value} {z : Str} {t : Tok} {k : Bool} (ne : x ≠ .str z t) (h : SeqAt.RcAt A s x (.str z t) k) : SeqAt.EqAt A s x (.str z t) k := fun prog w E Q q => by
  unfold eqBool
  refine wpAny_holding (wpAny_ite_split (fun c => absurd (eq_of_beq c) ne) fun _ => ?_)
  cases x <;> exact wpAny_bind (h prog w E _ (wpAny_truthy_bool q))
end
section
variable {X : Cx} {pins : List (Addr × Obj)} {σ : L2.St} {H : Hp} {s : Shared}
/-- one item against a text -/
theorem item_text (I : Inv X pins σ H s) {v : V} {u : Value} {k : Option Str} (r : RelV v u) (t : AsText H v k) (z : Str) (tk : Tok) {A : Around} (hu : A.units < cLine) : SeqAt.EqAt A s u (.str z tk) (decide (k = some z)) := by
  cases t with
  | str z' =>
    obtain ⟨t', rfl⟩ := r
    rw [some_eq]
    exact SeqAt.EqAt.str_str z' t' z tk
  | non =>
    cases r
    exact eqAt_of (by intro e; cases e) (SeqAt.RcAt.none_str z tk)
  | bl b =>
    cases r
    exact eqAt_of (by intro e; cases e) (SeqAt.RcAt.bool_str b z tk)
  | int i =>
    obtain ⟨t', rfl⟩ := r
    exact eqAt_of (by intro e; cases e) (SeqAt.RcAt.int_str i t' z tk)
  | @lst a xs e =>
    cases r
    obtain ⟨_, its, n, _, h1⟩ := (show ObjOk X.prog X.w H s.heap a (.lst xs) from I.hok a _ e)
    exact eqAt_of (by intro e; cases e) (SeqAt.RcAt.list_str z tk ⟨_, h1, rfl, n, rfl⟩ hu)
  | @tup a xs e =>
    cases r
    obtain ⟨_, its, _, o, h1, h2, n, h3⟩ := (show ObjOk X.prog X.w H s.heap a (.tup xs) from I.hok a _ e)
    exact eqAt_of (by intro e; cases e) (SeqAt.RcAt.tuple_str z tk ⟨_, h1, h2, n, h3⟩ hu)
  | @dic a kvs e =>
    cases r
    obtain ⟨dd, es, n, sl, h1⟩ := dict_get I e
    exact eqAt_of (by intro e; cases e) (SeqAt.RcAt.dict_str z tk h1 hu)
/-- the tuple is (z,) -/
def isTag : List (Option Str) → Str → Bool
  | [k], z => decide (k = some z)
  | _, _ => false
/-- items as a text sees them -/
inductive Texts (H : Hp) : List V → List (Option Str) → Prop
  | nil : Texts H [] []
  | cons {v : V} {k : Option Str} {vs : List V} {ks : List (Option Str)} (t : AsText H v k) (r : Texts H vs ks) : Texts H (v :: vs) (k :: ks)
def rEqTag : R2 := fun x y H Q => ∃ a b xs ks z, x = .ref a ∧ y = .ref b ∧ H a = some (.tup xs) ∧ H b = some (.tup [.str z]) ∧ Texts H xs ks ∧ Q (.bl (isTag ks z)) H
theorem op_eqTag (hu : X.A.units + 1 < cLine) : OpR X (compareOp .Eq) rEqTag := by
  intro pins s σ H x y v u Q I rx ry h
  obtain ⟨a, b, xs, ks, z, rfl, rfl, ea, eb, tx, q⟩ := h
  cases rx
  cases ry
  obtain ⟨_, its, r1, o, h1, h2, n, h3⟩ := (show ObjOk X.prog X.w H s.heap a (.tup xs) from I.hok a _ ea)
  obtain ⟨_, its2, r2, o2, g1, g2, n2, g3⟩ := (show ObjOk X.prog X.w H s.heap b (.tup [.str z]) from I.hok b _ eb)
  have la : s.heap.IsTuple a its.toArray := ⟨_, h1, h2, n, h3⟩
  cases r2 with
  | @cons _ w _ ws rz rn =>
    cases rn
    obtain ⟨tk, rfl⟩ := rz
    have lb : s.heap.IsTuple b #[.str z tk] := ⟨_, g1, g2, n2, g3⟩
    refine SeqAt.RcAt.tuples (e := fun _ => isTag [ks.headD none] z) la lb (Nat.lt_of_succ_lt hu) (fun j j1 j2 => ?_) _ _ _ _ ?_
    · have j0 : j = 0 := by
        have : j < 1 := j2
        omega
      subst j0
      cases r1 with
      | nil => exact absurd j1 (by simp)
      | @cons v w vs ws r t =>
        cases tx with
        | cons t0 tr => exact item_text I r t0 z tk hu
    · cases r1 with
      | nil =>
        cases tx
        exact ⟨.bl false, H, I, rfl, q⟩
      | @cons v w vs ws r t =>
        cases tx with
        | @cons _ k _ kr t0 tr =>
          cases t with
          | nil =>
            cases tr
            exact ⟨.bl _, H, I, by simp [RelV, List.range_succ], q⟩
          | cons r' t' =>
            cases tr
            exact ⟨.bl false, H, I, by simp [RelV], q⟩
end
end L2.My
/-! repr of an empty dict -/
namespace L2.My
open PySem PySem.Spec PyProof.Rows
section
variable {X : Cx} {pins : List (Addr × Obj)} {σ : L2.St} {H : Hp} {s : Shared}
theorem dict_nil (I : Inv X pins σ H s) {a : Addr} (e : H a = some (.dK [])) : (a == sysModules) = false ∧ ∃ o n, s.heap.get? a = some o ∧ o.cls = .type "dict" ∧ o.data = .dict #[] n := by
  obtain ⟨_, q0, vs, q1, o, es, ep, h1, h2, h3, h4⟩ := (show ObjOk X.prog X.w H s.heap a (.dK []) from I.hok a _ e)
  cases q1
  have z : es = #[] := by
    have p := h4.2.1
    have p2 : es.toList = [] := by
      cases q : es.toList with
      | nil => rfl
      | cons x r =>
        rw [q] at p
        cases p
    exact Array.ext' p2
  subst z
  exact ⟨q0, o, ep, h1, h2.1, h3⟩
/-- repr(d) of an empty dict -/
def rReprNil : List V → Hp → VK → Prop := fun xs H Q => ∃ a, xs = [.ref a] ∧ H a = some (.dK []) ∧ Q (.str "{}") H
theorem call_reprNil (gd : X.A.guards = some []) (hu : X.A.units + 70 < cLine) : CallR X (.builtin "repr") rReprNil := by
  intro pins s σ H xs us Q I r h
  obtain ⟨a, rfl, e, q⟩ := h
  obtain ⟨ne, o, n, h1, h2, h3⟩ := dict_nil I e
  cases r with
  | cons ra rn =>
    cases rn
    cases ra
    have rd : Reads s.heap (.ref a) (.dict []) ([a] ++ []) := .dict h1 h2 h3 (by simpa using ReadsAll.nil) (by simpa using ReadsAll.nil)
    refine repr_of_reads' rd (by rfl) (fun _ hm => ?_) gd (by show X.A.units + (_ + 1) < cLine; have : (PyData.dict []).depth = 1 := rfl; omega) (fun _ _ e => e) (fun h' t tk hk => ?_) (by decide +kernel)
    · have hm2 : sysModules = a := by simpa using hm
      rw [hm2] at ne
      simp at ne
    · have z : (PyData.dict []).shown = "{}" := by decide +kernel
      rw [z]
      exact ⟨.str _, H, I.kept (t' := tk) hk, ⟨t, rfl⟩, q⟩
end
end L2.My
/-! zip of two tuples walked; < of data; in a tuple of one-text tuples; repr of data or of an empty dict -/
namespace PySem.SeqAt
section
variable {A : Around} {s : Shared}
theorem RcAt.str_dict (b : Str) (u : Tok) {l : Addr} {es : Array DictEntry} {n : Nat} {dd : Option Addr} {sl : Array (Option Value)} (ho : s.heap.get? l = some { cls := .type "dict", dict := dd, data := .dict es n, slots := sl }) (hu : A.units < cLine) : RcAt A s (.str b u) (.ref l) false :=
  fun prog w E Q h => rc_eq_decline_or (k := false) (typeIs_str s b u) ⟨_, ho, rfl⟩ (by decide) F.sub_dict_str F.slot_str_eq_refl F.slot_dict_eq
    (fun _ hq => call_meets F.slot_str_eq_refl (typeIs_str s b u) F.entry_str_eq (F.args_str_eq_2 _ _) (str_eq_no_dict b u l es n dd sl) ⟨ho, hq⟩)
    (fun _ hq => call_meets F.slot_dict_eq ⟨_, ho, rfl⟩ F.entry_dict_eq (F.args_dict_eq_2 _ _) (dict_eq_no_str l es n dd sl b u) ⟨ho, hq⟩)
    (fun _ hq => wpAny_of_eq (rfl : isSame (.str b u) (.ref l) = pure false) hq) (.inr hu) h
theorem eqAt_back {x : Value} {z : Str} {t : Tok} {k : Bool} (ne : x ≠ .str z t) (h : SeqAt.RcAt A s (.str z t) x k) : SeqAt.EqAt A s (.str z t) x k := fun prog w E Q q => by
  unfold eqBool
  refine wpAny_holding (wpAny_ite_split (fun c => absurd (eq_of_beq c).symm ne) fun _ => ?_)
  cases x <;> exact wpAny_bind (h prog w E _ (wpAny_truthy_bool q))
end
end PySem.SeqAt
namespace L2.My
open PySem PySem.Spec PyProof.Rows L2
section
variable {K : PySem.W.Frag} {a b : Addr} {xs ys : List V}
theorem walk_zipT {n : Nat} (hn : n = min xs.length ys.length) : Walk (RZ.ItzT K a b) n (fun H => SqT K H a xs ∧ SqT K H b ys) (YPair (fun i => xs[i]?) (fun i => ys[i]?)) := by
  refine ⟨fun i H hi q => ?_, fun H q => ⟨xs, ys, q.1, q.2, by omega⟩, fun i H v H' _ q y => ?_⟩
  · obtain ⟨x, hx⟩ : ∃ x, xs[i]? = some x := ⟨_, List.getElem?_eq_getElem (by omega)⟩
    obtain ⟨y, hy⟩ : ∃ y, ys[i]? = some y := ⟨_, List.getElem?_eq_getElem (by omega)⟩
    exact ⟨xs, ys, x, y, q.1, q.2, hx, hy⟩
  · obtain ⟨T, x, z, h1, h2, h3, h4, h5⟩ := y
    exact ⟨T, x, z, h1, h2, h3, h4 xs q.1, h5 ys q.2⟩
end
section
variable {X : Cx} {pins : List (Addr × Obj)} {σ : L2.St} {H : Hp} {s : Shared}
/-- x < y, both data -/
def rLtD (K : PySem.W.Frag) : R2 := fun x y H Q => ∃ d e, Dp K H x d ∧ Dp K H y e ∧ PySem.W.alike d e = true ∧ d ≠ .none ∧ d.depth ≤ 60 ∧ Q (.bl (PySem.W.dataLt d e)) H
theorem op_ltD (hu : X.A.units + 64 < cLine) : OpR X (compareOp .Lt) (rLtD X.K) := by
  intro pins s σ H x y v u Q I rx ry h
  obtain ⟨d, e, hd, he, al, ne, dp, q⟩ := h
  obtain ⟨as, r1⟩ := Dp.reads I d x v hd rx
  obtain ⟨bs, r2⟩ := Dp.reads I e y u he ry
  exact PySem.W.lt_data r1 r2 al ne (by have := Nat.min_le_left d.depth e.depth; omega) ⟨.bl _, H, I, rfl, q⟩
/-- a text against an item -/
theorem text_item (I : Inv X pins σ H s) {v : V} {u : Value} {k : Option Str} (r : RelV v u) (t : AsText H v k) (z : Str) (tk : Tok) {A : Around} (hu : A.units < cLine) : SeqAt.EqAt A s (.str z tk) u (decide (k = some z)) := by
  cases t with
  | str z' =>
    obtain ⟨t', rfl⟩ := r
    have e : decide (some z' = some z) = (z == z') := by
      rw [some_eq]
      by_cases c : z' = z
      · subst c
        simp
      · rw [beq_eq_false_iff_ne.mpr c, beq_eq_false_iff_ne.mpr fun q => c q.symm]
    rw [e]
    exact SeqAt.EqAt.str_str z tk z' t'
  | non =>
    cases r
    exact SeqAt.eqAt_back (by intro e; cases e) (SeqAt.RcAt.str_none z tk)
  | bl b =>
    cases r
    exact SeqAt.eqAt_back (by intro e; cases e) (SeqAt.RcAt.str_bool z tk b)
  | int i =>
    obtain ⟨t', rfl⟩ := r
    exact SeqAt.eqAt_back (by intro e; cases e) (SeqAt.RcAt.str_int z tk i t')
  | @lst a xs e =>
    cases r
    obtain ⟨_, its, n, _, h1⟩ := (show ObjOk X.prog X.w H s.heap a (.lst xs) from I.hok a _ e)
    exact SeqAt.eqAt_back (by intro e; cases e) (SeqAt.RcAt.str_list z tk ⟨_, h1, rfl, n, rfl⟩ hu)
  | @tup a xs e =>
    cases r
    obtain ⟨_, its, _, o, h1, h2, n, h3⟩ := (show ObjOk X.prog X.w H s.heap a (.tup xs) from I.hok a _ e)
    exact SeqAt.eqAt_back (by intro e; cases e) (SeqAt.RcAt.str_tuple z tk ⟨_, h1, h2, n, h3⟩ hu)
  | @dic a kvs e =>
    cases r
    obtain ⟨dd, es, n, sl, h1⟩ := dict_get I e
    exact SeqAt.eqAt_back (by intro e; cases e) (SeqAt.RcAt.str_dict z tk h1 hu)
/-- t in ((z,), ..), t a tuple -/
def rInTags : R2 := fun x y H Q => ∃ a b xs ks ts zs, x = .ref a ∧ y = .ref b ∧ H a = some (.tup xs) ∧ H b = some (.tup (ts.map V.ref)) ∧ Texts H xs ks ∧ List.length ts = List.length zs ∧ (∀ p ∈ ts.zip zs, H p.1 = some (.tup [.str p.2])) ∧ Q (.bl (zs.any (isTag ks))) H
theorem tagV (I : Inv X pins σ H s) {a t : Addr} {xs : List V} {ks : List (Option Str)} {z : Str} (ea : H a = some (.tup xs)) (et : H t = some (.tup [.str z])) (tx : Texts H xs ks) {A : Around} (hu : A.units + 1 < cLine) : SeqAt.EqAt A s (.ref t) (.ref a) (isTag ks z) := by
  obtain ⟨_, its, r1, o, h1, h2, n, h3⟩ := (show ObjOk X.prog X.w H s.heap a (.tup xs) from I.hok a _ ea)
  obtain ⟨_, its2, r2, o2, g1, g2, n2, g3⟩ := (show ObjOk X.prog X.w H s.heap t (.tup [.str z]) from I.hok t _ et)
  have la : s.heap.IsTuple a its.toArray := ⟨_, h1, h2, n, h3⟩
  cases r2 with
  | @cons _ w _ ws rz rn =>
    cases rn
    obtain ⟨tk, rfl⟩ := rz
    have lb : s.heap.IsTuple t #[.str z tk] := ⟨_, g1, g2, n2, g3⟩
    by_cases same : t = a
    · subst same
      rw [ea] at et
      cases et
      cases tx with
      | cons t0 tr =>
        cases tr
        cases t0
        have z1 : isTag [some z] z = true := by simp [isTag]
        rw [z1]
        exact SeqAt.EqAt.same _
    have core : SeqAt.RcAt A s (.ref t) (.ref a) (isTag ks z) := by
      have c := SeqAt.RcAt.tuples (e := fun _ => isTag [ks.headD none] z) (A := A) lb la (Nat.lt_of_succ_lt hu) (fun j j1 j2 => ?_)
      · have e : ((List.range (min (#[Value.str z tk] : Array Value).size its.toArray.size)).all (fun _ => isTag [ks.headD none] z) && (#[Value.str z tk] : Array Value).size == its.toArray.size) = isTag ks z := by
          cases r1 with
          | nil =>
            cases tx
            simp [isTag]
          | @cons v w vs ws r t =>
            cases tx with
            | @cons _ k _ kr t0 tr =>
              cases t with
              | nil =>
                cases tr
                simp [List.range_succ]
              | cons r' t' =>
                cases tr
                simp [isTag]
        rw [e] at c
        exact c
      · have j0 : j = 0 := by
          have : j < 1 := j1
          omega
        subst j0
        cases r1 with
        | nil => exact absurd j2 (by simp)
        | @cons v w vs ws r t =>
          cases tx with
          | cons t0 tr => exact text_item I r t0 z tk hu
    exact SeqAt.EqAt.of_refs same core
theorem op_inTags (hu : X.A.units + 2 < cLine) : OpR X (compareOp .In) rInTags := by
  intro pins s σ H x y v u Q I rx ry h
  obtain ⟨a, b, xs, ks, ts, zs, rfl, rfl, ea, eb, tx, ll, et, q⟩ := h
  cases rx
  cases ry
  obtain ⟨_, its, r1, o, h1, h2, n, h3⟩ := (show ObjOk X.prog X.w H s.heap b (.tup (ts.map V.ref)) from I.hok b _ eb)
  have its_ : its = ts.map Value.ref := by
    clear eb h3 et ll
    revert r1
    generalize ts = ts
    intro r1
    induction ts generalizing its with
    | nil =>
      cases r1
      rfl
    | cons t ts ih =>
      cases r1 with
      | cons r rr =>
        cases r
        rw [ih _ rr]
        rfl
  subst its_
  have lb : s.heap.IsTuple b (ts.map Value.ref).toArray := ⟨_, h1, h2, n, h3⟩
  let e : Value → Bool := fun v => match v with
    | .ref t => (match (ts.zip zs).find? fun p => p.1 == t with
      | some p => isTag ks p.2
      | none => false)
    | _ => false
  have he : ∀ p ∈ ts.zip zs, e (.ref p.1) = isTag ks p.2 := fun p hp => by
    show (match (ts.zip zs).find? fun q => q.1 == p.1 with
      | some p => isTag ks p.2
      | none => false) = _
    cases f : (ts.zip zs).find? fun q => q.1 == p.1 with
    | none => exact absurd (List.find?_eq_none.mp f p hp) (by simp)
    | some q' =>
      have m := List.mem_of_find?_eq_some f
      have c : q'.1 = p.1 := by
        have z := List.find?_some f
        simpa using z
      have e1 := et q' m
      have e2 := et p hp
      rw [c, e2] at e1
      injection e1 with e1
      injection e1 with e1
      injection e1 with e1 _
      injection e1 with e1
      show isTag ks q'.2 = _
      rw [e1]
  refine SeqAt.in_tupleAt e lb (fun w hw => ?_) ⟨.bl _, H, I, rfl, ?_⟩
  · obtain ⟨t, ht, rfl⟩ := List.mem_map.mp (by simpa using hw : w ∈ ts.map Value.ref)
    obtain ⟨j, hj⟩ := List.mem_iff_getElem?.mp ht
    obtain ⟨z, hz⟩ : ∃ z, zs[j]? = some z := by
      obtain ⟨l, _⟩ := List.getElem?_eq_some_iff.mp hj
      exact ⟨_, List.getElem?_eq_getElem (ll ▸ l)⟩
    have hp : (t, z) ∈ ts.zip zs := List.mem_iff_getElem?.mpr ⟨j, by rw [List.getElem?_zip_eq_some]; exact ⟨hj, hz⟩⟩
    rw [he _ hp]
    exact tagV I ea (et _ hp) tx (A := X.A.in1) (by show X.A.in1.units + 1 < cLine; have z : X.A.in1.units ≤ X.A.units + 1 := by simp [Around.in1]
                                                    omega)
  · have z : (ts.map Value.ref).toArray.any e = zs.any (isTag ks) := by
      rw [List.any_toArray]
      clear eb h3 lb h1 h2 r1
      have key : ∀ (ts : List Addr) (zs : List Str), ts.length = zs.length → (∀ p ∈ ts.zip zs, e (.ref p.1) = isTag ks p.2) → (ts.map Value.ref).any e = zs.any (isTag ks) := by
        intro ts
        induction ts with
        | nil =>
          intro zs l _
          cases zs with
          | nil => rfl
          | cons _ _ => cases l
        | cons t ts ih =>
          intro zs l h
          cases zs with
          | nil => cases l
          | cons z zs =>
            rw [List.map_cons, List.any_cons, List.any_cons, h (t, z) (by simp), ih zs (Nat.succ.inj l) fun p hp => h p (by rw [List.zip_cons_cons]; exact List.mem_cons_of_mem _ hp)]
      exact key ts zs ll he
    rw [z]
    exact q
/-- repr of data, or of an empty dict -/
theorem call_reprE (gd : X.A.guards = some []) (hu : X.A.units + 70 < cLine) : CallR X (.builtin "repr") (fun xs H Q => rRepr X.K xs H Q ∨ rReprNil xs H Q) := by
  intro pins s σ H xs us Q I r h
  rcases h with h | h
  · exact call_repr gd hu pins s σ H xs us Q I r h
  · exact call_reprNil gd hu pins s σ H xs us Q I r h
end
end L2.My
/-! displays of written things and names, in one piece; data that is known to have a short repr -/
namespace L2.My
open PySem PySem.Spec PyProof.Rows L2
/-- a written display; v k: the value of slot k -/
inductive Lit where
  | s (z : Str)
  | i (n : Int)
  | b (k : Bool)
  | n
  | v (k : Nat)
  | t (xs : List Lit)
  | l (xs : List Lit)
mutual
def Lit.ok (σ : L2.St) : Lit → Prop
  | .v k => ∃ v, σ[k]? = some (some v)
  | .t xs => xs.length ≤ 1000 ∧ Lit.okA σ xs
  | .l xs => xs.length ≤ 1000 ∧ Lit.okA σ xs
  | .s _ => True
  | .i _ => True
  | .b _ => True
  | .n => True
def Lit.okA (σ : L2.St) : List Lit → Prop
  | [] => True
  | x :: xs => Lit.ok σ x ∧ Lit.okA σ xs
end
mutual
/-- v is what the display gives, all of its objects new since H0 -/
inductive LitAt (σ : L2.St) (H0 H : Hp) : V → Lit → Prop
  | s (z : Str) : LitAt σ H0 H (.str z) (.s z)
  | i (n : Int) : LitAt σ H0 H (.int n) (.i n)
  | b (k : Bool) : LitAt σ H0 H (.bl k) (.b k)
  | n : LitAt σ H0 H .non .n
  | v {k : Nat} {u : V} (e : σ[k]? = some (some u)) : LitAt σ H0 H u (.v k)
  | t {a : Addr} {vs : List V} {xs : List Lit} (n : H0 a = none) (e : H a = some (.tup vs)) (h : LitAll σ H0 H vs xs) : LitAt σ H0 H (.ref a) (.t xs)
  | l {a : Addr} {vs : List V} {xs : List Lit} (n : H0 a = none) (e : H a = some (.lst vs)) (h : LitAll σ H0 H vs xs) : LitAt σ H0 H (.ref a) (.l xs)
inductive LitAll (σ : L2.St) (H0 H : Hp) : List V → List Lit → Prop
  | nil : LitAll σ H0 H [] []
  | cons {u : V} {x : Lit} {vs : List V} {xs : List Lit} (h : LitAt σ H0 H u x) (r : LitAll σ H0 H vs xs) : LitAll σ H0 H (u :: vs) (x :: xs)
end
theorem same_none {H0 H1 : Hp} (s : Same H0 H1) {a : Addr} (n : H1 a = none) : H0 a = none := by
  cases q : H0 a with
  | none => rfl
  | some o =>
    rw [s a o q] at n
    cases n
mutual
theorem LitAt.mono {σ : L2.St} {H0 H1 H H' : Hp} (s0 : Same H0 H1) (s : Same H H') : ∀ {u : V} {x : Lit}, LitAt σ H1 H u x → LitAt σ H0 H' u x
  | _, _, .s z => .s z
  | _, _, .i n => .i n
  | _, _, .b k => .b k
  | _, _, .n => .n
  | _, _, .v e => .v e
  | _, _, .t n e h => .t (same_none s0 n) (s _ _ e) (LitAll.mono s0 s h)
  | _, _, .l n e h => .l (same_none s0 n) (s _ _ e) (LitAll.mono s0 s h)
theorem LitAll.mono {σ : L2.St} {H0 H1 H H' : Hp} (s0 : Same H0 H1) (s : Same H H') : ∀ {vs : List V} {xs : List Lit}, LitAll σ H1 H vs xs → LitAll σ H0 H' vs xs
  | _, _, .nil => .nil
  | _, _, .cons h r => .cons (LitAt.mono s0 s h) (LitAll.mono s0 s r)
end
theorem LitAll.len {σ : L2.St} {H0 H : Hp} : ∀ {vs : List V} {xs : List Lit}, LitAll σ H0 H vs xs → vs.length = xs.length
  | _, _, .nil => rfl
  | _, _, .cons _ r => by rw [List.length_cons, List.length_cons, r.len]
def tLit (x : Lit) : TE := fun σ H Q => Lit.ok σ x ∧ ∀ u H', Same H H' → LitAt σ H H' u x → Q u H'
def tLits (xs : List Lit) : TA := fun σ H Q => Lit.okA σ xs ∧ ∀ us H', Same H H' → LitAll σ H H' us xs → Q us H'
theorem PE.of {X : Cx} {e : Expr} {t t' : TE} (h : PE X e t) (i : ∀ σ H Q, t' σ H Q → t σ H Q) : PE X e t' := ⟨fun pins s σ H Q I q => h.run pins s σ H Q I (i σ H Q q)⟩
theorem PA.of {X : Cx} {es : List Expr} {t t' : TA} (h : PA X es t) (i : ∀ σ H Q, t' σ H Q → t σ H Q) : PA X es t' := ⟨fun pos pins s σ H Q I q => h.run pos pins s σ H Q I (i σ H Q q)⟩
section
variable {X : Cx}
theorem pl_int {i : Int} {j pos} : PE X (.Constant (.int i) j pos) (tLit (.i i)) := PE.of pe_int fun _ H _ q => q.2 _ H (Same.refl H) (.i _)
theorem pl_neg {i : Int} {j pos pos2} : PE X (.UnaryOp .USub (.Constant (.int i) j pos) pos2) (tLit (.i (-i))) := PE.of (pe_un un_neg pe_int) fun _ H _ q => ⟨_, rfl, q.2 _ H (Same.refl H) (.i _)⟩
theorem pl_bl {k : Bool} {j pos} : PE X (.Constant (.bool k) j pos) (tLit (.b k)) := PE.of pe_bl fun _ H _ q => q.2 _ H (Same.refl H) (.b _)
theorem pl_non {j pos} : PE X (.Constant .none j pos) (tLit .n) := PE.of pe_non fun _ H _ q => q.2 _ H (Same.refl H) .n
theorem pl_str {z : Str} {j pos} : PE X (.Constant (.str z) j pos) (tLit (.s z)) := PE.of pe_str fun _ H _ q => q.2 _ H (Same.refl H) (.s _)
theorem pl_v (k : Nat) {e : Expr} (h : PE X e (tVar k)) : PE X e (tLit (.v k)) := PE.of h fun σ H Q q => by
  obtain ⟨v, e⟩ : ∃ v, σ[k]? = some (some v) := by
    have z := q.1
    rw [Lit.ok] at z
    exact z
  exact ⟨v, e, q.2 v H (Same.refl H) (.v e)⟩
theorem pl_nil : PA X [] (tLits []) := PA.of pa_nil fun _ H _ q => q.2 [] H (Same.refl H) .nil
theorem pl_cons {e : Expr} {es : List Expr} {x : Lit} {xs : List Lit} (h : PE X e (tLit x)) (r : PA X es (tLits xs)) (hs : starEach (e :: es) X.env = (false, eval e X.env) :: starEach es X.env := by rfl) : PA X (e :: es) (tLits (x :: xs)) :=
  PA.of (pa_cons h r hs) fun σ H Q q => by
    obtain ⟨ok, k⟩ := q
    rw [Lit.okA] at ok
    exact ⟨ok.1, fun u H1 s1 a1 => ⟨ok.2, fun us H2 s2 a2 => k (u :: us) H2 (s1.trans s2) (.cons (a1.mono (Same.refl _) s2) (a2.mono s1 (Same.refl _)))⟩⟩
theorem line1000 : 1000 ≤ sizeLine := by decide
theorem pl_tup {es : List Expr} {xs : List Lit} {x1 pos} (h : PA X es (tLits xs)) : PE X (.Tuple es x1 pos) (tLit (.t xs)) := PE.of (pe_tup h) fun σ H Q q => by
  obtain ⟨ok, k⟩ := q
  rw [Lit.ok] at ok
  refine ⟨ok.2, fun us H1 s1 a1 => ⟨?_, fun p np => k _ _ (s1.trans fun b u e => ?_) (.t (same_none s1 np) upd_same (a1.mono (Same.refl _) fun b u e => ?_))⟩⟩
  · rw [a1.len]
    exact Nat.le_trans ok.1 line1000
  · rw [upd_ne (ne_of_none e np)]
    exact e
  · rw [upd_ne (ne_of_none e np)]
    exact e
theorem pl_lst {es : List Expr} {xs : List Lit} {pos} (h : PA X es (tLits xs)) : PE X (.List es pos) (tLit (.l xs)) := PE.of (pe_lst h) fun σ H Q q => by
  obtain ⟨ok, k⟩ := q
  rw [Lit.ok] at ok
  refine ⟨ok.2, fun us H1 s1 a1 => ⟨?_, fun p np => k _ _ (s1.trans fun b u e => ?_) (.l (same_none s1 np) upd_same (a1.mono (Same.refl _) fun b u e => ?_))⟩⟩
  · rw [a1.len]
    exact Nat.le_trans ok.1 line1000
  · rw [upd_ne (ne_of_none e np)]
    exact e
  · rw [upd_ne (ne_of_none e np)]
    exact e
end
/-! ### data with a bound on its repr -/
/-- none of its lists and tuples stands at p; at most N items each, n levels, a repr of at most c signs -/
inductive Dv (H : Hp) (p : Addr) (N : Nat) : Nat → Nat → V → Prop
  | non {n c : Nat} (hc : 40 ≤ c) : Dv H p N n c .non
  | bl {n c : Nat} (b : Bool) (hc : 40 ≤ c) : Dv H p N n c (.bl b)
  | int {n c : Nat} (i : Int) (h : i.natAbs < 10 ^ 39) (g : (PyData.int i).shown.length ≤ 40) (hc : 40 ≤ c) : Dv H p N n c (.int i)
  | str {n c : Nat} (z : Str) (h : z.length ≤ 100) (g : (PyData.str z).shown.length ≤ 40) (hc : 40 ≤ c) : Dv H p N n c (.str z)
  | tup {n b c : Nat} {a : Addr} {xs : List V} (e : H a = some (.tup xs)) (ap : a ≠ p) (l : xs.length ≤ N) (h : ∀ x ∈ xs, Dv H p N n b x) (hc : 4 + xs.length * (b + 2) ≤ c) : Dv H p N (n + 1) c (.ref a)
  | lst {n b c : Nat} {a : Addr} {xs : List V} (e : H a = some (.lst xs)) (ap : a ≠ p) (l : xs.length ≤ N) (h : ∀ x ∈ xs, Dv H p N n b x) (hc : 4 + xs.length * (b + 2) ≤ c) : Dv H p N (n + 1) c (.ref a)
theorem Dv.wk {H : Hp} {p : Addr} {N M n c : Nat} {v : V} (t : Dv H p N n c v) (hN : N ≤ M) : ∀ {m d : Nat}, n ≤ m → c ≤ d → Dv H p M m d v := by
  induction t with
  | non hc => exact fun _ h => .non (Nat.le_trans hc h)
  | bl b hc => exact fun _ h => .bl b (Nat.le_trans hc h)
  | int i h g hc => exact fun _ k => .int i h g (Nat.le_trans hc k)
  | str z h g hc => exact fun _ k => .str z h g (Nat.le_trans hc k)
  | tup e ap l _ hc ih =>
    intro m d hm hd
    match m, hm with
    | m + 1, hm => exact .tup e ap (Nat.le_trans l hN) (fun x hx => ih x hx (Nat.le_of_succ_le_succ hm) (Nat.le_refl _)) (Nat.le_trans hc hd)
  | lst e ap l _ hc ih =>
    intro m d hm hd
    match m, hm with
    | m + 1, hm => exact .lst e ap (Nat.le_trans l hN) (fun x hx => ih x hx (Nat.le_of_succ_le_succ hm) (Nat.le_refl _)) (Nat.le_trans hc hd)
theorem Dv.keep {H H' : Hp} {p : Addr} {N n c : Nat} {v : V} (t : Dv H p N n c v) (s : ∀ q, q ≠ p → ∀ o, H q = some o → H' q = some o) : Dv H' p N n c v := by
  induction t with
  | non hc => exact .non hc
  | bl b hc => exact .bl b hc
  | int i h g hc => exact .int i h g hc
  | str z h g hc => exact .str z h g hc
  | tup e ap l _ hc ih => exact .tup (s _ ap _ e) ap l ih hc
  | lst e ap l _ hc ih => exact .lst (s _ ap _ e) ap l ih hc
/-- the bound of n levels of at most five items each -/
def fz : Nat → Nat
  | 0 => 40
  | n + 1 => 4 + 5 * (fz n + 2)
theorem fz_up {n m : Nat} (h : n ≤ m) : fz n ≤ fz m := by
  induction h with
  | refl => exact Nat.le_refl _
  | step _ ih => exact Nat.le_trans ih (by show _ ≤ 4 + 5 * (_ + 2); omega)
theorem fz40 : ∀ n, 40 ≤ fz n
  | 0 => Nat.le_refl _
  | n + 1 => by
    have := fz40 n
    show 40 ≤ 4 + 5 * (fz n + 2)
    omega
mutual
/-- at most n levels of at most five items, short ints and texts; g k: the levels of slot k's value -/
def Lit.fit (g : Nat → Option Nat) : Nat → Lit → Bool
  | _, .s z => decide (z.length ≤ 100) && decide ((PyData.str z).shown.length ≤ 40)
  | _, .i k => decide (k.natAbs < 10 ^ 39) && decide ((PyData.int k).shown.length ≤ 40)
  | _, .b _ => true
  | _, .n => true
  | m, .v k => match g k with
    | some j => decide (j ≤ m)
    | none => false
  | 0, .t _ => false
  | 0, .l _ => false
  | m + 1, .t xs => decide (xs.length ≤ 5) && Lit.fits g m xs
  | m + 1, .l xs => decide (xs.length ≤ 5) && Lit.fits g m xs
def Lit.fits (g : Nat → Option Nat) : Nat → List Lit → Bool
  | _, [] => true
  | m, x :: xs => Lit.fit g m x && Lit.fits g m xs
end
mutual
theorem LitAt.dv {σ : L2.St} {H0 H : Hp} {p : Addr} {o : HO} (np : H0 p = some o) {g : Nat → Option Nat} (hg : ∀ k j u, g k = some j → σ[k]? = some (some u) → Dv H p 5 j (fz j) u) : ∀ {m : Nat} {u : V} {x : Lit}, LitAt σ H0 H u x → Lit.fit g m x = true → Dv H p 5 m (fz m) u
  | m, _, _, .s z, f => by
    rw [Lit.fit, Bool.and_eq_true, decide_eq_true_eq, decide_eq_true_eq] at f
    exact .str z f.1 f.2 (fz40 m)
  | m, _, _, .i n, f => by
    rw [Lit.fit, Bool.and_eq_true, decide_eq_true_eq, decide_eq_true_eq] at f
    exact .int n f.1 f.2 (fz40 m)
  | m, _, _, .b k, _ => .bl k (fz40 m)
  | m, _, _, .n, _ => .non (fz40 m)
  | m, _, _, .v (k := k) e, f => by
    rw [Lit.fit] at f
    cases q : g k with
    | none =>
      rw [q] at f
      cases f
    | some j =>
      rw [q] at f
      have jm : j ≤ m := of_decide_eq_true f
      exact (hg k j _ q e).wk (Nat.le_refl _) jm (fz_up jm)
  | 0, _, _, .t n e h, f => by
    rw [Lit.fit] at f
    cases f
  | 0, _, _, .l n e h, f => by
    rw [Lit.fit] at f
    cases f
  | m + 1, _, _, .t (vs := vs) n e h, f => by
    rw [Lit.fit, Bool.and_eq_true, decide_eq_true_eq] at f
    have l : vs.length ≤ 5 := h.len ▸ f.1
    refine .tup e (fun z => by rw [z, np] at n; cases n) l (LitAll.dv np hg h f.2) ?_
    have := Nat.mul_le_mul_right (fz m + 2) l
    show _ ≤ 4 + 5 * (fz m + 2)
    omega
  | m + 1, _, _, .l (vs := vs) n e h, f => by
    rw [Lit.fit, Bool.and_eq_true, decide_eq_true_eq] at f
    have l : vs.length ≤ 5 := h.len ▸ f.1
    refine .lst e (fun z => by rw [z, np] at n; cases n) l (LitAll.dv np hg h f.2) ?_
    have := Nat.mul_le_mul_right (fz m + 2) l
    show _ ≤ 4 + 5 * (fz m + 2)
    omega
theorem LitAll.dv {σ : L2.St} {H0 H : Hp} {p : Addr} {o : HO} (np : H0 p = some o) {g : Nat → Option Nat} (hg : ∀ k j u, g k = some j → σ[k]? = some (some u) → Dv H p 5 j (fz j) u) : ∀ {m : Nat} {vs : List V} {xs : List Lit}, LitAll σ H0 H vs xs → Lit.fits g m xs = true → ∀ u ∈ vs, Dv H p 5 m (fz m) u
  | _, _, _, .nil, _ => fun u hu => by cases hu
  | m, _, _, .cons h r, f => by
    rw [Lit.fits, Bool.and_eq_true] at f
    intro u hu
    rcases List.mem_cons.mp hu with rfl | hu
    · exact LitAt.dv np hg h f.1
    · exact LitAll.dv np hg r f.2 u hu
end
theorem textFrom_up : ∀ (ts : List Str) (k : Nat) (acc : Str), (textFrom k acc ts).length ≤ acc.length + piled ts
  | [], _, acc => Nat.le_add_right _ _
  | t :: ts, k, acc => by
    have h := textFrom_up ts (k + 1) (acc ++ (if k > 0 then ", " else "" : String) ++ t)
    have e : (acc ++ (if k > 0 then ", " else "" : String) ++ t).length ≤ acc.length + 2 + t.length := by
      rw [Str.length_append, Str.length_append]
      split
      · exact Nat.le_refl _
      · exact Nat.add_le_add_right (Nat.add_le_add_left (Nat.zero_le _) _) _
    rw [piled_cons]
    show (textFrom (k + 1) _ ts).length ≤ _
    omega
theorem listText_up (ts : List Str) : (listText ts).length ≤ 2 + piled ts := by
  have h := textFrom_up ts 0 "["
  unfold listText
  rw [Str.length_append]
  have e1 : (("[" : String) : Str).length = 1 := rfl
  have e2 : (("]" : String) : Str).length = 1 := rfl
  omega
theorem tupleText_up (ts : List Str) : (tupleText ts).length ≤ 3 + piled ts := by
  unfold tupleText
  rw [Str.length_append, Str.length_append]
  have e1 : (("(" : String) : Str).length = 1 := rfl
  have e2 : ((if ts.length == 1 then ",)" else ")" : String) : Str).length ≤ 2 := by
    split
    · exact Nat.le_refl _
    · exact Nat.le_succ _
  cases ts with
  | nil =>
    have e3 : (Str.join ", " ([] : List Str)).length = 0 := rfl
    omega
  | cons t r =>
    have := join_length_add (t :: r) (by simp)
    omega
/-- what is told of data -/
structure Told (d : PyData) (n c : Nat) : Prop where
  sh : d.showable = true
  nd : d.hasDict = false
  dp : d.depth ≤ n
  le : d.shown.length ≤ c
theorem Dv.data {K : PySem.W.Frag} {H : Hp} {p : Addr} {N n c : Nat} {v : V} (t : Dv H p N n c v) : ∃ d, Dp K H v d ∧ Told d n c := by
  induction t with
  | non hc => exact ⟨_, .non, by simp [PyData.showable], by simp [PyData.hasDict], by simp [PyData.depth], Nat.le_trans (by decide +kernel) hc⟩
  | bl b hc => exact ⟨_, .bl b, by simp [PyData.showable], by simp [PyData.hasDict], by simp [PyData.depth], Nat.le_trans (by cases b <;> decide +kernel) hc⟩
  | int i h g hc =>
    refine ⟨_, .int i, ?_, by simp [PyData.hasDict], by simp [PyData.depth], Nat.le_trans g hc⟩
    have z : i.natAbs < 2 ^ 130 := Nat.lt_trans h (by decide)
    have z2 : i.natAbs.log2 < 130 := by
      by_cases e : i.natAbs = 0
      · rw [e]
        decide
      · exact (Nat.log2_lt e).mpr z
    rw [PyData.showable]
    exact decide_eq_true (by omega)
  | str z h g hc => exact ⟨_, .str z, by simp [PyData.showable], by simp [PyData.hasDict], by simp [PyData.depth], Nat.le_trans g hc⟩
  | @tup n b c a xs e ap l h hc ih =>
    have all : ∀ ys : List V, (∀ y ∈ ys, y ∈ xs) → ∃ ds, DpAll K H ys ds ∧ PyData.showableAll ds = true ∧ PyData.hasDictAll ds = false ∧ PyData.depthAll ds ≤ n ∧ piled (PyData.shownAll ds) ≤ ys.length * (b + 2) := by
      intro ys
      induction ys with
      | nil => exact fun _ => ⟨[], .nil, by simp [PyData.showableAll], by simp [PyData.hasDictAll], by simp [PyData.depthAll], by simp [PyData.shownAll, piled]⟩
      | cons y ys ihy =>
        intro hy
        obtain ⟨d, h1, h2⟩ := ih y (hy y (List.mem_cons_self ..))
        obtain ⟨ds, g1, g2, g3, g4, g5⟩ := ihy fun z hz => hy z (List.mem_cons_of_mem _ hz)
        refine ⟨d :: ds, .cons h1 g1, by simp [PyData.showableAll, h2.sh, g2], by simp [PyData.hasDictAll, h2.nd, g3], ?_, ?_⟩
        · rw [PyData.depthAll]
          exact Nat.max_le.mpr ⟨h2.dp, g4⟩
        · rw [PyData.shownAll, piled_cons, List.length_cons, Nat.succ_mul]
          have := h2.le
          omega
    obtain ⟨ds, g1, g2, g3, g4, g5⟩ := all xs fun _ h => h
    refine ⟨.tuple ds, .tup (SqT.of e) g1, by simpa [PyData.showable] using g2, by simpa [PyData.hasDict] using g3, ?_, ?_⟩
    · rw [PyData.depth]
      omega
    · rw [PyData.shown]
      have := tupleText_up (PyData.shownAll ds)
      omega
  | @lst n b c a xs e ap l h hc ih =>
    have all : ∀ ys : List V, (∀ y ∈ ys, y ∈ xs) → ∃ ds, DpAll K H ys ds ∧ PyData.showableAll ds = true ∧ PyData.hasDictAll ds = false ∧ PyData.depthAll ds ≤ n ∧ piled (PyData.shownAll ds) ≤ ys.length * (b + 2) := by
      intro ys
      induction ys with
      | nil => exact fun _ => ⟨[], .nil, by simp [PyData.showableAll], by simp [PyData.hasDictAll], by simp [PyData.depthAll], by simp [PyData.shownAll, piled]⟩
      | cons y ys ihy =>
        intro hy
        obtain ⟨d, h1, h2⟩ := ih y (hy y (List.mem_cons_self ..))
        obtain ⟨ds, g1, g2, g3, g4, g5⟩ := ihy fun z hz => hy z (List.mem_cons_of_mem _ hz)
        refine ⟨d :: ds, .cons h1 g1, by simp [PyData.showableAll, h2.sh, g2], by simp [PyData.hasDictAll, h2.nd, g3], ?_, ?_⟩
        · rw [PyData.depthAll]
          exact Nat.max_le.mpr ⟨h2.dp, g4⟩
        · rw [PyData.shownAll, piled_cons, List.length_cons, Nat.succ_mul]
          have := h2.le
          omega
    obtain ⟨ds, g1, g2, g3, g4, g5⟩ := all xs fun _ h => h
    refine ⟨.list ds, .lst (SqL.of e) g1, by simpa [PyData.showable] using g2, by simpa [PyData.hasDict] using g3, ?_, ?_⟩
    · rw [PyData.depth]
      omega
    · rw [PyData.shown]
      have := listText_up (PyData.shownAll ds)
      omega
theorem sameT {K : PySem.W.Frag} {H H' : Hp} {a : Addr} {xs : List V} (s : Same H H') (h : SqT K H a xs) : SqT K H' a xs := by
  rcases h with h | h
  · rcases h with h | ⟨o, h⟩
    · exact .inl (.inl (s _ _ h))
    · exact .inl (.inr ⟨o, s _ _ h⟩)
  · exact .inr h
mutual
theorem Dp.on {K : PySem.W.Frag} {H H' : Hp} (s : Same H H') : ∀ {v : V} {d : PyData}, Dp K H v d → Dp K H' v d
  | _, _, .non => .non
  | _, _, .bl b => .bl b
  | _, _, .int i => .int i
  | _, _, .str x => .str x
  | _, _, .lst h r => .lst (Same.seq s h) (DpAll.on s r)
  | _, _, .tup h r => .tup (sameT s h) (DpAll.on s r)
theorem DpAll.on {K : PySem.W.Frag} {H H' : Hp} (s : Same H H') : ∀ {vs : List V} {ds : List PyData}, DpAll K H vs ds → DpAll K H' vs ds
  | _, _, .nil => .nil
  | _, _, .cons h r => .cons (Dp.on s h) (DpAll.on s r)
end
end L2.My
/-! try: body, several clauses «except C as n», all with one name n -/
namespace L2.My
open PySem PySem.Spec PyProof.Rows
abbrev Suite := Addr → Value → Option Addr → TS
structure Clause where
  cls : Value
  run : Suite
def clr (i : Nat) (D : Ends) : Ends :=
  { nx := fun σ H => D.nx (σ.set i none) H
    rt := D.rt
    bk := fun σ H => D.bk (σ.set i none) H
    ct := fun σ H => D.ct (σ.set i none) H }
/-- what the clauses wish: the first one that takes it runs its suite with the error in slot i -/
def wish (K : PySem.W.Frag) (i : Nat) (out : WX) (D : Ends) : List Clause → WX
  | [] => out
  | k :: r => fun c d σ H => ∃ b, PySem.W.exmOne K c k.cls = some b ∧
      (b = true → ∀ a, H a = none → k.run a c d (clr i D) (σ.set i (some (.ref a))) H) ∧
      (b = false → wish K i out D r c d σ H)
inductive ClOk (X : Cx) (n : Str) : List ExceptHandler → List Clause → Prop
  | nil : ClOk X n [] []
  | cons {x : Str} {c : Value} {ts : Suite} {b0 : Stmt} {bs : List Stmt} {q1 q2 : Pos} {hs : List ExceptHandler} {l : List Clause}
      (named : Names X x c)
      (body : ∀ (a : Addr) (o : Obj) (k : Value) (d : Option Addr) (pn : List (Addr × Obj)), Zc k d o → (∃ v, o.data = .fields v) →
        PSs (X.suite a ((a, o) :: pn)) (b0 :: bs) (ts a k d))
      (more : ClOk X n hs l) :
      ClOk X n (.ExceptHandler (some (.Name x q1)) (some n) (b0 :: bs) q2 :: hs) (⟨c, ts⟩ :: l)
section
variable {X : Cx} {n : Str} {i : Nat} {out : WX} {pins : List (Addr × Obj)} {σ : St} {H : Hp} {D : Ends}
/-- an exception at a that has come down to the try's frame -/
structure Down (X : Cx) (pins : List (Addr × Obj)) (σ : St) (H : Hp) (a : Addr) (B : Heap) (c : Value) (d : Option Addr) (sI t : Shared) : Prop where
  inv : Inv X pins σ H sI
  gr : ∀ b o, sI.heap.get? b = some o → b ∉ frs X.stack → B.get? b = some o
  up : sI.heap.UpToSlots t.heap
  fl : HandSPX.FlyingZ B (X.env :: X.outer) a (Zc c d) t.heap
  nil : H a = none
  os : t.os = sI.os
  bare : AllBare t.gens
/-- the same a few turns of the frames later -/
theorem Down.on {a : Addr} {B h : Heap} {c : Value} {d : Option Addr} {sI t : Shared} (w : Down X pins σ H a B c d sI t)
    (fl : HandSPX.FlyingZ B (X.env :: X.outer) a (Zc c d) h) (up : t.heap.UpToSlots h) : Down X pins σ H a B c d sI { t with heap := h } :=
  ⟨w.inv, w.gr, w.up.trans up, fl, w.nil, w.os, w.bare⟩
/-- the suite's own state -/
theorem Down.held (fr : X.env.frame = some X.env.locals) {a : Addr} {B : Heap} {c : Value} {d : Option Addr} {sI t : Shared} (w : Down X pins σ H a B c d sI t) :
    ∃ o, t.heap.get? a = some o ∧ Zc c d o ∧ (∃ v, o.data = .fields v) ∧ Inv (X.suite a ((a, o) :: (X.pn ++ pins))) [] σ H t ∧ X.K.In t.heap := by
  have J : Inv X pins σ H t := w.inv.landed w.gr w.fl.1 w.up w.os w.bare
  obtain ⟨o, v, eo, z, dv⟩ := w.fl.there
  have apart : a ∉ frs (X.env :: X.outer) := by
    intro hm
    obtain ⟨_, o2, e2, nf⟩ := w.fl.2.2.1.mem hm
    rw [eo] at e2
    cases e2
    exact nf _ dv
  have away : ∀ e ∈ X.env :: X.outer, e.frame ≠ some a := by
    intro e he q
    exact apart (List.mem_filterMap.mpr ⟨e, he, q⟩)
  refine ⟨o, eo, z, ⟨v, dv⟩, J.suite eo dv w.nil ?_ ?_, J.kIn⟩
  · intro q
    exact away _ (List.mem_cons_self ..) (q ▸ fr)
  · intro q
    obtain ⟨e, he, q⟩ := List.mem_filterMap.mp q
    exact away e (List.mem_cons_of_mem _ he) q
/-- no clause takes it: it flies on -/
theorem Down.pass (st : X.stack = X.env :: X.outer) (fr : X.env.frame = some X.env.locals) (tk : Takes X out) {a : Addr} {B : Heap} {c : Value} {d : Option Addr} {sI t : Shared} (w : Down X pins σ H a B c d sI t)
    (q : out c d σ H) : wpAny (model X.prog X.w) X.A (handleBy (.ref a) X.env []) (SP X pins D) X.xe t := by
  obtain ⟨_, _, _, o, v, T, _, _, eo, _, dv, e1, _⟩ := id w.fl
  have go : wpAny (model X.prog X.w) X.A (setFlight (.ref a) X.env.frame)
      (fun _ t2 => wpAny (model X.prog X.w) X.A (throw (.ref a) : Sem Flow) (SP X pins D) X.xe t2) X.xe t := by
    rw [fr]
    refine HandSPX.setFlight_upZ w.fl ?_
    intro h2 held u2
    refine wpAny_throw (tk _ _ ⟨a, B, sI, pins, σ, H, c, d, rfl, w.inv, w.gr, w.up.trans u2, ?_, w.nil, w.os, w.bare, q⟩)
    rw [st]
    exact Or.inr (Or.inr held)
  refine wpAny_handleBy_nil ?_
  unfold PySem.passOn
  refine wpAny_bind (wpAny_field eo dv e1 ?_)
  have nt : ¬ (Value.ref T == Value.none) = true := by simp
  rw [if_neg nt]
  first
    | exact wpAny_bind go
    | exact wpAny_bind (wpAny_pure (wpAny_bind go))
/-- the clauses, one after the other -/
theorem Down.clauses (st : X.stack = X.env :: X.outer) (fr : X.env.frame = some X.env.locals) (nd : X.N.Nodup) (hi : X.N[i]? = some n) (loc : X.env.kindOf n = some .local) (tk : Takes X out)
    {a : Addr} {B : Heap} {c : Value} {d : Option Addr} {sI t : Shared} (w : Down X pins σ H a B c d sI t) {hs : List ExceptHandler} {l : List Clause} (k : ClOk X n hs l) :
    wish X.K i out D l c d σ H → wpAny (model X.prog X.w) X.A (handleBy (.ref a) X.env hs) (SP X pins D) X.xe t := by
  induction k with
  | nil => exact fun q => w.pass st fr tk q
  | @cons x cc ts b0 bs q1 q2 hs l named body more ih =>
    rintro ⟨b, eb, yes, no⟩
    obtain ⟨o, eo, z, _, S, kin⟩ := w.held fr
    have ty : PySem.W.Looks (model X.prog X.w) t.heap (typeOf (.ref a)) c :=
      fun _ _ _ _ k2 q => wpAny_typeOf_ref (k2 _ _ eo) (by rw [z.1]; exact q)
    have said := PySem.W.exm_one (M := model X.prog X.w) kin ty eb
    have ask : ∀ {Q E : Value → Shared → Prop}, Q cc t →
        wpAny (model X.prog X.w) (X.A.mark (some (.ref a))) (eval (.Name x q1) X.env) Q E t := by
      intro Q E q
      rcases named with ⟨gl, db, mine | ⟨no1, bt, no2⟩⟩
      · exact ld_glob S gl mine q db
      · exact ld_blt S gl no1 bt q no2 db
    refine wpAny_handleBy_cons (codeAny_handlers_test (ask (said.here ?_))) (by intro q; cases q)
    cases b with
    | false =>
      show wpAny _ X.A (handleBy (.ref a) X.env hs) _ _ _
      exact ih (no rfl)
    | true =>
      refine codeAny_handlers_suite_as (HandSPX.lands_againZ w.fl fun h2 f2 u2 => ?_)
      obtain ⟨o2, eo2, z2, dv2, S2, _⟩ := (w.on f2 u2).held fr
      have ok := w.inv.ok
      refine store_ok (X := X.suite a ((a, o2) :: (X.pn ++ pins))) (v := .ref a) S2 nd hi (.inl loc) rfl (fun s5 S5 => ?_) (.inr loc)
      refine wpAny_mono ((body a o2 c d (X.pn ++ pins) z2 dv2).run [] s5 _ H _ S5 (yes rfl a w.nil)) ?_ (fun _ _ e => e.elim)
      intro f s6 r
      have away : ∀ {σ6 : St} {H6 : Hp} {Q : Shared → Prop}, Inv (X.suite a ((a, o2) :: (X.pn ++ pins))) [] σ6 H6 s6 →
          (∀ s7, Inv X pins (σ6.set i none) H6 s7 → Q s7) →
          wpAny (model X.prog X.w) X.A (do bindName X.env n .none; unbindBehindTheSuite X.env n q2) (fun _ s7 => Q s7) X.xe s6 :=
        fun S6 q => gone_ok (S6.unsuite ok) nd hi loc q
      cases f with
      | ret u => obtain ⟨v6, σ6, H6, S6, r6, q6⟩ := r; exact away S6 fun _ J => ⟨_, _, _, J, r6, q6⟩
      | next => obtain ⟨σ6, H6, S6, q6⟩ := r; exact away S6 fun _ J => ⟨_, _, J, q6⟩
      | cont => obtain ⟨σ6, H6, S6, q6⟩ := r; exact away S6 fun _ J => ⟨_, _, J, q6⟩
      | brk => obtain ⟨σ6, H6, S6, q6⟩ := r; exact away S6 fun _ J => ⟨_, _, J, q6⟩
/-- THE RULE -/
theorem ps_try_clauses {body : List Stmt} {h0 : ExceptHandler} {hs : List ExceptHandler} {l : List Clause} {tb : WX → TS} {pos : Pos}
    (st : X.stack = X.env :: X.outer) (fr : X.env.frame = some X.env.locals) (nd : X.N.Nodup) (hi : X.N[i]? = some n) (loc : X.env.kindOf n = some .local) (tk : Takes X out)
    (hb : ∀ (W : WX) (pn : List (Addr × Obj)) (xe : Value → Shared → Prop), Takes (X.tr pn xe) W → PassesOwn (model X.prog X.w) X.A X.env xe → PSs (X.tr pn xe) body (tb W))
    (k : ClOk X n (h0 :: hs) l) : PS X (.Try body (h0 :: hs) [] [] pos) (fun D σ H => tb (wish X.K i out D l) D σ H) := by
  refine ⟨fun pins s σ H D I h => wpAny_Try_except ?_⟩
  have ok := I.ok
  have frames : X.A.frames = some (X.env :: X.outer) := ok.frames.trans (congrArg some st)
  obtain ⟨xe, exe⟩ : ∃ xe : Value → Shared → Prop, xe = fun e s1 => wpAny (model X.prog X.w) X.A (noteFrame e X.env)
      (fun _ s2 => wpAny (model X.prog X.w) X.A (setFlight e none) (fun _ s3 => wpAny (model X.prog X.w) X.A (handleBy e X.env (h0 :: hs)) (SP X pins D) X.xe s3) X.xe s2) X.xe s1 := ⟨_, rfl⟩
  have caught : Takes (X.tr (X.pn ++ pins) xe) (wish X.K i out D l) := by
    rintro u s1 ⟨a, B, sI, pins1, σ1, H1, c, d, rfl, J, gr, up, sky, na, os, ag, q⟩
    show xe (.ref a) s1
    rw [exe]
    have sky1 : Sky B (X.env :: X.outer) a (Zc c d) X.env.locals s1.heap := st ▸ sky
    refine Sky.land Zc.steady frames fr sky1 fun h3 f3 u3 => ?_
    have w : Down X pins σ1 H1 a B c d sI { s1 with heap := h3 } := ⟨J.ofTry ok, gr, up.trans u3, f3, na, os, ag⟩
    exact w.clauses st fr nd hi loc tk k q
  have own : PassesOwn (model X.prog X.w) X.A X.env xe := by
    rw [exe]
    exact PassesOwn.looking
  refine wpAny_mono ((hb _ (X.pn ++ pins) xe caught own).run [] s σ H D (I.toTry _) h) ?_ ?_
  · intro f s1 r
    cases f with
    | ret u => obtain ⟨v, σ1, H1, J, r1, q⟩ := r; exact ⟨v, σ1, H1, J.ofTry ok, r1, q⟩
    | next => obtain ⟨σ1, H1, J, q⟩ := r; exact wpAny_execs_nil ⟨σ1, H1, J.ofTry ok, q⟩
    | cont => obtain ⟨σ1, H1, J, q⟩ := r; exact ⟨σ1, H1, J.ofTry ok, q⟩
    | brk => obtain ⟨σ1, H1, J, q⟩ := r; exact ⟨σ1, H1, J.ofTry ok, q⟩
  · intro e s1 he
    have he' : xe e s1 := he
    rw [exe] at he'
    exact he'
end
end L2.My
/-! making an own error whose built-in base has its __new__ from a base of its own (KeyError: LookupError's) -/
namespace L2.My
open PySem PySem.Spec PyProof.Rows PySem.W PySem.Calls
open PySem.HandSPX (excO)
/-- what is asked of the classes above the own one -/
structure Above (B : String) (bm : List Value) : Prop where
  has : bm.contains (.type B) = true
  attr : bm.contains (.type "AttributeError") = false
  name : bm.contains (.type "NameError") = false
section
variable {M : Model} {A : Around} {E : Value → Shared → Prop} {hp : Heap} {gs : Array GenState} {dr : Drawn} {tk : Nat} {io : OsState}
variable {nm qn : Str} {C N : Addr} {bs bm bmB : List Value} {hd : Bool} {sn : List Str} {sub : List Value} {ab : Bool} {col : Option Bool} {dd : Option Addr} {k0 k1 k2 k3 k5 : Option Value} {B newId initId : String}
theorem newOk (F : ExcBaseFacts B newId initId bmB) (U : Above B bm) {rest : List Value} {Q : Unit → Shared → Prop}
    (there : hp.get? C = some (excClassObj nm qn C N bs bm hd sn sub ab col dd k0 k1 k2 k3 k5 newId)) (next : Q () ⟨hp, gs, dr, tk, io⟩) :
    wpAny M A (checkBuiltinCall newId ⟨.ref C :: rest, []⟩) Q E ⟨hp, gs, dr, tk, io⟩ := by
  have inB : (Value.ref C :: bm).contains (.type B) = true := by
    rw [List.contains_cons, U.has]
    exact Bool.or_true _
  have ns := F.noStar
  simp only [checkBuiltinCall, F.newKind, F.newSplit, F.newRow]
  repeat
    first
      | refine wpAny_loadPart_at there ?_
      | (refine wpAny_isSubtype_exc there ?_
         rw [inB])
      | refine wpAny_staticBase_exc there ?_
      | refine wpAny_madeBy_exc there ?_
      | simp only [bne_self_eq_false, Bool.false_eq_true, if_false]
      | wp_step
  exact next
end
section
variable {prog : Program} {w : World} {A : Around} {E : Value → Shared → Prop} {R : Result → Shared → Prop} {hp : Heap} {gs : Array GenState} {dr : Drawn} {tk : Nat} {io : OsState}
variable {nm qn : Str} {C N : Addr} {bs bm bmB : List Value} {hd : Bool} {sn : List Str} {sub : List Value} {ab : Bool} {col : Option Bool} {dd : Option Addr} {k0 k1 k2 k3 k5 : Option Value} {B newId initId : String}
theorem newMade (F : ExcBaseFacts B newId initId bmB) (U : Above B bm) {rest : List Value}
    (there : hp.get? C = some (excClassObj nm qn C N bs bm hd sn sub ab col dd k0 k1 k2 k3 k5 newId))
    (few : rest.length ≤ sizeLine) (next : R (.ok (.ret (.ref (hp.objs.size + 1)))) ⟨(hp.push (kdv_tup rest)).push (excO C hp.objs.size), gs, dr, tk, io⟩) :
    codeAny (model prog w) A (.builtin newId ⟨.ref C :: rest, []⟩) R ⟨hp, gs, dr, tk, io⟩ := by
  have fe := F.ends
  have inB : (Value.ref C :: bm).contains (.type B) = true := by
    rw [List.contains_cons, U.has]
    exact Bool.or_true _
  have inA : (Value.ref C :: bm).contains (.type "AttributeError") = false := by
    rw [List.contains_cons, U.attr]
    rfl
  have inN : (Value.ref C :: bm).contains (.type "NameError") = false := by
    rw [List.contains_cons, U.name]
    rfl
  apply PySem.codeAny_builtinAt F.entry
  unfold Builtin.«BaseException.__new__»
  apply PySem.wpAt_bind
  show PySem.wpAt _ _ _ (stack >>= _) _ _ _
  refine PySem.wpAt_bind (PySem.wpAt_stack fun _ _ => PySem.wpAt_of_wpAny ?_)
  wp_walk
  apply PySem.wpAt_of_wpAny
  rw [F.owner]
  repeat
    first
      | with_reducible refine wpAny_madeHere_exc F.canon there ?_
      | with_reducible refine wpAny_loadPart_at there ?_
      | (with_reducible refine wpAny_isSubtype_exc there ?_
         first
           | rw [inB]
           | rw [inA]
           | rw [inN])
      | wp_step
  show R _ _
  rw [Heap.size_push]
  exact next
theorem typeMade (F : ExcBaseFacts B newId initId bmB) (U : Above B bm) {rest : List Value} {fI : Addr} {Q : Fin → Shared → Prop}
    (there : hp.get? C = some (excClassObj nm qn C N bs bm hd sn sub ab col dd k0 k1 k2 k3 k5 newId))
    (hi : Looks (model prog w) hp (typeLookup (.ref C) "__init__") (some (.ref fI)))
    (hb : ∀ self, Looks (model prog w) hp (bindSpecial (.ref fI) self) (.ref fI, [self])) (few : rest.length ≤ sizeLine)
    (next : codeAny (model prog w) A (.call (.ref fI) ⟨.ref (hp.objs.size + 1) :: rest, []⟩)
      (fun r z => match r with
        | .ok (.ret v) => v = .none ∧ Q (.done (.ret (.ref (hp.objs.size + 1)))) z
        | .ok _ => False
        | .error e => E e z)
      ⟨(hp.push (kdv_tup rest)).push (excO C hp.objs.size), gs, dr, tk, io⟩) :
    wpAny (model prog w) A (Builtin.«type.__call__» ⟨.ref C :: rest, []⟩) Q E ⟨hp, gs, dr, tk, io⟩ := by
  repeat
    first
      | with_reducible refine wpAny_loadPart_at there ?_
      | with_reducible refine wpAny_madeBy_exc there ?_
      | wp_step
  apply codeAny_call_builtin_code (Code.quiet_builtin _ F.quiet) (newOk F U there _)
  refine newMade F U there few ?_
  show wpAny _ _ _ _ _ _
  have stay : ∀ b o, hp.get? b = some o → ((hp.push (kdv_tup rest)).push (excO C hp.objs.size)).get? b = some o := fun b o z =>
    Heap.get?_push_of_some _ (Heap.get?_push_of_some _ z)
  have there2 := stay _ _ there
  have new2 : ((hp.push (kdv_tup rest)).push (excO C hp.objs.size)).get? (hp.objs.size + 1) = some (excO C hp.objs.size) := by heap_get
  have inC : (Value.ref C :: bm).contains (.ref C) = true := by simp
  have i1 := hi.keeps stay
  have b1 := (hb (.ref (hp.objs.size + 1))).keeps stay
  unfold isInstance
  repeat
    first
      | with_reducible refine wpAny_loadPart_at new2 ?_
      | (with_reducible refine wpAny_isSubtype_exc there2 ?_
         rw [inC])
      | wp_step
  show wpAny _ _ (typeLookup (.ref C) _) _ _ _
  apply i1.at
  apply wpAny_holding
  apply wpAny_bind
  apply b1.at
  refine wpAny_bind (wpAny_call (codeAny_mono next fun r z q => ?_))
  rcases r with e | (v | _ | _ | _) <;> first
    | exact q
    | exact q.elim
    | skip
  obtain ⟨rfl, q⟩ := q
  wp_walk
  exact q
theorem callMade (F : ExcBaseFacts B newId initId bmB) (U : Above B bm) {rest : List Value} {fI : Addr}
    (there : hp.get? C = some (excClassObj nm qn C N bs bm hd sn sub ab col dd k0 k1 k2 k3 k5 newId))
    (hi : Looks (model prog w) hp (typeLookup (.ref C) "__init__") (some (.ref fI)))
    (hb : ∀ self, Looks (model prog w) hp (bindSpecial (.ref fI) self) (.ref fI, [self])) (few : rest.length ≤ sizeLine)
    (next : codeAny (model prog w) (A.under (.builtin "type.__call__" ⟨.ref C :: rest, []⟩)) (.call (.ref fI) ⟨.ref (hp.objs.size + 1) :: rest, []⟩) (InitBack (hp.objs.size + 1) R)
      ⟨(hp.push (kdv_tup rest)).push (excO C hp.objs.size), gs, dr, tk, io⟩) :
    codeAny (model prog w) A (.call (.ref C) ⟨rest, []⟩) R ⟨hp, gs, dr, tk, io⟩ := by
  have f1 := PySem.tc_lookup
  have f2 := PySem.tc_bind (.ref C)
  have ty : (⟨hp, gs, dr, tk, io⟩ : Shared).TypeIs (.ref C) "type" := ⟨_, there, rfl⟩
  apply codeAny_of_tree
  show wpAny _ _ (callAny (.ref C) _) _ _ _
  repeat
    any_goals
      first
        | assumption
        | with_reducible refine wpAny_loadPart_at there ?_
        | wp_step
  refine ⟨rfl, codeAny_call_builtin_at (Code.quiet_builtin _ (by decide +kernel)) PySem.entry_typeCall
    (PySem.wpAny_check_type_call_sub there (typeMade F U there hi hb few (codeAny_mono next fun r z q => ?_)))⟩
  rcases r with e | (v | _ | _ | _) <;> exact q
end
theorem keyStore : StoreFacts "KeyError" [.type "KeyError", .type "LookupError", .type "Exception", .type "BaseException", .type "object"]
    "object.__setattr__" "object" := by
  have e := PySem.F.entry_object_sa
  exact {
    mro := by kernel_rfl
    slot := .of (owner := "object") (n := "__setattr__")
      (by
        rw [typeLookup_type, builtinLookup_eq_fast]
        kernel_rfl)
      (by decide +kernel) (by decide +kernel) (by decide +kernel)
      (by
        first
          | exact .inl (by decide +kernel)
          | exact .inr (by decide +kernel))
      (by
        rw [isSubtype_type]
        kernel_rfl)
    entry := e
    kind := by decide +kernel
    split := by decide +kernel
    hasOwner := by decide +kernel
    args := fun a b c => by
      unfold argsOk
      kernel_rfl
    passes := fun self => by kernel_rfl }
theorem keyAbove : Above "LookupError" [.type "KeyError", .type "LookupError", .type "Exception", .type "BaseException", .type "object"] := ⟨by decide +kernel, by decide +kernel, by decide +kernel⟩
theorem Above.of {B newId initId : String} {bm : List Value} (F : ExcBaseFacts B newId initId bm) : Above B bm := ⟨F.hasB, F.noAttr, F.noName⟩
theorem Above.tail {B : String} {bmB bm : List Value} (U : Above B bmB) (t : excTail bmB bm = true) : Above B bm := by
  refine ⟨?_, ?_, ?_⟩
  · rw [excTail_contains B bm t]
    exact U.has
  · rw [excTail_contains "AttributeError" bm t]
    exact U.attr
  · rw [excTail_contains "NameError" bm t]
    exact U.name
end L2.My
/-! own exceptions that are held as values: isinstance, their fields -/
namespace L2.My
open PySem PySem.Spec PyProof.Rows L2
/-- at a: an exception of the class at C, its own dict at d -/
def Exv (C d a : Addr) : HO := .ext fun h => ∃ (oe : Obj) (vs : Array Value), h.get? a = some oe ∧ Zc (.ref C) (some d) oe ∧ oe.data = .fields vs
theorem exv_ok {P : Program} {w : World} {H : Hp} {h : Heap} {C d a : Addr} {oe : Obj} {vs : Array Value} (e : h.get? a = some oe) (z : Zc (.ref C) (some d) oe) (dt : oe.data = .fields vs) : ObjOk P w H h a (Exv C d a) :=
  ⟨⟨oe, vs, e, z, dt⟩, ⟨_, e⟩, fun _ _ ⟨o, us, e1, z1, d1⟩ k => ⟨o, us, k _ e1, z1, d1⟩⟩
/-- an exception of the class at C, as a value -/
def IsE (H : Hp) (C a : Addr) : Prop := H a = some (ExO (.ref C) a) ∨ ∃ d fs, H a = some (Exv C d a) ∧ H d = some (.xd fs)
theorem IsE.on {H H' : Hp} {C a : Addr} (s : Same H H') (h : IsE H C a) : IsE H' C a := by
  rcases h with h | ⟨d, fs, h, g⟩
  · exact .inl (s _ _ h)
  · exact .inr ⟨d, fs, s _ _ h, s _ _ g⟩
section
variable {X : Cx} {pins : List (Addr × Obj)} {σ : L2.St} {H : Hp} {s : Shared} {C a : Addr}
theorem exv_at (I : Inv X pins σ H s) {d : Addr} {fs : List (Str × V)} (h : H a = some (Exv C d a)) (g : H d = some (.xd fs)) : ∃ (oe od : Obj) (mA : Str → Option Value), PySem.W.InstAt s.heap a oe C (some od) ∧ (∀ n, PySem.W.lookIn n od = some (mA n)) ∧ ∀ f, RelO (fs.lookup f) (mA f) := by
  obtain ⟨⟨oe, vs, e, z, dt⟩, _⟩ := (show ObjOk X.prog X.w H s.heap a (Exv C d a) from I.hok a _ h)
  obtain ⟨mA, hns, hr⟩ := (show ObjOk X.prog X.w H s.heap d (.xd fs) from I.hok d _ g)
  obtain ⟨od, ho, hl⟩ := lookIn_ns hns
  exact ⟨oe, od, mA, ⟨e, z.1, by unfold PySem.W.notCls; rw [dt] <;> rfl, by rw [z.2]; exact ho⟩, hl, hr⟩
theorem exo_inst (I : Inv X pins σ H s) (h : H a = some (ExO (.ref C) a)) : ∃ oe, PySem.W.InstAt s.heap a oe C none := by
  obtain ⟨⟨oe, vs, e, z, dt, _⟩, _⟩ := (show ObjOk X.prog X.w H s.heap a (ExO (.ref C) a) from I.hok a _ h)
  exact ⟨oe, ⟨e, z.1, by unfold PySem.W.notCls; rw [dt] <;> rfl, by rw [z.2]; trivial⟩⟩
end
/-- isinstance(e, c), e such a value -/
def rIsX (K : PySem.W.Frag) : List V → Hp → VK → Prop := fun xs H Q => ∃ (a C : Addr) (c : V) (cv : Value) (b : Bool), xs = [.ref a, c] ∧ ClsV c cv ∧ ExcC K C ∧ PySem.W.kitOne K (.ref C) cv = some b ∧ IsE H C a ∧ Q (.bl b) H
theorem clsIn_of {K : PySem.W.Frag} {C : Addr} (h : PySem.W.hasDictIn K C = true) : (PySem.W.clsIn K C).isSome = true := by
  unfold PySem.W.hasDictIn at h
  cases q : PySem.W.clsIn K C with
  | none =>
    rw [q] at h
    cases h
  | some _ => rfl
theorem call_isX {X : Cx} : CallR X (.builtin "isinstance") (rIsX X.K) := by
  intro pins s σ H xs us Q I r h
  obtain ⟨a, C, c, cv, b, rfl, k, E, e, ie, q⟩ := h
  obtain ⟨u1, u2, rfl, r1, r2⟩ := vals2 r
  have e2 := k.eq r2
  subst e2
  cases (show u1 = Value.ref a from r1)
  rcases ie with ie | ⟨d, fs, ie, id⟩
  · obtain ⟨oe, J⟩ := exo_inst I ie
    exact PySem.W.kia_one (PySem.W.kitx_exc (clsIn_of E.hd) E.hg E.hk E.hs E.ha E.hn E.ht E.hm) I.kIn J e (fun z => nomatch z) fun tk => ⟨.bl b, H, I.tok tk, rfl, q⟩
  · obtain ⟨oe, od, mA, J, _⟩ := exv_at I ie id
    exact PySem.W.kia_one (PySem.W.kitx_exc (clsIn_of E.hd) E.hg E.hk E.hs E.ha E.hn E.ht E.hm) I.kIn J e (fun z => nomatch z) fun tk => ⟨.bl b, H, I.tok tk, rfl, q⟩
/-- err.f, err such a value -/
def tFld (C : Addr) (f : Str) (te : TE) : TE := fun σ H Q => te σ H fun x H1 => ∃ (a d : Addr) (fs : List (Str × V)) (v : V), x = .ref a ∧ H1 a = some (Exv C d a) ∧ H1 d = some (.xd fs) ∧ fs.lookup f = some v ∧ Q v H1
theorem pe_fldX {X : Cx} {C : Addr} {e : Expr} {te : TE} {pos : Pos} {n : Str} (T : ExcC X.K C) (hno : PySem.W.findIn X.K (.ref C) n = some none) (he : PE X e te) (hb : attributeBase e n X.env (eval e X.env) = eval e X.env := by rfl) :
    PE X (.Attribute e n pos) (tFld C n te) := by
  refine ⟨fun pins s σ H Q I h => attr_of hb (thn (he.run pins s σ H _ I h) fun u s1 hh => ?_)⟩
  obtain ⟨x, H1, I1, rx, a, d, fs, v, rfl, ea, ed, lk, q⟩ := hh
  obtain rfl : u = Value.ref a := rx
  obtain ⟨oe, od, mA, J, hl, hr⟩ := exv_at I1 ea ed
  obtain ⟨y, hy, ry⟩ := RelO.some_of (v := v) (o := mA n) (by
    rw [← lk]
    exact hr n)
  exact HandSPX.exc_get I1.kIn J T.hg T.hk T.hs (PySem.W.findObj_own T.hd hno rfl (by rw [hl, hy])) (handed_of ry) ⟨v, H1, I1.tok _, ry, q⟩
end L2.My
/-! an own error class over any of the eleven built-in bases, whose __init__(self, value) keeps it -/
namespace L2.My.Own_value
open PySem PySem.Spec PyProof.Rows PySem.W PySem.Calls L2 L2.My
def initArgs (p q : Pos) : Arguments :=
  { posonlyargs := [], args := [⟨"self", none, p⟩, ⟨"value", none, q⟩], vararg := none, kwonlyargs := [], kw_defaults := [], kwarg := none, defaults := [] }
def initBody (a b c d : Pos) : List Stmt := [.Assign [.Attribute (.Name "self" a) "value" b] (.Name "value" c) d]
def initScope : Scope :=
  { kind := .function, names := [(Str.ofString "self", .local), (Str.ofString "value", .local)], isGenerator := false, isCoroutine := false, more := [] }
/-- what the top's written part says of the class (at C, called nm in the module) and of its __init__ (at f) -/
structure ErrCls (K : Frag) (mg : Str → Option Value) (nm : Str) (qi : Str) (newId : String) (bmB : List Value) (C f : Addr) : Prop where
  gl : mg nm = some (.ref C)
  cl : ∃ n q N bs bm sn sub ab col dd k0 k1 k2 k3 k5, K.lookup C = some (excClassObj n q C N bs bm true sn sub ab col dd k0 k1 k2 k3 k5 newId) ∧ excTail bmB bm = true
  sa : findIn K (.ref C) "__setattr__" = some (some (.builtin "object.__setattr__"))
  ga : findIn K (.ref C) "__getattribute__" = some (some (.builtin "BaseException.__getattribute__"))
  gg : findIn K (.ref C) "__getattr__" = some none
  no : findIn K (.ref C) "value" = some none
  ini : findIn K (.ref C) "__init__" = some (some (.ref f))
  tf : typeIn K (.ref f) = some (.type "function")
  kp : keepIn K (.ref C) = true
  sub : subIn K (.ref C) (.type "BaseException") = some true
  ty : typeIn K (.ref C) = some (.type "type")
  hd : hasDictIn K C = true
  fn : ∃ (oc : Value) (od : Option Addr) (doc pm : Value) (an : Option Addr) (cd ct : Value) (sl : Array (Option Value)) (p q a b c d : Pos),
    K.lookup f = some ⟨oc, od, .func (fnOf "__init__" qi (initArgs p q) (initBody a b c d) initScope .none .none doc pm an cd ct), sl⟩ ∧ codeIn K cd qi = true
section
variable {prog : Program} {w : World} {A : Around} {E : Value → Shared → Prop} {R : Result → Shared → Prop} {s : Shared} {K : Frag} {mg : Str → Option Value}
variable {nm qi : Str} {B BN newId initId : String} {bmB bmN : List Value} {C f : Addr}
theorem ErrCls.cls (T : ErrCls K mg nm qi newId bmB C f) : ∃ cd bm, clsIn K C = some cd ∧ cd.mro = .ref C :: bm ∧ excTail bmB bm = true ∧ cd.hasDict = true := by
  obtain ⟨n, q, N, bs, bm, sn, sub, ab, col, dd, k0, k1, k2, k3, k5, h, t⟩ := T.cl
  refine ⟨{ name := n, bases := bs, mro := .ref C :: bm, ns := N, qualname := q, hasDict := true, slotNames := sn, subclasses := sub, abstract := ab, collection := col, hasDel := false }, bm, ?_, rfl, t, rfl⟩
  unfold clsIn
  rw [h] <;> rfl
theorem ErrCls.over (T : ErrCls K mg nm qi newId bmB C f) : excOver K C bmB = true := by
  obtain ⟨cd, bm, h, m, t, _⟩ := T.cls
  unfold excOver
  rw [h]
  simp [m, t]
theorem ErrCls.taker (T : ErrCls K mg nm qi newId bmB C f) : takerIn K C "value" = some none := by
  unfold takerIn
  rw [T.no]
  rfl
/-- the first field of a fresh exception at x -/
theorem first_field (SF : StoreFacts B bmB "object.__setattr__" "object") (T : ErrCls K mg nm qi newId bmB C f) {x t0 : Addr} {tk : Tok} {v : Value} (X : K.In s.heap) (hx : s.heap.get? x = some (HandSPX.excO C t0))
    (hq : ∀ h' tk' dx, (∀ b o, b ≠ x → s.heap.get? b = some o → h'.get? b = some o) → s.heap.objs.size ≤ dx → dx ≠ x →
      h'.get? x = some { cls := .ref C, dict := some dx, data := .fields #[.ref t0, .none, .none, .none, .bool false, .none] } →
      h'.Ns1 dx (fun y => if y = "value" then some v else none) → R (.ok (.ret .none)) { s with heap := h', toks := tk' }) :
    codeAny (model prog w) A (.call (.builtin "object.__setattr__") ⟨[.ref x, .str "value" tk, v], []⟩) R s := by
  obtain ⟨cd, bm, hcd, _, _, dic⟩ := T.cls
  have I : InstAt s.heap x (HandSPX.excO C t0) C none := ⟨hx, rfl, rfl, trivial⟩
  have far : x ≠ s.heap.objs.size := Nat.ne_of_lt (Heap.lt_size hx)
  refine osa_openX SF X I T.over T.taker fun b => ?_
  have Lc : Looks (model prog w) s.heap (classData C) cd := looks_clsIn X hcd
  obtain ⟨hp, g, d, t, os⟩ := s
  obtain ⟨n1, bs1, mro1, ns1, q1, hd1, sn1, sb1, ab1, co1, del1⟩ := cd
  dsimp only at dic
  subst dic
  dsimp only at hx far
  unfold Builtin.ObjectAttr.storeInOwnDict Builtin.ObjectAttr.ownDictForStores
  repeat (first | with_reducible refine HandSPX.store_in_new ?_ ?_ | with_reducible refine wpAny_loadPart_at hx ?_ | with_reducible refine Lc.at ?_ | wp_step)
  · exact ⟨_, #[], _, (Heap.get?_update_ne _ _ _ _ far.symm).trans (Heap.get?_push_at rfl rfl), rfl, fun e he => absurd he (by simp), fun _ => rfl⟩
  · intro h' tk' hn sb
    have hx1 : (hp.push { cls := .type "dict", data := .dict #[] }).get? x = some (HandSPX.excO C t0) := Heap.get?_push_of_some _ hx
    refine hq h' tk' hp.objs.size ?_ (Nat.le_refl _) far.symm ((sb.2 x far).trans (Heap.get?_update_self _ hx1 rfl)) hn
    intro b o nb e
    exact (sb.2 b (Nat.ne_of_lt (Heap.lt_size e))).trans ((Heap.get?_update_ne _ _ _ _ nb).trans (Heap.get?_push_of_some _ e))
theorem own_name {M : Model} {scope : Scope} {name x : Str} {L a : Addr} {cd v : Value} {m : Str → Option Value} {pos : Pos} {Q : Value → Shared → Prop}
    (hn : s.heap.Ns L m) (hv : m x = some v) (h : Q v s) (k1 : scope.kind = .function := by rfl) (k2 : (envOfC name scope L a cd).kindOf x = some .local := by rfl) (k3 : (x == ("__debug__" : Str)) = false := by decide) :
    wpAny M A (eval (.Name x pos) (envOfC name scope L a cd)) Q E s := wpAny_Name (wpAny_loadName_local k1 k2 hn hv h) k3
/-- what __init__ leaves of a fresh exception at x -/
structure Kept (h h' : Heap) (x C dx t : Addr) (v : Value) : Prop where
  old : ∀ b o, b ≠ x → h.get? b = some o → h'.get? b = some o
  me : h'.get? x = some { cls := .ref C, dict := some dx, data := .fields #[.ref t, .none, .none, .none, .bool false, .none] }
  far : h.objs.size ≤ dx
  ne : dx ≠ x
  ns : h'.Ns1 dx (fun y => if y = "value" then some v else none)
theorem ErrCls.init (SF : StoreFacts B bmB "object.__setattr__" "object") (T : ErrCls K mg nm qi newId bmB C f) {x t0 : Addr} {v : Value} (X : K.In s.heap) (lim : s.heap.NoLimit) (hx : s.heap.get? x = some (HandSPX.excO C t0))
    (room : A.depth < recursionLimit) (hq : ∀ h' tk dx, Kept s.heap h' x C dx t0 v → R (.ok (.ret .none)) { s with heap := h', toks := tk }) :
    codeAny (model prog w) A (.call (.ref f) ⟨[.ref x, v], []⟩) R s := by
  obtain ⟨oc, od, doc, pm, an, cd, ct, sl, p, q, a, b, c, d, lf, hcd⟩ := T.fn
  refine Att.call_fn (binds := [("self", .ref x), ("value", v)]) X lim lf hcd room (BindsTo.of_eq (by first | rfl | with_unfolding_all rfl)) (by first | rfl | decide | with_unfolding_all rfl) (fun s1 IC => ?_) rfl rfl rfl
  obtain ⟨h1, tk1, rfl⟩ := IC.toInCall.same
  have old : ∀ b o, s.heap.get? b = some o → h1.get? b = some o := IC.toInCall.keep
  have ns := IC.toInCall.ns
  have hx1 := old _ _ hx
  have X1 : K.In h1 := X.keeps old
  show wpAny _ _ (execs _ _) _ _ _
  refine wpAny_execs_cons (plainObj_wpAny_Assign_Attribute (own_name (v := v) ns (by first | rfl | with_unfolding_all rfl | kernel_rfl) (own_name (v := .ref x) ns (by first | rfl | with_unfolding_all rfl | kernel_rfl) ?_)))
  refine set_plain X1 (ox := HandSPX.excO C t0) (od := none) ⟨hx1, rfl, rfl, trivial⟩ T.sa (first_field SF T X1 hx1 fun h2 tk2 dx k2 far ne me n2 => ?_)
  show wpAny _ _ (execs _ _) _ _ _
  have more : s.heap.objs.size < h1.objs.size := ns.lt
  exact wpAny_execs_nil (hq h2 tk2 dx ⟨fun b o nb e => k2 b o nb (old b o e), me, Nat.le_of_lt (Nat.lt_of_lt_of_le more far), ne, n2⟩)
/-- a made error -/
structure Made (h h' : Heap) (e C d : Addr) (v : Value) : Prop where
  old : ∀ b o, h.get? b = some o → h'.get? b = some o
  new : h.objs.size ≤ e
  me : ∃ oe vs, h'.get? e = some oe ∧ oe.cls = .ref C ∧ oe.dict = some d ∧ oe.data = .fields vs ∧ vs[1]? = some .none
  far : h.objs.size ≤ d
  ne : d ≠ e
  ns : h'.Ns1 d (fun y => if y = "value" then some v else none)
theorem ErrCls.make (FB : ExcBaseFacts BN newId initId bmN) (UB : Above BN bmB) (SF : StoreFacts B bmB "object.__setattr__" "object") (T : ErrCls K mg nm qi newId bmB C f) {v : Value} (X : K.In s.heap) (lim : s.heap.NoLimit) (room : A.depth + 1 < recursionLimit)
    (hq : ∀ h' tk e d, Made s.heap h' e C d v → R (.ok (.ret (.ref e))) { s with heap := h', toks := tk }) :
    codeAny (model prog w) A (.call (.ref C) ⟨[v], []⟩) R s := by
  obtain ⟨n, q, N, bs, bm, sn, sub, ab, col, dd, k0, k1, k2, k3, k5, lc, tl⟩ := T.cl
  obtain ⟨hp, g, dr, tk, os⟩ := s
  obtain ⟨hp2, ehp2⟩ : ∃ h2, h2 = (hp.push (kdv_tup [v])).push (HandSPX.excO C hp.objs.size) := ⟨_, rfl⟩
  have old : ∀ b o, hp.get? b = some o → hp2.get? b = some o := fun b o e => by
    rw [ehp2]
    exact Heap.get?_push_of_some _ (Heap.get?_push_of_some _ e)
  have me : hp2.get? (hp.objs.size + 1) = some (HandSPX.excO C hp.objs.size) := by rw [ehp2]; heap_get
  have z2 : hp2.objs.size = hp.objs.size + 1 + 1 := by rw [ehp2, Heap.size_push, Heap.size_push]
  refine callMade FB (UB.tail tl) (X _ _ lc) (looks_findIn X T.ini) (fun self => bind_fn X self T.tf) (by rw [sizeLine_eq]; exact (by decide : 1 ≤ 16777216)) ?_
  rw [← ehp2]
  refine ErrCls.init (s := ⟨hp2, g, dr, tk, os⟩) SF T (X.keeps old) (lim.keeps old) me room fun h' tk' dx k => ?_
  have o2 : ∀ b o, hp.get? b = some o → h'.get? b = some o := fun b o e =>
    k.old b o (Nat.ne_of_lt (Nat.lt_succ_of_lt (Heap.lt_size e))) (old b o e)
  have far := k.far
  dsimp only at far
  rw [z2] at far
  exact ⟨rfl, hq h' tk' _ dx ⟨o2, Nat.le_succ _, ⟨_, _, k.me, rfl, rfl, rfl, rfl⟩, Nat.le_trans (Nat.le_trans (Nat.le_succ _) (Nat.le_succ _)) far, k.ne, k.ns⟩⟩
end
theorem rel_value {v : V} {u : Value} (r : RelV v u) (g : Str) : RelO (List.lookup g [(("value" : Str), v)]) (if g = "value" then some u else none) := by
  by_cases e : g = "value"
  · rw [if_pos e, e, show List.lookup ("value" : Str) [(("value" : Str), v)] = some v by simp [List.lookup]]
    exact r
  · have e2 : (g == ("value" : Str)) = false := by simpa using e
    rw [if_neg e, show List.lookup g [(("value" : Str), v)] = none by simp [List.lookup, e2]]
    trivial
section
variable {X : Cx} {nm qi : Str} {B BN newId initId : String} {bmB bmN : List Value} {C f : Addr}
/-- C(e) as what is raised: its own dict d is new and holds value -/
def tErr (C : Addr) (ta : TA) : L2.St → Hp → XK → Prop := fun σ H Q => ta σ H fun vs H1 => ∃ v, vs = [v] ∧ ∀ d, H1 d = none → Q (.ref C) (some d) (upd H1 d (.xd [(("value" : Str), v)]))
theorem pmk_err {a : Expr} {ta : TA} {p pos : Pos} {k : Nat} (FB : ExcBaseFacts BN newId initId bmN) (UB : Above BN bmB) (SF : StoreFacts B bmB "object.__setattr__" "object") (T : ErrCls X.K X.mg nm qi newId bmB C f) (hr : Room k X.A) (ha : PA X [a] ta) (hg : Gl X nm)
    (hdb : (nm == ("__debug__" : Str)) = false := by decide)
    (he : starEach (a :: []) X.env = (false, eval a X.env) :: starEach [] X.env := by rfl) (hpl : (backTo pos (starEach [] X.env)).any (·.1) = false := by rfl) :
    PMk X (.Call (.Name nm p) [a] [] pos) (tErr C ta) := by
  intro pins s σ H Q I h
  refine wpAny_Call_Name_kw (ld_glob I hg T.gl (callWith_K (h₀ := X.base) I.ok.mod.kin T.kp (thn (ha.run pos pins s σ H _ I h) fun us s1 hh => ?_) he hpl) hdb)
  obtain ⟨vs, H1, I1, r1, v, rfl, q1⟩ := hh
  refine ⟨I1.kIn, ?_⟩
  obtain ⟨u, rfl, rv⟩ : ∃ u, us = [u] ∧ RelV v u := by
    cases r1 with
    | cons ru rn =>
      cases rn
      exact ⟨_, rfl, ru⟩
  show wpAny _ _ (call (.ref C) [u]) _ _ _
  have lim := I1.nolimit
  obtain ⟨hp, g, dr, tk, os⟩ := s1
  refine wpAny_call (ErrCls.make FB UB SF T I1.kIn lim (by have := hr.dp; omega) fun h' tk' e d M => ?_)
  show MkP X pins σ Q (.ref e) ⟨h', g, dr, tk', os⟩
  obtain ⟨oe, fv, eo, ec, ed, dt, e1⟩ := M.me
  obtain ⟨G, g1, g2⟩ := restrict h' fun b => decide (b ≠ e)
  have same : ∀ b, b ≠ e → G.get? b = h'.get? b := fun b nb => g1 b (decide_eq_true nb)
  have gone : G.get? e = none := g2 e (by simp)
  have old : ∀ b o, hp.get? b = some o → G.get? b = some o := fun b o z =>
    (same b (Nat.ne_of_lt (Nat.lt_of_lt_of_le (Heap.lt_size z) M.new))).trans (M.old b o z)
  have fresh : H1 e = none := I1.hok.fresh M.new
  have there : ObjOk X.prog X.w (upd H1 d (.xd [(("value" : Str), v)])) G d (.xd [(("value" : Str), v)]) :=
    ⟨_, M.ns.at (fun o z => (same d M.ne).trans z), rel_value rv⟩
  have J : Inv X pins σ (upd H1 d (.xd [(("value" : Str), v)])) ⟨G, g, dr, tk', os⟩ := I1.laid (t' := tk') old M.far there
  refine ⟨e, oe, fv, ⟨G, g, dr, tk', os⟩, _, .ref C, some d, rfl, J, ?_, gone, eo, ⟨ec, ed⟩, dt, e1, ?_, rfl, I1.bare, raises_own T.sub T.ty, q1 d (I1.hok.fresh M.far)⟩
  · intro b o z
    have nb : b ≠ e := by
      rintro rfl
      have z' : G.get? b = some o := z
      rw [gone] at z'
      cases z'
    exact (same b nb).symm.trans z
  · rw [upd_ne (Ne.symm M.ne)]
    exact fresh
def tRaiseErr (C : Addr) (W : WX) (ta : TA) : TS := fun _ σ H => tErr C ta σ H fun c d H' => W c d σ H'
theorem ps_raiseErr {a : Expr} {ta : TA} {W : WX} {p pos pos2 : Pos} {k : Nat} (FB : ExcBaseFacts BN newId initId bmN) (UB : Above BN bmB) (SF : StoreFacts B bmB "object.__setattr__" "object") (hc : X.calm = true) (T : ErrCls X.K X.mg nm qi newId bmB C f) (hr : Room k X.A) (tk : Takes X W) (ha : PA X [a] ta) (hg : Gl X nm)
    (hdb : (nm == ("__debug__" : Str)) = false := by decide)
    (he : starEach (a :: []) X.env = (false, eval a X.env) :: starEach [] X.env := by rfl) (hpl : (backTo pos (starEach [] X.env)).any (·.1) = false := by rfl) :
    PS X (.Raise (some (.Call (.Name nm p) [a] [] pos)) none pos2) (tRaiseErr C W ta) := ps_raise hc tk (pmk_err FB UB SF T hr ha hg hdb he hpl)
/-- C(e) as a value -/
def tNew (C : Addr) (ta : TA) : TE := fun σ H Q => ta σ H fun vs H1 => ∃ v, vs = [v] ∧ ∀ d e, H1 d = none → H1 e = none → d ≠ e → Q (.ref e) (upd (upd H1 d (.xd [(("value" : Str), v)])) e (Exv C d e))
theorem pe_new {a : Expr} {ta : TA} {p pos : Pos} {k : Nat} (FB : ExcBaseFacts BN newId initId bmN) (UB : Above BN bmB) (SF : StoreFacts B bmB "object.__setattr__" "object") (T : ErrCls X.K X.mg nm qi newId bmB C f) (hr : Room k X.A) (ha : PA X [a] ta) (hg : Gl X nm)
    (hdb : (nm == ("__debug__" : Str)) = false := by decide)
    (he : starEach (a :: []) X.env = (false, eval a X.env) :: starEach [] X.env := by rfl) (hpl : (backTo pos (starEach [] X.env)).any (·.1) = false := by rfl) :
    PE X (.Call (.Name nm p) [a] [] pos) (tNew C ta) := by
  refine ⟨fun pins s σ H Q I h => ?_⟩
  refine wpAny_Call_Name_kw (ld_glob I hg T.gl (callWith_K (h₀ := X.base) I.ok.mod.kin T.kp (thn (ha.run pos pins s σ H _ I h) fun us s1 hh => ?_) he hpl) hdb)
  obtain ⟨vs, H1, I1, r1, v, rfl, q1⟩ := hh
  refine ⟨I1.kIn, ?_⟩
  obtain ⟨u, rfl, rv⟩ : ∃ u, us = [u] ∧ RelV v u := by
    cases r1 with
    | cons ru rn =>
      cases rn
      exact ⟨_, rfl, ru⟩
  show wpAny _ _ (call (.ref C) [u]) _ _ _
  have lim := I1.nolimit
  obtain ⟨hp, g, dr, tk, os⟩ := s1
  refine wpAny_call (ErrCls.make FB UB SF T I1.kIn lim (by have := hr.dp; omega) fun h' tk' e d M => ?_)
  obtain ⟨oe, fv, eo, ec, ed, dt, e1⟩ := M.me
  obtain ⟨G, g1, g2⟩ := restrict h' fun b => decide (b ≠ e)
  have same : ∀ b, b ≠ e → G.get? b = h'.get? b := fun b nb => g1 b (decide_eq_true nb)
  have gone : G.get? e = none := g2 e (by simp)
  have old : ∀ b o, hp.get? b = some o → G.get? b = some o := fun b o z =>
    (same b (Nat.ne_of_lt (Nat.lt_of_lt_of_le (Heap.lt_size z) M.new))).trans (M.old b o z)
  have fresh : H1 e = none := I1.hok.fresh M.new
  have there : ObjOk X.prog X.w (upd H1 d (.xd [(("value" : Str), v)])) G d (.xd [(("value" : Str), v)]) :=
    ⟨_, M.ns.at (fun o z => (same d M.ne).trans z), rel_value rv⟩
  have J : Inv X pins σ (upd H1 d (.xd [(("value" : Str), v)])) ⟨G, g, dr, tk', os⟩ := I1.laid (t' := tk') old M.far there
  have fe : (upd H1 d (.xd [(("value" : Str), v)])) e = none := by
    rw [upd_ne (Ne.symm M.ne)]
    exact fresh
  have k2 : ∀ b o, G.get? b = some o → h'.get? b = some o := fun b o z => by
    have nb : b ≠ e := by
      rintro rfl
      rw [gone] at z
      cases z
    exact (same b nb).symm.trans z
  exact ⟨.ref e, _, J.laidN (t' := tk') k2 gone fe (exv_ok eo ⟨ec, ed⟩ dt), rfl, q1 d e (I1.hok.fresh M.far) fresh M.ne⟩
/-- error.value in the suite of such an error -/
def tOfErr (C a : Addr) (cls : Value) (d : Option Addr) (te : TE) : TE := fun σ H Q => te σ H fun x H1 => x = .ref a ∧ cls = .ref C ∧ ∃ (dd : Addr) (v : V), d = some dd ∧ H1 dd = some (.xd [(("value" : Str), v)]) ∧ Q v H1
theorem pe_ofErr {a : Addr} {oe : Obj} {cls : Value} {d : Option Addr} {pn : List (Addr × Obj)} {e : Expr} {te : TE} {pos : Pos} (T : ErrCls X.K X.mg nm qi newId bmB C f) (hz : Zc cls d oe) (hf : ∃ vs, oe.data = .fields vs) (he : PE (X.suite a ((a, oe) :: pn)) e te)
    (hb : attributeBase e "value" X.env (eval e X.env) = eval e X.env := by rfl) :
    PE (X.suite a ((a, oe) :: pn)) (.Attribute e "value" pos) (tOfErr C a cls d te) := by
  refine ⟨fun pins s σ H Q I h => attr_of hb (thn (he.run pins s σ H _ I h) fun u s1 hh => ?_)⟩
  obtain ⟨x, H1, I1, rx, rfl, rfl, dd, v, rfl, ea, q⟩ := hh
  obtain rfl : u = Value.ref a := rx
  obtain ⟨vs, dt⟩ := hf
  obtain ⟨at_, _⟩ := I1.pin (a, oe) (List.mem_append_left _ List.mem_cons_self)
  obtain ⟨mA, hns, hr⟩ := (show ObjOk X.prog X.w H1 s1.heap dd (.xd [(("value" : Str), v)]) from I1.hok dd _ ea)
  obtain ⟨od, ho, hl⟩ := lookIn_ns hns
  obtain ⟨u, hu, ru⟩ := RelO.some_of (v := v) (o := mA "value") (by
    rw [← (show List.lookup ("value" : Str) [(("value" : Str), v)] = some v by simp [List.lookup])]
    exact hr "value")
  have J : InstAt s1.heap a oe C (some od) := ⟨at_, hz.1, by unfold notCls; rw [dt] <;> rfl, by rw [hz.2]; exact ho⟩
  exact HandSPX.exc_get I1.kIn J T.ga T.gg T.sub (findObj_own T.hd T.no rfl (by rw [hl, hu])) (handed_of ru) ⟨v, H1, I1.tok _, ru, q⟩
end
end L2.My.Own_value
/-! an own error class over any of the eleven built-in bases, whose __init__(self, line) keeps it -/
namespace L2.My.Own_line
open PySem PySem.Spec PyProof.Rows PySem.W PySem.Calls L2 L2.My
def initArgs (p q : Pos) : Arguments :=
  { posonlyargs := [], args := [⟨"self", none, p⟩, ⟨"line", none, q⟩], vararg := none, kwonlyargs := [], kw_defaults := [], kwarg := none, defaults := [] }
def initBody (a b c d : Pos) : List Stmt := [.Assign [.Attribute (.Name "self" a) "line" b] (.Name "line" c) d]
def initScope : Scope :=
  { kind := .function, names := [(Str.ofString "self", .local), (Str.ofString "line", .local)], isGenerator := false, isCoroutine := false, more := [] }
/-- what the top's written part says of the class (at C, called nm in the module) and of its __init__ (at f) -/
structure ErrCls (K : Frag) (mg : Str → Option Value) (nm : Str) (qi : Str) (newId : String) (bmB : List Value) (C f : Addr) : Prop where
  gl : mg nm = some (.ref C)
  cl : ∃ n q N bs bm sn sub ab col dd k0 k1 k2 k3 k5, K.lookup C = some (excClassObj n q C N bs bm true sn sub ab col dd k0 k1 k2 k3 k5 newId) ∧ excTail bmB bm = true
  sa : findIn K (.ref C) "__setattr__" = some (some (.builtin "object.__setattr__"))
  ga : findIn K (.ref C) "__getattribute__" = some (some (.builtin "BaseException.__getattribute__"))
  gg : findIn K (.ref C) "__getattr__" = some none
  no : findIn K (.ref C) "line" = some none
  ini : findIn K (.ref C) "__init__" = some (some (.ref f))
  tf : typeIn K (.ref f) = some (.type "function")
  kp : keepIn K (.ref C) = true
  sub : subIn K (.ref C) (.type "BaseException") = some true
  ty : typeIn K (.ref C) = some (.type "type")
  hd : hasDictIn K C = true
  fn : ∃ (oc : Value) (od : Option Addr) (doc pm : Value) (an : Option Addr) (cd ct : Value) (sl : Array (Option Value)) (p q a b c d : Pos),
    K.lookup f = some ⟨oc, od, .func (fnOf "__init__" qi (initArgs p q) (initBody a b c d) initScope .none .none doc pm an cd ct), sl⟩ ∧ codeIn K cd qi = true
section
variable {prog : Program} {w : World} {A : Around} {E : Value → Shared → Prop} {R : Result → Shared → Prop} {s : Shared} {K : Frag} {mg : Str → Option Value}
variable {nm qi : Str} {B BN newId initId : String} {bmB bmN : List Value} {C f : Addr}
theorem ErrCls.cls (T : ErrCls K mg nm qi newId bmB C f) : ∃ cd bm, clsIn K C = some cd ∧ cd.mro = .ref C :: bm ∧ excTail bmB bm = true ∧ cd.hasDict = true := by
  obtain ⟨n, q, N, bs, bm, sn, sub, ab, col, dd, k0, k1, k2, k3, k5, h, t⟩ := T.cl
  refine ⟨{ name := n, bases := bs, mro := .ref C :: bm, ns := N, qualname := q, hasDict := true, slotNames := sn, subclasses := sub, abstract := ab, collection := col, hasDel := false }, bm, ?_, rfl, t, rfl⟩
  unfold clsIn
  rw [h] <;> rfl
theorem ErrCls.over (T : ErrCls K mg nm qi newId bmB C f) : excOver K C bmB = true := by
  obtain ⟨cd, bm, h, m, t, _⟩ := T.cls
  unfold excOver
  rw [h]
  simp [m, t]
theorem ErrCls.taker (T : ErrCls K mg nm qi newId bmB C f) : takerIn K C "line" = some none := by
  unfold takerIn
  rw [T.no]
  rfl
/-- the first field of a fresh exception at x -/
theorem first_field (SF : StoreFacts B bmB "object.__setattr__" "object") (T : ErrCls K mg nm qi newId bmB C f) {x t0 : Addr} {tk : Tok} {v : Value} (X : K.In s.heap) (hx : s.heap.get? x = some (HandSPX.excO C t0))
    (hq : ∀ h' tk' dx, (∀ b o, b ≠ x → s.heap.get? b = some o → h'.get? b = some o) → s.heap.objs.size ≤ dx → dx ≠ x →
      h'.get? x = some { cls := .ref C, dict := some dx, data := .fields #[.ref t0, .none, .none, .none, .bool false, .none] } →
      h'.Ns1 dx (fun y => if y = "line" then some v else none) → R (.ok (.ret .none)) { s with heap := h', toks := tk' }) :
    codeAny (model prog w) A (.call (.builtin "object.__setattr__") ⟨[.ref x, .str "line" tk, v], []⟩) R s := by
  obtain ⟨cd, bm, hcd, _, _, dic⟩ := T.cls
  have I : InstAt s.heap x (HandSPX.excO C t0) C none := ⟨hx, rfl, rfl, trivial⟩
  have far : x ≠ s.heap.objs.size := Nat.ne_of_lt (Heap.lt_size hx)
  refine osa_openX SF X I T.over T.taker fun b => ?_
  have Lc : Looks (model prog w) s.heap (classData C) cd := looks_clsIn X hcd
  obtain ⟨hp, g, d, t, os⟩ := s
  obtain ⟨n1, bs1, mro1, ns1, q1, hd1, sn1, sb1, ab1, co1, del1⟩ := cd
  dsimp only at dic
  subst dic
  dsimp only at hx far
  unfold Builtin.ObjectAttr.storeInOwnDict Builtin.ObjectAttr.ownDictForStores
  repeat (first | with_reducible refine HandSPX.store_in_new ?_ ?_ | with_reducible refine wpAny_loadPart_at hx ?_ | with_reducible refine Lc.at ?_ | wp_step)
  · exact ⟨_, #[], _, (Heap.get?_update_ne _ _ _ _ far.symm).trans (Heap.get?_push_at rfl rfl), rfl, fun e he => absurd he (by simp), fun _ => rfl⟩
  · intro h' tk' hn sb
    have hx1 : (hp.push { cls := .type "dict", data := .dict #[] }).get? x = some (HandSPX.excO C t0) := Heap.get?_push_of_some _ hx
    refine hq h' tk' hp.objs.size ?_ (Nat.le_refl _) far.symm ((sb.2 x far).trans (Heap.get?_update_self _ hx1 rfl)) hn
    intro b o nb e
    exact (sb.2 b (Nat.ne_of_lt (Heap.lt_size e))).trans ((Heap.get?_update_ne _ _ _ _ nb).trans (Heap.get?_push_of_some _ e))
theorem own_name {M : Model} {scope : Scope} {name x : Str} {L a : Addr} {cd v : Value} {m : Str → Option Value} {pos : Pos} {Q : Value → Shared → Prop}
    (hn : s.heap.Ns L m) (hv : m x = some v) (h : Q v s) (k1 : scope.kind = .function := by rfl) (k2 : (envOfC name scope L a cd).kindOf x = some .local := by rfl) (k3 : (x == ("__debug__" : Str)) = false := by decide) :
    wpAny M A (eval (.Name x pos) (envOfC name scope L a cd)) Q E s := wpAny_Name (wpAny_loadName_local k1 k2 hn hv h) k3
/-- what __init__ leaves of a fresh exception at x -/
structure Kept (h h' : Heap) (x C dx t : Addr) (v : Value) : Prop where
  old : ∀ b o, b ≠ x → h.get? b = some o → h'.get? b = some o
  me : h'.get? x = some { cls := .ref C, dict := some dx, data := .fields #[.ref t, .none, .none, .none, .bool false, .none] }
  far : h.objs.size ≤ dx
  ne : dx ≠ x
  ns : h'.Ns1 dx (fun y => if y = "line" then some v else none)
theorem ErrCls.init (SF : StoreFacts B bmB "object.__setattr__" "object") (T : ErrCls K mg nm qi newId bmB C f) {x t0 : Addr} {v : Value} (X : K.In s.heap) (lim : s.heap.NoLimit) (hx : s.heap.get? x = some (HandSPX.excO C t0))
    (room : A.depth < recursionLimit) (hq : ∀ h' tk dx, Kept s.heap h' x C dx t0 v → R (.ok (.ret .none)) { s with heap := h', toks := tk }) :
    codeAny (model prog w) A (.call (.ref f) ⟨[.ref x, v], []⟩) R s := by
  obtain ⟨oc, od, doc, pm, an, cd, ct, sl, p, q, a, b, c, d, lf, hcd⟩ := T.fn
  refine Att.call_fn (binds := [("self", .ref x), ("line", v)]) X lim lf hcd room (BindsTo.of_eq (by first | rfl | with_unfolding_all rfl)) (by first | rfl | decide | with_unfolding_all rfl) (fun s1 IC => ?_) rfl rfl rfl
  obtain ⟨h1, tk1, rfl⟩ := IC.toInCall.same
  have old : ∀ b o, s.heap.get? b = some o → h1.get? b = some o := IC.toInCall.keep
  have ns := IC.toInCall.ns
  have hx1 := old _ _ hx
  have X1 : K.In h1 := X.keeps old
  show wpAny _ _ (execs _ _) _ _ _
  refine wpAny_execs_cons (plainObj_wpAny_Assign_Attribute (own_name (v := v) ns (by first | rfl | with_unfolding_all rfl | kernel_rfl) (own_name (v := .ref x) ns (by first | rfl | with_unfolding_all rfl | kernel_rfl) ?_)))
  refine set_plain X1 (ox := HandSPX.excO C t0) (od := none) ⟨hx1, rfl, rfl, trivial⟩ T.sa (first_field SF T X1 hx1 fun h2 tk2 dx k2 far ne me n2 => ?_)
  show wpAny _ _ (execs _ _) _ _ _
  have more : s.heap.objs.size < h1.objs.size := ns.lt
  exact wpAny_execs_nil (hq h2 tk2 dx ⟨fun b o nb e => k2 b o nb (old b o e), me, Nat.le_of_lt (Nat.lt_of_lt_of_le more far), ne, n2⟩)
/-- a made error -/
structure Made (h h' : Heap) (e C d : Addr) (v : Value) : Prop where
  old : ∀ b o, h.get? b = some o → h'.get? b = some o
  new : h.objs.size ≤ e
  me : ∃ oe vs, h'.get? e = some oe ∧ oe.cls = .ref C ∧ oe.dict = some d ∧ oe.data = .fields vs ∧ vs[1]? = some .none
  far : h.objs.size ≤ d
  ne : d ≠ e
  ns : h'.Ns1 d (fun y => if y = "line" then some v else none)
theorem ErrCls.make (FB : ExcBaseFacts BN newId initId bmN) (UB : Above BN bmB) (SF : StoreFacts B bmB "object.__setattr__" "object") (T : ErrCls K mg nm qi newId bmB C f) {v : Value} (X : K.In s.heap) (lim : s.heap.NoLimit) (room : A.depth + 1 < recursionLimit)
    (hq : ∀ h' tk e d, Made s.heap h' e C d v → R (.ok (.ret (.ref e))) { s with heap := h', toks := tk }) :
    codeAny (model prog w) A (.call (.ref C) ⟨[v], []⟩) R s := by
  obtain ⟨n, q, N, bs, bm, sn, sub, ab, col, dd, k0, k1, k2, k3, k5, lc, tl⟩ := T.cl
  obtain ⟨hp, g, dr, tk, os⟩ := s
  obtain ⟨hp2, ehp2⟩ : ∃ h2, h2 = (hp.push (kdv_tup [v])).push (HandSPX.excO C hp.objs.size) := ⟨_, rfl⟩
  have old : ∀ b o, hp.get? b = some o → hp2.get? b = some o := fun b o e => by
    rw [ehp2]
    exact Heap.get?_push_of_some _ (Heap.get?_push_of_some _ e)
  have me : hp2.get? (hp.objs.size + 1) = some (HandSPX.excO C hp.objs.size) := by rw [ehp2]; heap_get
  have z2 : hp2.objs.size = hp.objs.size + 1 + 1 := by rw [ehp2, Heap.size_push, Heap.size_push]
  refine callMade FB (UB.tail tl) (X _ _ lc) (looks_findIn X T.ini) (fun self => bind_fn X self T.tf) (by rw [sizeLine_eq]; exact (by decide : 1 ≤ 16777216)) ?_
  rw [← ehp2]
  refine ErrCls.init (s := ⟨hp2, g, dr, tk, os⟩) SF T (X.keeps old) (lim.keeps old) me room fun h' tk' dx k => ?_
  have o2 : ∀ b o, hp.get? b = some o → h'.get? b = some o := fun b o e =>
    k.old b o (Nat.ne_of_lt (Nat.lt_succ_of_lt (Heap.lt_size e))) (old b o e)
  have far := k.far
  dsimp only at far
  rw [z2] at far
  exact ⟨rfl, hq h' tk' _ dx ⟨o2, Nat.le_succ _, ⟨_, _, k.me, rfl, rfl, rfl, rfl⟩, Nat.le_trans (Nat.le_trans (Nat.le_succ _) (Nat.le_succ _)) far, k.ne, k.ns⟩⟩
end
theorem rel_value {v : V} {u : Value} (r : RelV v u) (g : Str) : RelO (List.lookup g [(("line" : Str), v)]) (if g = "line" then some u else none) := by
  by_cases e : g = "line"
  · rw [if_pos e, e, show List.lookup ("line" : Str) [(("line" : Str), v)] = some v by simp [List.lookup]]
    exact r
  · have e2 : (g == ("line" : Str)) = false := by simpa using e
    rw [if_neg e, show List.lookup g [(("line" : Str), v)] = none by simp [List.lookup, e2]]
    trivial
section
variable {X : Cx} {nm qi : Str} {B BN newId initId : String} {bmB bmN : List Value} {C f : Addr}
/-- C(e) as what is raised: its own dict d is new and holds value -/
def tErr (C : Addr) (ta : TA) : L2.St → Hp → XK → Prop := fun σ H Q => ta σ H fun vs H1 => ∃ v, vs = [v] ∧ ∀ d, H1 d = none → Q (.ref C) (some d) (upd H1 d (.xd [(("line" : Str), v)]))
theorem pmk_err {a : Expr} {ta : TA} {p pos : Pos} {k : Nat} (FB : ExcBaseFacts BN newId initId bmN) (UB : Above BN bmB) (SF : StoreFacts B bmB "object.__setattr__" "object") (T : ErrCls X.K X.mg nm qi newId bmB C f) (hr : Room k X.A) (ha : PA X [a] ta) (hg : Gl X nm)
    (hdb : (nm == ("__debug__" : Str)) = false := by decide)
    (he : starEach (a :: []) X.env = (false, eval a X.env) :: starEach [] X.env := by rfl) (hpl : (backTo pos (starEach [] X.env)).any (·.1) = false := by rfl) :
    PMk X (.Call (.Name nm p) [a] [] pos) (tErr C ta) := by
  intro pins s σ H Q I h
  refine wpAny_Call_Name_kw (ld_glob I hg T.gl (callWith_K (h₀ := X.base) I.ok.mod.kin T.kp (thn (ha.run pos pins s σ H _ I h) fun us s1 hh => ?_) he hpl) hdb)
  obtain ⟨vs, H1, I1, r1, v, rfl, q1⟩ := hh
  refine ⟨I1.kIn, ?_⟩
  obtain ⟨u, rfl, rv⟩ : ∃ u, us = [u] ∧ RelV v u := by
    cases r1 with
    | cons ru rn =>
      cases rn
      exact ⟨_, rfl, ru⟩
  show wpAny _ _ (call (.ref C) [u]) _ _ _
  have lim := I1.nolimit
  obtain ⟨hp, g, dr, tk, os⟩ := s1
  refine wpAny_call (ErrCls.make FB UB SF T I1.kIn lim (by have := hr.dp; omega) fun h' tk' e d M => ?_)
  show MkP X pins σ Q (.ref e) ⟨h', g, dr, tk', os⟩
  obtain ⟨oe, fv, eo, ec, ed, dt, e1⟩ := M.me
  obtain ⟨G, g1, g2⟩ := restrict h' fun b => decide (b ≠ e)
  have same : ∀ b, b ≠ e → G.get? b = h'.get? b := fun b nb => g1 b (decide_eq_true nb)
  have gone : G.get? e = none := g2 e (by simp)
  have old : ∀ b o, hp.get? b = some o → G.get? b = some o := fun b o z =>
    (same b (Nat.ne_of_lt (Nat.lt_of_lt_of_le (Heap.lt_size z) M.new))).trans (M.old b o z)
  have fresh : H1 e = none := I1.hok.fresh M.new
  have there : ObjOk X.prog X.w (upd H1 d (.xd [(("line" : Str), v)])) G d (.xd [(("line" : Str), v)]) :=
    ⟨_, M.ns.at (fun o z => (same d M.ne).trans z), rel_value rv⟩
  have J : Inv X pins σ (upd H1 d (.xd [(("line" : Str), v)])) ⟨G, g, dr, tk', os⟩ := I1.laid (t' := tk') old M.far there
  refine ⟨e, oe, fv, ⟨G, g, dr, tk', os⟩, _, .ref C, some d, rfl, J, ?_, gone, eo, ⟨ec, ed⟩, dt, e1, ?_, rfl, I1.bare, raises_own T.sub T.ty, q1 d (I1.hok.fresh M.far)⟩
  · intro b o z
    have nb : b ≠ e := by
      rintro rfl
      have z' : G.get? b = some o := z
      rw [gone] at z'
      cases z'
    exact (same b nb).symm.trans z
  · rw [upd_ne (Ne.symm M.ne)]
    exact fresh
def tRaiseErr (C : Addr) (W : WX) (ta : TA) : TS := fun _ σ H => tErr C ta σ H fun c d H' => W c d σ H'
theorem ps_raiseErr {a : Expr} {ta : TA} {W : WX} {p pos pos2 : Pos} {k : Nat} (FB : ExcBaseFacts BN newId initId bmN) (UB : Above BN bmB) (SF : StoreFacts B bmB "object.__setattr__" "object") (hc : X.calm = true) (T : ErrCls X.K X.mg nm qi newId bmB C f) (hr : Room k X.A) (tk : Takes X W) (ha : PA X [a] ta) (hg : Gl X nm)
    (hdb : (nm == ("__debug__" : Str)) = false := by decide)
    (he : starEach (a :: []) X.env = (false, eval a X.env) :: starEach [] X.env := by rfl) (hpl : (backTo pos (starEach [] X.env)).any (·.1) = false := by rfl) :
    PS X (.Raise (some (.Call (.Name nm p) [a] [] pos)) none pos2) (tRaiseErr C W ta) := ps_raise hc tk (pmk_err FB UB SF T hr ha hg hdb he hpl)
/-- C(e) as a value -/
def tNew (C : Addr) (ta : TA) : TE := fun σ H Q => ta σ H fun vs H1 => ∃ v, vs = [v] ∧ ∀ d e, H1 d = none → H1 e = none → d ≠ e → Q (.ref e) (upd (upd H1 d (.xd [(("line" : Str), v)])) e (Exv C d e))
theorem pe_new {a : Expr} {ta : TA} {p pos : Pos} {k : Nat} (FB : ExcBaseFacts BN newId initId bmN) (UB : Above BN bmB) (SF : StoreFacts B bmB "object.__setattr__" "object") (T : ErrCls X.K X.mg nm qi newId bmB C f) (hr : Room k X.A) (ha : PA X [a] ta) (hg : Gl X nm)
    (hdb : (nm == ("__debug__" : Str)) = false := by decide)
    (he : starEach (a :: []) X.env = (false, eval a X.env) :: starEach [] X.env := by rfl) (hpl : (backTo pos (starEach [] X.env)).any (·.1) = false := by rfl) :
    PE X (.Call (.Name nm p) [a] [] pos) (tNew C ta) := by
  refine ⟨fun pins s σ H Q I h => ?_⟩
  refine wpAny_Call_Name_kw (ld_glob I hg T.gl (callWith_K (h₀ := X.base) I.ok.mod.kin T.kp (thn (ha.run pos pins s σ H _ I h) fun us s1 hh => ?_) he hpl) hdb)
  obtain ⟨vs, H1, I1, r1, v, rfl, q1⟩ := hh
  refine ⟨I1.kIn, ?_⟩
  obtain ⟨u, rfl, rv⟩ : ∃ u, us = [u] ∧ RelV v u := by
    cases r1 with
    | cons ru rn =>
      cases rn
      exact ⟨_, rfl, ru⟩
  show wpAny _ _ (call (.ref C) [u]) _ _ _
  have lim := I1.nolimit
  obtain ⟨hp, g, dr, tk, os⟩ := s1
  refine wpAny_call (ErrCls.make FB UB SF T I1.kIn lim (by have := hr.dp; omega) fun h' tk' e d M => ?_)
  obtain ⟨oe, fv, eo, ec, ed, dt, e1⟩ := M.me
  obtain ⟨G, g1, g2⟩ := restrict h' fun b => decide (b ≠ e)
  have same : ∀ b, b ≠ e → G.get? b = h'.get? b := fun b nb => g1 b (decide_eq_true nb)
  have gone : G.get? e = none := g2 e (by simp)
  have old : ∀ b o, hp.get? b = some o → G.get? b = some o := fun b o z =>
    (same b (Nat.ne_of_lt (Nat.lt_of_lt_of_le (Heap.lt_size z) M.new))).trans (M.old b o z)
  have fresh : H1 e = none := I1.hok.fresh M.new
  have there : ObjOk X.prog X.w (upd H1 d (.xd [(("line" : Str), v)])) G d (.xd [(("line" : Str), v)]) :=
    ⟨_, M.ns.at (fun o z => (same d M.ne).trans z), rel_value rv⟩
  have J : Inv X pins σ (upd H1 d (.xd [(("line" : Str), v)])) ⟨G, g, dr, tk', os⟩ := I1.laid (t' := tk') old M.far there
  have fe : (upd H1 d (.xd [(("line" : Str), v)])) e = none := by
    rw [upd_ne (Ne.symm M.ne)]
    exact fresh
  have k2 : ∀ b o, G.get? b = some o → h'.get? b = some o := fun b o z => by
    have nb : b ≠ e := by
      rintro rfl
      rw [gone] at z
      cases z
    exact (same b nb).symm.trans z
  exact ⟨.ref e, _, J.laidN (t' := tk') k2 gone fe (exv_ok eo ⟨ec, ed⟩ dt), rfl, q1 d e (I1.hok.fresh M.far) fresh M.ne⟩
/-- error.value in the suite of such an error -/
def tOfErr (C a : Addr) (cls : Value) (d : Option Addr) (te : TE) : TE := fun σ H Q => te σ H fun x H1 => x = .ref a ∧ cls = .ref C ∧ ∃ (dd : Addr) (v : V), d = some dd ∧ H1 dd = some (.xd [(("line" : Str), v)]) ∧ Q v H1
theorem pe_ofErr {a : Addr} {oe : Obj} {cls : Value} {d : Option Addr} {pn : List (Addr × Obj)} {e : Expr} {te : TE} {pos : Pos} (T : ErrCls X.K X.mg nm qi newId bmB C f) (hz : Zc cls d oe) (hf : ∃ vs, oe.data = .fields vs) (he : PE (X.suite a ((a, oe) :: pn)) e te)
    (hb : attributeBase e "line" X.env (eval e X.env) = eval e X.env := by rfl) :
    PE (X.suite a ((a, oe) :: pn)) (.Attribute e "line" pos) (tOfErr C a cls d te) := by
  refine ⟨fun pins s σ H Q I h => attr_of hb (thn (he.run pins s σ H _ I h) fun u s1 hh => ?_)⟩
  obtain ⟨x, H1, I1, rx, rfl, rfl, dd, v, rfl, ea, q⟩ := hh
  obtain rfl : u = Value.ref a := rx
  obtain ⟨vs, dt⟩ := hf
  obtain ⟨at_, _⟩ := I1.pin (a, oe) (List.mem_append_left _ List.mem_cons_self)
  obtain ⟨mA, hns, hr⟩ := (show ObjOk X.prog X.w H1 s1.heap dd (.xd [(("line" : Str), v)]) from I1.hok dd _ ea)
  obtain ⟨od, ho, hl⟩ := lookIn_ns hns
  obtain ⟨u, hu, ru⟩ := RelO.some_of (v := v) (o := mA "line") (by
    rw [← (show List.lookup ("line" : Str) [(("line" : Str), v)] = some v by simp [List.lookup])]
    exact hr "line")
  have J : InstAt s1.heap a oe C (some od) := ⟨at_, hz.1, by unfold notCls; rw [dt] <;> rfl, by rw [hz.2]; exact ho⟩
  exact HandSPX.exc_get I1.kIn J T.ga T.gg T.sub (findObj_own T.hd T.no rfl (by rw [hl, hu])) (handed_of ru) ⟨v, H1, I1.tok _, ru, q⟩
end
end L2.My.Own_line
/-! an own error class over any of the eleven built-in bases, whose __init__(self, wanted) keeps it -/
namespace L2.My.Own_wanted
open PySem PySem.Spec PyProof.Rows PySem.W PySem.Calls L2 L2.My
def initArgs (p q : Pos) : Arguments :=
  { posonlyargs := [], args := [⟨"self", none, p⟩, ⟨"wanted", none, q⟩], vararg := none, kwonlyargs := [], kw_defaults := [], kwarg := none, defaults := [] }
def initBody (a b c d : Pos) : List Stmt := [.Assign [.Attribute (.Name "self" a) "wanted" b] (.Name "wanted" c) d]
def initScope : Scope :=
  { kind := .function, names := [(Str.ofString "self", .local), (Str.ofString "wanted", .local)], isGenerator := false, isCoroutine := false, more := [] }
/-- what the top's written part says of the class (at C, called nm in the module) and of its __init__ (at f) -/
structure ErrCls (K : Frag) (mg : Str → Option Value) (nm : Str) (qi : Str) (newId : String) (bmB : List Value) (C f : Addr) : Prop where
  gl : mg nm = some (.ref C)
  cl : ∃ n q N bs bm sn sub ab col dd k0 k1 k2 k3 k5, K.lookup C = some (excClassObj n q C N bs bm true sn sub ab col dd k0 k1 k2 k3 k5 newId) ∧ excTail bmB bm = true
  sa : findIn K (.ref C) "__setattr__" = some (some (.builtin "object.__setattr__"))
  ga : findIn K (.ref C) "__getattribute__" = some (some (.builtin "BaseException.__getattribute__"))
  gg : findIn K (.ref C) "__getattr__" = some none
  no : findIn K (.ref C) "wanted" = some none
  ini : findIn K (.ref C) "__init__" = some (some (.ref f))
  tf : typeIn K (.ref f) = some (.type "function")
  kp : keepIn K (.ref C) = true
  sub : subIn K (.ref C) (.type "BaseException") = some true
  ty : typeIn K (.ref C) = some (.type "type")
  hd : hasDictIn K C = true
  fn : ∃ (oc : Value) (od : Option Addr) (doc pm : Value) (an : Option Addr) (cd ct : Value) (sl : Array (Option Value)) (p q a b c d : Pos),
    K.lookup f = some ⟨oc, od, .func (fnOf "__init__" qi (initArgs p q) (initBody a b c d) initScope .none .none doc pm an cd ct), sl⟩ ∧ codeIn K cd qi = true
section
variable {prog : Program} {w : World} {A : Around} {E : Value → Shared → Prop} {R : Result → Shared → Prop} {s : Shared} {K : Frag} {mg : Str → Option Value}
variable {nm qi : Str} {B BN newId initId : String} {bmB bmN : List Value} {C f : Addr}
theorem ErrCls.cls (T : ErrCls K mg nm qi newId bmB C f) : ∃ cd bm, clsIn K C = some cd ∧ cd.mro = .ref C :: bm ∧ excTail bmB bm = true ∧ cd.hasDict = true := by
  obtain ⟨n, q, N, bs, bm, sn, sub, ab, col, dd, k0, k1, k2, k3, k5, h, t⟩ := T.cl
  refine ⟨{ name := n, bases := bs, mro := .ref C :: bm, ns := N, qualname := q, hasDict := true, slotNames := sn, subclasses := sub, abstract := ab, collection := col, hasDel := false }, bm, ?_, rfl, t, rfl⟩
  unfold clsIn
  rw [h] <;> rfl
theorem ErrCls.over (T : ErrCls K mg nm qi newId bmB C f) : excOver K C bmB = true := by
  obtain ⟨cd, bm, h, m, t, _⟩ := T.cls
  unfold excOver
  rw [h]
  simp [m, t]
theorem ErrCls.taker (T : ErrCls K mg nm qi newId bmB C f) : takerIn K C "wanted" = some none := by
  unfold takerIn
  rw [T.no]
  rfl
/-- the first field of a fresh exception at x -/
theorem first_field (SF : StoreFacts B bmB "object.__setattr__" "object") (T : ErrCls K mg nm qi newId bmB C f) {x t0 : Addr} {tk : Tok} {v : Value} (X : K.In s.heap) (hx : s.heap.get? x = some (HandSPX.excO C t0))
    (hq : ∀ h' tk' dx, (∀ b o, b ≠ x → s.heap.get? b = some o → h'.get? b = some o) → s.heap.objs.size ≤ dx → dx ≠ x →
      h'.get? x = some { cls := .ref C, dict := some dx, data := .fields #[.ref t0, .none, .none, .none, .bool false, .none] } →
      h'.Ns1 dx (fun y => if y = "wanted" then some v else none) → R (.ok (.ret .none)) { s with heap := h', toks := tk' }) :
    codeAny (model prog w) A (.call (.builtin "object.__setattr__") ⟨[.ref x, .str "wanted" tk, v], []⟩) R s := by
  obtain ⟨cd, bm, hcd, _, _, dic⟩ := T.cls
  have I : InstAt s.heap x (HandSPX.excO C t0) C none := ⟨hx, rfl, rfl, trivial⟩
  have far : x ≠ s.heap.objs.size := Nat.ne_of_lt (Heap.lt_size hx)
  refine osa_openX SF X I T.over T.taker fun b => ?_
  have Lc : Looks (model prog w) s.heap (classData C) cd := looks_clsIn X hcd
  obtain ⟨hp, g, d, t, os⟩ := s
  obtain ⟨n1, bs1, mro1, ns1, q1, hd1, sn1, sb1, ab1, co1, del1⟩ := cd
  dsimp only at dic
  subst dic
  dsimp only at hx far
  unfold Builtin.ObjectAttr.storeInOwnDict Builtin.ObjectAttr.ownDictForStores
  repeat (first | with_reducible refine HandSPX.store_in_new ?_ ?_ | with_reducible refine wpAny_loadPart_at hx ?_ | with_reducible refine Lc.at ?_ | wp_step)
  · exact ⟨_, #[], _, (Heap.get?_update_ne _ _ _ _ far.symm).trans (Heap.get?_push_at rfl rfl), rfl, fun e he => absurd he (by simp), fun _ => rfl⟩
  · intro h' tk' hn sb
    have hx1 : (hp.push { cls := .type "dict", data := .dict #[] }).get? x = some (HandSPX.excO C t0) := Heap.get?_push_of_some _ hx
    refine hq h' tk' hp.objs.size ?_ (Nat.le_refl _) far.symm ((sb.2 x far).trans (Heap.get?_update_self _ hx1 rfl)) hn
    intro b o nb e
    exact (sb.2 b (Nat.ne_of_lt (Heap.lt_size e))).trans ((Heap.get?_update_ne _ _ _ _ nb).trans (Heap.get?_push_of_some _ e))
theorem own_name {M : Model} {scope : Scope} {name x : Str} {L a : Addr} {cd v : Value} {m : Str → Option Value} {pos : Pos} {Q : Value → Shared → Prop}
    (hn : s.heap.Ns L m) (hv : m x = some v) (h : Q v s) (k1 : scope.kind = .function := by rfl) (k2 : (envOfC name scope L a cd).kindOf x = some .local := by rfl) (k3 : (x == ("__debug__" : Str)) = false := by decide) :
    wpAny M A (eval (.Name x pos) (envOfC name scope L a cd)) Q E s := wpAny_Name (wpAny_loadName_local k1 k2 hn hv h) k3
/-- what __init__ leaves of a fresh exception at x -/
structure Kept (h h' : Heap) (x C dx t : Addr) (v : Value) : Prop where
  old : ∀ b o, b ≠ x → h.get? b = some o → h'.get? b = some o
  me : h'.get? x = some { cls := .ref C, dict := some dx, data := .fields #[.ref t, .none, .none, .none, .bool false, .none] }
  far : h.objs.size ≤ dx
  ne : dx ≠ x
  ns : h'.Ns1 dx (fun y => if y = "wanted" then some v else none)
theorem ErrCls.init (SF : StoreFacts B bmB "object.__setattr__" "object") (T : ErrCls K mg nm qi newId bmB C f) {x t0 : Addr} {v : Value} (X : K.In s.heap) (lim : s.heap.NoLimit) (hx : s.heap.get? x = some (HandSPX.excO C t0))
    (room : A.depth < recursionLimit) (hq : ∀ h' tk dx, Kept s.heap h' x C dx t0 v → R (.ok (.ret .none)) { s with heap := h', toks := tk }) :
    codeAny (model prog w) A (.call (.ref f) ⟨[.ref x, v], []⟩) R s := by
  obtain ⟨oc, od, doc, pm, an, cd, ct, sl, p, q, a, b, c, d, lf, hcd⟩ := T.fn
  refine Att.call_fn (binds := [("self", .ref x), ("wanted", v)]) X lim lf hcd room (BindsTo.of_eq (by first | rfl | with_unfolding_all rfl)) (by first | rfl | decide | with_unfolding_all rfl) (fun s1 IC => ?_) rfl rfl rfl
  obtain ⟨h1, tk1, rfl⟩ := IC.toInCall.same
  have old : ∀ b o, s.heap.get? b = some o → h1.get? b = some o := IC.toInCall.keep
  have ns := IC.toInCall.ns
  have hx1 := old _ _ hx
  have X1 : K.In h1 := X.keeps old
  show wpAny _ _ (execs _ _) _ _ _
  refine wpAny_execs_cons (plainObj_wpAny_Assign_Attribute (own_name (v := v) ns (by first | rfl | with_unfolding_all rfl | kernel_rfl) (own_name (v := .ref x) ns (by first | rfl | with_unfolding_all rfl | kernel_rfl) ?_)))
  refine set_plain X1 (ox := HandSPX.excO C t0) (od := none) ⟨hx1, rfl, rfl, trivial⟩ T.sa (first_field SF T X1 hx1 fun h2 tk2 dx k2 far ne me n2 => ?_)
  show wpAny _ _ (execs _ _) _ _ _
  have more : s.heap.objs.size < h1.objs.size := ns.lt
  exact wpAny_execs_nil (hq h2 tk2 dx ⟨fun b o nb e => k2 b o nb (old b o e), me, Nat.le_of_lt (Nat.lt_of_lt_of_le more far), ne, n2⟩)
/-- a made error -/
structure Made (h h' : Heap) (e C d : Addr) (v : Value) : Prop where
  old : ∀ b o, h.get? b = some o → h'.get? b = some o
  new : h.objs.size ≤ e
  me : ∃ oe vs, h'.get? e = some oe ∧ oe.cls = .ref C ∧ oe.dict = some d ∧ oe.data = .fields vs ∧ vs[1]? = some .none
  far : h.objs.size ≤ d
  ne : d ≠ e
  ns : h'.Ns1 d (fun y => if y = "wanted" then some v else none)
theorem ErrCls.make (FB : ExcBaseFacts BN newId initId bmN) (UB : Above BN bmB) (SF : StoreFacts B bmB "object.__setattr__" "object") (T : ErrCls K mg nm qi newId bmB C f) {v : Value} (X : K.In s.heap) (lim : s.heap.NoLimit) (room : A.depth + 1 < recursionLimit)
    (hq : ∀ h' tk e d, Made s.heap h' e C d v → R (.ok (.ret (.ref e))) { s with heap := h', toks := tk }) :
    codeAny (model prog w) A (.call (.ref C) ⟨[v], []⟩) R s := by
  obtain ⟨n, q, N, bs, bm, sn, sub, ab, col, dd, k0, k1, k2, k3, k5, lc, tl⟩ := T.cl
  obtain ⟨hp, g, dr, tk, os⟩ := s
  obtain ⟨hp2, ehp2⟩ : ∃ h2, h2 = (hp.push (kdv_tup [v])).push (HandSPX.excO C hp.objs.size) := ⟨_, rfl⟩
  have old : ∀ b o, hp.get? b = some o → hp2.get? b = some o := fun b o e => by
    rw [ehp2]
    exact Heap.get?_push_of_some _ (Heap.get?_push_of_some _ e)
  have me : hp2.get? (hp.objs.size + 1) = some (HandSPX.excO C hp.objs.size) := by rw [ehp2]; heap_get
  have z2 : hp2.objs.size = hp.objs.size + 1 + 1 := by rw [ehp2, Heap.size_push, Heap.size_push]
  refine callMade FB (UB.tail tl) (X _ _ lc) (looks_findIn X T.ini) (fun self => bind_fn X self T.tf) (by rw [sizeLine_eq]; exact (by decide : 1 ≤ 16777216)) ?_
  rw [← ehp2]
  refine ErrCls.init (s := ⟨hp2, g, dr, tk, os⟩) SF T (X.keeps old) (lim.keeps old) me room fun h' tk' dx k => ?_
  have o2 : ∀ b o, hp.get? b = some o → h'.get? b = some o := fun b o e =>
    k.old b o (Nat.ne_of_lt (Nat.lt_succ_of_lt (Heap.lt_size e))) (old b o e)
  have far := k.far
  dsimp only at far
  rw [z2] at far
  exact ⟨rfl, hq h' tk' _ dx ⟨o2, Nat.le_succ _, ⟨_, _, k.me, rfl, rfl, rfl, rfl⟩, Nat.le_trans (Nat.le_trans (Nat.le_succ _) (Nat.le_succ _)) far, k.ne, k.ns⟩⟩
end
theorem rel_value {v : V} {u : Value} (r : RelV v u) (g : Str) : RelO (List.lookup g [(("wanted" : Str), v)]) (if g = "wanted" then some u else none) := by
  by_cases e : g = "wanted"
  · rw [if_pos e, e, show List.lookup ("wanted" : Str) [(("wanted" : Str), v)] = some v by simp [List.lookup]]
    exact r
  · have e2 : (g == ("wanted" : Str)) = false := by simpa using e
    rw [if_neg e, show List.lookup g [(("wanted" : Str), v)] = none by simp [List.lookup, e2]]
    trivial
section
variable {X : Cx} {nm qi : Str} {B BN newId initId : String} {bmB bmN : List Value} {C f : Addr}
/-- C(e) as what is raised: its own dict d is new and holds value -/
def tErr (C : Addr) (ta : TA) : L2.St → Hp → XK → Prop := fun σ H Q => ta σ H fun vs H1 => ∃ v, vs = [v] ∧ ∀ d, H1 d = none → Q (.ref C) (some d) (upd H1 d (.xd [(("wanted" : Str), v)]))
theorem pmk_err {a : Expr} {ta : TA} {p pos : Pos} {k : Nat} (FB : ExcBaseFacts BN newId initId bmN) (UB : Above BN bmB) (SF : StoreFacts B bmB "object.__setattr__" "object") (T : ErrCls X.K X.mg nm qi newId bmB C f) (hr : Room k X.A) (ha : PA X [a] ta) (hg : Gl X nm)
    (hdb : (nm == ("__debug__" : Str)) = false := by decide)
    (he : starEach (a :: []) X.env = (false, eval a X.env) :: starEach [] X.env := by rfl) (hpl : (backTo pos (starEach [] X.env)).any (·.1) = false := by rfl) :
    PMk X (.Call (.Name nm p) [a] [] pos) (tErr C ta) := by
  intro pins s σ H Q I h
  refine wpAny_Call_Name_kw (ld_glob I hg T.gl (callWith_K (h₀ := X.base) I.ok.mod.kin T.kp (thn (ha.run pos pins s σ H _ I h) fun us s1 hh => ?_) he hpl) hdb)
  obtain ⟨vs, H1, I1, r1, v, rfl, q1⟩ := hh
  refine ⟨I1.kIn, ?_⟩
  obtain ⟨u, rfl, rv⟩ : ∃ u, us = [u] ∧ RelV v u := by
    cases r1 with
    | cons ru rn =>
      cases rn
      exact ⟨_, rfl, ru⟩
  show wpAny _ _ (call (.ref C) [u]) _ _ _
  have lim := I1.nolimit
  obtain ⟨hp, g, dr, tk, os⟩ := s1
  refine wpAny_call (ErrCls.make FB UB SF T I1.kIn lim (by have := hr.dp; omega) fun h' tk' e d M => ?_)
  show MkP X pins σ Q (.ref e) ⟨h', g, dr, tk', os⟩
  obtain ⟨oe, fv, eo, ec, ed, dt, e1⟩ := M.me
  obtain ⟨G, g1, g2⟩ := restrict h' fun b => decide (b ≠ e)
  have same : ∀ b, b ≠ e → G.get? b = h'.get? b := fun b nb => g1 b (decide_eq_true nb)
  have gone : G.get? e = none := g2 e (by simp)
  have old : ∀ b o, hp.get? b = some o → G.get? b = some o := fun b o z =>
    (same b (Nat.ne_of_lt (Nat.lt_of_lt_of_le (Heap.lt_size z) M.new))).trans (M.old b o z)
  have fresh : H1 e = none := I1.hok.fresh M.new
  have there : ObjOk X.prog X.w (upd H1 d (.xd [(("wanted" : Str), v)])) G d (.xd [(("wanted" : Str), v)]) :=
    ⟨_, M.ns.at (fun o z => (same d M.ne).trans z), rel_value rv⟩
  have J : Inv X pins σ (upd H1 d (.xd [(("wanted" : Str), v)])) ⟨G, g, dr, tk', os⟩ := I1.laid (t' := tk') old M.far there
  refine ⟨e, oe, fv, ⟨G, g, dr, tk', os⟩, _, .ref C, some d, rfl, J, ?_, gone, eo, ⟨ec, ed⟩, dt, e1, ?_, rfl, I1.bare, raises_own T.sub T.ty, q1 d (I1.hok.fresh M.far)⟩
  · intro b o z
    have nb : b ≠ e := by
      rintro rfl
      have z' : G.get? b = some o := z
      rw [gone] at z'
      cases z'
    exact (same b nb).symm.trans z
  · rw [upd_ne (Ne.symm M.ne)]
    exact fresh
def tRaiseErr (C : Addr) (W : WX) (ta : TA) : TS := fun _ σ H => tErr C ta σ H fun c d H' => W c d σ H'
theorem ps_raiseErr {a : Expr} {ta : TA} {W : WX} {p pos pos2 : Pos} {k : Nat} (FB : ExcBaseFacts BN newId initId bmN) (UB : Above BN bmB) (SF : StoreFacts B bmB "object.__setattr__" "object") (hc : X.calm = true) (T : ErrCls X.K X.mg nm qi newId bmB C f) (hr : Room k X.A) (tk : Takes X W) (ha : PA X [a] ta) (hg : Gl X nm)
    (hdb : (nm == ("__debug__" : Str)) = false := by decide)
    (he : starEach (a :: []) X.env = (false, eval a X.env) :: starEach [] X.env := by rfl) (hpl : (backTo pos (starEach [] X.env)).any (·.1) = false := by rfl) :
    PS X (.Raise (some (.Call (.Name nm p) [a] [] pos)) none pos2) (tRaiseErr C W ta) := ps_raise hc tk (pmk_err FB UB SF T hr ha hg hdb he hpl)
/-- C(e) as a value -/
def tNew (C : Addr) (ta : TA) : TE := fun σ H Q => ta σ H fun vs H1 => ∃ v, vs = [v] ∧ ∀ d e, H1 d = none → H1 e = none → d ≠ e → Q (.ref e) (upd (upd H1 d (.xd [(("wanted" : Str), v)])) e (Exv C d e))
theorem pe_new {a : Expr} {ta : TA} {p pos : Pos} {k : Nat} (FB : ExcBaseFacts BN newId initId bmN) (UB : Above BN bmB) (SF : StoreFacts B bmB "object.__setattr__" "object") (T : ErrCls X.K X.mg nm qi newId bmB C f) (hr : Room k X.A) (ha : PA X [a] ta) (hg : Gl X nm)
    (hdb : (nm == ("__debug__" : Str)) = false := by decide)
    (he : starEach (a :: []) X.env = (false, eval a X.env) :: starEach [] X.env := by rfl) (hpl : (backTo pos (starEach [] X.env)).any (·.1) = false := by rfl) :
    PE X (.Call (.Name nm p) [a] [] pos) (tNew C ta) := by
  refine ⟨fun pins s σ H Q I h => ?_⟩
  refine wpAny_Call_Name_kw (ld_glob I hg T.gl (callWith_K (h₀ := X.base) I.ok.mod.kin T.kp (thn (ha.run pos pins s σ H _ I h) fun us s1 hh => ?_) he hpl) hdb)
  obtain ⟨vs, H1, I1, r1, v, rfl, q1⟩ := hh
  refine ⟨I1.kIn, ?_⟩
  obtain ⟨u, rfl, rv⟩ : ∃ u, us = [u] ∧ RelV v u := by
    cases r1 with
    | cons ru rn =>
      cases rn
      exact ⟨_, rfl, ru⟩
  show wpAny _ _ (call (.ref C) [u]) _ _ _
  have lim := I1.nolimit
  obtain ⟨hp, g, dr, tk, os⟩ := s1
  refine wpAny_call (ErrCls.make FB UB SF T I1.kIn lim (by have := hr.dp; omega) fun h' tk' e d M => ?_)
  obtain ⟨oe, fv, eo, ec, ed, dt, e1⟩ := M.me
  obtain ⟨G, g1, g2⟩ := restrict h' fun b => decide (b ≠ e)
  have same : ∀ b, b ≠ e → G.get? b = h'.get? b := fun b nb => g1 b (decide_eq_true nb)
  have gone : G.get? e = none := g2 e (by simp)
  have old : ∀ b o, hp.get? b = some o → G.get? b = some o := fun b o z =>
    (same b (Nat.ne_of_lt (Nat.lt_of_lt_of_le (Heap.lt_size z) M.new))).trans (M.old b o z)
  have fresh : H1 e = none := I1.hok.fresh M.new
  have there : ObjOk X.prog X.w (upd H1 d (.xd [(("wanted" : Str), v)])) G d (.xd [(("wanted" : Str), v)]) :=
    ⟨_, M.ns.at (fun o z => (same d M.ne).trans z), rel_value rv⟩
  have J : Inv X pins σ (upd H1 d (.xd [(("wanted" : Str), v)])) ⟨G, g, dr, tk', os⟩ := I1.laid (t' := tk') old M.far there
  have fe : (upd H1 d (.xd [(("wanted" : Str), v)])) e = none := by
    rw [upd_ne (Ne.symm M.ne)]
    exact fresh
  have k2 : ∀ b o, G.get? b = some o → h'.get? b = some o := fun b o z => by
    have nb : b ≠ e := by
      rintro rfl
      rw [gone] at z
      cases z
    exact (same b nb).symm.trans z
  exact ⟨.ref e, _, J.laidN (t' := tk') k2 gone fe (exv_ok eo ⟨ec, ed⟩ dt), rfl, q1 d e (I1.hok.fresh M.far) fresh M.ne⟩
/-- error.value in the suite of such an error -/
def tOfErr (C a : Addr) (cls : Value) (d : Option Addr) (te : TE) : TE := fun σ H Q => te σ H fun x H1 => x = .ref a ∧ cls = .ref C ∧ ∃ (dd : Addr) (v : V), d = some dd ∧ H1 dd = some (.xd [(("wanted" : Str), v)]) ∧ Q v H1
theorem pe_ofErr {a : Addr} {oe : Obj} {cls : Value} {d : Option Addr} {pn : List (Addr × Obj)} {e : Expr} {te : TE} {pos : Pos} (T : ErrCls X.K X.mg nm qi newId bmB C f) (hz : Zc cls d oe) (hf : ∃ vs, oe.data = .fields vs) (he : PE (X.suite a ((a, oe) :: pn)) e te)
    (hb : attributeBase e "wanted" X.env (eval e X.env) = eval e X.env := by rfl) :
    PE (X.suite a ((a, oe) :: pn)) (.Attribute e "wanted" pos) (tOfErr C a cls d te) := by
  refine ⟨fun pins s σ H Q I h => attr_of hb (thn (he.run pins s σ H _ I h) fun u s1 hh => ?_)⟩
  obtain ⟨x, H1, I1, rx, rfl, rfl, dd, v, rfl, ea, q⟩ := hh
  obtain rfl : u = Value.ref a := rx
  obtain ⟨vs, dt⟩ := hf
  obtain ⟨at_, _⟩ := I1.pin (a, oe) (List.mem_append_left _ List.mem_cons_self)
  obtain ⟨mA, hns, hr⟩ := (show ObjOk X.prog X.w H1 s1.heap dd (.xd [(("wanted" : Str), v)]) from I1.hok dd _ ea)
  obtain ⟨od, ho, hl⟩ := lookIn_ns hns
  obtain ⟨u, hu, ru⟩ := RelO.some_of (v := v) (o := mA "wanted") (by
    rw [← (show List.lookup ("wanted" : Str) [(("wanted" : Str), v)] = some v by simp [List.lookup])]
    exact hr "wanted")
  have J : InstAt s1.heap a oe C (some od) := ⟨at_, hz.1, by unfold notCls; rw [dt] <;> rfl, by rw [hz.2]; exact ho⟩
  exact HandSPX.exc_get I1.kIn J T.ga T.gg T.sub (findObj_own T.hd T.no rfl (by rw [hl, hu])) (handed_of ru) ⟨v, H1, I1.tok _, ru, q⟩
end
end L2.My.Own_wanted
/-! an own error class over any of the eleven built-in bases, whose __init__(self, limit) keeps it -/
namespace L2.My.Own_limit
open PySem PySem.Spec PyProof.Rows PySem.W PySem.Calls L2 L2.My
def initArgs (p q : Pos) : Arguments :=
  { posonlyargs := [], args := [⟨"self", none, p⟩, ⟨"limit", none, q⟩], vararg := none, kwonlyargs := [], kw_defaults := [], kwarg := none, defaults := [] }
def initBody (a b c d : Pos) : List Stmt := [.Assign [.Attribute (.Name "self" a) "limit" b] (.Name "limit" c) d]
def initScope : Scope :=
  { kind := .function, names := [(Str.ofString "self", .local), (Str.ofString "limit", .local)], isGenerator := false, isCoroutine := false, more := [] }
/-- what the top's written part says of the class (at C, called nm in the module) and of its __init__ (at f) -/
structure ErrCls (K : Frag) (mg : Str → Option Value) (nm : Str) (qi : Str) (newId : String) (bmB : List Value) (C f : Addr) : Prop where
  gl : mg nm = some (.ref C)
  cl : ∃ n q N bs bm sn sub ab col dd k0 k1 k2 k3 k5, K.lookup C = some (excClassObj n q C N bs bm true sn sub ab col dd k0 k1 k2 k3 k5 newId) ∧ excTail bmB bm = true
  sa : findIn K (.ref C) "__setattr__" = some (some (.builtin "object.__setattr__"))
  ga : findIn K (.ref C) "__getattribute__" = some (some (.builtin "BaseException.__getattribute__"))
  gg : findIn K (.ref C) "__getattr__" = some none
  no : findIn K (.ref C) "limit" = some none
  ini : findIn K (.ref C) "__init__" = some (some (.ref f))
  tf : typeIn K (.ref f) = some (.type "function")
  kp : keepIn K (.ref C) = true
  sub : subIn K (.ref C) (.type "BaseException") = some true
  ty : typeIn K (.ref C) = some (.type "type")
  hd : hasDictIn K C = true
  fn : ∃ (oc : Value) (od : Option Addr) (doc pm : Value) (an : Option Addr) (cd ct : Value) (sl : Array (Option Value)) (p q a b c d : Pos),
    K.lookup f = some ⟨oc, od, .func (fnOf "__init__" qi (initArgs p q) (initBody a b c d) initScope .none .none doc pm an cd ct), sl⟩ ∧ codeIn K cd qi = true
section
variable {prog : Program} {w : World} {A : Around} {E : Value → Shared → Prop} {R : Result → Shared → Prop} {s : Shared} {K : Frag} {mg : Str → Option Value}
variable {nm qi : Str} {B BN newId initId : String} {bmB bmN : List Value} {C f : Addr}
theorem ErrCls.cls (T : ErrCls K mg nm qi newId bmB C f) : ∃ cd bm, clsIn K C = some cd ∧ cd.mro = .ref C :: bm ∧ excTail bmB bm = true ∧ cd.hasDict = true := by
  obtain ⟨n, q, N, bs, bm, sn, sub, ab, col, dd, k0, k1, k2, k3, k5, h, t⟩ := T.cl
  refine ⟨{ name := n, bases := bs, mro := .ref C :: bm, ns := N, qualname := q, hasDict := true, slotNames := sn, subclasses := sub, abstract := ab, collection := col, hasDel := false }, bm, ?_, rfl, t, rfl⟩
  unfold clsIn
  rw [h] <;> rfl
theorem ErrCls.over (T : ErrCls K mg nm qi newId bmB C f) : excOver K C bmB = true := by
  obtain ⟨cd, bm, h, m, t, _⟩ := T.cls
  unfold excOver
  rw [h]
  simp [m, t]
theorem ErrCls.taker (T : ErrCls K mg nm qi newId bmB C f) : takerIn K C "limit" = some none := by
  unfold takerIn
  rw [T.no]
  rfl
/-- the first field of a fresh exception at x -/
theorem first_field (SF : StoreFacts B bmB "object.__setattr__" "object") (T : ErrCls K mg nm qi newId bmB C f) {x t0 : Addr} {tk : Tok} {v : Value} (X : K.In s.heap) (hx : s.heap.get? x = some (HandSPX.excO C t0))
    (hq : ∀ h' tk' dx, (∀ b o, b ≠ x → s.heap.get? b = some o → h'.get? b = some o) → s.heap.objs.size ≤ dx → dx ≠ x →
      h'.get? x = some { cls := .ref C, dict := some dx, data := .fields #[.ref t0, .none, .none, .none, .bool false, .none] } →
      h'.Ns1 dx (fun y => if y = "limit" then some v else none) → R (.ok (.ret .none)) { s with heap := h', toks := tk' }) :
    codeAny (model prog w) A (.call (.builtin "object.__setattr__") ⟨[.ref x, .str "limit" tk, v], []⟩) R s := by
  obtain ⟨cd, bm, hcd, _, _, dic⟩ := T.cls
  have I : InstAt s.heap x (HandSPX.excO C t0) C none := ⟨hx, rfl, rfl, trivial⟩
  have far : x ≠ s.heap.objs.size := Nat.ne_of_lt (Heap.lt_size hx)
  refine osa_openX SF X I T.over T.taker fun b => ?_
  have Lc : Looks (model prog w) s.heap (classData C) cd := looks_clsIn X hcd
  obtain ⟨hp, g, d, t, os⟩ := s
  obtain ⟨n1, bs1, mro1, ns1, q1, hd1, sn1, sb1, ab1, co1, del1⟩ := cd
  dsimp only at dic
  subst dic
  dsimp only at hx far
  unfold Builtin.ObjectAttr.storeInOwnDict Builtin.ObjectAttr.ownDictForStores
  repeat (first | with_reducible refine HandSPX.store_in_new ?_ ?_ | with_reducible refine wpAny_loadPart_at hx ?_ | with_reducible refine Lc.at ?_ | wp_step)
  · exact ⟨_, #[], _, (Heap.get?_update_ne _ _ _ _ far.symm).trans (Heap.get?_push_at rfl rfl), rfl, fun e he => absurd he (by simp), fun _ => rfl⟩
  · intro h' tk' hn sb
    have hx1 : (hp.push { cls := .type "dict", data := .dict #[] }).get? x = some (HandSPX.excO C t0) := Heap.get?_push_of_some _ hx
    refine hq h' tk' hp.objs.size ?_ (Nat.le_refl _) far.symm ((sb.2 x far).trans (Heap.get?_update_self _ hx1 rfl)) hn
    intro b o nb e
    exact (sb.2 b (Nat.ne_of_lt (Heap.lt_size e))).trans ((Heap.get?_update_ne _ _ _ _ nb).trans (Heap.get?_push_of_some _ e))
theorem own_name {M : Model} {scope : Scope} {name x : Str} {L a : Addr} {cd v : Value} {m : Str → Option Value} {pos : Pos} {Q : Value → Shared → Prop}
    (hn : s.heap.Ns L m) (hv : m x = some v) (h : Q v s) (k1 : scope.kind = .function := by rfl) (k2 : (envOfC name scope L a cd).kindOf x = some .local := by rfl) (k3 : (x == ("__debug__" : Str)) = false := by decide) :
    wpAny M A (eval (.Name x pos) (envOfC name scope L a cd)) Q E s := wpAny_Name (wpAny_loadName_local k1 k2 hn hv h) k3
/-- what __init__ leaves of a fresh exception at x -/
structure Kept (h h' : Heap) (x C dx t : Addr) (v : Value) : Prop where
  old : ∀ b o, b ≠ x → h.get? b = some o → h'.get? b = some o
  me : h'.get? x = some { cls := .ref C, dict := some dx, data := .fields #[.ref t, .none, .none, .none, .bool false, .none] }
  far : h.objs.size ≤ dx
  ne : dx ≠ x
  ns : h'.Ns1 dx (fun y => if y = "limit" then some v else none)
theorem ErrCls.init (SF : StoreFacts B bmB "object.__setattr__" "object") (T : ErrCls K mg nm qi newId bmB C f) {x t0 : Addr} {v : Value} (X : K.In s.heap) (lim : s.heap.NoLimit) (hx : s.heap.get? x = some (HandSPX.excO C t0))
    (room : A.depth < recursionLimit) (hq : ∀ h' tk dx, Kept s.heap h' x C dx t0 v → R (.ok (.ret .none)) { s with heap := h', toks := tk }) :
    codeAny (model prog w) A (.call (.ref f) ⟨[.ref x, v], []⟩) R s := by
  obtain ⟨oc, od, doc, pm, an, cd, ct, sl, p, q, a, b, c, d, lf, hcd⟩ := T.fn
  refine Att.call_fn (binds := [("self", .ref x), ("limit", v)]) X lim lf hcd room (BindsTo.of_eq (by first | rfl | with_unfolding_all rfl)) (by first | rfl | decide | with_unfolding_all rfl) (fun s1 IC => ?_) rfl rfl rfl
  obtain ⟨h1, tk1, rfl⟩ := IC.toInCall.same
  have old : ∀ b o, s.heap.get? b = some o → h1.get? b = some o := IC.toInCall.keep
  have ns := IC.toInCall.ns
  have hx1 := old _ _ hx
  have X1 : K.In h1 := X.keeps old
  show wpAny _ _ (execs _ _) _ _ _
  refine wpAny_execs_cons (plainObj_wpAny_Assign_Attribute (own_name (v := v) ns (by first | rfl | with_unfolding_all rfl | kernel_rfl) (own_name (v := .ref x) ns (by first | rfl | with_unfolding_all rfl | kernel_rfl) ?_)))
  refine set_plain X1 (ox := HandSPX.excO C t0) (od := none) ⟨hx1, rfl, rfl, trivial⟩ T.sa (first_field SF T X1 hx1 fun h2 tk2 dx k2 far ne me n2 => ?_)
  show wpAny _ _ (execs _ _) _ _ _
  have more : s.heap.objs.size < h1.objs.size := ns.lt
  exact wpAny_execs_nil (hq h2 tk2 dx ⟨fun b o nb e => k2 b o nb (old b o e), me, Nat.le_of_lt (Nat.lt_of_lt_of_le more far), ne, n2⟩)
/-- a made error -/
structure Made (h h' : Heap) (e C d : Addr) (v : Value) : Prop where
  old : ∀ b o, h.get? b = some o → h'.get? b = some o
  new : h.objs.size ≤ e
  me : ∃ oe vs, h'.get? e = some oe ∧ oe.cls = .ref C ∧ oe.dict = some d ∧ oe.data = .fields vs ∧ vs[1]? = some .none
  far : h.objs.size ≤ d
  ne : d ≠ e
  ns : h'.Ns1 d (fun y => if y = "limit" then some v else none)
theorem ErrCls.make (FB : ExcBaseFacts BN newId initId bmN) (UB : Above BN bmB) (SF : StoreFacts B bmB "object.__setattr__" "object") (T : ErrCls K mg nm qi newId bmB C f) {v : Value} (X : K.In s.heap) (lim : s.heap.NoLimit) (room : A.depth + 1 < recursionLimit)
    (hq : ∀ h' tk e d, Made s.heap h' e C d v → R (.ok (.ret (.ref e))) { s with heap := h', toks := tk }) :
    codeAny (model prog w) A (.call (.ref C) ⟨[v], []⟩) R s := by
  obtain ⟨n, q, N, bs, bm, sn, sub, ab, col, dd, k0, k1, k2, k3, k5, lc, tl⟩ := T.cl
  obtain ⟨hp, g, dr, tk, os⟩ := s
  obtain ⟨hp2, ehp2⟩ : ∃ h2, h2 = (hp.push (kdv_tup [v])).push (HandSPX.excO C hp.objs.size) := ⟨_, rfl⟩
  have old : ∀ b o, hp.get? b = some o → hp2.get? b = some o := fun b o e => by
    rw [ehp2]
    exact Heap.get?_push_of_some _ (Heap.get?_push_of_some _ e)
  have me : hp2.get? (hp.objs.size + 1) = some (HandSPX.excO C hp.objs.size) := by rw [ehp2]; heap_get
  have z2 : hp2.objs.size = hp.objs.size + 1 + 1 := by rw [ehp2, Heap.size_push, Heap.size_push]
  refine callMade FB (UB.tail tl) (X _ _ lc) (looks_findIn X T.ini) (fun self => bind_fn X self T.tf) (by rw [sizeLine_eq]; exact (by decide : 1 ≤ 16777216)) ?_
  rw [← ehp2]
  refine ErrCls.init (s := ⟨hp2, g, dr, tk, os⟩) SF T (X.keeps old) (lim.keeps old) me room fun h' tk' dx k => ?_
  have o2 : ∀ b o, hp.get? b = some o → h'.get? b = some o := fun b o e =>
    k.old b o (Nat.ne_of_lt (Nat.lt_succ_of_lt (Heap.lt_size e))) (old b o e)
  have far := k.far
  dsimp only at far
  rw [z2] at far
  exact ⟨rfl, hq h' tk' _ dx ⟨o2, Nat.le_succ _, ⟨_, _, k.me, rfl, rfl, rfl, rfl⟩, Nat.le_trans (Nat.le_trans (Nat.le_succ _) (Nat.le_succ _)) far, k.ne, k.ns⟩⟩
end
theorem rel_value {v : V} {u : Value} (r : RelV v u) (g : Str) : RelO (List.lookup g [(("limit" : Str), v)]) (if g = "limit" then some u else none) := by
  by_cases e : g = "limit"
  · rw [if_pos e, e, show List.lookup ("limit" : Str) [(("limit" : Str), v)] = some v by simp [List.lookup]]
    exact r
  · have e2 : (g == ("limit" : Str)) = false := by simpa using e
    rw [if_neg e, show List.lookup g [(("limit" : Str), v)] = none by simp [List.lookup, e2]]
    trivial
section
variable {X : Cx} {nm qi : Str} {B BN newId initId : String} {bmB bmN : List Value} {C f : Addr}
/-- C(e) as what is raised: its own dict d is new and holds value -/
def tErr (C : Addr) (ta : TA) : L2.St → Hp → XK → Prop := fun σ H Q => ta σ H fun vs H1 => ∃ v, vs = [v] ∧ ∀ d, H1 d = none → Q (.ref C) (some d) (upd H1 d (.xd [(("limit" : Str), v)]))
theorem pmk_err {a : Expr} {ta : TA} {p pos : Pos} {k : Nat} (FB : ExcBaseFacts BN newId initId bmN) (UB : Above BN bmB) (SF : StoreFacts B bmB "object.__setattr__" "object") (T : ErrCls X.K X.mg nm qi newId bmB C f) (hr : Room k X.A) (ha : PA X [a] ta) (hg : Gl X nm)
    (hdb : (nm == ("__debug__" : Str)) = false := by decide)
    (he : starEach (a :: []) X.env = (false, eval a X.env) :: starEach [] X.env := by rfl) (hpl : (backTo pos (starEach [] X.env)).any (·.1) = false := by rfl) :
    PMk X (.Call (.Name nm p) [a] [] pos) (tErr C ta) := by
  intro pins s σ H Q I h
  refine wpAny_Call_Name_kw (ld_glob I hg T.gl (callWith_K (h₀ := X.base) I.ok.mod.kin T.kp (thn (ha.run pos pins s σ H _ I h) fun us s1 hh => ?_) he hpl) hdb)
  obtain ⟨vs, H1, I1, r1, v, rfl, q1⟩ := hh
  refine ⟨I1.kIn, ?_⟩
  obtain ⟨u, rfl, rv⟩ : ∃ u, us = [u] ∧ RelV v u := by
    cases r1 with
    | cons ru rn =>
      cases rn
      exact ⟨_, rfl, ru⟩
  show wpAny _ _ (call (.ref C) [u]) _ _ _
  have lim := I1.nolimit
  obtain ⟨hp, g, dr, tk, os⟩ := s1
  refine wpAny_call (ErrCls.make FB UB SF T I1.kIn lim (by have := hr.dp; omega) fun h' tk' e d M => ?_)
  show MkP X pins σ Q (.ref e) ⟨h', g, dr, tk', os⟩
  obtain ⟨oe, fv, eo, ec, ed, dt, e1⟩ := M.me
  obtain ⟨G, g1, g2⟩ := restrict h' fun b => decide (b ≠ e)
  have same : ∀ b, b ≠ e → G.get? b = h'.get? b := fun b nb => g1 b (decide_eq_true nb)
  have gone : G.get? e = none := g2 e (by simp)
  have old : ∀ b o, hp.get? b = some o → G.get? b = some o := fun b o z =>
    (same b (Nat.ne_of_lt (Nat.lt_of_lt_of_le (Heap.lt_size z) M.new))).trans (M.old b o z)
  have fresh : H1 e = none := I1.hok.fresh M.new
  have there : ObjOk X.prog X.w (upd H1 d (.xd [(("limit" : Str), v)])) G d (.xd [(("limit" : Str), v)]) :=
    ⟨_, M.ns.at (fun o z => (same d M.ne).trans z), rel_value rv⟩
  have J : Inv X pins σ (upd H1 d (.xd [(("limit" : Str), v)])) ⟨G, g, dr, tk', os⟩ := I1.laid (t' := tk') old M.far there
  refine ⟨e, oe, fv, ⟨G, g, dr, tk', os⟩, _, .ref C, some d, rfl, J, ?_, gone, eo, ⟨ec, ed⟩, dt, e1, ?_, rfl, I1.bare, raises_own T.sub T.ty, q1 d (I1.hok.fresh M.far)⟩
  · intro b o z
    have nb : b ≠ e := by
      rintro rfl
      have z' : G.get? b = some o := z
      rw [gone] at z'
      cases z'
    exact (same b nb).symm.trans z
  · rw [upd_ne (Ne.symm M.ne)]
    exact fresh
def tRaiseErr (C : Addr) (W : WX) (ta : TA) : TS := fun _ σ H => tErr C ta σ H fun c d H' => W c d σ H'
theorem ps_raiseErr {a : Expr} {ta : TA} {W : WX} {p pos pos2 : Pos} {k : Nat} (FB : ExcBaseFacts BN newId initId bmN) (UB : Above BN bmB) (SF : StoreFacts B bmB "object.__setattr__" "object") (hc : X.calm = true) (T : ErrCls X.K X.mg nm qi newId bmB C f) (hr : Room k X.A) (tk : Takes X W) (ha : PA X [a] ta) (hg : Gl X nm)
    (hdb : (nm == ("__debug__" : Str)) = false := by decide)
    (he : starEach (a :: []) X.env = (false, eval a X.env) :: starEach [] X.env := by rfl) (hpl : (backTo pos (starEach [] X.env)).any (·.1) = false := by rfl) :
    PS X (.Raise (some (.Call (.Name nm p) [a] [] pos)) none pos2) (tRaiseErr C W ta) := ps_raise hc tk (pmk_err FB UB SF T hr ha hg hdb he hpl)
/-- C(e) as a value -/
def tNew (C : Addr) (ta : TA) : TE := fun σ H Q => ta σ H fun vs H1 => ∃ v, vs = [v] ∧ ∀ d e, H1 d = none → H1 e = none → d ≠ e → Q (.ref e) (upd (upd H1 d (.xd [(("limit" : Str), v)])) e (Exv C d e))
theorem pe_new {a : Expr} {ta : TA} {p pos : Pos} {k : Nat} (FB : ExcBaseFacts BN newId initId bmN) (UB : Above BN bmB) (SF : StoreFacts B bmB "object.__setattr__" "object") (T : ErrCls X.K X.mg nm qi newId bmB C f) (hr : Room k X.A) (ha : PA X [a] ta) (hg : Gl X nm)
    (hdb : (nm == ("__debug__" : Str)) = false := by decide)
    (he : starEach (a :: []) X.env = (false, eval a X.env) :: starEach [] X.env := by rfl) (hpl : (backTo pos (starEach [] X.env)).any (·.1) = false := by rfl) :
    PE X (.Call (.Name nm p) [a] [] pos) (tNew C ta) := by
  refine ⟨fun pins s σ H Q I h => ?_⟩
  refine wpAny_Call_Name_kw (ld_glob I hg T.gl (callWith_K (h₀ := X.base) I.ok.mod.kin T.kp (thn (ha.run pos pins s σ H _ I h) fun us s1 hh => ?_) he hpl) hdb)
  obtain ⟨vs, H1, I1, r1, v, rfl, q1⟩ := hh
  refine ⟨I1.kIn, ?_⟩
  obtain ⟨u, rfl, rv⟩ : ∃ u, us = [u] ∧ RelV v u := by
    cases r1 with
    | cons ru rn =>
      cases rn
      exact ⟨_, rfl, ru⟩
  show wpAny _ _ (call (.ref C) [u]) _ _ _
  have lim := I1.nolimit
  obtain ⟨hp, g, dr, tk, os⟩ := s1
  refine wpAny_call (ErrCls.make FB UB SF T I1.kIn lim (by have := hr.dp; omega) fun h' tk' e d M => ?_)
  obtain ⟨oe, fv, eo, ec, ed, dt, e1⟩ := M.me
  obtain ⟨G, g1, g2⟩ := restrict h' fun b => decide (b ≠ e)
  have same : ∀ b, b ≠ e → G.get? b = h'.get? b := fun b nb => g1 b (decide_eq_true nb)
  have gone : G.get? e = none := g2 e (by simp)
  have old : ∀ b o, hp.get? b = some o → G.get? b = some o := fun b o z =>
    (same b (Nat.ne_of_lt (Nat.lt_of_lt_of_le (Heap.lt_size z) M.new))).trans (M.old b o z)
  have fresh : H1 e = none := I1.hok.fresh M.new
  have there : ObjOk X.prog X.w (upd H1 d (.xd [(("limit" : Str), v)])) G d (.xd [(("limit" : Str), v)]) :=
    ⟨_, M.ns.at (fun o z => (same d M.ne).trans z), rel_value rv⟩
  have J : Inv X pins σ (upd H1 d (.xd [(("limit" : Str), v)])) ⟨G, g, dr, tk', os⟩ := I1.laid (t' := tk') old M.far there
  have fe : (upd H1 d (.xd [(("limit" : Str), v)])) e = none := by
    rw [upd_ne (Ne.symm M.ne)]
    exact fresh
  have k2 : ∀ b o, G.get? b = some o → h'.get? b = some o := fun b o z => by
    have nb : b ≠ e := by
      rintro rfl
      rw [gone] at z
      cases z
    exact (same b nb).symm.trans z
  exact ⟨.ref e, _, J.laidN (t' := tk') k2 gone fe (exv_ok eo ⟨ec, ed⟩ dt), rfl, q1 d e (I1.hok.fresh M.far) fresh M.ne⟩
/-- error.value in the suite of such an error -/
def tOfErr (C a : Addr) (cls : Value) (d : Option Addr) (te : TE) : TE := fun σ H Q => te σ H fun x H1 => x = .ref a ∧ cls = .ref C ∧ ∃ (dd : Addr) (v : V), d = some dd ∧ H1 dd = some (.xd [(("limit" : Str), v)]) ∧ Q v H1
theorem pe_ofErr {a : Addr} {oe : Obj} {cls : Value} {d : Option Addr} {pn : List (Addr × Obj)} {e : Expr} {te : TE} {pos : Pos} (T : ErrCls X.K X.mg nm qi newId bmB C f) (hz : Zc cls d oe) (hf : ∃ vs, oe.data = .fields vs) (he : PE (X.suite a ((a, oe) :: pn)) e te)
    (hb : attributeBase e "limit" X.env (eval e X.env) = eval e X.env := by rfl) :
    PE (X.suite a ((a, oe) :: pn)) (.Attribute e "limit" pos) (tOfErr C a cls d te) := by
  refine ⟨fun pins s σ H Q I h => attr_of hb (thn (he.run pins s σ H _ I h) fun u s1 hh => ?_)⟩
  obtain ⟨x, H1, I1, rx, rfl, rfl, dd, v, rfl, ea, q⟩ := hh
  obtain rfl : u = Value.ref a := rx
  obtain ⟨vs, dt⟩ := hf
  obtain ⟨at_, _⟩ := I1.pin (a, oe) (List.mem_append_left _ List.mem_cons_self)
  obtain ⟨mA, hns, hr⟩ := (show ObjOk X.prog X.w H1 s1.heap dd (.xd [(("limit" : Str), v)]) from I1.hok dd _ ea)
  obtain ⟨od, ho, hl⟩ := lookIn_ns hns
  obtain ⟨u, hu, ru⟩ := RelO.some_of (v := v) (o := mA "limit") (by
    rw [← (show List.lookup ("limit" : Str) [(("limit" : Str), v)] = some v by simp [List.lookup])]
    exact hr "limit")
  have J : InstAt s1.heap a oe C (some od) := ⟨at_, hz.1, by unfold notCls; rw [dt] <;> rfl, by rw [hz.2]; exact ho⟩
  exact HandSPX.exc_get I1.kIn J T.ga T.gg T.sub (findObj_own T.hd T.no rfl (by rw [hl, hu])) (handed_of ru) ⟨v, H1, I1.tok _, ru, q⟩
end
end L2.My.Own_limit
/-! an own error class over any of the eleven built-in bases, whose __init__(self, many) keeps it -/
namespace L2.My.Own_many
open PySem PySem.Spec PyProof.Rows PySem.W PySem.Calls L2 L2.My
def initArgs (p q : Pos) : Arguments :=
  { posonlyargs := [], args := [⟨"self", none, p⟩, ⟨"many", none, q⟩], vararg := none, kwonlyargs := [], kw_defaults := [], kwarg := none, defaults := [] }
def initBody (a b c d : Pos) : List Stmt := [.Assign [.Attribute (.Name "self" a) "many" b] (.Name "many" c) d]
def initScope : Scope :=
  { kind := .function, names := [(Str.ofString "self", .local), (Str.ofString "many", .local)], isGenerator := false, isCoroutine := false, more := [] }
/-- what the top's written part says of the class (at C, called nm in the module) and of its __init__ (at f) -/
structure ErrCls (K : Frag) (mg : Str → Option Value) (nm : Str) (qi : Str) (newId : String) (bmB : List Value) (C f : Addr) : Prop where
  gl : mg nm = some (.ref C)
  cl : ∃ n q N bs bm sn sub ab col dd k0 k1 k2 k3 k5, K.lookup C = some (excClassObj n q C N bs bm true sn sub ab col dd k0 k1 k2 k3 k5 newId) ∧ excTail bmB bm = true
  sa : findIn K (.ref C) "__setattr__" = some (some (.builtin "object.__setattr__"))
  ga : findIn K (.ref C) "__getattribute__" = some (some (.builtin "BaseException.__getattribute__"))
  gg : findIn K (.ref C) "__getattr__" = some none
  no : findIn K (.ref C) "many" = some none
  ini : findIn K (.ref C) "__init__" = some (some (.ref f))
  tf : typeIn K (.ref f) = some (.type "function")
  kp : keepIn K (.ref C) = true
  sub : subIn K (.ref C) (.type "BaseException") = some true
  ty : typeIn K (.ref C) = some (.type "type")
  hd : hasDictIn K C = true
  fn : ∃ (oc : Value) (od : Option Addr) (doc pm : Value) (an : Option Addr) (cd ct : Value) (sl : Array (Option Value)) (p q a b c d : Pos),
    K.lookup f = some ⟨oc, od, .func (fnOf "__init__" qi (initArgs p q) (initBody a b c d) initScope .none .none doc pm an cd ct), sl⟩ ∧ codeIn K cd qi = true
section
variable {prog : Program} {w : World} {A : Around} {E : Value → Shared → Prop} {R : Result → Shared → Prop} {s : Shared} {K : Frag} {mg : Str → Option Value}
variable {nm qi : Str} {B BN newId initId : String} {bmB bmN : List Value} {C f : Addr}
theorem ErrCls.cls (T : ErrCls K mg nm qi newId bmB C f) : ∃ cd bm, clsIn K C = some cd ∧ cd.mro = .ref C :: bm ∧ excTail bmB bm = true ∧ cd.hasDict = true := by
  obtain ⟨n, q, N, bs, bm, sn, sub, ab, col, dd, k0, k1, k2, k3, k5, h, t⟩ := T.cl
  refine ⟨{ name := n, bases := bs, mro := .ref C :: bm, ns := N, qualname := q, hasDict := true, slotNames := sn, subclasses := sub, abstract := ab, collection := col, hasDel := false }, bm, ?_, rfl, t, rfl⟩
  unfold clsIn
  rw [h] <;> rfl
theorem ErrCls.over (T : ErrCls K mg nm qi newId bmB C f) : excOver K C bmB = true := by
  obtain ⟨cd, bm, h, m, t, _⟩ := T.cls
  unfold excOver
  rw [h]
  simp [m, t]
theorem ErrCls.taker (T : ErrCls K mg nm qi newId bmB C f) : takerIn K C "many" = some none := by
  unfold takerIn
  rw [T.no]
  rfl
/-- the first field of a fresh exception at x -/
theorem first_field (SF : StoreFacts B bmB "object.__setattr__" "object") (T : ErrCls K mg nm qi newId bmB C f) {x t0 : Addr} {tk : Tok} {v : Value} (X : K.In s.heap) (hx : s.heap.get? x = some (HandSPX.excO C t0))
    (hq : ∀ h' tk' dx, (∀ b o, b ≠ x → s.heap.get? b = some o → h'.get? b = some o) → s.heap.objs.size ≤ dx → dx ≠ x →
      h'.get? x = some { cls := .ref C, dict := some dx, data := .fields #[.ref t0, .none, .none, .none, .bool false, .none] } →
      h'.Ns1 dx (fun y => if y = "many" then some v else none) → R (.ok (.ret .none)) { s with heap := h', toks := tk' }) :
    codeAny (model prog w) A (.call (.builtin "object.__setattr__") ⟨[.ref x, .str "many" tk, v], []⟩) R s := by
  obtain ⟨cd, bm, hcd, _, _, dic⟩ := T.cls
  have I : InstAt s.heap x (HandSPX.excO C t0) C none := ⟨hx, rfl, rfl, trivial⟩
  have far : x ≠ s.heap.objs.size := Nat.ne_of_lt (Heap.lt_size hx)
  refine osa_openX SF X I T.over T.taker fun b => ?_
  have Lc : Looks (model prog w) s.heap (classData C) cd := looks_clsIn X hcd
  obtain ⟨hp, g, d, t, os⟩ := s
  obtain ⟨n1, bs1, mro1, ns1, q1, hd1, sn1, sb1, ab1, co1, del1⟩ := cd
  dsimp only at dic
  subst dic
  dsimp only at hx far
  unfold Builtin.ObjectAttr.storeInOwnDict Builtin.ObjectAttr.ownDictForStores
  repeat (first | with_reducible refine HandSPX.store_in_new ?_ ?_ | with_reducible refine wpAny_loadPart_at hx ?_ | with_reducible refine Lc.at ?_ | wp_step)
  · exact ⟨_, #[], _, (Heap.get?_update_ne _ _ _ _ far.symm).trans (Heap.get?_push_at rfl rfl), rfl, fun e he => absurd he (by simp), fun _ => rfl⟩
  · intro h' tk' hn sb
    have hx1 : (hp.push { cls := .type "dict", data := .dict #[] }).get? x = some (HandSPX.excO C t0) := Heap.get?_push_of_some _ hx
    refine hq h' tk' hp.objs.size ?_ (Nat.le_refl _) far.symm ((sb.2 x far).trans (Heap.get?_update_self _ hx1 rfl)) hn
    intro b o nb e
    exact (sb.2 b (Nat.ne_of_lt (Heap.lt_size e))).trans ((Heap.get?_update_ne _ _ _ _ nb).trans (Heap.get?_push_of_some _ e))
theorem own_name {M : Model} {scope : Scope} {name x : Str} {L a : Addr} {cd v : Value} {m : Str → Option Value} {pos : Pos} {Q : Value → Shared → Prop}
    (hn : s.heap.Ns L m) (hv : m x = some v) (h : Q v s) (k1 : scope.kind = .function := by rfl) (k2 : (envOfC name scope L a cd).kindOf x = some .local := by rfl) (k3 : (x == ("__debug__" : Str)) = false := by decide) :
    wpAny M A (eval (.Name x pos) (envOfC name scope L a cd)) Q E s := wpAny_Name (wpAny_loadName_local k1 k2 hn hv h) k3
/-- what __init__ leaves of a fresh exception at x -/
structure Kept (h h' : Heap) (x C dx t : Addr) (v : Value) : Prop where
  old : ∀ b o, b ≠ x → h.get? b = some o → h'.get? b = some o
  me : h'.get? x = some { cls := .ref C, dict := some dx, data := .fields #[.ref t, .none, .none, .none, .bool false, .none] }
  far : h.objs.size ≤ dx
  ne : dx ≠ x
  ns : h'.Ns1 dx (fun y => if y = "many" then some v else none)
theorem ErrCls.init (SF : StoreFacts B bmB "object.__setattr__" "object") (T : ErrCls K mg nm qi newId bmB C f) {x t0 : Addr} {v : Value} (X : K.In s.heap) (lim : s.heap.NoLimit) (hx : s.heap.get? x = some (HandSPX.excO C t0))
    (room : A.depth < recursionLimit) (hq : ∀ h' tk dx, Kept s.heap h' x C dx t0 v → R (.ok (.ret .none)) { s with heap := h', toks := tk }) :
    codeAny (model prog w) A (.call (.ref f) ⟨[.ref x, v], []⟩) R s := by
  obtain ⟨oc, od, doc, pm, an, cd, ct, sl, p, q, a, b, c, d, lf, hcd⟩ := T.fn
  refine Att.call_fn (binds := [("self", .ref x), ("many", v)]) X lim lf hcd room (BindsTo.of_eq (by first | rfl | with_unfolding_all rfl)) (by first | rfl | decide | with_unfolding_all rfl) (fun s1 IC => ?_) rfl rfl rfl
  obtain ⟨h1, tk1, rfl⟩ := IC.toInCall.same
  have old : ∀ b o, s.heap.get? b = some o → h1.get? b = some o := IC.toInCall.keep
  have ns := IC.toInCall.ns
  have hx1 := old _ _ hx
  have X1 : K.In h1 := X.keeps old
  show wpAny _ _ (execs _ _) _ _ _
  refine wpAny_execs_cons (plainObj_wpAny_Assign_Attribute (own_name (v := v) ns (by first | rfl | with_unfolding_all rfl | kernel_rfl) (own_name (v := .ref x) ns (by first | rfl | with_unfolding_all rfl | kernel_rfl) ?_)))
  refine set_plain X1 (ox := HandSPX.excO C t0) (od := none) ⟨hx1, rfl, rfl, trivial⟩ T.sa (first_field SF T X1 hx1 fun h2 tk2 dx k2 far ne me n2 => ?_)
  show wpAny _ _ (execs _ _) _ _ _
  have more : s.heap.objs.size < h1.objs.size := ns.lt
  exact wpAny_execs_nil (hq h2 tk2 dx ⟨fun b o nb e => k2 b o nb (old b o e), me, Nat.le_of_lt (Nat.lt_of_lt_of_le more far), ne, n2⟩)
/-- a made error -/
structure Made (h h' : Heap) (e C d : Addr) (v : Value) : Prop where
  old : ∀ b o, h.get? b = some o → h'.get? b = some o
  new : h.objs.size ≤ e
  me : ∃ oe vs, h'.get? e = some oe ∧ oe.cls = .ref C ∧ oe.dict = some d ∧ oe.data = .fields vs ∧ vs[1]? = some .none
  far : h.objs.size ≤ d
  ne : d ≠ e
  ns : h'.Ns1 d (fun y => if y = "many" then some v else none)
theorem ErrCls.make (FB : ExcBaseFacts BN newId initId bmN) (UB : Above BN bmB) (SF : StoreFacts B bmB "object.__setattr__" "object") (T : ErrCls K mg nm qi newId bmB C f) {v : Value} (X : K.In s.heap) (lim : s.heap.NoLimit) (room : A.depth + 1 < recursionLimit)
    (hq : ∀ h' tk e d, Made s.heap h' e C d v → R (.ok (.ret (.ref e))) { s with heap := h', toks := tk }) :
    codeAny (model prog w) A (.call (.ref C) ⟨[v], []⟩) R s := by
  obtain ⟨n, q, N, bs, bm, sn, sub, ab, col, dd, k0, k1, k2, k3, k5, lc, tl⟩ := T.cl
  obtain ⟨hp, g, dr, tk, os⟩ := s
  obtain ⟨hp2, ehp2⟩ : ∃ h2, h2 = (hp.push (kdv_tup [v])).push (HandSPX.excO C hp.objs.size) := ⟨_, rfl⟩
  have old : ∀ b o, hp.get? b = some o → hp2.get? b = some o := fun b o e => by
    rw [ehp2]
    exact Heap.get?_push_of_some _ (Heap.get?_push_of_some _ e)
  have me : hp2.get? (hp.objs.size + 1) = some (HandSPX.excO C hp.objs.size) := by rw [ehp2]; heap_get
  have z2 : hp2.objs.size = hp.objs.size + 1 + 1 := by rw [ehp2, Heap.size_push, Heap.size_push]
  refine callMade FB (UB.tail tl) (X _ _ lc) (looks_findIn X T.ini) (fun self => bind_fn X self T.tf) (by rw [sizeLine_eq]; exact (by decide : 1 ≤ 16777216)) ?_
  rw [← ehp2]
  refine ErrCls.init (s := ⟨hp2, g, dr, tk, os⟩) SF T (X.keeps old) (lim.keeps old) me room fun h' tk' dx k => ?_
  have o2 : ∀ b o, hp.get? b = some o → h'.get? b = some o := fun b o e =>
    k.old b o (Nat.ne_of_lt (Nat.lt_succ_of_lt (Heap.lt_size e))) (old b o e)
  have far := k.far
  dsimp only at far
  rw [z2] at far
  exact ⟨rfl, hq h' tk' _ dx ⟨o2, Nat.le_succ _, ⟨_, _, k.me, rfl, rfl, rfl, rfl⟩, Nat.le_trans (Nat.le_trans (Nat.le_succ _) (Nat.le_succ _)) far, k.ne, k.ns⟩⟩
end
theorem rel_value {v : V} {u : Value} (r : RelV v u) (g : Str) : RelO (List.lookup g [(("many" : Str), v)]) (if g = "many" then some u else none) := by
  by_cases e : g = "many"
  · rw [if_pos e, e, show List.lookup ("many" : Str) [(("many" : Str), v)] = some v by simp [List.lookup]]
    exact r
  · have e2 : (g == ("many" : Str)) = false := by simpa using e
    rw [if_neg e, show List.lookup g [(("many" : Str), v)] = none by simp [List.lookup, e2]]
    trivial
section
variable {X : Cx} {nm qi : Str} {B BN newId initId : String} {bmB bmN : List Value} {C f : Addr}
/-- C(e) as what is raised: its own dict d is new and holds value -/
def tErr (C : Addr) (ta : TA) : L2.St → Hp → XK → Prop := fun σ H Q => ta σ H fun vs H1 => ∃ v, vs = [v] ∧ ∀ d, H1 d = none → Q (.ref C) (some d) (upd H1 d (.xd [(("many" : Str), v)]))
theorem pmk_err {a : Expr} {ta : TA} {p pos : Pos} {k : Nat} (FB : ExcBaseFacts BN newId initId bmN) (UB : Above BN bmB) (SF : StoreFacts B bmB "object.__setattr__" "object") (T : ErrCls X.K X.mg nm qi newId bmB C f) (hr : Room k X.A) (ha : PA X [a] ta) (hg : Gl X nm)
    (hdb : (nm == ("__debug__" : Str)) = false := by decide)
    (he : starEach (a :: []) X.env = (false, eval a X.env) :: starEach [] X.env := by rfl) (hpl : (backTo pos (starEach [] X.env)).any (·.1) = false := by rfl) :
    PMk X (.Call (.Name nm p) [a] [] pos) (tErr C ta) := by
  intro pins s σ H Q I h
  refine wpAny_Call_Name_kw (ld_glob I hg T.gl (callWith_K (h₀ := X.base) I.ok.mod.kin T.kp (thn (ha.run pos pins s σ H _ I h) fun us s1 hh => ?_) he hpl) hdb)
  obtain ⟨vs, H1, I1, r1, v, rfl, q1⟩ := hh
  refine ⟨I1.kIn, ?_⟩
  obtain ⟨u, rfl, rv⟩ : ∃ u, us = [u] ∧ RelV v u := by
    cases r1 with
    | cons ru rn =>
      cases rn
      exact ⟨_, rfl, ru⟩
  show wpAny _ _ (call (.ref C) [u]) _ _ _
  have lim := I1.nolimit
  obtain ⟨hp, g, dr, tk, os⟩ := s1
  refine wpAny_call (ErrCls.make FB UB SF T I1.kIn lim (by have := hr.dp; omega) fun h' tk' e d M => ?_)
  show MkP X pins σ Q (.ref e) ⟨h', g, dr, tk', os⟩
  obtain ⟨oe, fv, eo, ec, ed, dt, e1⟩ := M.me
  obtain ⟨G, g1, g2⟩ := restrict h' fun b => decide (b ≠ e)
  have same : ∀ b, b ≠ e → G.get? b = h'.get? b := fun b nb => g1 b (decide_eq_true nb)
  have gone : G.get? e = none := g2 e (by simp)
  have old : ∀ b o, hp.get? b = some o → G.get? b = some o := fun b o z =>
    (same b (Nat.ne_of_lt (Nat.lt_of_lt_of_le (Heap.lt_size z) M.new))).trans (M.old b o z)
  have fresh : H1 e = none := I1.hok.fresh M.new
  have there : ObjOk X.prog X.w (upd H1 d (.xd [(("many" : Str), v)])) G d (.xd [(("many" : Str), v)]) :=
    ⟨_, M.ns.at (fun o z => (same d M.ne).trans z), rel_value rv⟩
  have J : Inv X pins σ (upd H1 d (.xd [(("many" : Str), v)])) ⟨G, g, dr, tk', os⟩ := I1.laid (t' := tk') old M.far there
  refine ⟨e, oe, fv, ⟨G, g, dr, tk', os⟩, _, .ref C, some d, rfl, J, ?_, gone, eo, ⟨ec, ed⟩, dt, e1, ?_, rfl, I1.bare, raises_own T.sub T.ty, q1 d (I1.hok.fresh M.far)⟩
  · intro b o z
    have nb : b ≠ e := by
      rintro rfl
      have z' : G.get? b = some o := z
      rw [gone] at z'
      cases z'
    exact (same b nb).symm.trans z
  · rw [upd_ne (Ne.symm M.ne)]
    exact fresh
def tRaiseErr (C : Addr) (W : WX) (ta : TA) : TS := fun _ σ H => tErr C ta σ H fun c d H' => W c d σ H'
theorem ps_raiseErr {a : Expr} {ta : TA} {W : WX} {p pos pos2 : Pos} {k : Nat} (FB : ExcBaseFacts BN newId initId bmN) (UB : Above BN bmB) (SF : StoreFacts B bmB "object.__setattr__" "object") (hc : X.calm = true) (T : ErrCls X.K X.mg nm qi newId bmB C f) (hr : Room k X.A) (tk : Takes X W) (ha : PA X [a] ta) (hg : Gl X nm)
    (hdb : (nm == ("__debug__" : Str)) = false := by decide)
    (he : starEach (a :: []) X.env = (false, eval a X.env) :: starEach [] X.env := by rfl) (hpl : (backTo pos (starEach [] X.env)).any (·.1) = false := by rfl) :
    PS X (.Raise (some (.Call (.Name nm p) [a] [] pos)) none pos2) (tRaiseErr C W ta) := ps_raise hc tk (pmk_err FB UB SF T hr ha hg hdb he hpl)
/-- C(e) as a value -/
def tNew (C : Addr) (ta : TA) : TE := fun σ H Q => ta σ H fun vs H1 => ∃ v, vs = [v] ∧ ∀ d e, H1 d = none → H1 e = none → d ≠ e → Q (.ref e) (upd (upd H1 d (.xd [(("many" : Str), v)])) e (Exv C d e))
theorem pe_new {a : Expr} {ta : TA} {p pos : Pos} {k : Nat} (FB : ExcBaseFacts BN newId initId bmN) (UB : Above BN bmB) (SF : StoreFacts B bmB "object.__setattr__" "object") (T : ErrCls X.K X.mg nm qi newId bmB C f) (hr : Room k X.A) (ha : PA X [a] ta) (hg : Gl X nm)
    (hdb : (nm == ("__debug__" : Str)) = false := by decide)
    (he : starEach (a :: []) X.env = (false, eval a X.env) :: starEach [] X.env := by rfl) (hpl : (backTo pos (starEach [] X.env)).any (·.1) = false := by rfl) :
    PE X (.Call (.Name nm p) [a] [] pos) (tNew C ta) := by
  refine ⟨fun pins s σ H Q I h => ?_⟩
  refine wpAny_Call_Name_kw (ld_glob I hg T.gl (callWith_K (h₀ := X.base) I.ok.mod.kin T.kp (thn (ha.run pos pins s σ H _ I h) fun us s1 hh => ?_) he hpl) hdb)
  obtain ⟨vs, H1, I1, r1, v, rfl, q1⟩ := hh
  refine ⟨I1.kIn, ?_⟩
  obtain ⟨u, rfl, rv⟩ : ∃ u, us = [u] ∧ RelV v u := by
    cases r1 with
    | cons ru rn =>
      cases rn
      exact ⟨_, rfl, ru⟩
  show wpAny _ _ (call (.ref C) [u]) _ _ _
  have lim := I1.nolimit
  obtain ⟨hp, g, dr, tk, os⟩ := s1
  refine wpAny_call (ErrCls.make FB UB SF T I1.kIn lim (by have := hr.dp; omega) fun h' tk' e d M => ?_)
  obtain ⟨oe, fv, eo, ec, ed, dt, e1⟩ := M.me
  obtain ⟨G, g1, g2⟩ := restrict h' fun b => decide (b ≠ e)
  have same : ∀ b, b ≠ e → G.get? b = h'.get? b := fun b nb => g1 b (decide_eq_true nb)
  have gone : G.get? e = none := g2 e (by simp)
  have old : ∀ b o, hp.get? b = some o → G.get? b = some o := fun b o z =>
    (same b (Nat.ne_of_lt (Nat.lt_of_lt_of_le (Heap.lt_size z) M.new))).trans (M.old b o z)
  have fresh : H1 e = none := I1.hok.fresh M.new
  have there : ObjOk X.prog X.w (upd H1 d (.xd [(("many" : Str), v)])) G d (.xd [(("many" : Str), v)]) :=
    ⟨_, M.ns.at (fun o z => (same d M.ne).trans z), rel_value rv⟩
  have J : Inv X pins σ (upd H1 d (.xd [(("many" : Str), v)])) ⟨G, g, dr, tk', os⟩ := I1.laid (t' := tk') old M.far there
  have fe : (upd H1 d (.xd [(("many" : Str), v)])) e = none := by
    rw [upd_ne (Ne.symm M.ne)]
    exact fresh
  have k2 : ∀ b o, G.get? b = some o → h'.get? b = some o := fun b o z => by
    have nb : b ≠ e := by
      rintro rfl
      rw [gone] at z
      cases z
    exact (same b nb).symm.trans z
  exact ⟨.ref e, _, J.laidN (t' := tk') k2 gone fe (exv_ok eo ⟨ec, ed⟩ dt), rfl, q1 d e (I1.hok.fresh M.far) fresh M.ne⟩
/-- error.value in the suite of such an error -/
def tOfErr (C a : Addr) (cls : Value) (d : Option Addr) (te : TE) : TE := fun σ H Q => te σ H fun x H1 => x = .ref a ∧ cls = .ref C ∧ ∃ (dd : Addr) (v : V), d = some dd ∧ H1 dd = some (.xd [(("many" : Str), v)]) ∧ Q v H1
theorem pe_ofErr {a : Addr} {oe : Obj} {cls : Value} {d : Option Addr} {pn : List (Addr × Obj)} {e : Expr} {te : TE} {pos : Pos} (T : ErrCls X.K X.mg nm qi newId bmB C f) (hz : Zc cls d oe) (hf : ∃ vs, oe.data = .fields vs) (he : PE (X.suite a ((a, oe) :: pn)) e te)
    (hb : attributeBase e "many" X.env (eval e X.env) = eval e X.env := by rfl) :
    PE (X.suite a ((a, oe) :: pn)) (.Attribute e "many" pos) (tOfErr C a cls d te) := by
  refine ⟨fun pins s σ H Q I h => attr_of hb (thn (he.run pins s σ H _ I h) fun u s1 hh => ?_)⟩
  obtain ⟨x, H1, I1, rx, rfl, rfl, dd, v, rfl, ea, q⟩ := hh
  obtain rfl : u = Value.ref a := rx
  obtain ⟨vs, dt⟩ := hf
  obtain ⟨at_, _⟩ := I1.pin (a, oe) (List.mem_append_left _ List.mem_cons_self)
  obtain ⟨mA, hns, hr⟩ := (show ObjOk X.prog X.w H1 s1.heap dd (.xd [(("many" : Str), v)]) from I1.hok dd _ ea)
  obtain ⟨od, ho, hl⟩ := lookIn_ns hns
  obtain ⟨u, hu, ru⟩ := RelO.some_of (v := v) (o := mA "many") (by
    rw [← (show List.lookup ("many" : Str) [(("many" : Str), v)] = some v by simp [List.lookup])]
    exact hr "many")
  have J : InstAt s1.heap a oe C (some od) := ⟨at_, hz.1, by unfold notCls; rw [dt] <;> rfl, by rw [hz.2]; exact ho⟩
  exact HandSPX.exc_get I1.kIn J T.ga T.gg T.sub (findObj_own T.hd T.no rfl (by rw [hl, hu])) (handed_of ru) ⟨v, H1, I1.tok _, ru, q⟩
end
end L2.My.Own_many
/-! an own error class over any of the eleven built-in bases, whose __init__(self, kind) keeps it -/
namespace L2.My.Own_two
open PySem PySem.Spec PyProof.Rows PySem.W PySem.Calls L2 L2.My
def initArgs (p q q2 : Pos) : Arguments :=
  { posonlyargs := [], args := [⟨"self", none, p⟩, ⟨"kind", none, q⟩, ⟨"reason", none, q2⟩], vararg := none, kwonlyargs := [], kw_defaults := [], kwarg := none, defaults := [] }
def initBody (a b c d a2 b2 c2 d2 : Pos) : List Stmt := [.Assign [.Attribute (.Name "self" a) "kind" b] (.Name "kind" c) d, .Assign [.Attribute (.Name "self" a2) "reason" b2] (.Name "reason" c2) d2]
def initScope : Scope :=
  { kind := .function, names := [(Str.ofString "self", .local), (Str.ofString "kind", .local), (Str.ofString "reason", .local)], isGenerator := false, isCoroutine := false, more := [] }
/-- what the top's written part says of the class (at C, called nm in the module) and of its __init__ (at f) -/
structure ErrCls (K : Frag) (mg : Str → Option Value) (nm : Str) (qi : Str) (newId : String) (bmB : List Value) (C f : Addr) : Prop where
  gl : mg nm = some (.ref C)
  cl : ∃ n q N bs bm sn sub ab col dd k0 k1 k2 k3 k5, K.lookup C = some (excClassObj n q C N bs bm true sn sub ab col dd k0 k1 k2 k3 k5 newId) ∧ excTail bmB bm = true
  sa : findIn K (.ref C) "__setattr__" = some (some (.builtin "object.__setattr__"))
  ga : findIn K (.ref C) "__getattribute__" = some (some (.builtin "BaseException.__getattribute__"))
  gg : findIn K (.ref C) "__getattr__" = some none
  no : findIn K (.ref C) "kind" = some none
  no2 : findIn K (.ref C) "reason" = some none
  ini : findIn K (.ref C) "__init__" = some (some (.ref f))
  tf : typeIn K (.ref f) = some (.type "function")
  kp : keepIn K (.ref C) = true
  sub : subIn K (.ref C) (.type "BaseException") = some true
  ty : typeIn K (.ref C) = some (.type "type")
  hd : hasDictIn K C = true
  fn : ∃ (oc : Value) (od : Option Addr) (doc pm : Value) (an : Option Addr) (cd ct : Value) (sl : Array (Option Value)) (p q q2 a b c d a2 b2 c2 d2 : Pos),
    K.lookup f = some ⟨oc, od, .func (fnOf "__init__" qi (initArgs p q q2) (initBody a b c d a2 b2 c2 d2) initScope .none .none doc pm an cd ct), sl⟩ ∧ codeIn K cd qi = true
section
variable {prog : Program} {w : World} {A : Around} {E : Value → Shared → Prop} {R : Result → Shared → Prop} {s : Shared} {K : Frag} {mg : Str → Option Value}
variable {nm qi : Str} {B BN newId initId : String} {bmB bmN : List Value} {C f : Addr}
theorem ErrCls.cls (T : ErrCls K mg nm qi newId bmB C f) : ∃ cd bm, clsIn K C = some cd ∧ cd.mro = .ref C :: bm ∧ excTail bmB bm = true ∧ cd.hasDict = true := by
  obtain ⟨n, q, N, bs, bm, sn, sub, ab, col, dd, k0, k1, k2, k3, k5, h, t⟩ := T.cl
  refine ⟨{ name := n, bases := bs, mro := .ref C :: bm, ns := N, qualname := q, hasDict := true, slotNames := sn, subclasses := sub, abstract := ab, collection := col, hasDel := false }, bm, ?_, rfl, t, rfl⟩
  unfold clsIn
  rw [h] <;> rfl
theorem ErrCls.over (T : ErrCls K mg nm qi newId bmB C f) : excOver K C bmB = true := by
  obtain ⟨cd, bm, h, m, t, _⟩ := T.cls
  unfold excOver
  rw [h]
  simp [m, t]
theorem ErrCls.taker2 (T : ErrCls K mg nm qi newId bmB C f) : takerIn K C "reason" = some none := by
  unfold takerIn
  rw [T.no2]
  rfl
theorem ErrCls.taker (T : ErrCls K mg nm qi newId bmB C f) : takerIn K C "kind" = some none := by
  unfold takerIn
  rw [T.no]
  rfl
/-- the first field of a fresh exception at x -/
theorem first_field (SF : StoreFacts B bmB "object.__setattr__" "object") (T : ErrCls K mg nm qi newId bmB C f) {x t0 : Addr} {tk : Tok} {v : Value} (X : K.In s.heap) (hx : s.heap.get? x = some (HandSPX.excO C t0))
    (hq : ∀ h' tk' dx, (∀ b o, b ≠ x → s.heap.get? b = some o → h'.get? b = some o) → s.heap.objs.size ≤ dx → dx ≠ x →
      h'.get? x = some { cls := .ref C, dict := some dx, data := .fields #[.ref t0, .none, .none, .none, .bool false, .none] } →
      h'.Ns1 dx (fun y => if y = "kind" then some v else none) → R (.ok (.ret .none)) { s with heap := h', toks := tk' }) :
    codeAny (model prog w) A (.call (.builtin "object.__setattr__") ⟨[.ref x, .str "kind" tk, v], []⟩) R s := by
  obtain ⟨cd, bm, hcd, _, _, dic⟩ := T.cls
  have I : InstAt s.heap x (HandSPX.excO C t0) C none := ⟨hx, rfl, rfl, trivial⟩
  have far : x ≠ s.heap.objs.size := Nat.ne_of_lt (Heap.lt_size hx)
  refine osa_openX SF X I T.over T.taker fun b => ?_
  have Lc : Looks (model prog w) s.heap (classData C) cd := looks_clsIn X hcd
  obtain ⟨hp, g, d, t, os⟩ := s
  obtain ⟨n1, bs1, mro1, ns1, q1, hd1, sn1, sb1, ab1, co1, del1⟩ := cd
  dsimp only at dic
  subst dic
  dsimp only at hx far
  unfold Builtin.ObjectAttr.storeInOwnDict Builtin.ObjectAttr.ownDictForStores
  repeat (first | with_reducible refine HandSPX.store_in_new ?_ ?_ | with_reducible refine wpAny_loadPart_at hx ?_ | with_reducible refine Lc.at ?_ | wp_step)
  · exact ⟨_, #[], _, (Heap.get?_update_ne _ _ _ _ far.symm).trans (Heap.get?_push_at rfl rfl), rfl, fun e he => absurd he (by simp), fun _ => rfl⟩
  · intro h' tk' hn sb
    have hx1 : (hp.push { cls := .type "dict", data := .dict #[] }).get? x = some (HandSPX.excO C t0) := Heap.get?_push_of_some _ hx
    refine hq h' tk' hp.objs.size ?_ (Nat.le_refl _) far.symm ((sb.2 x far).trans (Heap.get?_update_self _ hx1 rfl)) hn
    intro b o nb e
    exact (sb.2 b (Nat.ne_of_lt (Heap.lt_size e))).trans ((Heap.get?_update_ne _ _ _ _ nb).trans (Heap.get?_push_of_some _ e))
theorem ns_keep {h h' : Heap} {a : Addr} {m : Str → Option Value} (n : h.Ns a m) (k : ∀ o, h.get? a = some o → h'.get? a = some o) : h'.Ns a m := by
  obtain ⟨o, es, ep, e, r⟩ := n
  exact ⟨o, es, ep, k _ e, r⟩
/-- a further field of an exception at x whose dict is at dx -/
theorem next_field (SF : StoreFacts B bmB "object.__setattr__" "object") (T : ErrCls K mg nm qi newId bmB C f) {x t0 dx : Addr} {tk : Tok} {v u : Value} (X : K.In s.heap)
    (hx : s.heap.get? x = some { cls := .ref C, dict := some dx, data := .fields #[.ref t0, .none, .none, .none, .bool false, .none] }) (hn : s.heap.Ns1 dx (fun y => if y = "kind" then some u else none))
    (hq : ∀ h' tk', (∀ b o, b ≠ dx → s.heap.get? b = some o → h'.get? b = some o) → h'.Ns1 dx (fun y => if y = "reason" then some v else if y = "kind" then some u else none) → R (.ok (.ret .none)) { s with heap := h', toks := tk' }) :
    codeAny (model prog w) A (.call (.builtin "object.__setattr__") ⟨[.ref x, .str "reason" tk, v], []⟩) R s := by
  obtain ⟨cd, bm, hcd, _, _, dic⟩ := T.cls
  have wi : Within (fun y : Str => if y = "kind" then some u else none) ["kind"] := fun y hy => by
    by_cases e : y = "kind"
    · rw [e]
      exact List.mem_singleton.mpr rfl
    · exact absurd (if_neg e) hy
  obtain ⟨oD, esD, epD, hoD, hdD, _⟩ := hn.count wi
  have I : InstAt s.heap x { cls := .ref C, dict := some dx, data := .fields #[.ref t0, .none, .none, .none, .bool false, .none] } C (some oD) := ⟨hx, rfl, rfl, hoD⟩
  refine osa_openX SF X I T.over T.taker2 fun b => ?_
  have Lc : Looks (model prog w) s.heap (classData C) cd := looks_clsIn X hcd
  obtain ⟨hp, g, d, t, os⟩ := s
  obtain ⟨n1, bs1, mro1, ns1, q1, hd1, sn1, sb1, ab1, co1, del1⟩ := cd
  dsimp only at dic
  subst dic
  dsimp only at hx hn
  unfold Builtin.ObjectAttr.storeInOwnDict Builtin.ObjectAttr.ownDictForStores
  repeat (first | with_reducible refine PySem.OEX.store_in_old hn wi (by decide) ?_ | with_reducible refine wpAny_loadPart_at hx ?_ | with_reducible refine Lc.at ?_ | wp_step)
  intro h' tk' hn2 sb
  exact hq h' tk' (fun b o nb e => (sb.2 b nb).trans e) hn2
theorem own_name {M : Model} {scope : Scope} {name x : Str} {L a : Addr} {cd v : Value} {m : Str → Option Value} {pos : Pos} {Q : Value → Shared → Prop}
    (hn : s.heap.Ns L m) (hv : m x = some v) (h : Q v s) (k1 : scope.kind = .function := by rfl) (k2 : (envOfC name scope L a cd).kindOf x = some .local := by rfl) (k3 : (x == ("__debug__" : Str)) = false := by decide) :
    wpAny M A (eval (.Name x pos) (envOfC name scope L a cd)) Q E s := wpAny_Name (wpAny_loadName_local k1 k2 hn hv h) k3
/-- what __init__ leaves of a fresh exception at x -/
structure Kept (h h' : Heap) (x C dx t : Addr) (v u : Value) : Prop where
  old : ∀ b o, b ≠ x → h.get? b = some o → h'.get? b = some o
  me : h'.get? x = some { cls := .ref C, dict := some dx, data := .fields #[.ref t, .none, .none, .none, .bool false, .none] }
  far : h.objs.size ≤ dx
  ne : dx ≠ x
  ns : h'.Ns1 dx (fun y => if y = "reason" then some u else if y = "kind" then some v else none)
theorem ErrCls.init (SF : StoreFacts B bmB "object.__setattr__" "object") (T : ErrCls K mg nm qi newId bmB C f) {x t0 : Addr} {v u : Value} (X : K.In s.heap) (nk : K.lookup x = none) (lim : s.heap.NoLimit) (hx : s.heap.get? x = some (HandSPX.excO C t0))
    (room : A.depth < recursionLimit) (hq : ∀ h' tk dx, Kept s.heap h' x C dx t0 v u → R (.ok (.ret .none)) { s with heap := h', toks := tk }) :
    codeAny (model prog w) A (.call (.ref f) ⟨[.ref x, v, u], []⟩) R s := by
  obtain ⟨oc, od, doc, pm, an, cd, ct, sl, p, q, q2, a, b, c, d, a2, b2, c2, d2, lf, hcd⟩ := T.fn
  refine Att.call_fn (binds := [("self", .ref x), ("kind", v), ("reason", u)]) X lim lf hcd room (BindsTo.of_eq (by first | rfl | with_unfolding_all rfl)) (by first | rfl | decide | with_unfolding_all rfl) (fun s1 IC => ?_) rfl rfl rfl
  obtain ⟨h1, tk1, rfl⟩ := IC.toInCall.same
  have old : ∀ b o, s.heap.get? b = some o → h1.get? b = some o := IC.toInCall.keep
  have ns := IC.toInCall.ns
  have hx1 := old _ _ hx
  have X1 : K.In h1 := X.keeps old
  show wpAny _ _ (execs _ _) _ _ _
  refine wpAny_execs_cons (plainObj_wpAny_Assign_Attribute (own_name (v := v) ns (by first | rfl | with_unfolding_all rfl | kernel_rfl) (own_name (v := .ref x) ns (by first | rfl | with_unfolding_all rfl | kernel_rfl) ?_)))
  refine set_plain X1 (ox := HandSPX.excO C t0) (od := none) ⟨hx1, rfl, rfl, trivial⟩ T.sa (first_field SF T X1 hx1 fun h2 tk2 dx k2 far ne me n2 => ?_)
  show wpAny _ _ (execs _ _) _ _ _
  have more : s.heap.objs.size < h1.objs.size := ns.lt
  have xlt : x < s.heap.objs.size := Heap.lt_size hx
  have ns2 := ns_keep (h' := h2) ns fun o e => k2 _ o (Nat.ne_of_gt xlt) e
  have X2 : K.In h2 := fun b o e => k2 b o (fun z => by rw [z, nk] at e; cases e) (X1 b o e)
  refine wpAny_execs_cons (plainObj_wpAny_Assign_Attribute (own_name (v := u) ns2 (by first | rfl | with_unfolding_all rfl | kernel_rfl) (own_name (v := .ref x) ns2 (by first | rfl | with_unfolding_all rfl | kernel_rfl) ?_)))
  have wi : Within (fun y : Str => if y = "kind" then some v else none) ["kind"] := fun y hy => by
    by_cases e : y = "kind"
    · rw [e]
      exact List.mem_singleton.mpr rfl
    · exact absurd (if_neg e) hy
  obtain ⟨oD, esD, epD, hoD, hdD, _⟩ := n2.count wi
  refine set_plain X2 (od := some oD) ⟨me, rfl, rfl, hoD⟩ T.sa (next_field SF T X2 me n2 fun h3 tk3 k3 n3 => ?_)
  show wpAny _ _ (execs _ _) _ _ _
  refine wpAny_execs_nil (hq h3 tk3 dx ⟨fun b o nb e => ?_, k3 _ _ (Ne.symm ne) me, Nat.le_of_lt (Nat.lt_of_lt_of_le more far), ne, n3⟩)
  have lt := Heap.lt_size e
  exact k3 b o (Nat.ne_of_lt (Nat.lt_of_lt_of_le lt (Nat.le_of_lt (Nat.lt_of_lt_of_le more far)))) (k2 b o nb (old b o e))
/-- a made error -/
structure Made (h h' : Heap) (e C d : Addr) (v u : Value) : Prop where
  old : ∀ b o, h.get? b = some o → h'.get? b = some o
  new : h.objs.size ≤ e
  me : ∃ oe vs, h'.get? e = some oe ∧ oe.cls = .ref C ∧ oe.dict = some d ∧ oe.data = .fields vs ∧ vs[1]? = some .none
  far : h.objs.size ≤ d
  ne : d ≠ e
  ns : h'.Ns1 d (fun y => if y = "reason" then some u else if y = "kind" then some v else none)
theorem ErrCls.make (FB : ExcBaseFacts BN newId initId bmN) (UB : Above BN bmB) (SF : StoreFacts B bmB "object.__setattr__" "object") (T : ErrCls K mg nm qi newId bmB C f) {v u : Value} (X : K.In s.heap) (lim : s.heap.NoLimit) (room : A.depth + 1 < recursionLimit)
    (hq : ∀ h' tk e d, Made s.heap h' e C d v u → R (.ok (.ret (.ref e))) { s with heap := h', toks := tk }) :
    codeAny (model prog w) A (.call (.ref C) ⟨[v, u], []⟩) R s := by
  obtain ⟨n, q, N, bs, bm, sn, sub, ab, col, dd, k0, k1, k2, k3, k5, lc, tl⟩ := T.cl
  obtain ⟨hp, g, dr, tk, os⟩ := s
  obtain ⟨hp2, ehp2⟩ : ∃ h2, h2 = (hp.push (kdv_tup [v, u])).push (HandSPX.excO C hp.objs.size) := ⟨_, rfl⟩
  have old : ∀ b o, hp.get? b = some o → hp2.get? b = some o := fun b o e => by
    rw [ehp2]
    exact Heap.get?_push_of_some _ (Heap.get?_push_of_some _ e)
  have me : hp2.get? (hp.objs.size + 1) = some (HandSPX.excO C hp.objs.size) := by rw [ehp2]; heap_get
  have z2 : hp2.objs.size = hp.objs.size + 1 + 1 := by rw [ehp2, Heap.size_push, Heap.size_push]
  refine callMade FB (UB.tail tl) (X _ _ lc) (looks_findIn X T.ini) (fun self => bind_fn X self T.tf) (by rw [sizeLine_eq]; exact (by decide : 2 ≤ 16777216)) ?_
  rw [← ehp2]
  refine ErrCls.init (s := ⟨hp2, g, dr, tk, os⟩) SF T (X.keeps old) (by
    cases z : K.lookup (hp.objs.size + 1) with
    | none => rfl
    | some o =>
      exact absurd (Heap.lt_size (show hp.get? (hp.objs.size + 1) = some o from X _ _ z)) (Nat.not_lt.mpr (Nat.le_succ _))) (lim.keeps old) me room fun h' tk' dx k => ?_
  have o2 : ∀ b o, hp.get? b = some o → h'.get? b = some o := fun b o e =>
    k.old b o (Nat.ne_of_lt (Nat.lt_succ_of_lt (Heap.lt_size e))) (old b o e)
  have far := k.far
  dsimp only at far
  rw [z2] at far
  exact ⟨rfl, hq h' tk' _ dx ⟨o2, Nat.le_succ _, ⟨_, _, k.me, rfl, rfl, rfl, rfl⟩, Nat.le_trans (Nat.le_trans (Nat.le_succ _) (Nat.le_succ _)) far, k.ne, k.ns⟩⟩
end
abbrev two (v u : V) : List (Str × V) := [(("reason" : Str), u), (("kind" : Str), v)]
theorem rel_two {v u : V} {x y : Value} (r : RelV v x) (q : RelV u y) (g : Str) : RelO (List.lookup g (two v u)) (if g = "reason" then some y else if g = "kind" then some x else none) := by
  by_cases e : g = "reason"
  · rw [if_pos e, e, show List.lookup ("reason" : Str) (two v u) = some u by simp [List.lookup, two]]
    exact q
  · have e2 : (g == ("reason" : Str)) = false := by simpa using e
    rw [if_neg e]
    by_cases e3 : g = "kind"
    · have e5 : ((("kind" : Str)) == (("reason" : Str))) = false := by decide +kernel
      rw [if_pos e3, show List.lookup g (two v u) = some v by
        rw [e3]
        show (match (("kind" : Str)) == (("reason" : Str)) with | true => some u | false => List.lookup ("kind" : Str) [(("kind" : Str), v)]) = some v
        rw [e5]
        simp [List.lookup]]
      exact r
    · have e4 : (g == ("kind" : Str)) = false := by simpa using e3
      rw [if_neg e3, show List.lookup g (two v u) = none by simp [List.lookup, two, e2, e4]]
      trivial
section
variable {X : Cx} {nm qi : Str} {B BN newId initId : String} {bmB bmN : List Value} {C f : Addr}
/-- C(e) as a value -/
def tNew (C : Addr) (ta : TA) : TE := fun σ H Q => ta σ H fun vs H1 => ∃ v v2, vs = [v, v2] ∧ ∀ d e, H1 d = none → H1 e = none → d ≠ e → Q (.ref e) (upd (upd H1 d (.xd (two v v2))) e (Exv C d e))
theorem pe_new {a b : Expr} {ta : TA} {p pos : Pos} {k : Nat} (FB : ExcBaseFacts BN newId initId bmN) (UB : Above BN bmB) (SF : StoreFacts B bmB "object.__setattr__" "object") (T : ErrCls X.K X.mg nm qi newId bmB C f) (hr : Room k X.A) (ha : PA X [a, b] ta) (hg : Gl X nm)
    (hdb : (nm == ("__debug__" : Str)) = false := by decide)
    (he : starEach (a :: [b]) X.env = (false, eval a X.env) :: starEach [b] X.env := by rfl) (hpl : (backTo pos (starEach [b] X.env)).any (·.1) = false := by rfl) :
    PE X (.Call (.Name nm p) [a, b] [] pos) (tNew C ta) := by
  refine ⟨fun pins s σ H Q I h => ?_⟩
  refine wpAny_Call_Name_kw (ld_glob I hg T.gl (callWith_K (h₀ := X.base) I.ok.mod.kin T.kp (thn (ha.run pos pins s σ H _ I h) fun us s1 hh => ?_) he hpl) hdb)
  obtain ⟨vs, H1, I1, r1, v, v2, rfl, q1⟩ := hh
  refine ⟨I1.kIn, ?_⟩
  obtain ⟨u, u2, rfl, rv, rv2⟩ := vals2 r1
  show wpAny _ _ (call (.ref C) [u, u2]) _ _ _
  have lim := I1.nolimit
  obtain ⟨hp, g, dr, tk, os⟩ := s1
  refine wpAny_call (ErrCls.make FB UB SF T I1.kIn lim (by have := hr.dp; omega) fun h' tk' e d M => ?_)
  obtain ⟨oe, fv, eo, ec, ed, dt, e1⟩ := M.me
  obtain ⟨G, g1, g2⟩ := restrict h' fun z => decide (z ≠ e)
  have same : ∀ b, b ≠ e → G.get? b = h'.get? b := fun b nb => g1 b (decide_eq_true nb)
  have gone : G.get? e = none := g2 e (by simp)
  have old : ∀ b o, hp.get? b = some o → G.get? b = some o := fun b o z =>
    (same b (Nat.ne_of_lt (Nat.lt_of_lt_of_le (Heap.lt_size z) M.new))).trans (M.old b o z)
  have fresh : H1 e = none := I1.hok.fresh M.new
  have there : ObjOk X.prog X.w (upd H1 d (.xd (two v v2))) G d (.xd (two v v2)) :=
    ⟨_, M.ns.at (fun o z => (same d M.ne).trans z), rel_two rv rv2⟩
  have J : Inv X pins σ (upd H1 d (.xd (two v v2))) ⟨G, g, dr, tk', os⟩ := I1.laid (t' := tk') old M.far there
  have fe : (upd H1 d (.xd (two v v2))) e = none := by
    rw [upd_ne (Ne.symm M.ne)]
    exact fresh
  have k2 : ∀ b o, G.get? b = some o → h'.get? b = some o := fun b o z => by
    have nb : b ≠ e := by
      rintro rfl
      rw [gone] at z
      cases z
    exact (same b nb).symm.trans z
  exact ⟨.ref e, _, J.laidN (t' := tk') k2 gone fe (exv_ok eo ⟨ec, ed⟩ dt), rfl, q1 d e (I1.hok.fresh M.far) fresh M.ne⟩
end
end L2.My.Own_two
/-! one sign many times -/
namespace L2.My
open PySem PySem.Spec PyProof.Rows L2
def rMulStr : R2 := fun x y H Q => ∃ (z : Str) (n : Int), x = .str z ∧ y = .int n ∧ z.length = 1 ∧ 2 ≤ n ∧ n ≤ 1000 ∧ Q (.str ⟨(List.replicate n.toNat z.cps).foldl (· ++ ·) #[]⟩) H
theorem size_reps : ∀ (n : Nat) (c acc : Array Nat), ((List.replicate n c).foldl (· ++ ·) acc).size = acc.size + n * c.size
  | 0, c, acc => by simp
  | n + 1, c, acc => by
    rw [List.replicate_succ, List.foldl_cons, size_reps n c (acc ++ c), Array.size_append, Nat.succ_mul]
    omega
theorem op_mulStr {X : Cx} : OpR X (binaryOp .Mult) rMulStr := by
  intro pins s σ H x y v u Q I rx ry h
  obtain ⟨z, n, rfl, rfl, z1, n2, n1000, q⟩ := h
  obtain ⟨t, rfl⟩ := rx
  obtain ⟨t', rfl⟩ := ry
  have e1 : (decide (n < -(2 ^ 63 : Int)) || decide (n ≥ 2 ^ 63)) = false := by
    rw [decide_eq_false (by omega), decide_eq_false (by omega)]
    rfl
  have e2 : ¬ n < 1 := by omega
  have e3 : (n == 1 || z.length == 0) = false := by
    rw [z1]
    simp
    omega
  refine P.mul_str e1 (fun _ _ => ?_) (fun _ _ => ?_) ?_
  · rw [z1]
    have h1 : (1000 : Int) ≤ (2 ^ 63 - 1) / 1000 := by decide
    have h2 : ((2 : Int) ^ 63 - 1) / 1000 ≤ (2 ^ 63 - 1) / n := by
      have p : (0 : Int) < n := by omega
      refine (Int.le_ediv_iff_mul_le p).mpr ?_
      have k0 : (0 : Int) ≤ (2 ^ 63 - 1) / 1000 := by decide
      have k1 : ((2 : Int) ^ 63 - 1) / 1000 * n ≤ (2 ^ 63 - 1) / 1000 * 1000 := Int.mul_le_mul_of_nonneg_left n1000 k0
      have k2 : ((2 : Int) ^ 63 - 1) / 1000 * 1000 ≤ 2 ^ 63 - 1 := by decide
      exact Int.le_trans k1 k2
    omega
  · rw [z1]
    unfold Builtin.Str.tooLong
    refine decide_eq_false ?_
    have : (1000 : Nat) ≤ sizeLine := by decide
    omega
  · rw [if_neg e2, e3, if_neg Bool.false_ne_true]
    have sz : (⟨(List.replicate n.toNat z.cps).foldl (· ++ ·) #[]⟩ : Str).length ≤ 1000 := by
      show ((List.replicate n.toNat z.cps).foldl (· ++ ·) #[]).size ≤ 1000
      rw [size_reps]
      have z2 : z.cps.size = 1 := z1
      rw [z2]
      show 0 + n.toNat * 1 ≤ 1000
      omega
    refine ⟨?_, ?_⟩
    · have : (1000 : Nat) ≤ sizeLine := by decide
      omega
    · exact ⟨.str _, H, I.tok _, ⟨_, rfl⟩, q⟩
end L2.My
namespace K0
open PySem L2
open L2.My
def top (i : Nat) : Stmt := PySem.Challenge.pw_loopfoundry_k00_errors_and_numbers.main.body.getD i (.Pass ⟨0, 0, 0, 0⟩)
abbrev tName : Stmt := top 22
abbrev tWhole : Stmt := top 23
abbrev tInteger : Stmt := top 24
abbrev tBetween : Stmt := top 25
abbrev tChNum : Stmt := top 26
abbrev tChInt : Stmt := top 27
abbrev tSlot : Stmt := top 28
abbrev tUp : Stmt := top 29
abbrev tLoom : Stmt := top 31
abbrev tTurn : Stmt := top 32
abbrev tPick : Stmt := top 33
abbrev tTold : Stmt := top 34
abbrev tFam : Stmt := top 35
abbrev tErrs : Stmt := top 36
abbrev tWord : Stmt := top 37
abbrev tNames : Stmt := top 38
abbrev tSlots : Stmt := top 39
abbrev tRefused : Stmt := top 40
abbrev tLaw : Stmt := top 41
/-! ### growing heaps -/
theorem grow {H : Hp} {p : Addr} {o : HO} (hp : H p = none) : Same H (upd H p o) := fun b u e => by rw [upd_ne (ne_of_none e hp)]; exact e
/-! ### data: what the checks are asked of -/
inductive Tv (H : Hp) (N : Nat) : Nat → V → Prop
  | non {n : Nat} : Tv H N n .non
  | bl {n : Nat} (b : Bool) : Tv H N n (.bl b)
  | int {n : Nat} (i : Int) (h : i.natAbs < 10 ^ 40) : Tv H N n (.int i)
  | str {n : Nat} (z : Str) (h : z.length ≤ 100) : Tv H N n (.str z)
  | lst {n : Nat} {a : Addr} {xs : List V} (e : H a = some (.lst xs)) : Tv H N n (.ref a)
  | dct {n : Nat} {a : Addr} {kvs : List (Key × V)} (e : H a = some (.dK kvs)) : Tv H N n (.ref a)
  | tup {n : Nat} {a : Addr} {xs : List V} (e : H a = some (.tup xs)) (l : xs.length ≤ N) (h : ∀ x ∈ xs, Tv H N n x) : Tv H N (n + 1) (.ref a)
def IsL (H : Hp) (p : Addr) : Prop := ∃ xs, H p = some (.lst xs)
/-- tuples and dicts stay, lists stay lists -/
structure Kp (H H' : Hp) : Prop where
  tup : ∀ a xs, H a = some (.tup xs) → H' a = some (.tup xs)
  lst : ∀ a, IsL H a → IsL H' a
  dct : ∀ a (kvs : List (Key × V)), H a = some (.dK kvs) → H' a = some (.dK kvs)
theorem Kp.of {H H' : Hp} (s : Same H H') : Kp H H' := ⟨fun _ _ e => s _ _ e, fun _ ⟨_, e⟩ => ⟨_, s _ _ e⟩, fun _ _ e => s _ _ e⟩
theorem Kp.refl {H : Hp} : Kp H H := ⟨fun _ _ e => e, fun _ e => e, fun _ _ e => e⟩
theorem Kp.trans {H H1 H2 : Hp} (a : Kp H H1) (b : Kp H1 H2) : Kp H H2 := ⟨fun _ _ e => b.tup _ _ (a.tup _ _ e), fun _ e => b.lst _ (a.lst _ e), fun _ _ e => b.dct _ _ (a.dct _ _ e)⟩
theorem Kp.upd {H : Hp} {p : Addr} {xs ys : List V} (e : H p = some (.lst xs)) : Kp H (upd H p (.lst ys)) := by
  refine ⟨fun a zs e2 => ?_, fun a e2 => ?_, fun a k e2 => ?_⟩
  · rw [upd_ne (fun c => by subst c; rw [e] at e2; cases e2)]
    exact e2
  · by_cases c : a = p
    · subst c
      exact ⟨_, upd_same⟩
    · obtain ⟨zs, e2⟩ := e2
      exact ⟨zs, by rw [upd_ne c]; exact e2⟩
  · rw [upd_ne (fun c => by subst c; rw [e] at e2; cases e2)]
    exact e2
theorem Tv.kp {H H' : Hp} {N n : Nat} {v : V} (t : Tv H N n v) (s : Kp H H') : Tv H' N n v := by
  induction t with
  | non => exact .non
  | bl b => exact .bl b
  | int i h => exact .int i h
  | str z h => exact .str z h
  | lst e =>
    obtain ⟨ys, e2⟩ := s.lst _ ⟨_, e⟩
    exact .lst e2
  | dct e => exact .dct (s.dct _ _ e)
  | tup e l h ih => exact .tup (s.tup _ _ e) l ih
theorem Tv.up {H : Hp} {N n : Nat} {v : V} (t : Tv H N n v) : Tv H N (n + 1) v := by
  induction t with
  | non => exact .non
  | bl b => exact .bl b
  | int i h => exact .int i h
  | str z h => exact .str z h
  | lst e => exact .lst e
  | dct e => exact .dct e
  | tup e l h ih => exact .tup e l ih
theorem Tv.upN {H : Hp} {N n m : Nat} {v : V} (t : Tv H N n v) (h : n ≤ m) : Tv H N m v := by
  obtain ⟨k, rfl⟩ := Nat.le.dest h
  clear h
  induction k with
  | zero => exact t
  | succ k ih => exact ih.up
theorem Tv.wide {H : Hp} {N M n : Nat} {v : V} (t : Tv H N n v) (le : N ≤ M) : Tv H M n v := by
  induction t with
  | non => exact .non
  | bl b => exact .bl b
  | int i h => exact .int i h
  | str z h => exact .str z h
  | lst e => exact .lst e
  | dct e => exact .dct e
  | tup e l h ih => exact .tup e (Nat.le_trans l le) ih
/-- all but the loom at p is as it was -/
def But (p : Addr) (H H' : Hp) : Prop := ∀ q, q ≠ p → ∀ o, H q = some o → H' q = some o
theorem But.refl {p : Addr} {H : Hp} : But p H H := fun _ _ _ e => e
theorem But.trans {p : Addr} {H H1 H2 : Hp} (a : But p H H1) (b : But p H1 H2) : But p H H2 := fun q hq o e => b q hq o (a q hq o e)
theorem But.of {p : Addr} {H H' : Hp} (s : Same H H') : But p H H' := fun q _ o e => s q o e
theorem But.fresh {p : Addr} {H H' : Hp} (b : But p H H') (d : H p = none) : Same H H' := fun q o e => b q (ne_of_none e d) o e
theorem But.kp {H H' : Hp} {p : Addr} (s : But p H H') (l : IsL H p) (l' : IsL H' p) : Kp H H' := by
  obtain ⟨ys, e0⟩ := l
  refine ⟨fun a xs e => s _ (fun c => by subst c; rw [e] at e0; cases e0) _ e, fun a e => ?_, fun a xs e => s _ (fun c => by subst c; rw [e] at e0; cases e0) _ e⟩
  by_cases c : a = p
  · subst c
    exact l'
  · obtain ⟨zs, e⟩ := e
    exact ⟨zs, s _ c _ e⟩
/-! ### what the checks tell, of a heap -/
def nameZ (z : Str) : Bool := decide (1 ≤ z.length) && decide (z.length ≤ 8) && z.cps.toList.all fun c => decide (97 ≤ c) && decide (c ≤ 122)
def nameB : V → Bool
  | .str z => nameZ z
  | _ => false
def inB (i : Int) : Bool := decide (-(10 ^ 30) < i) && decide (i < 10 ^ 30)
def integB : V → Bool
  | .int i => inB i
  | _ => false
def betw (lo hi : Int) : V → Bool
  | .int i => decide (lo ≤ i) && decide (i ≤ hi)
  | _ => false
def tupV (H : Hp) : V → Option (List V)
  | .ref a => match H a with
    | some (.tup xs) => some xs
    | _ => none
  | _ => none
def strOf : V → Option Str
  | .str z => some z
  | _ => none
def isS (v : V) (z : Str) : Bool := decide (strOf v = some z)
theorem Tv.text {H : Hp} {N n : Nat} {v : V} (t : Tv H N n v) : AsText H v (strOf v) := by
  cases t with
  | non => exact .non
  | bl b => exact .bl b
  | int i h => exact .int i
  | str z h => exact .str z
  | lst e => exact .lst e
  | dct e => exact .dic e
  | tup e l h => exact .tup e
theorem tupV_of {H : Hp} {a : Addr} {xs : List V} (e : H a = some (.tup xs)) : tupV H (.ref a) = some xs := by
  show (match H a with | some (.tup xs) => some xs | _ => none) = _
  rw [e]
theorem tupV_kp {H H' : Hp} {N n : Nat} {v : V} (t : Tv H N n v) (s : Kp H H') : tupV H' v = tupV H v := by
  cases t with
  | non => rfl
  | bl b => rfl
  | int i h => rfl
  | str z h => rfl
  | lst e =>
    obtain ⟨ys, e2⟩ := s.lst _ ⟨_, e⟩
    simp only [tupV, e, e2]
  | dct e =>
    have e2 := s.dct _ _ e
    simp only [tupV, e, e2]
  | tup e l h => rw [tupV_of e, tupV_of (s.tup _ _ e)]
structure Txt (mg : Str → Option Value) : Prop where
  isi : mg "isinstance" = none
  int : mg "int" = none
  bool : mg "bool" = none
  str : mg "str" = none
  tuple : mg "tuple" = none
  list : mg "list" = none
  len : mg "len" = none
  all : mg "all" = none
  abs : mg "abs" = none
  long : ∃ t, mg "LONG" = some (.int (10 ^ 30) t)
  letters8 : ∃ t, mg "MAX_LETTERS" = some (.int 8 t)
  letters : ∃ t, mg "LETTERS" = some (.str "abcdefghijklmnopqrstuvwxyz" t)
theorem Tv.ty {K : PySem.W.Frag} {H : Hp} {N n : Nat} {v : V} (t : Tv H N n v) : ∃ z : String, z ∈ ["NoneType", "bool", "int", "str", "list", "dict", "tuple"] ∧ TyX K H v (.type z) ∧ (z = "str" ↔ ∃ y, v = .str y) ∧ (z = "tuple" ↔ ∃ xs, tupV H v = some xs) ∧ (z = "int" ↔ ∃ i, v = .int i) ∧ (z = "bool" ↔ ∃ b, v = .bl b) := by
  cases t with
  | non => exact ⟨"NoneType", by decide, .base .non, by simp, by simp [tupV], by simp, by simp⟩
  | bl b => exact ⟨"bool", by decide, .base (.bl b), by simp, by simp [tupV], by simp, by simp⟩
  | int i h => exact ⟨"int", by decide, .base (.int i), by simp, by simp [tupV], by simp, by simp⟩
  | str z h => exact ⟨"str", by decide, .base (.str z), by simp, by simp [tupV], by simp, by simp⟩
  | lst e => exact ⟨"list", by decide, .base (.lst e), by simp, by simp [tupV, e], by simp, by simp⟩
  | dct e => exact ⟨"dict", by decide, .base (.dK e), by simp, by simp [tupV, e], by simp, by simp⟩
  | tup e l h => exact ⟨"tuple", by decide, .base (.tup e), by simp, by simp [tupV, e], by simp, by simp⟩
end K0
namespace K0
open PySem L2
open L2.My
theorem iteD {c A B : Prop} [Decidable c] (hc : c) (h : A) : if decide c = true then A else B := by
  rw [decide_eq_true hc]
  exact iteT h
theorem iteDn {c A B : Prop} [Decidable c] (hc : ¬ c) (h : B) : if decide c = true then A else B := by
  rw [decide_eq_false hc]
  exact iteF h
theorem letters_range (c : Nat) : decide (c ∈ ("abcdefghijklmnopqrstuvwxyz" : Str).cps.toList) = (decide (97 ≤ c) && decide (c ≤ 122)) := by
  have e : ("abcdefghijklmnopqrstuvwxyz" : Str).cps.toList = [97,98,99,100,101,102,103,104,105,106,107,108,109,110,111,112,113,114,115,116,117,118,119,120,121,122] := by decide +kernel
  rw [e]
  apply Bool.eq_iff_iff.mpr
  simp only [decide_eq_true_eq, Bool.and_eq_true, List.mem_cons, List.not_mem_nil, or_false]
  omega
theorem take_step {α β : Type} (f : α → β) {xs : List α} {i : Nat} {x : α} (h : xs[i]? = some x) : (xs.take (i + 1)).map f = (xs.take i).map f ++ [f x] := by
  obtain ⟨hi, hx⟩ := List.getElem?_eq_some_iff.mp h
  rw [← hx, List.take_succ_eq_append_getElem hi, List.map_append, List.map_singleton]
theorem all_map_id {α : Type} (f : α → Bool) (xs : List α) : (xs.map f).all id = xs.all f := by
  rw [List.all_map]
  rfl
/-- H with the list xs at D, which is new since H0 -/
def Acc (H0 : Hp) (D : Addr) (xs : List V) (H : Hp) : Prop := Same H0 H ∧ H0 D = none ∧ H D = some (.lst xs)
theorem Acc.start {H0 : Hp} {D : Addr} (hD : H0 D = none) : Acc H0 D [] (upd H0 D (.lst [])) := ⟨grow hD, hD, upd_same⟩
theorem Acc.put {H0 H : Hp} {D : Addr} {xs ys : List V} (a : Acc H0 D xs H) : Acc H0 D ys (upd H D (.lst ys)) :=
  ⟨fun q o e => by rw [upd_ne (ne_of_none e a.2.1)]; exact a.1 q o e, a.2.1, upd_same⟩
theorem Acc.on {H0 H H' : Hp} {D : Addr} {xs : List V} (a : Acc H0 D xs H) (s : Same H H') : Acc H0 D xs H' := ⟨fun q o e => s _ _ (a.1 q o e), a.2.1, s _ _ a.2.2⟩
section
variable {P : Program} {w : World} {K : PySem.W.Frag} {mg : Str → Option Value} {base : Heap}
/-! ### is_name -/
def spV (N m : Nat) (f : V → Bool) : Sp := fun vs H Q _ => ∃ x, vs = [x] ∧ Tv H N m x ∧ ∀ H', Same H H' → Q (.bl (f x)) H'
def spB (N m : Nat) (f : Hp → V → Bool) : Sp := fun vs H Q _ => ∃ x, vs = [x] ∧ Tv H N m x ∧ ∀ H', Same H H' → Q (.bl (f H x)) H'
theorem scName : FnScope ["value", "letter"] ["value"] (defScope tName) := ⟨rfl, rfl, rfl, by decide +kernel, rfl, by decide +kernel, by decide +kernel⟩
theorem ok_name {N m : Nat} {f : Addr} {fd : FuncData} (F : Fun K "is_name" "is_name" tName f fd) (T : Txt mg) : FnOk P w K mg base CX0 1 f fd ["value"] (spV N m nameB) := by
  obtain ⟨t8, l8⟩ := T.letters8
  obtain ⟨tL, lL⟩ := T.letters
  refine F.ok scName (fun vs H Q E h => ?_) (fun cdv A outer s H vs Q E hr h => ?_)
  · obtain ⟨x, rfl, _⟩ := h
    rfl
  · obtain ⟨x, rfl, tx, k⟩ := h
    refine ⟨_, pss_cons (ps_if (PW.pt (pw_or (pt_not (pt_val (pe_callB call_isi (by rfl) T.isi (by decide +kernel) (pa_cons (pv 0) (pa_cons (pe_bltn (v := .ty "str") (by rfl) T.str (by decide +kernel) rfl) pa_nil)))))
        (pw_or1 (pt_not (pt_chain op_le op_le pe_int (pe_callB call_len_str (by rfl) T.len PySem.boot_len (pa_cons (pv 0) pa_nil)) (pe_glob (v := .int 8) rfl l8 ⟨_, rfl⟩))))))
        (pss_one (ps_ret pe_bl)) pss_nil)
      (pss_one (ps_ret (pe_callB (cr_all (by rfl)) (by rfl) T.all (by decide +kernel) (pa_cons (pe_lc (own := [("letter", 1)]) (g := gName 1) (tt := tYes) (by rfl) scName.nd (pi_str (pv 0)) (blkOk_by (own := [("letter", 1)]) (N := ["value", "letter"]) (sc := defScope tName) (by decide +kernel))
        (fun _ _ _ _ _ => pg_name (i := 1) scName.nd rfl (Or.inl rfl)) (fun _ _ _ _ _ => pts_nil) (fun _ _ _ _ _ => pe_cmpR op_in_sign (pv 1) (pe_glob (v := .str "abcdefghijklmnopqrstuvwxyz") rfl lL ⟨_, rfl⟩) (by rfl))) pa_nil)))), ?_⟩
    obtain ⟨z, hz, ty, q1, _⟩ := tx.ty (K := K)
    by_cases c : z = "str"
    · obtain ⟨y, rfl⟩ := q1.mp c
      cases tx with
      | str _ len =>
      refine ⟨_, rfl, _, _, _, _, _, rfl, ClsV.ty _, .base (.str y), kit_ty (r := true) (by decide +kernel), _, rfl, iteF ?_⟩
      refine ⟨_, rfl, y, rfl, (by have : (100 : Nat) ≤ sizeLine := by decide
                                  omega), _, _, rfl, rfl, _, rfl, ?_⟩
      have nz : nameZ y = (decide (1 ≤ y.length) && decide (y.length ≤ 8) && y.cps.toList.all fun c => decide (97 ≤ c) && decide (c ≤ 122)) := rfl
      by_cases c1 : (1 : Int) ≤ (y.length : Int)
      · refine iteD c1 ⟨_, _, rfl, rfl, _, rfl, ?_⟩
        by_cases c2 : (y.length : Int) ≤ 8
        · rw [decide_eq_true c2]
          refine iteF ?_
          refine ⟨_, rfl, y, rfl, fun D hD => lc_it walk_str (fun i H' => Acc H D (((y.cps.toList.take i).map fun c => decide (c ∈ ("abcdefghijklmnopqrstuvwxyz" : Str).cps.toList)).map V.bl) H') (Acc.start hD) (fun _ _ _ _ => trivial) ?_ ?_⟩
          · rintro i v H1 H2 hi a ⟨rfl, c, hc, rfl⟩
            refine ⟨rfl, _, rfl, c, _, rfl, rfl, _, a.2.2, ?_, ?_⟩
            · rw [List.length_map, List.length_map, List.length_take]
              have : (100 : Nat) ≤ sizeLine := by decide
              have z1 : y.cps.toList.length = y.length := Array.length_toList
              omega
            · have e : y.cps.toList[i]? = some c := by simpa using hc
              rw [take_step _ e, List.map_append]
              exact a.put
          · intro H1 a
            refine ⟨_, _, rfl, SqL.of a.2.2, ?_⟩
            have e : y.cps.toList.take y.cps.size = y.cps.toList := List.take_of_length_le (by simp)
            have e2 : nameB (.str y) = ((y.cps.toList.take y.cps.size).map fun c => decide (c ∈ ("abcdefghijklmnopqrstuvwxyz" : Str).cps.toList)).all id := by
              rw [e, all_map_id]
              show nameZ y = _
              rw [nz, decide_eq_true (show 1 ≤ y.length by omega), decide_eq_true (show y.length ≤ 8 by omega), Bool.true_and, Bool.true_and]
              congr 1
              funext c
              exact (letters_range c).symm
            rw [← e2]
            exact k _ a.1
        · rw [decide_eq_false c2]
          refine iteT ?_
          have nb : nameB (.str y) = false := by
            show nameZ y = false
            rw [nz, decide_eq_false (show ¬ y.length ≤ 8 by omega), Bool.and_false, Bool.false_and]
          rw [← nb]
          exact k H (Same.refl H)
      · refine iteDn c1 ⟨_, rfl, iteT ?_⟩
        have nb : nameB (.str y) = false := by
          show nameZ y = false
          rw [nz, decide_eq_false (show ¬ 1 ≤ y.length by omega), Bool.false_and, Bool.false_and]
        rw [← nb]
        exact k H (Same.refl H)
    · have nb : nameB x = false := by
        cases x with
        | str y => exact absurd (q1.mpr ⟨y, rfl⟩) c
        | _ => rfl
      refine ⟨_, rfl, _, _, _, _, _, rfl, ClsV.ty _, ty, kit_ty (r := false) (by
        simp only [List.mem_cons, List.not_mem_nil, or_false] at hz
        rcases hz with rfl | rfl | rfl | rfl | rfl | rfl | rfl <;> first | exact absurd rfl c | decide +kernel), _, rfl, iteT (iteT ?_)⟩
      rw [← nb]
      exact k H (Same.refl H)
end
end K0
namespace K0
open PySem L2
open L2.My
def wholeB : V → Bool
  | .int _ => true
  | _ => false
theorem inB_iff {i : Int} : inB i = true ↔ -(10 ^ 30) < i ∧ i < 10 ^ 30 := by
  unfold inB
  rw [Bool.and_eq_true, decide_eq_true_eq, decide_eq_true_eq]
section
variable {P : Program} {w : World} {K : PySem.W.Frag} {mg : Str → Option Value} {base : Heap}
/-! ### is_whole, is_integer, is_between -/
theorem scWhole : FnScope ["value"] ["value"] (defScope tWhole) := ⟨rfl, rfl, rfl, by decide +kernel, rfl, by decide +kernel, by decide +kernel⟩
theorem ok_whole {N m : Nat} {f : Addr} {fd : FuncData} (F : Fun K "is_whole" "is_whole" tWhole f fd) (T : Txt mg) : FnOk P w K mg base CX0 1 f fd ["value"] (spV N m wholeB) := by
  refine F.ok scWhole (fun vs H Q E h => ?_) (fun cdv A outer s H vs Q E hr h => ?_)
  · obtain ⟨x, rfl, _⟩ := h
    rfl
  · obtain ⟨x, rfl, it, k⟩ := h
    refine ⟨_, pss_one (ps_ret (pe_and (pe_callB call_isi (by rfl) T.isi (by decide +kernel) (pa_cons (pv 0) (pa_cons (pe_bltn (v := .ty "int") (by rfl) T.int (by decide +kernel) rfl) pa_nil)))
      (pe_one (pe_not (pe_callB call_isi (by rfl) T.isi (by decide +kernel) (pa_cons (pv 0) (pa_cons (pe_bltn (v := .ty "bool") (by rfl) T.bool (by decide +kernel) rfl) pa_nil))))))), ?_⟩
    obtain ⟨z, hz, ty, q1, q2, q3, q4⟩ := it.ty (K := K)
    by_cases c : z = "int" ∨ z = "bool"
    · rcases c with c | c
      · obtain ⟨y, rfl⟩ := q3.mp c
        refine ⟨_, rfl, _, _, _, _, _, rfl, ClsV.ty _, .base (.int _), kit_ty (r := true) (by decide +kernel), _, rfl, iteT ?_⟩
        exact ⟨_, rfl, _, _, _, _, _, rfl, ClsV.ty _, .base (.int _), kit_ty (r := false) (by decide +kernel), _, rfl, k H (Same.refl H)⟩
      · obtain ⟨y, rfl⟩ := q4.mp c
        refine ⟨_, rfl, _, _, _, _, _, rfl, ClsV.ty _, .base (.bl _), kit_ty (r := true) (by decide +kernel), _, rfl, iteT ?_⟩
        exact ⟨_, rfl, _, _, _, _, _, rfl, ClsV.ty _, .base (.bl _), kit_ty (r := true) (by decide +kernel), _, rfl, k H (Same.refl H)⟩
    · have nb : wholeB x = false := by
        cases x with
        | int y => exact absurd (.inl (q3.mpr ⟨y, rfl⟩)) c
        | _ => rfl
      refine ⟨_, rfl, _, _, _, _, _, rfl, ClsV.ty _, ty, kit_ty (r := false) (by
        simp only [List.mem_cons, List.not_mem_nil, or_false] at hz
        rcases hz with rfl | rfl | rfl | rfl | rfl | rfl | rfl <;> first | exact absurd (.inl rfl) c | exact absurd (.inr rfl) c | decide +kernel), _, rfl, iteF ?_⟩
      rw [← nb]
      exact k H (Same.refl H)
theorem scInteger : FnScope ["value"] ["value"] (defScope tInteger) := ⟨rfl, rfl, rfl, by decide +kernel, rfl, by decide +kernel, by decide +kernel⟩
theorem ok_integer {N m : Nat} {f fW : Addr} {fd fdW : FuncData} (F : Fun K "is_integer" "is_integer" tInteger f fd) (T : Txt mg) (FW : Fun K "is_whole" "is_whole" tWhole fW fdW) (bW : Binds K fdW ["value"] []) (gW : mg "is_whole" = some (.ref fW)) :
    FnOk P w K mg base CX0 2 f fd ["value"] (spV N m integB) := by
  have GW : FnOk P w K mg base CX0 1 fW fdW ["value"] (spV N m wholeB) := ok_whole FW T
  obtain ⟨tl, long⟩ := T.long
  refine F.ok scInteger (fun vs H Q E h => ?_) (fun cdv A outer s H vs Q E hr h => ?_)
  · obtain ⟨x, rfl, _⟩ := h
    rfl
  · obtain ⟨x, rfl, it, k⟩ := h
    refine ⟨_, pss_one (ps_ret (pe_and (pe_call GW hr rfl gW FW.kp bW .nil pass0 (pa_cons (pv 0) pa_nil))
      (pe_one (pe_chain op_lt op_lt (pe_un un_neg (pe_glob (v := .int (10 ^ 30)) rfl long ⟨_, rfl⟩)) (pv 0) (pe_glob (v := .int (10 ^ 30)) rfl long ⟨_, rfl⟩))))), ?_⟩
    refine ⟨_, rfl, x, rfl, it, fun H1 s1 => ?_⟩
    refine ⟨_, rfl, ?_⟩
    cases x with
    | int i =>
      refine iteT ⟨_, rfl, _, rfl, _, _, rfl, rfl, _, rfl, ?_⟩
      by_cases c : -(10 ^ 30) < i
      · rw [decide_eq_true c]
        refine iteT ⟨_, _, rfl, rfl, ?_⟩
        have z : integB (.int i) = decide (i < 10 ^ 30) := by
          show (decide (-(10 ^ 30) < i) && _) = _
          rw [decide_eq_true c, Bool.true_and]
        have kk := k _ s1
        rw [z] at kk
        exact kk
      · rw [decide_eq_false c]
        have z : integB (.int i) = false := by
          show (decide (-(10 ^ 30) < i) && _) = _
          rw [decide_eq_false c, Bool.false_and]
        have kk := k _ s1
        rw [z] at kk
        exact iteF kk
    | _ => exact iteF (k _ s1)
def spBetween (N m : Nat) (lo hi : Int) : Sp := fun vs H Q _ => ∃ x, vs = [x, .int lo, .int hi] ∧ Tv H N m x ∧ ∀ H', Same H H' → Q (.bl (betw lo hi x)) H'
theorem betw_no {lo hi : Int} {x : V} (h0 : -(10 ^ 30) < lo) (h1 : hi < 10 ^ 30) (h : integB x = false) : betw lo hi x = false := by
  cases x with
  | int i =>
    have z : betw lo hi (.int i) = (decide (lo ≤ i) && decide (i ≤ hi)) := rfl
    rw [z]
    have ci2 : ¬ (inB i = true) := by
      show ¬ (integB (.int i) = true)
      rw [h]
      exact Bool.false_ne_true
    rw [inB_iff] at ci2
    by_cases c0 : lo ≤ i
    · rw [decide_eq_false (show ¬ i ≤ hi by omega), Bool.and_false]
    · rw [decide_eq_false c0, Bool.false_and]
  | _ => rfl
theorem scBetween : FnScope ["value", "least", "most"] ["value", "least", "most"] (defScope tBetween) := ⟨rfl, rfl, rfl, by decide +kernel, rfl, by decide +kernel, by decide +kernel⟩
theorem ok_between {N m : Nat} {lo hi : Int} (h0 : -(10 ^ 30) < lo) (h1 : hi < 10 ^ 30) {f fI : Addr} {fd fdI : FuncData} (F : Fun K "is_between" "is_between" tBetween f fd) (GI : FnOk P w K mg base CX0 2 fI fdI ["value"] (spV N m integB)) (kI : PySem.W.keepIn K (.ref fI) = true) (bI : Binds K fdI ["value"] []) (gI : mg "is_integer" = some (.ref fI)) :
    FnOk P w K mg base CX0 3 f fd ["value", "least", "most"] (spBetween N m lo hi) := by
  refine F.ok scBetween (fun vs H Q E h => ?_) (fun cdv A outer s H vs Q E hr h => ?_)
  · obtain ⟨x, rfl, _⟩ := h
    rfl
  · obtain ⟨x, rfl, it, k⟩ := h
    refine ⟨_, pss_one (ps_ret (pe_and (pe_call GI hr rfl gI kI bI .nil pass0 (pa_cons (pv 0) pa_nil))
      (pe_and (pe_cmpR op_le (pv 1) (pv 0) (nomark _))
      (pe_one (pe_or (pe_cmpR op_isN (pv 2) pe_non (nomark _)) (pe_one (pe_cmpR op_le (pv 0) (pv 2) (nomark _)))))))), ?_⟩
    refine ⟨_, rfl, x, rfl, it, fun H1 s1 => ?_⟩
    refine ⟨_, rfl, ?_⟩
    have kk := k _ s1
    cases x with
    | int i =>
      have z : betw lo hi (.int i) = (decide (lo ≤ i) && decide (i ≤ hi)) := rfl
      cases ci : integB (.int i) with
      | false =>
        rw [betw_no h0 h1 ci] at kk
        exact iteF kk
      | true =>
        refine iteT ⟨_, rfl, _, rfl, _, _, rfl, rfl, _, rfl, ?_⟩
        by_cases c0 : lo ≤ i
        · rw [z, decide_eq_true c0, Bool.true_and] at kk
          exact iteD c0 ⟨_, rfl, rfl, _, rfl, iteF ⟨_, rfl, _, rfl, _, _, rfl, rfl, kk⟩⟩
        · rw [z, decide_eq_false c0, Bool.false_and] at kk
          exact iteDn c0 kk
    | _ => exact iteF kk
end
end K0
namespace K0
open PySem L2
open L2.My
/-- the loom at p: three ints -/
def Loom (H : Hp) (p : Addr) : Prop := ∃ a b c : Int, H p = some (.lst [.int a, .int b, .int c]) ∧ 0 ≤ a ∧ 0 ≤ b ∧ b < 2305843009213693669
theorem Loom.isL {H : Hp} {p : Addr} (l : Loom H p) : IsL H p := by
  obtain ⟨a, b, c, e, _⟩ := l
  exact ⟨_, e⟩
theorem Loom.kp {H H' : Hp} {p : Addr} (l : Loom H p) (l' : Loom H' p) (s : But p H H') : Kp H H' := s.kp l.isL l'.isL
theorem Loom.same {H H' : Hp} {p : Addr} (l : Loom H p) (s : Same H H') : Loom H' p := by
  obtain ⟨a, b, c, e, r⟩ := l
  exact ⟨a, b, c, s _ _ e, r⟩
theorem upd_but {H : Hp} {p : Addr} {o : HO} : But p H (upd H p o) := fun q hq _ e => by rw [upd_ne hq]; exact e
structure Bl (mg : Str → Option Value) : Prop where
  int : mg "int" = none
  abs : mg "abs" = none
  max : mg "max" = none
  range : mg "range" = none
  len : mg "len" = none
  tuple : mg "tuple" = none
  list : mg "list" = none
  isi : mg "isinstance" = none
theorem pow600 : CPowW ((10 : Int) ^ (60 : Int).toNat) 10 := ⟨by decide, by decide +kernel⟩
theorem pos600 : (0 : Int) < ((10 : Int) ^ (60 : Int).toNat) ^ (10 : Int).toNat := by decide +kernel
section
variable {P : Program} {w : World} {K : PySem.W.Frag} {mg : Str → Option Value} {base : Heap}
def spLoom (K : PySem.W.Frag) : Sp := fun vs H Q _ => ∃ (a : Addr) (ns : List Int) (i : Nat), vs = [.ref a, .int i] ∧ SqL K H a (ns.map V.int) ∧ i < 100 ∧ ∀ p H', H p = none → Same H H' → Loom H' p → Q (.ref p) H'
theorem scLoom : FnScope ["_law_script", "_law_spot", "_law_cell", "_law_great", "_law_blend"] ["_law_script", "_law_spot"] (defScope tLoom) := ⟨rfl, rfl, rfl, by decide +kernel, rfl, by decide +kernel, by decide +kernel⟩
theorem ok_loom {f : Addr} {fd : FuncData} (F : Fun K "_law_loom" "_law_loom" tLoom f fd) (T : Bl mg) : FnOk P w K mg base CX0 1 f fd ["_law_script", "_law_spot"] (spLoom K) := by
  refine F.ok scLoom (fun vs H Q E h => ?_) (fun cdv A outer s H vs Q E hr h => ?_)
  · obtain ⟨a, ns, i, rfl, _⟩ := h
    rfl
  · obtain ⟨a, ns, i, rfl, hS, hi, k⟩ := h
    refine ⟨_, pss_cons (ps_set (i := 2) scLoom.nd rfl (.inl rfl) (pe_ifExp (pt_cmpR op_lt (pv 1) (pe_callB call_len_seq (by rfl) T.len PySem.boot_len (pa_cons (pv 0) pa_nil)) (nomark _)) (pe_ix ix_list (pv 0) (pv 1) (fun _ _ => rfl)) (pe_op op_add (pe_op op_mul pe_int (pv 1)) pe_int)))
      (pss_cons (ps_set (i := 3) scLoom.nd rfl (.inl rfl) (pe_op op_mod (pe_callTy call_int1 (by rfl) T.int (by decide +kernel) (pa_cons (pe_callB call_abs (by rfl) T.abs (by decide +kernel) (pa_cons (pv 2) pa_nil)) pa_nil)) (pe_op op_powW (pe_op op_pow pe_int pe_int) pe_int)))
      (pss_cons (ps_set (i := 4) scLoom.nd rfl (.inl rfl) (pe_op op_add (pe_op op_add (pe_op op_add (pe_op op_mul (pv 3) pe_int) (pe_op op_mul pe_int (pv 1))) (pe_op op_mul pe_int (pe_callTy call_int1 (by rfl) T.int (by decide +kernel) (pa_cons (pe_cmpR op_lt (pv 2) pe_int (nomark _)) pa_nil)))) pe_int))
      (pss_one (ps_ret (pe_lst (pa_cons (pe_callB (call_max2 rfl) (by rfl) T.max (by decide +kernel) (pa_cons pe_int (pa_cons (pe_op op_sub (pv 3) (pe_op op_pow pe_int pe_int)) pa_nil)))
        (pa_cons (pe_op op_mod (pe_callTy call_int1 (by rfl) T.int (by decide +kernel) (pa_cons (pv 4) pa_nil)) pe_int) (pa_cons pe_int pa_nil)))))))), ?_⟩
    refine ⟨_, rfl, _, rfl, a, _, rfl, .inl hS, _, _, rfl, rfl, _, rfl, ?_⟩
    refine ite2 (fun c => ?_) (fun c => ?_)
    · obtain ⟨cell, hcell⟩ : ∃ cell : Int, (ns.map V.int)[i]? = some (.int cell) := by
        have c2 := of_decide_eq_true c
        rw [List.length_map] at c2
        have c3 : i < ns.length := by omega
        exact ⟨ns[i], by simp [c3]⟩
      refine ⟨_, rfl, _, rfl, a, _, i, _, rfl, rfl, hS, atI_nat (j := i) hcell, ?_⟩
      refine ⟨_, rfl, _, rfl, .inl ⟨_, rfl, _, _, rfl, rfl, ⟨by decide, by decide, by decide⟩, _, _, rfl, rfl, pow600, _, _, rfl, rfl, pos600, ?_⟩⟩
      revert k
      generalize (if cell < 0 then -cell else cell) % ((10 : Int) ^ (60 : Int).toNat) ^ (10 : Int).toNat = great
      intro k
      refine ⟨_, rfl, _, _, rfl, rfl, .inr ⟨by decide, by decide⟩, _, rfl, _, _, rfl, rfl, .inl ⟨by decide, by decide⟩, _, _, rfl, rfl, ?_⟩
      refine ⟨_, rfl, _, _, rfl, rfl, .inr ⟨_, rfl, _, _, rfl, rfl, .inl ⟨by decide, by decide⟩, _, _, rfl, rfl, _, _, rfl, rfl, ?_⟩⟩
      refine ⟨_, rfl, _, _, rfl, rfl, ⟨by decide, by decide, by decide⟩, _, _, rfl, rfl, _, _, rfl, ?_⟩
      refine ⟨_, rfl, .inl ⟨_, rfl, _, _, rfl, rfl, (by show (0 : Int) < 2305843009213693669; decide), ?_⟩⟩
      refine ⟨(by show 3 ≤ sizeLine; decide), fun p hp => k p _ hp (grow hp) ⟨_, _, _, upd_same, ?_, ?_, ?_⟩⟩
      · split <;> omega
      · exact Int.emod_nonneg _ (by decide)
      · exact Int.emod_lt_of_pos _ (by decide)
    · refine ⟨_, rfl, _, _, rfl, rfl, .inl ⟨by decide, by decide⟩, _, _, rfl, rfl, ?_⟩
      generalize (71 * (i : Int) + 29 : Int) = cell
      refine ⟨_, rfl, _, rfl, .inl ⟨_, rfl, _, _, rfl, rfl, ⟨by decide, by decide, by decide⟩, _, _, rfl, rfl, pow600, _, _, rfl, rfl, pos600, ?_⟩⟩
      revert k
      generalize (if cell < 0 then -cell else cell) % ((10 : Int) ^ (60 : Int).toNat) ^ (10 : Int).toNat = great
      intro k
      refine ⟨_, rfl, _, _, rfl, rfl, .inr ⟨by decide, by decide⟩, _, rfl, _, _, rfl, rfl, .inl ⟨by decide, by decide⟩, _, _, rfl, rfl, ?_⟩
      refine ⟨_, rfl, _, _, rfl, rfl, .inr ⟨_, rfl, _, _, rfl, rfl, .inl ⟨by decide, by decide⟩, _, _, rfl, rfl, _, _, rfl, rfl, ?_⟩⟩
      refine ⟨_, rfl, _, _, rfl, rfl, ⟨by decide, by decide, by decide⟩, _, _, rfl, rfl, _, _, rfl, ?_⟩
      refine ⟨_, rfl, .inl ⟨_, rfl, _, _, rfl, rfl, (by show (0 : Int) < 2305843009213693669; decide), ?_⟩⟩
      refine ⟨(by show 3 ≤ sizeLine; decide), fun p hp => k p _ hp (grow hp) ⟨_, _, _, upd_same, ?_, ?_, ?_⟩⟩
      · split <;> omega
      · exact Int.emod_nonneg _ (by decide)
      · exact Int.emod_lt_of_pos _ (by decide)
/-! ### _law_turn -/
def spTurn : Sp := fun vs H Q _ => ∃ (p : Addr) (m : Int), vs = [.ref p, .int m] ∧ 0 < m ∧ m < 1073741824 ∧ Loom H p ∧ ∀ r H', 0 ≤ r → r < m → Loom H' p → But p H H' → Q (.int r) H'
theorem scTurn : FnScope ["_law_loom_here", "_law_total", "_law_found", "_law_one", "_law_two"] ["_law_loom_here", "_law_total"] (defScope tTurn) := ⟨rfl, rfl, rfl, by decide +kernel, rfl, by decide +kernel, by decide +kernel⟩
theorem ok_turn {f : Addr} {fd : FuncData} (F : Fun K "_law_turn" "_law_turn" tTurn f fd) (T : Bl mg) : FnOk P w K mg base CX0 1 f fd ["_law_loom_here", "_law_total"] spTurn := by
  refine F.ok scTurn (fun vs H Q E h => ?_) (fun cdv A outer s H vs Q E hr h => ?_)
  · obtain ⟨p, m, rfl, _⟩ := h
    rfl
  · obtain ⟨p, m, rfl, m0, m1, ⟨a, b, c, e, a0, b0, b1⟩, k⟩ := h
    have m2 : m ≠ 0 := by omega
    refine ⟨_, pss_cons (ps_if (pt_cmpR op_gt (pe_ix ix_list (pv 0) pe_int (fun _ _ => rfl)) pe_int (nomark _))
        (pss_cons (ps_set (i := 2) scTurn.nd rfl (.inl rfl) (pe_op op_modN (pe_callTy call_int1 (by rfl) T.int (by decide +kernel) (pa_cons (pe_ix ix_list (pv 0) pe_int (fun _ _ => rfl)) pa_nil)) (pv 1)))
        (pss_cons (ps_asg (pe_op op_fdivN (pe_ix ix_list (pv 0) pe_int (fun _ _ => rfl)) (pv 1)) (pg_sub (pv 0) pe_int set_list))
        (pss_one (ps_ret (pv 2))))) pss_nil)
      (pss_cons (ps_asg (pe_op op_add (pe_ix ix_list (pv 0) pe_int (fun _ _ => rfl)) pe_int) (pg_sub (pv 0) pe_int set_list))
      (pss_cons (ps_set (i := 3) scTurn.nd rfl (.inl rfl) (pe_op op_mod (pe_callTy call_int1 (by rfl) T.int (by decide +kernel) (pa_cons (pe_op op_add (pe_op op_mul (pe_ix ix_list (pv 0) pe_int (fun _ _ => rfl)) pe_int) (pe_op op_mul (pe_ix ix_list (pv 0) pe_int (fun _ _ => rfl)) pe_int)) pa_nil)) pe_int))
      (pss_cons (ps_set (i := 4) scTurn.nd rfl (.inl rfl) (pe_op op_add (pe_op op_mul (pe_op op_mod (pe_callTy call_int1 (by rfl) T.int (by decide +kernel) (pa_cons (pe_op op_mul (pv 3) (pv 3)) pa_nil)) pe_int) (pv 3)) (pe_op op_mul pe_int (pe_ix ix_list (pv 0) pe_int (fun _ _ => rfl)))))
      (pss_one (ps_ret (pe_op op_modN (pe_callTy call_int1 (by rfl) T.int (by decide +kernel) (pa_cons (pe_op op_fdiv (pe_op op_mod (pe_callTy call_int1 (by rfl) T.int (by decide +kernel) (pa_cons (pe_op op_add (pv 4) (pe_ix ix_list (pv 0) pe_int (fun _ _ => rfl))) pa_nil)) pe_int) pe_int) pa_nil)) (pv 1))))))), ?_⟩
    refine ⟨_, rfl, p, _, 0, _, rfl, rfl, SqL.of e, atI_nat (j := 0) rfl, _, _, rfl, rfl, _, rfl, ite2 (fun c0 => ?_) (fun c0 => ?_)⟩
    · refine ⟨_, rfl, p, _, 0, _, rfl, rfl, SqL.of e, atI_nat (j := 0) rfl, .inl ⟨_, rfl, _, rfl, _, _, rfl, rfl, m2, ?_⟩⟩
      refine ⟨_, rfl, p, _, 0, _, rfl, rfl, SqL.of e, atI_nat (j := 0) rfl, _, rfl, _, _, rfl, rfl, ⟨m2, by omega⟩, _, rfl, p, _, _, 0, rfl, rfl, e, rfl, ?_⟩
      refine ⟨_, rfl, k _ _ (Int.fmod_nonneg_of_pos _ m0) (Int.fmod_lt_of_pos _ m0) ⟨_, b, c, upd_same, Int.fdiv_nonneg a0 (by omega), b0, b1⟩ upd_but⟩
    · refine ⟨_, rfl, p, _, 2, _, rfl, rfl, SqL.of e, atI_nat (j := 2) rfl, _, _, rfl, rfl, _, rfl, p, _, _, 2, rfl, rfl, e, rfl, ?_⟩
      have e2 : (upd H p (.lst [.int a, .int b, .int (c + 1)])) p = some (.lst [.int a, .int b, .int (c + 1)]) := upd_same
      refine ⟨_, rfl, p, _, 1, _, rfl, rfl, SqL.of e2, atI_nat (j := 1) rfl, _, _, rfl, rfl, .inr ⟨by decide, by decide⟩, ?_⟩
      refine ⟨_, rfl, p, _, 2, _, rfl, rfl, SqL.of e2, atI_nat (j := 2) rfl, _, _, rfl, rfl, .inr ⟨by decide, by decide⟩, _, _, rfl, rfl, .inl ⟨_, rfl, _, _, rfl, rfl, (by show (0 : Int) < 2305843009213693951; decide), ?_⟩⟩
      have x0 : 0 ≤ (b * 22695477 + (c + 1) * 1597334677) % 2305843009213693951 := Int.emod_nonneg _ (by decide)
      have x1 : (b * 22695477 + (c + 1) * 1597334677) % 2305843009213693951 < 2305843009213693951 := Int.emod_lt_of_pos _ (by decide)
      refine ⟨_, rfl, _, rfl, _, _, rfl, rfl, .inl ⟨by omega, by omega⟩, .inl ⟨_, rfl, _, _, rfl, rfl, (by show (0 : Int) < 1152921504606846577; decide), _, rfl, _, _, rfl, rfl, .inr ⟨by omega, by omega⟩, ?_⟩⟩
      refine ⟨_, rfl, p, _, 2, _, rfl, rfl, SqL.of e2, atI_nat (j := 2) rfl, _, _, rfl, rfl, .inl ⟨by decide, by decide⟩, _, _, rfl, rfl, ?_⟩
      refine ⟨_, rfl, _, rfl, p, _, 1, _, rfl, rfl, SqL.of e2, atI_nat (j := 1) rfl, _, _, rfl, rfl, .inl ⟨_, rfl, _, _, rfl, rfl, (by show (0 : Int) < 4398046511119; decide), _, _, rfl, rfl, ⟨by decide, by decide⟩, .inl ⟨_, rfl, _, rfl, _, _, rfl, rfl, m2, ?_⟩⟩⟩
      exact k _ _ (Int.fmod_nonneg_of_pos _ m0) (Int.fmod_lt_of_pos _ m0) ⟨a, b, _, e2, a0, b0, b1⟩ upd_but
/-! ### _law_pick -/
def spPick : Sp := fun vs H Q _ => ∃ (p a : Addr) (xs : List V), vs = [.ref p, .ref a] ∧ H a = some (.lst xs) ∧ xs ≠ [] ∧ xs.length ≤ 1000 ∧ a ≠ p ∧ Loom H p ∧ ∀ x ∈ xs, ∀ H', Loom H' p → But p H H' → Q x H'
theorem scPick : FnScope ["_law_loom_here", "_law_items"] ["_law_loom_here", "_law_items"] (defScope tPick) := ⟨rfl, rfl, rfl, by decide +kernel, rfl, by decide +kernel, by decide +kernel⟩
theorem ok_pick {f fT : Addr} {fd fdT : FuncData} (F : Fun K "_law_pick" "_law_pick" tPick f fd) (T : Bl mg) (GT : FnOk P w K mg base CX0 1 fT fdT ["_law_loom_here", "_law_total"] spTurn) (kT : PySem.W.keepIn K (.ref fT) = true) (bT : Binds K fdT ["_law_loom_here", "_law_total"] []) (gT : mg "_law_turn" = some (.ref fT)) :
    FnOk P w K mg base CX0 2 f fd ["_law_loom_here", "_law_items"] spPick := by
  refine F.ok scPick (fun vs H Q E h => ?_) (fun cdv A outer s H vs Q E hr h => ?_)
  · obtain ⟨p, a, xs, rfl, _⟩ := h
    rfl
  · obtain ⟨p, a, xs, rfl, e, ne, l, hp, lo, k⟩ := h
    refine ⟨_, pss_one (ps_ret (pe_ix ix_list (pv 1) (pe_call GT hr rfl gT kT bT .nil pass0 (pa_cons (pv 0) (pa_cons (pe_callB call_len_seq (by rfl) T.len PySem.boot_len (pa_cons (pv 1) pa_nil)) pa_nil))) (fun _ _ => rfl))), ?_⟩
    have l0 : 0 < xs.length := List.length_pos_iff.mpr ne
    refine ⟨_, rfl, _, rfl, _, rfl, a, xs, rfl, .inl (SqL.of e), p, (xs.length : Int), rfl, by omega, by omega, lo, fun r H1 r0 r1 lo1 u1 => ?_⟩
    have e1 := u1 a hp _ e
    obtain ⟨j, rfl⟩ := Int.eq_ofNat_of_zero_le r0
    have hj : j < xs.length := by omega
    exact ⟨a, xs, j, xs[j], rfl, rfl, SqL.of e1, atI_nat (j := j) (List.getElem?_eq_getElem hj), k _ (List.getElem_mem hj) H1 lo1 u1⟩
end
end K0
namespace K0
open PySem L2
open L2.My
structure Dn (P : Program) (w : World) (K : PySem.W.Frag) (mg : Str → Option Value) (base : Heap) (CX : CXT) (x : Str) (ps : List Str) (k : Nat) (sp : Sp) (f : Addr) (fd : FuncData) : Prop where
  G : FnOk P w K mg base CX k f fd ps sp
  kp : PySem.W.keepIn K (.ref f) = true
  b : Binds K fd ps []
  g : mg x = some (.ref f)
abbrev mroR : List Value := [.type "RuntimeError", .type "Exception", .type "BaseException", .type "object"]
abbrev NumC (K : PySem.W.Frag) (mg : Str → Option Value) (CN fN : Addr) : Prop := Own_value.ErrCls K mg "InvalidNumber" "InvalidNumber.__init__" "RuntimeError.__new__" mroR CN fN
theorem upR : Above "RuntimeError" mroR := .of PySem.F.excBase_RuntimeError
/-- InvalidNumber is raised for x -/
def RaN (E : XK) (H : Hp) (CN : Addr) (x : V) : Prop := ∀ H' d, Same H H' → H' d = none → E (.ref CN) (some d) (upd H' d (.xd [(("value" : Str), x)]))
section
variable {P : Program} {w : World} {K : PySem.W.Frag} {mg : Str → Option Value} {base : Heap}
def spChNum (N m : Nat) (CN : Addr) (lo hi : Int) : Sp := fun vs H Q E => ∃ x, vs = [x, .int lo, .int hi] ∧ Tv H N m x ∧ (betw lo hi x = false → RaN E H CN x) ∧ (betw lo hi x = true → ∀ H', Same H H' → Q .non H')
def spChInt (N m : Nat) (CN : Addr) : Sp := fun vs H Q E => ∃ x, vs = [x] ∧ Tv H N m x ∧ (integB x = false → RaN E H CN x) ∧ (integB x = true → ∀ H', Same H H' → Q .non H')
theorem scChNum : FnScope ["value", "least", "most"] ["value", "least", "most"] (defScope tChNum) := ⟨rfl, rfl, rfl, by decide +kernel, rfl, by decide +kernel, by decide +kernel⟩
theorem ok_chnum {N m : Nat} {lo hi : Int} {f fB CN fN : Addr} {fd fdB : FuncData} (F : Fun K "check_number" "check_number" tChNum f fd) (R : NumC K mg CN fN) (dB : Dn P w K mg base CX0 "is_between" ["value", "least", "most"] 3 (spBetween N m lo hi) fB fdB) :
    FnOk P w K mg base (L2.CX P w) 4 f fd ["value", "least", "most"] (spChNum N m CN lo hi) := by
  refine F.okX scChNum (fun vs H Q E h => ?_) (fun cdv A outer s H vs Q E hr h => ?_)
  · obtain ⟨x, rfl, _⟩ := h
    rfl
  · obtain ⟨x, rfl, tx, k1, k2⟩ := h
    have hr1 : Room 1 _ := hr.mono (by decide)
    refine ⟨_, pss_one (ps_if (pt_not (pt_val (pe_call dB.G hr rfl dB.g dB.kp dB.b .nil pass0 (pa_cons (pv 0) (pa_cons (pv 1) (pa_cons (pv 2) pa_nil)))))) (pss_one (Own_value.ps_raiseErr PySem.F.excBase_RuntimeError upR PySem.F.store_RuntimeError rfl R hr1 (takes_of rfl rfl rfl rfl) (pa_cons (pv 0) pa_nil) rfl)) pss_nil), ?_⟩
    refine ⟨_, rfl, _, rfl, _, rfl, x, rfl, tx, fun H1 s1 => ⟨_, rfl, ?_⟩⟩
    cases c : betw lo hi x with
    | false => exact iteT ⟨_, rfl, _, rfl, fun d hd => k1 c H1 d s1 hd⟩
    | true => exact iteF (k2 c _ s1)
theorem scChInt : FnScope ["value"] ["value"] (defScope tChInt) := ⟨rfl, rfl, rfl, by decide +kernel, rfl, by decide +kernel, by decide +kernel⟩
theorem ok_chint {N m : Nat} {f fI CN fN : Addr} {fd fdI : FuncData} (F : Fun K "check_integer" "check_integer" tChInt f fd) (R : NumC K mg CN fN) (dI : Dn P w K mg base CX0 "is_integer" ["value"] 2 (spV N m integB) fI fdI) :
    FnOk P w K mg base (L2.CX P w) 3 f fd ["value"] (spChInt N m CN) := by
  refine F.okX scChInt (fun vs H Q E h => ?_) (fun cdv A outer s H vs Q E hr h => ?_)
  · obtain ⟨x, rfl, _⟩ := h
    rfl
  · obtain ⟨x, rfl, tx, k1, k2⟩ := h
    have hr1 : Room 1 _ := hr.mono (by decide)
    refine ⟨_, pss_one (ps_if (pt_not (pt_val (pe_call dI.G hr rfl dI.g dI.kp dI.b .nil pass0 (pa_cons (pv 0) pa_nil)))) (pss_one (Own_value.ps_raiseErr PySem.F.excBase_RuntimeError upR PySem.F.store_RuntimeError rfl R hr1 (takes_of rfl rfl rfl rfl) (pa_cons (pv 0) pa_nil) rfl)) pss_nil), ?_⟩
    refine ⟨_, rfl, x, rfl, tx, fun H1 s1 => ⟨_, rfl, ?_⟩⟩
    cases c : integB x with
    | false => exact iteT ⟨_, rfl, _, rfl, fun d hd => k1 c H1 d s1 hd⟩
    | true => exact iteF (k2 c _ s1)
theorem integ_int {x : V} (h : integB x = true) : ∃ i, x = .int i ∧ inB i = true := by
  cases x with
  | int i => exact ⟨i, rfl, h⟩
  | _ => cases h
theorem betw_int {lo hi : Int} {x : V} (h : betw lo hi x = true) : ∃ i, x = .int i ∧ lo ≤ i ∧ i ≤ hi := by
  cases x with
  | int i =>
    have h2 : (decide (lo ≤ i) && decide (i ≤ hi)) = true := h
    rw [Bool.and_eq_true, decide_eq_true_eq, decide_eq_true_eq] at h2
    exact ⟨i, rfl, h2.1, h2.2⟩
  | _ => cases h
theorem RaN.on {E : XK} {H H' : Hp} {CN : Addr} {x : V} (r : RaN E H CN x) (s : Same H H') : RaN E H' CN x := fun H2 d s2 hd => r H2 d (s.trans s2) hd
/-! ### slot_of -/
def spSlot (N m : Nat) (CN : Addr) : Sp := fun vs H Q E => ∃ x y, vs = [x, y] ∧ Tv H N m x ∧ Tv H N m y ∧ (integB x = false → RaN E H CN x) ∧ (integB x = true → betw 1 32 y = false → RaN E H CN y) ∧
  ∀ i j, x = .int i → y = .int j → inB i = true → 1 ≤ j → j ≤ 32 → ∀ H', Same H H' → Q (.int (i % j)) H'
theorem scSlot : FnScope ["tick", "interval"] ["tick", "interval"] (defScope tSlot) := ⟨rfl, rfl, rfl, by decide +kernel, rfl, by decide +kernel, by decide +kernel⟩
theorem ok_slot {N m : Nat} {f fI fB CN fN : Addr} {fd fdI fdB : FuncData} (F : Fun K "slot_of" "slot_of" tSlot f fd) (hM : ∃ t, mg "MAX_INTERVAL" = some (.int 32 t))
    (dI : Dn P w K mg base (L2.CX P w) "check_integer" ["value"] 3 (spChInt N m CN) fI fdI) (dB : Dn P w K mg base (L2.CX P w) "check_number" ["value", "least", "most"] 4 (spChNum N m CN 1 32) fB fdB) :
    FnOk P w K mg base (L2.CX P w) 5 f fd ["tick", "interval"] (spSlot N m CN) := by
  obtain ⟨tM, hM⟩ := hM
  refine F.okX scSlot (fun vs H Q E h => ?_) (fun cdv A outer s H vs Q E hr h => ?_)
  · obtain ⟨x, y, rfl, _⟩ := h
    rfl
  · obtain ⟨x, y, rfl, tx, ty, k1, k2, k3⟩ := h
    have hr3 : Room 3 _ := hr.mono (by decide)
    refine ⟨_, pss_cons (ps_expr (pe_callS dI.G hr3 rfl dI.g dI.kp dI.b (fun σ => passAt (takes_of rfl rfl rfl rfl) σ) (pa_cons (pv 0) pa_nil)))
      (pss_cons (ps_expr (pe_callS dB.G hr rfl dB.g dB.kp dB.b (fun σ => passAt (takes_of rfl rfl rfl rfl) σ) (pa_cons (pv 1) (pa_cons pe_int (pa_cons (pe_glob (v := .int 32) rfl hM ⟨_, rfl⟩) pa_nil)))))
      (pss_one (ps_ret (pe_op op_mod (pv 0) (pv 1))))), ?_⟩
    refine ⟨_, rfl, x, rfl, tx, fun c => k1 c, fun c H1 s1 => ?_⟩
    refine ⟨_, rfl, y, rfl, ty.kp (.of s1), fun c2 => (k2 c c2).on s1, fun c2 H2 s2 => ?_⟩
    obtain ⟨i, rfl, hi⟩ := integ_int c
    obtain ⟨j, rfl, j0, j1⟩ := betw_int c2
    exact ⟨_, rfl, _, rfl, _, _, rfl, rfl, by omega, k3 i j rfl rfl hi j0 j1 _ (s1.trans s2)⟩
/-! ### rounded_up -/
def spUp (N m : Nat) (CN : Addr) : Sp := fun vs H Q E => ∃ x z y, vs = [x, z, y] ∧ Tv H N m x ∧ Tv H N m z ∧ Tv H N m y ∧ (integB x = false → RaN E H CN x) ∧ (integB x = true → integB z = false → RaN E H CN z) ∧ (integB x = true → integB z = true → betw 1 32 y = false → RaN E H CN y) ∧
  ∀ i l j, x = .int i → z = .int l → y = .int j → 1 ≤ j → j ≤ 32 → ∀ H', Same H H' → Q (.int (i + (l - i) % j)) H'
theorem scUp : FnScope ["number", "slot", "interval"] ["number", "slot", "interval"] (defScope tUp) := ⟨rfl, rfl, rfl, by decide +kernel, rfl, by decide +kernel, by decide +kernel⟩
theorem ok_up {N m : Nat} {f fI fB CN fN : Addr} {fd fdI fdB : FuncData} (F : Fun K "rounded_up" "rounded_up" tUp f fd) (hM : ∃ t, mg "MAX_INTERVAL" = some (.int 32 t))
    (dI : Dn P w K mg base (L2.CX P w) "check_integer" ["value"] 3 (spChInt N m CN) fI fdI) (dB : Dn P w K mg base (L2.CX P w) "check_number" ["value", "least", "most"] 4 (spChNum N m CN 1 32) fB fdB) :
    FnOk P w K mg base (L2.CX P w) 5 f fd ["number", "slot", "interval"] (spUp N m CN) := by
  obtain ⟨tM, hM⟩ := hM
  refine F.okX scUp (fun vs H Q E h => ?_) (fun cdv A outer s H vs Q E hr h => ?_)
  · obtain ⟨x, z, y, rfl, _⟩ := h
    rfl
  · obtain ⟨x, z, y, rfl, tx, tz, ty, k1, k2, k3, k4⟩ := h
    have hr3 : Room 3 _ := hr.mono (by decide)
    refine ⟨_, pss_cons (ps_expr (pe_callS dI.G hr3 rfl dI.g dI.kp dI.b (fun σ => passAt (takes_of rfl rfl rfl rfl) σ) (pa_cons (pv 0) pa_nil)))
      (pss_cons (ps_expr (pe_callS dI.G hr3 rfl dI.g dI.kp dI.b (fun σ => passAt (takes_of rfl rfl rfl rfl) σ) (pa_cons (pv 1) pa_nil)))
      (pss_cons (ps_expr (pe_callS dB.G hr rfl dB.g dB.kp dB.b (fun σ => passAt (takes_of rfl rfl rfl rfl) σ) (pa_cons (pv 2) (pa_cons pe_int (pa_cons (pe_glob (v := .int 32) rfl hM ⟨_, rfl⟩) pa_nil)))))
      (pss_one (ps_ret (pe_op op_add (pv 0) (pe_op op_mod (pe_op op_sub (pv 1) (pv 0)) (pv 2))))))), ?_⟩
    refine ⟨_, rfl, x, rfl, tx, fun c => k1 c, fun c H1 s1 => ?_⟩
    refine ⟨_, rfl, z, rfl, tz.kp (.of s1), fun c2 => (k2 c c2).on s1, fun c2 H2 s2 => ?_⟩
    have s12 := s1.trans s2
    refine ⟨_, rfl, y, rfl, ty.kp (.of s12), fun c3 => (k3 c c2 c3).on s12, fun c3 H3 s3 => ?_⟩
    obtain ⟨i, rfl, hi⟩ := integ_int c
    obtain ⟨l, rfl, hl⟩ := integ_int c2
    obtain ⟨j, rfl, j0, j1⟩ := betw_int c3
    exact ⟨_, rfl, _, rfl, _, rfl, _, _, rfl, rfl, _, rfl, _, _, rfl, rfl, by omega, _, _, rfl, rfl, k4 i l j rfl rfl rfl j0 j1 _ (s12.trans s3)⟩
end
end K0
namespace K0
open PySem L2
open L2.My
def tells (K : PySem.W.Frag) (C : Addr) (cs : List Value) : List (Option Bool) := cs.map (PySem.W.kitOne K (.ref C))
theorem dp_bools {K : PySem.W.Frag} {H : Hp} : ∀ bs : List Bool, DpAll K H (bs.map V.bl) (bs.map PyData.bool)
  | [] => .nil
  | b :: bs => .cons (.bl b) (dp_bools bs)
theorem shaped_bools (bs : List Bool) : SeqAt.shaped (.list (bs.map PyData.bool)) = true := by
  have all : PyData.canLayAll0 (bs.map PyData.bool) = true ∧ PyData.depthAll (bs.map PyData.bool) = 0 := by
    induction bs with
    | nil => exact ⟨by simp [PyData.canLayAll0], by simp [PyData.depthAll]⟩
    | cons b bs ih =>
      rw [List.map_cons, PyData.canLayAll0, PyData.depthAll, ih.1, ih.2]
      exact ⟨by simp [PyData.canLay0], by simp [PyData.depth]⟩
  unfold SeqAt.shaped
  rw [PyData.canLay0, PyData.depth, all.1, all.2]
  decide
theorem eqv_bools : ∀ bs cs : List Bool, PyData.eqvAll (bs.map PyData.bool) (cs.map PyData.bool) = decide (bs = cs)
  | [], [] => by simp [PyData.eqvAll]
  | [], c :: cs => by simp [PyData.eqvAll]
  | b :: bs, [] => by simp [PyData.eqvAll]
  | b :: bs, c :: cs => by
    rw [List.map_cons, List.map_cons, PyData.eqvAll, eqv_bools bs cs]
    have e : PyData.eqv (.bool b) (.bool c) = decide (b = c) := by cases b <;> cases c <;> decide +kernel
    rw [e]
    apply Bool.eq_iff_iff.mpr
    rw [Bool.and_eq_true, decide_eq_true_eq, decide_eq_true_eq, decide_eq_true_eq]
    exact ⟨fun h => by rw [h.1, h.2], fun h => by injection h with h1 h2; exact ⟨h1, h2⟩⟩
theorem eqv_lists (bs cs : List Bool) : PyData.eqv (.list (bs.map PyData.bool)) (.list (cs.map PyData.bool)) = decide (bs = cs) := by
  rw [PyData.eqv, eqv_bools]
theorem eqD_bools {K : PySem.W.Frag} {H : Hp} {a b : Addr} {bs cs : List Bool} {Q : VK} (ea : H a = some (.lst (bs.map V.bl))) (eb : H b = some (.lst (cs.map V.bl))) (q : Q (.bl (decide (bs = cs))) H) : rEqD K (.ref a) (.ref b) H Q := by
  refine ⟨.list (bs.map PyData.bool), .list (cs.map PyData.bool), .lst (SqL.of ea) (dp_bools _), .lst (SqL.of eb) (dp_bools _), shaped_bools _, shaped_bools _, ?_⟩
  rw [eqv_lists]
  exact q
structure Bx (mg : Str → Option Value) : Prop where
  isi : mg "isinstance" = none
  ve : mg "ValueError" = none
  ke : mg "KeyError" = none
  re : mg "RuntimeError" = none
  oe : mg "OverflowError" = none
  ie : mg "IndexError" = none
  ae : mg "ArithmeticError" = none
abbrev kindsV (CF : Addr) : List Value := [.type "ValueError", .type "KeyError", .type "RuntimeError", .type "OverflowError", .type "IndexError", .type "ArithmeticError", .ref CF]
section
variable {P : Program} {w : World} {K : PySem.W.Frag} {mg : Str → Option Value} {base : Heap}
def spTold (K : PySem.W.Frag) (CF : Addr) : Sp := fun vs H Q _ => ∃ (a C t : Addr) (ks ts : List Bool), vs = [.ref a, .ref t] ∧ IsE H C a ∧ ExcC K C ∧ tells K C (kindsV CF) = ks.map some ∧ H t = some (.lst (ts.map V.bl)) ∧ ∀ H', Same H H' → Q (.bl (decide (ks = ts))) H'
theorem scTold : FnScope ["_law_error", "_law_told", "_law_kinds"] ["_law_error", "_law_told"] (defScope tTold) := ⟨rfl, rfl, rfl, by decide +kernel, rfl, by decide +kernel, by decide +kernel⟩
theorem ok_told {f CF : Addr} {fd : FuncData} (F : Fun K "_law_is_told" "_law_is_told" tTold f fd) (T : Bx mg) (gF : mg "FoundryError" = some (.ref CF)) : FnOk P w K mg base CX0 1 f fd ["_law_error", "_law_told"] (spTold K CF) := by
  refine F.ok scTold (fun vs H Q E h => ?_) (fun cdv A outer s H vs Q E hr h => ?_)
  · obtain ⟨a, C, t, ks, ts, rfl, _⟩ := h
    rfl
  · obtain ⟨a, C, t, ks, ts, rfl, ie, ec, ek, et, k⟩ := h
    have hu : (A.deeper (PyProof.Rows.envOfC "_law_is_told" (defScope tTold) s.heap.objs.size f cdv)).units + 64 < cLine := by
      have := hr.un
      omega
    refine ⟨_, pss_cons (ps_set (i := 2) scTold.nd rfl (.inl rfl) (pe_lst (pa_cons (pe_callB call_isX (by rfl) T.isi (by decide +kernel) (pa_cons (pv 0) (pa_cons (pe_bltn (v := .ty "ValueError") (by rfl) T.ve (by decide +kernel) rfl) pa_nil)))
        (pa_cons (pe_callB call_isX (by rfl) T.isi (by decide +kernel) (pa_cons (pv 0) (pa_cons (pe_bltn (v := .ty "KeyError") (by rfl) T.ke (by decide +kernel) rfl) pa_nil)))
        (pa_cons (pe_callB call_isX (by rfl) T.isi (by decide +kernel) (pa_cons (pv 0) (pa_cons (pe_bltn (v := .ty "RuntimeError") (by rfl) T.re (by decide +kernel) rfl) pa_nil))) pa_nil)))))
      (pss_cons (ps_set (i := 2) scTold.nd rfl (.inl rfl) (pe_op op_cat (pv 2) (pe_lst (pa_cons (pe_callB call_isX (by rfl) T.isi (by decide +kernel) (pa_cons (pv 0) (pa_cons (pe_bltn (v := .ty "OverflowError") (by rfl) T.oe (by decide +kernel) rfl) pa_nil)))
        (pa_cons (pe_callB call_isX (by rfl) T.isi (by decide +kernel) (pa_cons (pv 0) (pa_cons (pe_bltn (v := .ty "IndexError") (by rfl) T.ie (by decide +kernel) rfl) pa_nil))) pa_nil)))))
      (pss_cons (ps_set (i := 2) scTold.nd rfl (.inl rfl) (pe_op op_cat (pv 2) (pe_lst (pa_cons (pe_callB call_isX (by rfl) T.isi (by decide +kernel) (pa_cons (pv 0) (pa_cons (pe_bltn (v := .ty "ArithmeticError") (by rfl) T.ae (by decide +kernel) rfl) pa_nil)))
        (pa_cons (pe_callB call_isX (by rfl) T.isi (by decide +kernel) (pa_cons (pv 0) (pa_cons (pe_glob (v := .ref CF) rfl gF rfl) pa_nil))) pa_nil)))))
      (pss_one (ps_ret (pe_cmpR (op_eqD hu) (pv 2) (pv 1) (nomark _)))))), ?_⟩
    have len : ks.length = 7 := by
      have z := congrArg List.length ek
      rw [List.length_map] at z
      exact z.symm
    match ks, len, ek, k with
    | [k0, k1, k2, k3, k4, k5, k6], _, ek, k =>
    simp only [tells, kindsV, List.map_cons, List.map_nil, List.cons.injEq, and_true] at ek
    obtain ⟨e0, e1, e2, e3, e4, e5, e6⟩ := ek
    have lp : ∀ n : Nat, n ≤ 10 → n ≤ sizeLine := fun n h => Nat.le_trans h (by decide)
    refine ⟨_, rfl, a, C, _, _, k0, rfl, ClsV.ty _, ec, e0, ie, ?_⟩
    refine ⟨_, rfl, a, C, _, _, k1, rfl, ClsV.ty _, ec, e1, ie, ?_⟩
    refine ⟨_, rfl, a, C, _, _, k2, rfl, ClsV.ty _, ec, e2, ie, lp 3 (by decide), fun l1 n1 => ?_⟩
    have s1 : Same H (upd H l1 (.lst [.bl k0, .bl k1, .bl k2])) := grow n1
    have g1 : (upd H l1 (.lst [.bl k0, .bl k1, .bl k2])) l1 = some (.lst [.bl k0, .bl k1, .bl k2]) := upd_same
    revert s1 g1
    generalize upd H l1 (.lst [.bl k0, .bl k1, .bl k2]) = H1
    intro s1 g1
    refine ⟨_, rfl, _, rfl, a, C, _, _, k3, rfl, ClsV.ty _, ec, e3, ie.on s1, ?_⟩
    refine ⟨_, rfl, a, C, _, _, k4, rfl, ClsV.ty _, ec, e4, ie.on s1, lp 2 (by decide), fun l2 n2 => ?_⟩
    have s2 := grow (o := .lst [.bl k3, .bl k4]) n2
    refine ⟨l1, l2, _, _, rfl, rfl, s2 _ _ g1, upd_same, lp 5 (by decide), fun l3 n3 => ?_⟩
    have s3 := s2.trans (grow (o := .lst ([.bl k0, .bl k1, .bl k2] ++ [.bl k3, .bl k4])) n3)
    have g3 : (upd (upd H1 l2 (.lst [.bl k3, .bl k4])) l3 (.lst ([.bl k0, .bl k1, .bl k2] ++ [.bl k3, .bl k4]))) l3 = some (.lst ([.bl k0, .bl k1, .bl k2] ++ [.bl k3, .bl k4])) := upd_same
    revert s3 g3
    generalize upd (upd H1 l2 (.lst [.bl k3, .bl k4])) l3 (.lst ([.bl k0, .bl k1, .bl k2] ++ [.bl k3, .bl k4])) = H3
    intro s3 g3
    have s03 := s1.trans s3
    refine ⟨_, rfl, _, rfl, a, C, _, _, k5, rfl, ClsV.ty _, ec, e5, ie.on s03, ?_⟩
    refine ⟨_, rfl, a, C, _, _, k6, rfl, ClsV.own _, ec, e6, ie.on s03, lp 2 (by decide), fun l4 n4 => ?_⟩
    have s4 := grow (o := .lst [.bl k5, .bl k6]) n4
    refine ⟨l3, l4, _, _, rfl, rfl, s4 _ _ g3, upd_same, lp 7 (by decide), fun l5 n5 => ?_⟩
    have s5 := s4.trans (grow (o := .lst (([.bl k0, .bl k1, .bl k2] ++ [.bl k3, .bl k4]) ++ [.bl k5, .bl k6])) n5)
    refine ⟨_, rfl, _, rfl, eqD_bools (bs := [k0, k1, k2, k3, k4, k5, k6]) upd_same (s5 _ _ (s03 _ _ et)) (k _ (s03.trans s5))⟩
/-! ### the families -/
structure Fam (mg : Str → Option Value) (c0 c1 c2 c3 c4 c5 c6 c7 c8 : Addr) : Prop where
  g0 : mg "InvalidTree" = some (.ref c0)
  g1 : mg "InvalidBody" = some (.ref c1)
  g2 : mg "InvalidMachine" = some (.ref c2)
  g3 : mg "InvalidCover" = some (.ref c3)
  g4 : mg "InvalidJob" = some (.ref c4)
  g5 : mg "InvalidLives" = some (.ref c5)
  g6 : mg "InvalidKernel" = some (.ref c6)
  g7 : mg "InvalidArgument" = some (.ref c7)
  g8 : mg "ParseError" = some (.ref c8)
abbrev famV (c0 c1 c2 c3 c4 c5 c6 c7 c8 : Addr) : List Value := [.ref c0, .ref c1, .ref c2, .ref c3, .ref c4, .ref c5, .ref c6, .ref c7, .ref c8]
def spFam (K : PySem.W.Frag) (cs : List Value) : Sp := fun vs H Q _ => ∃ (a C : Addr) (ks : List Bool), vs = [.ref a] ∧ IsE H C a ∧ ExcC K C ∧ tells K C cs = ks.map some ∧ ∀ l H', Same H H' → H l = none → H' l = some (.lst (ks.map V.bl)) → Q (.ref l) H'
theorem scFam : FnScope ["_law_error", "_law_found"] ["_law_error"] (defScope tFam) := ⟨rfl, rfl, rfl, by decide +kernel, rfl, by decide +kernel, by decide +kernel⟩
theorem ok_fam {f c0 c1 c2 c3 c4 c5 c6 c7 c8 : Addr} {fd : FuncData} (F : Fun K "_law_families" "_law_families" tFam f fd) (hi : mg "isinstance" = none) (G : Fam mg c0 c1 c2 c3 c4 c5 c6 c7 c8) : FnOk P w K mg base CX0 1 f fd ["_law_error"] (spFam K (famV c0 c1 c2 c3 c4 c5 c6 c7 c8)) := by
  refine F.ok scFam (fun vs H Q E h => ?_) (fun cdv A outer s H vs Q E hr h => ?_)
  · obtain ⟨a, C, ks, rfl, _⟩ := h
    rfl
  · obtain ⟨a, C, ks, rfl, ie, ec, ek, k⟩ := h
    refine ⟨_, pss_cons (ps_set (i := 1) scFam.nd rfl (.inl rfl) (pe_lst (pa_cons (pe_callB call_isX (by rfl) hi (by decide +kernel) (pa_cons (pv 0) (pa_cons (pe_glob (v := .ref c0) rfl G.g0 rfl) pa_nil)))
        (pa_cons (pe_callB call_isX (by rfl) hi (by decide +kernel) (pa_cons (pv 0) (pa_cons (pe_glob (v := .ref c1) rfl G.g1 rfl) pa_nil)))
        (pa_cons (pe_callB call_isX (by rfl) hi (by decide +kernel) (pa_cons (pv 0) (pa_cons (pe_glob (v := .ref c2) rfl G.g2 rfl) pa_nil))) pa_nil)))))
      (pss_cons (ps_set (i := 1) scFam.nd rfl (.inl rfl) (pe_op op_cat (pv 1) (pe_lst (pa_cons (pe_callB call_isX (by rfl) hi (by decide +kernel) (pa_cons (pv 0) (pa_cons (pe_glob (v := .ref c3) rfl G.g3 rfl) pa_nil)))
        (pa_cons (pe_callB call_isX (by rfl) hi (by decide +kernel) (pa_cons (pv 0) (pa_cons (pe_glob (v := .ref c4) rfl G.g4 rfl) pa_nil)))
        (pa_cons (pe_callB call_isX (by rfl) hi (by decide +kernel) (pa_cons (pv 0) (pa_cons (pe_glob (v := .ref c5) rfl G.g5 rfl) pa_nil))) pa_nil))))))
      (pss_cons (ps_set (i := 1) scFam.nd rfl (.inl rfl) (pe_op op_cat (pv 1) (pe_lst (pa_cons (pe_callB call_isX (by rfl) hi (by decide +kernel) (pa_cons (pv 0) (pa_cons (pe_glob (v := .ref c6) rfl G.g6 rfl) pa_nil)))
        (pa_cons (pe_callB call_isX (by rfl) hi (by decide +kernel) (pa_cons (pv 0) (pa_cons (pe_glob (v := .ref c7) rfl G.g7 rfl) pa_nil))) pa_nil)))))
      (pss_one (ps_ret (pe_op op_cat (pv 1) (pe_lst (pa_cons (pe_callB call_isX (by rfl) hi (by decide +kernel) (pa_cons (pv 0) (pa_cons (pe_glob (v := .ref c8) rfl G.g8 rfl) pa_nil))) pa_nil))))))), ?_⟩
    have len : ks.length = 9 := by
      have z := congrArg List.length ek
      rw [List.length_map] at z
      exact z.symm
    match ks, len, ek, k with
    | [k0, k1, k2, k3, k4, k5, k6, k7, k8], _, ek, k =>
    simp only [tells, famV, List.map_cons, List.map_nil, List.cons.injEq, and_true] at ek
    obtain ⟨e0, e1, e2, e3, e4, e5, e6, e7, e8⟩ := ek
    have lp : ∀ n : Nat, n ≤ 10 → n ≤ sizeLine := fun n h => Nat.le_trans h (by decide)
    refine ⟨_, rfl, a, C, _, _, k0, rfl, ClsV.own _, ec, e0, ie, ?_⟩
    refine ⟨_, rfl, a, C, _, _, k1, rfl, ClsV.own _, ec, e1, ie, ?_⟩
    refine ⟨_, rfl, a, C, _, _, k2, rfl, ClsV.own _, ec, e2, ie, lp 3 (by decide), fun l1 n1 => ?_⟩
    have s1 : Same H (upd H l1 (.lst [.bl k0, .bl k1, .bl k2])) := grow n1
    have g1 : (upd H l1 (.lst [.bl k0, .bl k1, .bl k2])) l1 = some (.lst [.bl k0, .bl k1, .bl k2]) := upd_same
    revert s1 g1
    generalize upd H l1 (.lst [.bl k0, .bl k1, .bl k2]) = H1
    intro s1 g1
    refine ⟨_, rfl, _, rfl, a, C, _, _, k3, rfl, ClsV.own _, ec, e3, ie.on s1, ?_⟩
    refine ⟨_, rfl, a, C, _, _, k4, rfl, ClsV.own _, ec, e4, ie.on s1, ?_⟩
    refine ⟨_, rfl, a, C, _, _, k5, rfl, ClsV.own _, ec, e5, ie.on s1, lp 3 (by decide), fun l2 n2 => ?_⟩
    have s2 := grow (o := .lst [.bl k3, .bl k4, .bl k5]) n2
    refine ⟨l1, l2, _, _, rfl, rfl, s2 _ _ g1, upd_same, lp 6 (by decide), fun l3 n3 => ?_⟩
    have s3 := s2.trans (grow (o := .lst ([.bl k0, .bl k1, .bl k2] ++ [.bl k3, .bl k4, .bl k5])) n3)
    have g3 : (upd (upd H1 l2 (.lst [.bl k3, .bl k4, .bl k5])) l3 (.lst ([.bl k0, .bl k1, .bl k2] ++ [.bl k3, .bl k4, .bl k5]))) l3 = some (.lst ([.bl k0, .bl k1, .bl k2] ++ [.bl k3, .bl k4, .bl k5])) := upd_same
    revert s3 g3
    generalize upd (upd H1 l2 (.lst [.bl k3, .bl k4, .bl k5])) l3 (.lst ([.bl k0, .bl k1, .bl k2] ++ [.bl k3, .bl k4, .bl k5])) = H3
    intro s3 g3
    have s03 := s1.trans s3
    refine ⟨_, rfl, _, rfl, a, C, _, _, k6, rfl, ClsV.own _, ec, e6, ie.on s03, ?_⟩
    refine ⟨_, rfl, a, C, _, _, k7, rfl, ClsV.own _, ec, e7, ie.on s03, lp 2 (by decide), fun l4 n4 => ?_⟩
    have s4 := grow (o := .lst [.bl k6, .bl k7]) n4
    refine ⟨l3, l4, _, _, rfl, rfl, s4 _ _ g3, upd_same, lp 8 (by decide), fun l5 n5 => ?_⟩
    have s5 := s4.trans (grow (o := .lst (([.bl k0, .bl k1, .bl k2] ++ [.bl k3, .bl k4, .bl k5]) ++ [.bl k6, .bl k7])) n5)
    have g5 : (upd (upd H3 l4 (.lst [.bl k6, .bl k7])) l5 (.lst (([.bl k0, .bl k1, .bl k2] ++ [.bl k3, .bl k4, .bl k5]) ++ [.bl k6, .bl k7]))) l5 = some (.lst (([.bl k0, .bl k1, .bl k2] ++ [.bl k3, .bl k4, .bl k5]) ++ [.bl k6, .bl k7])) := upd_same
    revert s5 g5
    generalize upd (upd H3 l4 (.lst [.bl k6, .bl k7])) l5 (.lst (([.bl k0, .bl k1, .bl k2] ++ [.bl k3, .bl k4, .bl k5]) ++ [.bl k6, .bl k7])) = H5
    intro s5 g5
    have s05 := s03.trans s5
    refine ⟨_, rfl, _, rfl, a, C, _, _, k8, rfl, ClsV.own _, ec, e8, ie.on s05, lp 1 (by decide), fun l6 n6 => ?_⟩
    have s6 := grow (o := .lst [.bl k8]) n6
    refine ⟨l5, l6, _, _, rfl, rfl, s6 _ _ g5, upd_same, lp 9 (by decide), fun l7 n7 => ?_⟩
    have s7 := s6.trans (grow (o := .lst ((([.bl k0, .bl k1, .bl k2] ++ [.bl k3, .bl k4, .bl k5]) ++ [.bl k6, .bl k7]) ++ [.bl k8])) n7)
    exact k l7 _ (s05.trans s7) (same_none (s05.trans s6) n7) upd_same
end
end K0
namespace K0
open PySem L2
open L2.My
abbrev mroV : List Value := [.type "ValueError", .type "Exception", .type "BaseException", .type "object"]
abbrev mroK : List Value := [.type "KeyError", .type "LookupError", .type "Exception", .type "BaseException", .type "object"]
abbrev mroO : List Value := [.type "OverflowError", .type "ArithmeticError", .type "Exception", .type "BaseException", .type "object"]
abbrev mroI : List Value := [.type "IndexError", .type "LookupError", .type "Exception", .type "BaseException", .type "object"]
abbrev mroA : List Value := [.type "ArithmeticError", .type "Exception", .type "BaseException", .type "object"]
theorem upV : Above "ValueError" mroV := .of PySem.F.excBase_ValueError
theorem upO : Above "OverflowError" mroO := .of PySem.F.excBase_OverflowError
theorem upI : Above "IndexError" mroI := .of PySem.F.excBase_IndexError
theorem upA : Above "ArithmeticError" mroA := .of PySem.F.excBase_ArithmeticError
/-- an own error without an __init__ of its own -/
structure Pl (K : PySem.W.Frag) (C : Addr) : Prop where
  x : PySem.W.excIn K C mroV "ValueError.__new__" = true
  k : PySem.W.keepIn K (.ref C) = true
/-- the nine errors under FoundryError -/
structure Nine (K : PySem.W.Frag) (CF : Addr) (cs : List Addr) : Prop where
  ec : ∀ c ∈ cs, ExcC K c
  kd : ∀ c ∈ cs, tells K c (kindsV CF) = ([true, false, false, false, false, false, true] : List Bool).map some
  fm : ∀ i c, cs[i]? = some c → tells K c (cs.map Value.ref) = ((List.range 9).map fun j => decide (j = i)).map some
def dueL : List (List Int) := [[1], [2], [3, 5], [4], [5]]
/-- the five others -/
structure Five (K : PySem.W.Frag) (CF : Addr) (cs : List Addr) : Prop where
  ec : ∀ c ∈ cs, ExcC K c
  kd : ∀ (i : Nat) (c : Addr) (d : List Int), cs[i]? = some c → dueL[i]? = some d → tells K c (kindsV CF) = ((List.range 7).map fun (j : Nat) => d.any fun z => decide (z = (j : Int))).map some
/-- the errors stand in heap H at the addresses es -/
inductive AllE (H : Hp) : List Addr → List Addr → Prop
  | nil : AllE H [] []
  | cons {c e : Addr} {cs es : List Addr} (h : IsE H c e) (t : AllE H cs es) : AllE H (c :: cs) (e :: es)
theorem AllE.on {H H' : Hp} {cs es : List Addr} (s : Same H H') (a : AllE H cs es) : AllE H' cs es := by
  induction a with
  | nil => exact .nil
  | cons h _ ih => exact .cons (h.on s) ih
theorem AllE.at {H : Hp} : ∀ {cs es : List Addr} {i : Nat} {e : Addr}, AllE H cs es → es[i]? = some e → ∃ c, cs[i]? = some c ∧ IsE H c e
  | _, _, i, e, .nil, h => by simp at h
  | c :: _, e' :: _, 0, e, .cons h _, q => by
    cases q
    exact ⟨c, rfl, h⟩
  | _ :: _, _ :: _, i + 1, e, .cons _ t, q => AllE.at (i := i) t q
theorem range_step {α : Type} {f : Nat → α} {n i : Nat} (h : i < n) : ((List.range (i + 1)).map f) = (List.range i).map f ++ [f i] := by
  rw [List.range_succ, List.map_append]
  rfl
section
variable {P : Program} {w : World} {K : PySem.W.Frag} {mg : Str → Option Value} {base : Heap}
theorem in_at {X : Cx} (e : X.K = K) : OpR X (compareOp .In) (rIn K false) := e ▸ op_in_seq

theorem ixl_at {X : Cx} (e : X.K = K) : IxR X (rIxL K) := e ▸ ix_list
/-- one's own repr -/
structure Shows (K : PySem.W.Frag) (H : Hp) (v : V) (d : PyData) : Prop where
  dp : Dp K H v d
  td : Told d 60 1000
  ok1 : PyData.strOk d.shown = true
  ok2 : PyData.strOk (PyData.tuple [d, .int 1]).shown = true
  td2 : Told (PyData.tuple [d, .int 1]) 61 2000
theorem Shows.on {H H' : Hp} {v : V} {d : PyData} (a : Shows K H v d) (s : Same H H') : Shows K H' v d := ⟨L2.My.Dp.on s a.dp, a.td, a.ok1, a.ok2, a.td2⟩
theorem line2000 : 2000 ≤ sizeLine := by decide
theorem Shows.l1 {H : Hp} {v : V} {d : PyData} (a : Shows K H v d) : d.depth ≤ 64 := Nat.le_trans a.td.dp (by decide)
theorem Shows.l2 {H : Hp} {v : V} {d : PyData} (a : Shows K H v d) : d.shown.length ≤ sizeLine := Nat.le_trans a.td.le (by decide)
theorem Shows.l3 {H : Hp} {v : V} {d : PyData} (a : Shows K H v d) : (PyData.tuple [d, .int 1]).depth ≤ 64 := Nat.le_trans a.td2.dp (by decide)
theorem Shows.l4 {H : Hp} {v : V} {d : PyData} (a : Shows K H v d) : (PyData.tuple [d, .int 1]).shown.length ≤ sizeLine := Nat.le_trans a.td2.le (by decide)
theorem Shows.two {H : Hp} {v : V} {d : PyData} {a : Addr} (s : Shows K H v d) (e : H a = some (.tup [v, .int 1])) : Dp K H (.ref a) (.tuple [d, .int 1]) := .tup (SqT.of e) (.cons s.dp (.cons (.int 1) .nil))
theorem dp_strs {H : Hp} : ∀ zs : List Str, DpAll K H (zs.map V.str) (zs.map PyData.str)
  | [] => .nil
  | z :: zs => .cons (.str z) (dp_strs zs)
theorem shaped_strs {zs : List Str} (h : ∀ z ∈ zs, PyData.strOk z = true) : SeqAt.shaped (.list (zs.map PyData.str)) = true := by
  have all : PyData.canLayAll0 (zs.map PyData.str) = true ∧ PyData.depthAll (zs.map PyData.str) = 0 := by
    induction zs with
    | nil => exact ⟨by simp [PyData.canLayAll0], by simp [PyData.depthAll]⟩
    | cons z zs ih =>
      have ih := ih fun y hy => h y (List.mem_cons_of_mem _ hy)
      rw [List.map_cons, PyData.canLayAll0, PyData.depthAll, ih.1, ih.2]
      exact ⟨by simp [PyData.canLay0, h z (List.mem_cons_self ..)], by simp [PyData.depth]⟩
  unfold SeqAt.shaped
  rw [PyData.canLay0, PyData.depth, all.1, all.2]
  decide
theorem eqv_strs : ∀ zs : List Str, PyData.eqvAll (zs.map PyData.str) (zs.map PyData.str) = true
  | [] => by simp [PyData.eqvAll]
  | z :: zs => by
    rw [List.map_cons, PyData.eqvAll, eqv_strs zs]
    simp [PyData.eqv]
theorem eqD_strs {H : Hp} {a b : Addr} {zs : List Str} {Q : VK} (h : ∀ z ∈ zs, PyData.strOk z = true) (ea : H a = some (.lst (zs.map V.str))) (eb : H b = some (.lst (zs.map V.str))) (q : Q (.bl true) H) : rEqD K (.ref a) (.ref b) H Q := by
  refine ⟨.list (zs.map PyData.str), .list (zs.map PyData.str), .lst (SqL.of ea) (dp_strs _), .lst (SqL.of eb) (dp_strs _), shaped_strs h, shaped_strs h, ?_⟩
  rw [PyData.eqv, eqv_strs]
  exact q
theorem neD_strs {H : Hp} {a b : Addr} {zs : List Str} {Q : VK} (h : ∀ z ∈ zs, PyData.strOk z = true) (ea : H a = some (.lst (zs.map V.str))) (eb : H b = some (.lst (zs.map V.str))) (q : Q (.bl false) H) : rNeD K (.ref a) (.ref b) H Q := by
  refine ⟨.list (zs.map PyData.str), .list (zs.map PyData.str), .lst (SqL.of ea) (dp_strs _), .lst (SqL.of eb) (dp_strs _), shaped_strs h, shaped_strs h, ?_⟩
  rw [PyData.eqv, eqv_strs]
  exact q
theorem neD_bools {H : Hp} {a b : Addr} {bs : List Bool} {Q : VK} (ea : H a = some (.lst (bs.map V.bl))) (eb : H b = some (.lst (bs.map V.bl))) (q : Q (.bl false) H) : rNeD K (.ref a) (.ref b) H Q := by
  refine ⟨.list (bs.map PyData.bool), .list (bs.map PyData.bool), .lst (SqL.of ea) (dp_bools _), .lst (SqL.of eb) (dp_bools _), shaped_bools _, shaped_bools _, ?_⟩
  rw [eqv_lists, decide_eq_true rfl]
  exact q
theorem any_ints (s : Int) : ∀ d : List Int, inV (.int s) (d.map V.int) = d.any fun z => decide (z = s)
  | [] => rfl
  | z :: d => by
    have ih := any_ints s d
    unfold inV at ih ⊢
    rw [List.map_cons, List.any_cons, List.any_cons, ih]
    congr 1
theorem flat_ints : ∀ d : List Int, (d.map V.int).all flatV = true
  | [] => rfl
  | z :: d => by
    rw [List.map_cons, List.all_cons, flat_ints d]
    rfl
theorem lk1 {f : Str} {v : V} : List.lookup f [(f, v)] = some v := by simp [List.lookup]
theorem lkR {v u : V} : List.lookup ("reason" : Str) (Own_two.two v u) = some u := by simp [List.lookup, Own_two.two]
theorem lkK {v u : V} : List.lookup ("kind" : Str) (Own_two.two v u) = some v := by
  have e5 : ((("kind" : Str)) == (("reason" : Str))) = false := by decide +kernel
  show (match (("kind" : Str)) == (("reason" : Str)) with | true => some u | false => List.lookup ("kind" : Str) [(("kind" : Str), v)]) = some v
  rw [e5]
  simp [List.lookup]
def spErrs (K : PySem.W.Frag) : Sp := fun vs H Q _ => ∃ v d, vs = [v] ∧ Shows K H v d ∧ ∀ H', Same H H' → Q (.bl true) H'
theorem scErrs : FnScope ["_law_value", "_law_base", "_law_at", "_law_name", "_law_number", "_law_many", "_law_undo", "_law_broken", "_law_others", "_law_due", "_law_one", "_law_spot"] ["_law_value"] (defScope tErrs) := ⟨rfl, rfl, rfl, by decide +kernel, rfl, by decide +kernel, by decide +kernel⟩
abbrev NE : List Str := ["_law_value", "_law_base", "_law_at", "_law_name", "_law_number", "_law_many", "_law_undo", "_law_broken", "_law_others", "_law_due", "_law_one", "_law_spot"]
theorem ok_errs {f CF c0 c1 c2 c3 c4 c5 c6 c7 c8 CW CN CM CU CB fT fA f8 fW fN fM fU fB : Addr} {fd fdT fdA : FuncData} (F : Fun K "_law_errors_right" "_law_errors_right" tErrs f fd) (hrp : mg "repr" = none) (hrange : mg "range" = none) (hlen : mg "len" = none)
    (G : Fam mg c0 c1 c2 c3 c4 c5 c6 c7 c8) (M0 : Pl K c0) (M1 : Pl K c1) (M2 : Pl K c2) (M3 : Pl K c3) (M4 : Pl K c4) (M5 : Pl K c5) (M6 : Pl K c6) (M7 : Pl K c7)
    (E8 : Own_line.ErrCls K mg "ParseError" "ParseError.__init__" "ValueError.__new__" mroV c8 f8) (EW : Own_wanted.ErrCls K mg "UnknownName" "UnknownName.__init__" "LookupError.__new__" mroK CW fW) (EN : NumC K mg CN fN)
    (EM : Own_limit.ErrCls K mg "TooMany" "TooMany.__init__" "OverflowError.__new__" mroO CM fM) (EU : Own_many.ErrCls K mg "NothingToUndo" "NothingToUndo.__init__" "IndexError.__new__" mroI CU fU) (EB : Own_two.ErrCls K mg "Broken" "Broken.__init__" "ArithmeticError.__new__" mroA CB fB)
    (N9 : Nine K CF [c0, c1, c2, c3, c4, c5, c6, c7, c8]) (N5 : Five K CF [CW, CN, CM, CU, CB])
    (dT : Dn P w K mg base CX0 "_law_is_told" ["_law_error", "_law_told"] 1 (spTold K CF) fT fdT) (dA : Dn P w K mg base CX0 "_law_families" ["_law_error"] 1 (spFam K (famV c0 c1 c2 c3 c4 c5 c6 c7 c8)) fA fdA) :
    FnG P w K mg base 4 f fd ["_law_value"] (spErrs K) := by
  refine L2.My.Fun.okG F scErrs (fun vs H Q E h => ?_) (fun cdv A outer s H vs Q E _ hr gd h => ?_)
  · obtain ⟨v, d, rfl, _⟩ := h
    rfl
  · obtain ⟨v, d, rfl, sh, k⟩ := h
    have hr1 : Room 1 _ := hr.mono (by decide : 1 ≤ 3)
    have hu70 : (A.deeper (PyProof.Rows.envOfC "_law_errors_right" (defScope tErrs) s.heap.objs.size f cdv)).units + 70 < cLine := by
      have := hr.un
      omega
    have hu : (A.deeper (PyProof.Rows.envOfC "_law_errors_right" (defScope tErrs) s.heap.objs.size f cdv)).units + 64 < cLine := by omega
    have lp : ∀ n : Nat, n ≤ 20 → n ≤ sizeLine := fun n h => Nat.le_trans h (by decide)
    refine ⟨_, pss_cons (ps_set (i := 1) scErrs.nd rfl (.inl rfl) (pe_lst (pa_cons (pe_exc1 PySem.F.excBase_ValueError M0.x G.g0 M0.k rfl pe_str) (pa_cons (pe_exc1 PySem.F.excBase_ValueError M1.x G.g1 M1.k rfl pe_str) (pa_cons (pe_exc1 PySem.F.excBase_ValueError M2.x G.g2 M2.k rfl pe_str) (pa_cons (pe_exc1 PySem.F.excBase_ValueError M3.x G.g3 M3.k rfl pe_str) (pa_cons (pe_exc1 PySem.F.excBase_ValueError M4.x G.g4 M4.k rfl pe_str) pa_nil)))))))
      (pss_cons (ps_set (i := 1) scErrs.nd rfl (.inl rfl) (pe_op op_cat (pv 1) (pe_lst (pa_cons (pe_exc1 PySem.F.excBase_ValueError M5.x G.g5 M5.k rfl pe_str) (pa_cons (pe_exc1 PySem.F.excBase_ValueError M6.x G.g6 M6.k rfl pe_str) (pa_cons (pe_exc1 PySem.F.excBase_ValueError M7.x G.g7 M7.k rfl pe_str) (pa_cons (Own_line.pe_new PySem.F.excBase_ValueError upV PySem.F.store_ValueError E8 hr1 (pa_cons (pv 0) pa_nil) rfl) pa_nil)))))))
      (pss_cons (ps_for PassesOwn.never rfl (pi_range1 rfl hrange (pa_cons (pe_callB call_len_seq (by rfl) hlen PySem.boot_len (pa_cons (pv 1) pa_nil)) pa_nil)) (pg_name (i := 2) scErrs.nd rfl (.inr rfl))
        (pss_cons (ps_if (pt_not (pt_val (pe_call dT.G hr1 rfl dT.g dT.kp dT.b .nil pass0 (pa_cons (pe_ix ix_list (pv 1) (pv 2) (fun _ _ => rfl)) (pa_cons (pe_op op_cat (pe_op op_cat (pe_lst (pa_cons pe_bl pa_nil)) (pe_op op_rep (pe_lst (pa_cons pe_bl pa_nil)) pe_int)) (pe_lst (pa_cons pe_bl pa_nil))) pa_nil))))) (pss_one (ps_ret pe_bl)) pss_nil)
        (pss_one (ps_if (pt_cmpR (op_neD hu) (pe_call dA.G hr1 rfl dA.g dA.kp dA.b .nil pass0 (pa_cons (pe_ix ix_list (pv 1) (pv 2) (fun _ _ => rfl)) pa_nil)) (pe_lc (own := [("_law_one", 10)]) (g := gName 10) (tt := tYes) (by rfl) scErrs.nd (pi_range1 rfl hrange (pa_cons (pe_callB call_len_seq (by rfl) hlen PySem.boot_len (pa_cons (pv 1) pa_nil)) pa_nil)) (blkOk_by (own := [("_law_one", 10)]) (N := NE) (sc := defScope tErrs) (by decide +kernel)) (fun _ _ _ _ _ => pg_name (i := 10) scErrs.nd rfl (Or.inl rfl)) (fun _ _ _ _ _ => pts_nil) (fun _ _ _ _ _ => pe_cmpR op_eq (pv 10) (pv 2) (nomark _))) (nomark _)) (pss_one (ps_ret pe_bl)) pss_nil))))
      (pss_cons (ps_par3 (i := 3) (j := 4) (l := 5) rfl scErrs.nd rfl rfl rfl (by decide) (by decide) (by decide) rfl rfl rfl (pa_cons (Own_wanted.pe_new PySem.F.excBase_LookupError keyAbove keyStore EW hr1 (pa_cons (pv 0) pa_nil) rfl) (pa_cons (Own_value.pe_new PySem.F.excBase_RuntimeError upR PySem.F.store_RuntimeError EN hr1 (pa_cons (pv 0) pa_nil) rfl) (pa_cons (Own_limit.pe_new PySem.F.excBase_OverflowError upO PySem.F.store_OverflowError EM hr1 (pa_cons (pv 0) pa_nil) rfl) pa_nil))) (by rfl))
      (pss_cons (ps_par (i := 6) (j := 7) rfl scErrs.nd rfl rfl (by decide) rfl rfl (pa_cons (Own_many.pe_new PySem.F.excBase_IndexError upI PySem.F.store_IndexError EU hr1 (pa_cons (pv 0) pa_nil) rfl) (pa_cons (Own_two.pe_new PySem.F.excBase_ArithmeticError upA PySem.F.store_ArithmeticError EB hr1 (pa_cons (pv 0) (pa_cons (pe_tup (pa_cons (pv 0) (pa_cons pe_int pa_nil))) pa_nil)) rfl) pa_nil)) (by rfl))
      (pss_cons (ps_set (i := 8) scErrs.nd rfl (.inl rfl) (pe_lst (pa_cons (pv 3) (pa_cons (pv 4) (pa_cons (pv 5) (pa_cons (pv 6) (pa_cons (pv 7) pa_nil)))))))
      (pss_cons (ps_set (i := 9) scErrs.nd rfl (.inr rfl) (pe_lst (pa_cons (pe_lst (pa_cons pe_int pa_nil)) (pa_cons (pe_lst (pa_cons pe_int pa_nil)) (pa_cons (pe_lst (pa_cons pe_int (pa_cons pe_int pa_nil))) (pa_cons (pe_lst (pa_cons pe_int pa_nil)) (pa_cons (pe_lst (pa_cons pe_int pa_nil)) pa_nil)))))))
      (pss_cons (ps_for PassesOwn.never rfl (pi_range1 rfl hrange (pa_cons (pe_callB call_len_seq (by rfl) hlen PySem.boot_len (pa_cons (pv 8) pa_nil)) pa_nil)) (pg_name (i := 2) scErrs.nd rfl (.inr rfl))
        (pss_one (ps_if (pt_not (pt_val (pe_call dT.G hr1 rfl dT.g dT.kp dT.b .nil pass0 (pa_cons (pe_ix ix_list (pv 8) (pv 2) (fun _ _ => rfl)) (pa_cons (pe_lc (own := [("_law_spot", 11)]) (g := gName 11) (tt := tYes) (by rfl) scErrs.nd (pi_range1 rfl hrange (pa_cons pe_int pa_nil)) (blkOk_by (own := [("_law_spot", 11)]) (N := NE) (sc := defScope tErrs) (by decide +kernel)) (fun _ _ _ _ _ => pg_name (i := 11) scErrs.nd rfl (Or.inl rfl)) (fun _ _ _ _ _ => pts_nil) (fun _ _ _ _ _ => pe_cmpR (in_at (K := K) rfl) (pv 11) (pe_ix (ixl_at (K := K) rfl) (pv 9) (pv 2) (fun _ _ => rfl)) (by rfl))) pa_nil))))) (pss_one (ps_ret pe_bl)) pss_nil)))
      (pss_cons (ps_if (pt_cmpR (op_neD hu) (pe_lst (pa_cons (pe_callB (call_repr gd hu70) (by rfl) hrp (by decide +kernel) (pa_cons (pe_fldX (N5.ec CW (by simp)) EW.no (pv 3)) pa_nil)) (pa_cons (pe_callB (call_repr gd hu70) (by rfl) hrp (by decide +kernel) (pa_cons (pe_fldX (N5.ec CN (by simp)) EN.no (pv 4)) pa_nil)) (pa_cons (pe_callB (call_repr gd hu70) (by rfl) hrp (by decide +kernel) (pa_cons (pe_fldX (N5.ec CM (by simp)) EM.no (pv 5)) pa_nil)) (pa_cons (pe_callB (call_repr gd hu70) (by rfl) hrp (by decide +kernel) (pa_cons (pe_fldX (N5.ec CU (by simp)) EU.no (pv 6)) pa_nil)) pa_nil))))) (pe_op op_rep (pe_lst (pa_cons (pe_callB (call_repr gd hu70) (by rfl) hrp (by decide +kernel) (pa_cons (pv 0) pa_nil)) pa_nil)) pe_int) (nomark _)) (pss_one (ps_ret pe_bl)) pss_nil)
      (pss_one (ps_ret (pe_cmpR (op_eqD hu) (pe_lst (pa_cons (pe_callB (call_repr gd hu70) (by rfl) hrp (by decide +kernel) (pa_cons (pe_fldX (N5.ec CB (by simp)) EB.no (pv 7)) pa_nil)) (pa_cons (pe_callB (call_repr gd hu70) (by rfl) hrp (by decide +kernel) (pa_cons (pe_fldX (N5.ec CB (by simp)) EB.no2 (pv 7)) pa_nil)) (pa_cons (pe_callB (call_repr gd hu70) (by rfl) hrp (by decide +kernel) (pa_cons (pe_fldX (N9.ec c8 (by simp)) E8.no (pe_ix ix_list (pv 1) pe_int (fun _ _ => rfl))) pa_nil)) pa_nil)))) (pe_lst (pa_cons (pe_callB (call_repr gd hu70) (by rfl) hrp (by decide +kernel) (pa_cons (pv 0) pa_nil)) (pa_cons (pe_callB (call_repr gd hu70) (by rfl) hrp (by decide +kernel) (pa_cons (pe_tup (pa_cons (pv 0) (pa_cons pe_int pa_nil))) pa_nil)) (pa_cons (pe_callB (call_repr gd hu70) (by rfl) hrp (by decide +kernel) (pa_cons (pv 0) pa_nil)) pa_nil)))) (nomark _)))))))))))), ?_⟩
    have sA : Same H H := Same.refl H
    refine fun e0 n_e0 => ?_
    have s_e0 : Same H (upd H e0 (ExO (.ref c0) e0)) := grow n_e0
    have g_e0 : (upd H e0 (ExO (.ref c0) e0)) e0 = some (ExO (.ref c0) e0) := upd_same
    revert s_e0 g_e0
    generalize upd H e0 (ExO (.ref c0) e0) = J1
    intro s_e0 g_e0
    have sh := sh.on s_e0
    have sA := sA.trans s_e0
    refine fun e1 n_e1 => ?_
    have s_e1 : Same J1 (upd J1 e1 (ExO (.ref c1) e1)) := grow n_e1
    have g_e1 : (upd J1 e1 (ExO (.ref c1) e1)) e1 = some (ExO (.ref c1) e1) := upd_same
    revert s_e1 g_e1
    generalize upd J1 e1 (ExO (.ref c1) e1) = J2
    intro s_e1 g_e1
    have g_e0 := s_e1 _ _ g_e0
    have sh := sh.on s_e1
    have sA := sA.trans s_e1
    refine fun e2 n_e2 => ?_
    have s_e2 : Same J2 (upd J2 e2 (ExO (.ref c2) e2)) := grow n_e2
    have g_e2 : (upd J2 e2 (ExO (.ref c2) e2)) e2 = some (ExO (.ref c2) e2) := upd_same
    revert s_e2 g_e2
    generalize upd J2 e2 (ExO (.ref c2) e2) = J3
    intro s_e2 g_e2
    have g_e0 := s_e2 _ _ g_e0
    have g_e1 := s_e2 _ _ g_e1
    have sh := sh.on s_e2
    have sA := sA.trans s_e2
    refine fun e3 n_e3 => ?_
    have s_e3 : Same J3 (upd J3 e3 (ExO (.ref c3) e3)) := grow n_e3
    have g_e3 : (upd J3 e3 (ExO (.ref c3) e3)) e3 = some (ExO (.ref c3) e3) := upd_same
    revert s_e3 g_e3
    generalize upd J3 e3 (ExO (.ref c3) e3) = J4
    intro s_e3 g_e3
    have g_e0 := s_e3 _ _ g_e0
    have g_e1 := s_e3 _ _ g_e1
    have g_e2 := s_e3 _ _ g_e2
    have sh := sh.on s_e3
    have sA := sA.trans s_e3
    refine fun e4 n_e4 => ?_
    have s_e4 : Same J4 (upd J4 e4 (ExO (.ref c4) e4)) := grow n_e4
    have g_e4 : (upd J4 e4 (ExO (.ref c4) e4)) e4 = some (ExO (.ref c4) e4) := upd_same
    revert s_e4 g_e4
    generalize upd J4 e4 (ExO (.ref c4) e4) = J5
    intro s_e4 g_e4
    have g_e0 := s_e4 _ _ g_e0
    have g_e1 := s_e4 _ _ g_e1
    have g_e2 := s_e4 _ _ g_e2
    have g_e3 := s_e4 _ _ g_e3
    have sh := sh.on s_e4
    have sA := sA.trans s_e4
    refine ⟨lp 5 (by decide), fun b1 n_b1 => ?_⟩
    have s_b1 : Same J5 (upd J5 b1 (.lst [.ref e0, .ref e1, .ref e2, .ref e3, .ref e4])) := grow n_b1
    have g_b1 : (upd J5 b1 (.lst [.ref e0, .ref e1, .ref e2, .ref e3, .ref e4])) b1 = some (.lst [.ref e0, .ref e1, .ref e2, .ref e3, .ref e4]) := upd_same
    revert s_b1 g_b1
    generalize upd J5 b1 (.lst [.ref e0, .ref e1, .ref e2, .ref e3, .ref e4]) = J6
    intro s_b1 g_b1
    have g_e0 := s_b1 _ _ g_e0
    have g_e1 := s_b1 _ _ g_e1
    have g_e2 := s_b1 _ _ g_e2
    have g_e3 := s_b1 _ _ g_e3
    have g_e4 := s_b1 _ _ g_e4
    have sh := sh.on s_b1
    have sA := sA.trans s_b1
    refine ⟨_, rfl, ?_⟩
    refine fun e5 n_e5 => ?_
    have s_e5 : Same J6 (upd J6 e5 (ExO (.ref c5) e5)) := grow n_e5
    have g_e5 : (upd J6 e5 (ExO (.ref c5) e5)) e5 = some (ExO (.ref c5) e5) := upd_same
    revert s_e5 g_e5
    generalize upd J6 e5 (ExO (.ref c5) e5) = J7
    intro s_e5 g_e5
    have g_e0 := s_e5 _ _ g_e0
    have g_e1 := s_e5 _ _ g_e1
    have g_e2 := s_e5 _ _ g_e2
    have g_e3 := s_e5 _ _ g_e3
    have g_e4 := s_e5 _ _ g_e4
    have g_b1 := s_e5 _ _ g_b1
    have sh := sh.on s_e5
    have sA := sA.trans s_e5
    refine fun e6 n_e6 => ?_
    have s_e6 : Same J7 (upd J7 e6 (ExO (.ref c6) e6)) := grow n_e6
    have g_e6 : (upd J7 e6 (ExO (.ref c6) e6)) e6 = some (ExO (.ref c6) e6) := upd_same
    revert s_e6 g_e6
    generalize upd J7 e6 (ExO (.ref c6) e6) = J8
    intro s_e6 g_e6
    have g_e0 := s_e6 _ _ g_e0
    have g_e1 := s_e6 _ _ g_e1
    have g_e2 := s_e6 _ _ g_e2
    have g_e3 := s_e6 _ _ g_e3
    have g_e4 := s_e6 _ _ g_e4
    have g_b1 := s_e6 _ _ g_b1
    have g_e5 := s_e6 _ _ g_e5
    have sh := sh.on s_e6
    have sA := sA.trans s_e6
    refine fun e7 n_e7 => ?_
    have s_e7 : Same J8 (upd J8 e7 (ExO (.ref c7) e7)) := grow n_e7
    have g_e7 : (upd J8 e7 (ExO (.ref c7) e7)) e7 = some (ExO (.ref c7) e7) := upd_same
    revert s_e7 g_e7
    generalize upd J8 e7 (ExO (.ref c7) e7) = J9
    intro s_e7 g_e7
    have g_e0 := s_e7 _ _ g_e0
    have g_e1 := s_e7 _ _ g_e1
    have g_e2 := s_e7 _ _ g_e2
    have g_e3 := s_e7 _ _ g_e3
    have g_e4 := s_e7 _ _ g_e4
    have g_b1 := s_e7 _ _ g_b1
    have g_e5 := s_e7 _ _ g_e5
    have g_e6 := s_e7 _ _ g_e6
    have sh := sh.on s_e7
    have sA := sA.trans s_e7
    refine ⟨_, rfl, v, rfl, fun d8 e8 n_d8 n_e8 ne_e8 => ?_⟩
    have q_e8 : (upd J9 d8 (.xd [(("line" : Str), v)])) e8 = none := by
      rw [upd_ne (Ne.symm ne_e8)]
      exact n_e8
    have s_e8 : Same J9 (upd (upd J9 d8 (.xd [(("line" : Str), v)])) e8 (Exv c8 d8 e8)) := (grow n_d8).trans (grow q_e8)
    have g_e8 : (upd (upd J9 d8 (.xd [(("line" : Str), v)])) e8 (Exv c8 d8 e8)) e8 = some (Exv c8 d8 e8) := upd_same
    have g_d8 : (upd (upd J9 d8 (.xd [(("line" : Str), v)])) e8 (Exv c8 d8 e8)) d8 = some (.xd [(("line" : Str), v)]) := by
      rw [upd_ne ne_e8]
      exact upd_same
    revert s_e8 g_e8 g_d8
    generalize upd (upd J9 d8 (.xd [(("line" : Str), v)])) e8 (Exv c8 d8 e8) = J10
    intro s_e8 g_e8 g_d8
    have g_e0 := s_e8 _ _ g_e0
    have g_e1 := s_e8 _ _ g_e1
    have g_e2 := s_e8 _ _ g_e2
    have g_e3 := s_e8 _ _ g_e3
    have g_e4 := s_e8 _ _ g_e4
    have g_b1 := s_e8 _ _ g_b1
    have g_e5 := s_e8 _ _ g_e5
    have g_e6 := s_e8 _ _ g_e6
    have g_e7 := s_e8 _ _ g_e7
    have sh := sh.on s_e8
    have sA := sA.trans s_e8
    refine ⟨lp 4 (by decide), fun b2 n_b2 => ?_⟩
    have s_b2 : Same J10 (upd J10 b2 (.lst [.ref e5, .ref e6, .ref e7, .ref e8])) := grow n_b2
    have g_b2 : (upd J10 b2 (.lst [.ref e5, .ref e6, .ref e7, .ref e8])) b2 = some (.lst [.ref e5, .ref e6, .ref e7, .ref e8]) := upd_same
    revert s_b2 g_b2
    generalize upd J10 b2 (.lst [.ref e5, .ref e6, .ref e7, .ref e8]) = J11
    intro s_b2 g_b2
    have g_e0 := s_b2 _ _ g_e0
    have g_e1 := s_b2 _ _ g_e1
    have g_e2 := s_b2 _ _ g_e2
    have g_e3 := s_b2 _ _ g_e3
    have g_e4 := s_b2 _ _ g_e4
    have g_b1 := s_b2 _ _ g_b1
    have g_e5 := s_b2 _ _ g_e5
    have g_e6 := s_b2 _ _ g_e6
    have g_e7 := s_b2 _ _ g_e7
    have g_e8 := s_b2 _ _ g_e8
    have g_d8 := s_b2 _ _ g_d8
    have sh := sh.on s_b2
    have sA := sA.trans s_b2
    refine ⟨b1, b2, _, _, rfl, rfl, g_b1, g_b2, lp 9 (by decide), fun bs n_bs => ?_⟩
    have s_bs : Same J11 (upd J11 bs (.lst ([.ref e0, .ref e1, .ref e2, .ref e3, .ref e4] ++ [.ref e5, .ref e6, .ref e7, .ref e8]))) := grow n_bs
    have g_bs : (upd J11 bs (.lst ([.ref e0, .ref e1, .ref e2, .ref e3, .ref e4] ++ [.ref e5, .ref e6, .ref e7, .ref e8]))) bs = some (.lst ([.ref e0, .ref e1, .ref e2, .ref e3, .ref e4] ++ [.ref e5, .ref e6, .ref e7, .ref e8])) := upd_same
    revert s_bs g_bs
    generalize upd J11 bs (.lst ([.ref e0, .ref e1, .ref e2, .ref e3, .ref e4] ++ [.ref e5, .ref e6, .ref e7, .ref e8])) = J12
    intro s_bs g_bs
    have g_e0 := s_bs _ _ g_e0
    have g_e1 := s_bs _ _ g_e1
    have g_e2 := s_bs _ _ g_e2
    have g_e3 := s_bs _ _ g_e3
    have g_e4 := s_bs _ _ g_e4
    have g_b1 := s_bs _ _ g_b1
    have g_e5 := s_bs _ _ g_e5
    have g_e6 := s_bs _ _ g_e6
    have g_e7 := s_bs _ _ g_e7
    have g_e8 := s_bs _ _ g_e8
    have g_d8 := s_bs _ _ g_d8
    have g_b2 := s_bs _ _ g_b2
    have sh := sh.on s_bs
    have sA := sA.trans s_bs
    have gbs : J12 bs = some (.lst (([e0, e1, e2, e3, e4, e5, e6, e7, e8] : List Addr).map V.ref)) := g_bs
    have ie : AllE J12 [c0, c1, c2, c3, c4, c5, c6, c7, c8] [e0, e1, e2, e3, e4, e5, e6, e7, e8] := .cons (.inl g_e0) (.cons (.inl g_e1) (.cons (.inl g_e2) (.cons (.inl g_e3) (.cons (.inl g_e4) (.cons (.inl g_e5) (.cons (.inl g_e6) (.cons (.inl g_e7) (.cons (.inr ⟨d8, _, g_e8, g_d8⟩) .nil))))))))
    have line : (1000 : Nat) < sizeLine := by decide
    refine ⟨_, rfl, bs, _, rfl, .inl (SqL.of gbs), 9, rfl, by decide, by decide, for_it walk_range (fun i σ H' => ∃ o, σ = [some v, some (.ref bs), o, none, none, none, none, none, none, none, none, none] ∧ Same J12 H')
      ⟨none, rfl, Same.refl _⟩ (fun _ _ _ _ _ => trivial) ?_ ?_⟩
    · rintro i x σ K0 K1 hi ⟨o, rfl, s0⟩ ⟨rfl, rfl⟩
      have i9 : i < 9 := hi
      have zi : (0 : Int) + (i : Int) = (i : Int) := by omega
      obtain ⟨e, he⟩ : ∃ e, ([e0, e1, e2, e3, e4, e5, e6, e7, e8] : List Addr)[i]? = some e := ⟨_, List.getElem?_eq_getElem (show i < ([e0, e1, e2, e3, e4, e5, e6, e7, e8] : List Addr).length from i9)⟩
      obtain ⟨c, hc, ic⟩ := ie.at he
      have mc := List.mem_of_getElem? hc
      have ic0 := ic.on s0
      have av : atI (([e0, e1, e2, e3, e4, e5, e6, e7, e8] : List Addr).map V.ref) ((0 : Int) + (i : Int)) = some (.ref e) := by
        rw [zi]
        refine atI_nat (j := i) ?_
        rw [List.getElem?_map, he]
        rfl
      refine ⟨_, rfl, _, rfl, bs, _, _, _, rfl, rfl, SqL.of (s0 _ _ gbs), av, ?_⟩
      refine ⟨lp 1 (by decide), fun u1 m1 => ?_⟩
      have t1 := grow (o := .lst [.bl true]) m1
      refine ⟨lp 1 (by decide), fun u2 m2 => ?_⟩
      have t2 := grow (o := .lst [.bl false]) m2
      refine ⟨u2, 5, _, rfl, rfl, upd_same, by decide, by decide, by show 1 * 5 ≤ sizeLine; decide, fun u3 m3 => ?_⟩
      have t3 := grow (o := .lst (List.replicate (5 : Int).toNat [V.bl false]).flatten) m3
      refine ⟨u1, u3, _, _, rfl, rfl, (t2.trans t3) _ _ upd_same, upd_same, by show 6 ≤ sizeLine; decide, fun u4 m4 => ?_⟩
      have t4 := grow (o := .lst ([V.bl true] ++ (List.replicate (5 : Int).toNat [V.bl false]).flatten)) m4
      refine ⟨lp 1 (by decide), fun u5 m5 => ?_⟩
      have t5 := grow (o := .lst [.bl true]) m5
      refine ⟨u4, u5, _, _, rfl, rfl, t5 _ _ upd_same, upd_same, by show 7 ≤ sizeLine; decide, fun u6 m6 => ?_⟩
      have t6 := grow (o := .lst (([V.bl true] ++ (List.replicate (5 : Int).toNat [V.bl false]).flatten) ++ [.bl true])) m6
      have t16 := ((((t1.trans t2).trans t3).trans t4).trans t5).trans t6
      refine ⟨e, c, u6, _, [true, false, false, false, false, false, true], rfl, ic0.on t16, N9.ec c mc, N9.kd c mc, upd_same, fun K2 s2 => ⟨_, rfl, ?_⟩⟩
      rw [decide_eq_true rfl]
      refine iteF ?_
      have s02 := (s0.trans t16).trans s2
      have sK2 := t16.trans s2
      refine ⟨_, rfl, _, rfl, bs, _, _, _, rfl, rfl, SqL.of (s02 _ _ gbs), av, e, c, _, rfl, ic.on s02, N9.ec c mc, N9.fm i c hc, fun l K3 s3 n3 e3 => ?_⟩
      have s03 := s02.trans s3
      refine ⟨_, rfl, bs, _, rfl, .inl (SqL.of (s03 _ _ gbs)), 9, rfl, by decide, by decide, fun D hD => lc_it walk_range (fun j H' => Acc K3 D (((List.range j).map fun j => decide (j = i)).map V.bl) H') (Acc.start hD) (fun _ _ _ _ => trivial) ?_ ?_⟩
      · rintro j y K4 K5 hj a4 ⟨rfl, rfl⟩
        refine ⟨rfl, _, rfl, _, rfl, rfl, _, a4.2.2, ?_, ?_⟩
        · rw [List.length_map, List.length_map, List.length_range]
          have j9 : j < 9 := hj
          omega
        · have z : decide (V.int ((0 : Int) + (j : Int)) = V.int ((0 : Int) + (i : Int))) = decide (j = i) := decide_eq_decide.mpr ⟨fun z => by have := V.int.inj z; omega, fun z => by rw [z]⟩
          rw [z, range_step hj, List.map_append]
          exact a4.put
      · rintro K4 a4
        exact neD_bools (a4.1 _ _ e3) a4.2.2 ⟨_, rfl, iteF ⟨_, rfl, s03.trans a4.1⟩⟩
    rintro σ J0 ⟨o, rfl, s0⟩
    have sA := sA.trans s0
    have sh := sh.on s0
    have g_e0 := s0 _ _ g_e0
    have g_e1 := s0 _ _ g_e1
    have g_e2 := s0 _ _ g_e2
    have g_e3 := s0 _ _ g_e3
    have g_e4 := s0 _ _ g_e4
    have g_b1 := s0 _ _ g_b1
    have g_e5 := s0 _ _ g_e5
    have g_e6 := s0 _ _ g_e6
    have g_e7 := s0 _ _ g_e7
    have g_e8 := s0 _ _ g_e8
    have g_d8 := s0 _ _ g_d8
    have g_b2 := s0 _ _ g_b2
    have g_bs := s0 _ _ g_bs
    have line5 : (5 : Nat) ≤ sizeLine := by decide
    refine ⟨_, rfl, v, rfl, fun dw ew n_dw n_ew ne_ew => ?_⟩
    have q_ew : (upd J0 dw (.xd [(("wanted" : Str), v)])) ew = none := by
      rw [upd_ne (Ne.symm ne_ew)]
      exact n_ew
    have s_ew : Same J0 (upd (upd J0 dw (.xd [(("wanted" : Str), v)])) ew (Exv CW dw ew)) := (grow n_dw).trans (grow q_ew)
    have g_ew : (upd (upd J0 dw (.xd [(("wanted" : Str), v)])) ew (Exv CW dw ew)) ew = some (Exv CW dw ew) := upd_same
    have g_dw : (upd (upd J0 dw (.xd [(("wanted" : Str), v)])) ew (Exv CW dw ew)) dw = some (.xd [(("wanted" : Str), v)]) := by
      rw [upd_ne ne_ew]
      exact upd_same
    revert s_ew g_ew g_dw
    generalize upd (upd J0 dw (.xd [(("wanted" : Str), v)])) ew (Exv CW dw ew) = J13
    intro s_ew g_ew g_dw
    have g_e0 := s_ew _ _ g_e0
    have g_e1 := s_ew _ _ g_e1
    have g_e2 := s_ew _ _ g_e2
    have g_e3 := s_ew _ _ g_e3
    have g_e4 := s_ew _ _ g_e4
    have g_b1 := s_ew _ _ g_b1
    have g_e5 := s_ew _ _ g_e5
    have g_e6 := s_ew _ _ g_e6
    have g_e7 := s_ew _ _ g_e7
    have g_e8 := s_ew _ _ g_e8
    have g_d8 := s_ew _ _ g_d8
    have g_b2 := s_ew _ _ g_b2
    have g_bs := s_ew _ _ g_bs
    have sh := sh.on s_ew
    have sA := sA.trans s_ew
    refine ⟨_, rfl, v, rfl, fun dn en n_dn n_en ne_en => ?_⟩
    have q_en : (upd J13 dn (.xd [(("value" : Str), v)])) en = none := by
      rw [upd_ne (Ne.symm ne_en)]
      exact n_en
    have s_en : Same J13 (upd (upd J13 dn (.xd [(("value" : Str), v)])) en (Exv CN dn en)) := (grow n_dn).trans (grow q_en)
    have g_en : (upd (upd J13 dn (.xd [(("value" : Str), v)])) en (Exv CN dn en)) en = some (Exv CN dn en) := upd_same
    have g_dn : (upd (upd J13 dn (.xd [(("value" : Str), v)])) en (Exv CN dn en)) dn = some (.xd [(("value" : Str), v)]) := by
      rw [upd_ne ne_en]
      exact upd_same
    revert s_en g_en g_dn
    generalize upd (upd J13 dn (.xd [(("value" : Str), v)])) en (Exv CN dn en) = J14
    intro s_en g_en g_dn
    have g_e0 := s_en _ _ g_e0
    have g_e1 := s_en _ _ g_e1
    have g_e2 := s_en _ _ g_e2
    have g_e3 := s_en _ _ g_e3
    have g_e4 := s_en _ _ g_e4
    have g_b1 := s_en _ _ g_b1
    have g_e5 := s_en _ _ g_e5
    have g_e6 := s_en _ _ g_e6
    have g_e7 := s_en _ _ g_e7
    have g_e8 := s_en _ _ g_e8
    have g_d8 := s_en _ _ g_d8
    have g_b2 := s_en _ _ g_b2
    have g_bs := s_en _ _ g_bs
    have g_ew := s_en _ _ g_ew
    have g_dw := s_en _ _ g_dw
    have sh := sh.on s_en
    have sA := sA.trans s_en
    refine ⟨_, rfl, v, rfl, fun dm em n_dm n_em ne_em => ?_⟩
    have q_em : (upd J14 dm (.xd [(("limit" : Str), v)])) em = none := by
      rw [upd_ne (Ne.symm ne_em)]
      exact n_em
    have s_em : Same J14 (upd (upd J14 dm (.xd [(("limit" : Str), v)])) em (Exv CM dm em)) := (grow n_dm).trans (grow q_em)
    have g_em : (upd (upd J14 dm (.xd [(("limit" : Str), v)])) em (Exv CM dm em)) em = some (Exv CM dm em) := upd_same
    have g_dm : (upd (upd J14 dm (.xd [(("limit" : Str), v)])) em (Exv CM dm em)) dm = some (.xd [(("limit" : Str), v)]) := by
      rw [upd_ne ne_em]
      exact upd_same
    revert s_em g_em g_dm
    generalize upd (upd J14 dm (.xd [(("limit" : Str), v)])) em (Exv CM dm em) = J15
    intro s_em g_em g_dm
    have g_e0 := s_em _ _ g_e0
    have g_e1 := s_em _ _ g_e1
    have g_e2 := s_em _ _ g_e2
    have g_e3 := s_em _ _ g_e3
    have g_e4 := s_em _ _ g_e4
    have g_b1 := s_em _ _ g_b1
    have g_e5 := s_em _ _ g_e5
    have g_e6 := s_em _ _ g_e6
    have g_e7 := s_em _ _ g_e7
    have g_e8 := s_em _ _ g_e8
    have g_d8 := s_em _ _ g_d8
    have g_b2 := s_em _ _ g_b2
    have g_bs := s_em _ _ g_bs
    have g_ew := s_em _ _ g_ew
    have g_dw := s_em _ _ g_dw
    have g_en := s_em _ _ g_en
    have g_dn := s_em _ _ g_dn
    have sh := sh.on s_em
    have sA := sA.trans s_em
    refine ⟨_, _, _, rfl, ?_⟩
    refine ⟨_, rfl, v, rfl, fun du eu n_du n_eu ne_eu => ?_⟩
    have q_eu : (upd J15 du (.xd [(("many" : Str), v)])) eu = none := by
      rw [upd_ne (Ne.symm ne_eu)]
      exact n_eu
    have s_eu : Same J15 (upd (upd J15 du (.xd [(("many" : Str), v)])) eu (Exv CU du eu)) := (grow n_du).trans (grow q_eu)
    have g_eu : (upd (upd J15 du (.xd [(("many" : Str), v)])) eu (Exv CU du eu)) eu = some (Exv CU du eu) := upd_same
    have g_du : (upd (upd J15 du (.xd [(("many" : Str), v)])) eu (Exv CU du eu)) du = some (.xd [(("many" : Str), v)]) := by
      rw [upd_ne ne_eu]
      exact upd_same
    revert s_eu g_eu g_du
    generalize upd (upd J15 du (.xd [(("many" : Str), v)])) eu (Exv CU du eu) = J16
    intro s_eu g_eu g_du
    have g_e0 := s_eu _ _ g_e0
    have g_e1 := s_eu _ _ g_e1
    have g_e2 := s_eu _ _ g_e2
    have g_e3 := s_eu _ _ g_e3
    have g_e4 := s_eu _ _ g_e4
    have g_b1 := s_eu _ _ g_b1
    have g_e5 := s_eu _ _ g_e5
    have g_e6 := s_eu _ _ g_e6
    have g_e7 := s_eu _ _ g_e7
    have g_e8 := s_eu _ _ g_e8
    have g_d8 := s_eu _ _ g_d8
    have g_b2 := s_eu _ _ g_b2
    have g_bs := s_eu _ _ g_bs
    have g_ew := s_eu _ _ g_ew
    have g_dw := s_eu _ _ g_dw
    have g_en := s_eu _ _ g_en
    have g_dn := s_eu _ _ g_dn
    have g_em := s_eu _ _ g_em
    have g_dm := s_eu _ _ g_dm
    have sh := sh.on s_eu
    have sA := sA.trans s_eu
    refine ⟨_, rfl, _, rfl, lp 2 (by decide), fun tb n_tb => ?_⟩
    have s_tb : Same J16 (upd J16 tb (.tup [v, .int 1])) := grow n_tb
    have g_tb : (upd J16 tb (.tup [v, .int 1])) tb = some (.tup [v, .int 1]) := upd_same
    revert s_tb g_tb
    generalize upd J16 tb (.tup [v, .int 1]) = J17
    intro s_tb g_tb
    have g_e0 := s_tb _ _ g_e0
    have g_e1 := s_tb _ _ g_e1
    have g_e2 := s_tb _ _ g_e2
    have g_e3 := s_tb _ _ g_e3
    have g_e4 := s_tb _ _ g_e4
    have g_b1 := s_tb _ _ g_b1
    have g_e5 := s_tb _ _ g_e5
    have g_e6 := s_tb _ _ g_e6
    have g_e7 := s_tb _ _ g_e7
    have g_e8 := s_tb _ _ g_e8
    have g_d8 := s_tb _ _ g_d8
    have g_b2 := s_tb _ _ g_b2
    have g_bs := s_tb _ _ g_bs
    have g_ew := s_tb _ _ g_ew
    have g_dw := s_tb _ _ g_dw
    have g_en := s_tb _ _ g_en
    have g_dn := s_tb _ _ g_dn
    have g_em := s_tb _ _ g_em
    have g_dm := s_tb _ _ g_dm
    have g_eu := s_tb _ _ g_eu
    have g_du := s_tb _ _ g_du
    have sh := sh.on s_tb
    have sA := sA.trans s_tb
    refine ⟨v, .ref tb, rfl, fun db eb n_db n_eb ne_eb => ?_⟩
    have q_eb : (upd J17 db (.xd (Own_two.two v (.ref tb)))) eb = none := by
      rw [upd_ne (Ne.symm ne_eb)]
      exact n_eb
    have s_eb : Same J17 (upd (upd J17 db (.xd (Own_two.two v (.ref tb)))) eb (Exv CB db eb)) := (grow n_db).trans (grow q_eb)
    have g_eb : (upd (upd J17 db (.xd (Own_two.two v (.ref tb)))) eb (Exv CB db eb)) eb = some (Exv CB db eb) := upd_same
    have g_db : (upd (upd J17 db (.xd (Own_two.two v (.ref tb)))) eb (Exv CB db eb)) db = some (.xd (Own_two.two v (.ref tb))) := by
      rw [upd_ne ne_eb]
      exact upd_same
    revert s_eb g_eb g_db
    generalize upd (upd J17 db (.xd (Own_two.two v (.ref tb)))) eb (Exv CB db eb) = J18
    intro s_eb g_eb g_db
    have g_e0 := s_eb _ _ g_e0
    have g_e1 := s_eb _ _ g_e1
    have g_e2 := s_eb _ _ g_e2
    have g_e3 := s_eb _ _ g_e3
    have g_e4 := s_eb _ _ g_e4
    have g_b1 := s_eb _ _ g_b1
    have g_e5 := s_eb _ _ g_e5
    have g_e6 := s_eb _ _ g_e6
    have g_e7 := s_eb _ _ g_e7
    have g_e8 := s_eb _ _ g_e8
    have g_d8 := s_eb _ _ g_d8
    have g_b2 := s_eb _ _ g_b2
    have g_bs := s_eb _ _ g_bs
    have g_ew := s_eb _ _ g_ew
    have g_dw := s_eb _ _ g_dw
    have g_en := s_eb _ _ g_en
    have g_dn := s_eb _ _ g_dn
    have g_em := s_eb _ _ g_em
    have g_dm := s_eb _ _ g_dm
    have g_eu := s_eb _ _ g_eu
    have g_du := s_eb _ _ g_du
    have g_tb := s_eb _ _ g_tb
    have sh := sh.on s_eb
    have sA := sA.trans s_eb
    refine ⟨_, _, rfl, ?_⟩
    refine ⟨_, rfl, _, rfl, _, rfl, _, rfl, _, rfl, lp 5 (by decide), fun ol n_ol => ?_⟩
    have s_ol : Same J18 (upd J18 ol (.lst [.ref ew, .ref en, .ref em, .ref eu, .ref eb])) := grow n_ol
    have g_ol : (upd J18 ol (.lst [.ref ew, .ref en, .ref em, .ref eu, .ref eb])) ol = some (.lst [.ref ew, .ref en, .ref em, .ref eu, .ref eb]) := upd_same
    revert s_ol g_ol
    generalize upd J18 ol (.lst [.ref ew, .ref en, .ref em, .ref eu, .ref eb]) = J19
    intro s_ol g_ol
    have g_e0 := s_ol _ _ g_e0
    have g_e1 := s_ol _ _ g_e1
    have g_e2 := s_ol _ _ g_e2
    have g_e3 := s_ol _ _ g_e3
    have g_e4 := s_ol _ _ g_e4
    have g_b1 := s_ol _ _ g_b1
    have g_e5 := s_ol _ _ g_e5
    have g_e6 := s_ol _ _ g_e6
    have g_e7 := s_ol _ _ g_e7
    have g_e8 := s_ol _ _ g_e8
    have g_d8 := s_ol _ _ g_d8
    have g_b2 := s_ol _ _ g_b2
    have g_bs := s_ol _ _ g_bs
    have g_ew := s_ol _ _ g_ew
    have g_dw := s_ol _ _ g_dw
    have g_en := s_ol _ _ g_en
    have g_dn := s_ol _ _ g_dn
    have g_em := s_ol _ _ g_em
    have g_dm := s_ol _ _ g_dm
    have g_eu := s_ol _ _ g_eu
    have g_du := s_ol _ _ g_du
    have g_tb := s_ol _ _ g_tb
    have g_eb := s_ol _ _ g_eb
    have g_db := s_ol _ _ g_db
    have sh := sh.on s_ol
    have sA := sA.trans s_ol
    refine ⟨lp 1 (by decide), fun q0 n_q0 => ?_⟩
    have s_q0 : Same J19 (upd J19 q0 (.lst [.int 1])) := grow n_q0
    have g_q0 : (upd J19 q0 (.lst [.int 1])) q0 = some (.lst [.int 1]) := upd_same
    revert s_q0 g_q0
    generalize upd J19 q0 (.lst [.int 1]) = J20
    intro s_q0 g_q0
    have g_e0 := s_q0 _ _ g_e0
    have g_e1 := s_q0 _ _ g_e1
    have g_e2 := s_q0 _ _ g_e2
    have g_e3 := s_q0 _ _ g_e3
    have g_e4 := s_q0 _ _ g_e4
    have g_b1 := s_q0 _ _ g_b1
    have g_e5 := s_q0 _ _ g_e5
    have g_e6 := s_q0 _ _ g_e6
    have g_e7 := s_q0 _ _ g_e7
    have g_e8 := s_q0 _ _ g_e8
    have g_d8 := s_q0 _ _ g_d8
    have g_b2 := s_q0 _ _ g_b2
    have g_bs := s_q0 _ _ g_bs
    have g_ew := s_q0 _ _ g_ew
    have g_dw := s_q0 _ _ g_dw
    have g_en := s_q0 _ _ g_en
    have g_dn := s_q0 _ _ g_dn
    have g_em := s_q0 _ _ g_em
    have g_dm := s_q0 _ _ g_dm
    have g_eu := s_q0 _ _ g_eu
    have g_du := s_q0 _ _ g_du
    have g_tb := s_q0 _ _ g_tb
    have g_eb := s_q0 _ _ g_eb
    have g_db := s_q0 _ _ g_db
    have g_ol := s_q0 _ _ g_ol
    have sh := sh.on s_q0
    have sA := sA.trans s_q0
    refine ⟨lp 1 (by decide), fun q1 n_q1 => ?_⟩
    have s_q1 : Same J20 (upd J20 q1 (.lst [.int 2])) := grow n_q1
    have g_q1 : (upd J20 q1 (.lst [.int 2])) q1 = some (.lst [.int 2]) := upd_same
    revert s_q1 g_q1
    generalize upd J20 q1 (.lst [.int 2]) = J21
    intro s_q1 g_q1
    have g_e0 := s_q1 _ _ g_e0
    have g_e1 := s_q1 _ _ g_e1
    have g_e2 := s_q1 _ _ g_e2
    have g_e3 := s_q1 _ _ g_e3
    have g_e4 := s_q1 _ _ g_e4
    have g_b1 := s_q1 _ _ g_b1
    have g_e5 := s_q1 _ _ g_e5
    have g_e6 := s_q1 _ _ g_e6
    have g_e7 := s_q1 _ _ g_e7
    have g_e8 := s_q1 _ _ g_e8
    have g_d8 := s_q1 _ _ g_d8
    have g_b2 := s_q1 _ _ g_b2
    have g_bs := s_q1 _ _ g_bs
    have g_ew := s_q1 _ _ g_ew
    have g_dw := s_q1 _ _ g_dw
    have g_en := s_q1 _ _ g_en
    have g_dn := s_q1 _ _ g_dn
    have g_em := s_q1 _ _ g_em
    have g_dm := s_q1 _ _ g_dm
    have g_eu := s_q1 _ _ g_eu
    have g_du := s_q1 _ _ g_du
    have g_tb := s_q1 _ _ g_tb
    have g_eb := s_q1 _ _ g_eb
    have g_db := s_q1 _ _ g_db
    have g_ol := s_q1 _ _ g_ol
    have g_q0 := s_q1 _ _ g_q0
    have sh := sh.on s_q1
    have sA := sA.trans s_q1
    refine ⟨lp 2 (by decide), fun q2 n_q2 => ?_⟩
    have s_q2 : Same J21 (upd J21 q2 (.lst [.int 3, .int 5])) := grow n_q2
    have g_q2 : (upd J21 q2 (.lst [.int 3, .int 5])) q2 = some (.lst [.int 3, .int 5]) := upd_same
    revert s_q2 g_q2
    generalize upd J21 q2 (.lst [.int 3, .int 5]) = J22
    intro s_q2 g_q2
    have g_e0 := s_q2 _ _ g_e0
    have g_e1 := s_q2 _ _ g_e1
    have g_e2 := s_q2 _ _ g_e2
    have g_e3 := s_q2 _ _ g_e3
    have g_e4 := s_q2 _ _ g_e4
    have g_b1 := s_q2 _ _ g_b1
    have g_e5 := s_q2 _ _ g_e5
    have g_e6 := s_q2 _ _ g_e6
    have g_e7 := s_q2 _ _ g_e7
    have g_e8 := s_q2 _ _ g_e8
    have g_d8 := s_q2 _ _ g_d8
    have g_b2 := s_q2 _ _ g_b2
    have g_bs := s_q2 _ _ g_bs
    have g_ew := s_q2 _ _ g_ew
    have g_dw := s_q2 _ _ g_dw
    have g_en := s_q2 _ _ g_en
    have g_dn := s_q2 _ _ g_dn
    have g_em := s_q2 _ _ g_em
    have g_dm := s_q2 _ _ g_dm
    have g_eu := s_q2 _ _ g_eu
    have g_du := s_q2 _ _ g_du
    have g_tb := s_q2 _ _ g_tb
    have g_eb := s_q2 _ _ g_eb
    have g_db := s_q2 _ _ g_db
    have g_ol := s_q2 _ _ g_ol
    have g_q0 := s_q2 _ _ g_q0
    have g_q1 := s_q2 _ _ g_q1
    have sh := sh.on s_q2
    have sA := sA.trans s_q2
    refine ⟨lp 1 (by decide), fun q3 n_q3 => ?_⟩
    have s_q3 : Same J22 (upd J22 q3 (.lst [.int 4])) := grow n_q3
    have g_q3 : (upd J22 q3 (.lst [.int 4])) q3 = some (.lst [.int 4]) := upd_same
    revert s_q3 g_q3
    generalize upd J22 q3 (.lst [.int 4]) = J23
    intro s_q3 g_q3
    have g_e0 := s_q3 _ _ g_e0
    have g_e1 := s_q3 _ _ g_e1
    have g_e2 := s_q3 _ _ g_e2
    have g_e3 := s_q3 _ _ g_e3
    have g_e4 := s_q3 _ _ g_e4
    have g_b1 := s_q3 _ _ g_b1
    have g_e5 := s_q3 _ _ g_e5
    have g_e6 := s_q3 _ _ g_e6
    have g_e7 := s_q3 _ _ g_e7
    have g_e8 := s_q3 _ _ g_e8
    have g_d8 := s_q3 _ _ g_d8
    have g_b2 := s_q3 _ _ g_b2
    have g_bs := s_q3 _ _ g_bs
    have g_ew := s_q3 _ _ g_ew
    have g_dw := s_q3 _ _ g_dw
    have g_en := s_q3 _ _ g_en
    have g_dn := s_q3 _ _ g_dn
    have g_em := s_q3 _ _ g_em
    have g_dm := s_q3 _ _ g_dm
    have g_eu := s_q3 _ _ g_eu
    have g_du := s_q3 _ _ g_du
    have g_tb := s_q3 _ _ g_tb
    have g_eb := s_q3 _ _ g_eb
    have g_db := s_q3 _ _ g_db
    have g_ol := s_q3 _ _ g_ol
    have g_q0 := s_q3 _ _ g_q0
    have g_q1 := s_q3 _ _ g_q1
    have g_q2 := s_q3 _ _ g_q2
    have sh := sh.on s_q3
    have sA := sA.trans s_q3
    refine ⟨lp 1 (by decide), fun q4 n_q4 => ?_⟩
    have s_q4 : Same J23 (upd J23 q4 (.lst [.int 5])) := grow n_q4
    have g_q4 : (upd J23 q4 (.lst [.int 5])) q4 = some (.lst [.int 5]) := upd_same
    revert s_q4 g_q4
    generalize upd J23 q4 (.lst [.int 5]) = J24
    intro s_q4 g_q4
    have g_e0 := s_q4 _ _ g_e0
    have g_e1 := s_q4 _ _ g_e1
    have g_e2 := s_q4 _ _ g_e2
    have g_e3 := s_q4 _ _ g_e3
    have g_e4 := s_q4 _ _ g_e4
    have g_b1 := s_q4 _ _ g_b1
    have g_e5 := s_q4 _ _ g_e5
    have g_e6 := s_q4 _ _ g_e6
    have g_e7 := s_q4 _ _ g_e7
    have g_e8 := s_q4 _ _ g_e8
    have g_d8 := s_q4 _ _ g_d8
    have g_b2 := s_q4 _ _ g_b2
    have g_bs := s_q4 _ _ g_bs
    have g_ew := s_q4 _ _ g_ew
    have g_dw := s_q4 _ _ g_dw
    have g_en := s_q4 _ _ g_en
    have g_dn := s_q4 _ _ g_dn
    have g_em := s_q4 _ _ g_em
    have g_dm := s_q4 _ _ g_dm
    have g_eu := s_q4 _ _ g_eu
    have g_du := s_q4 _ _ g_du
    have g_tb := s_q4 _ _ g_tb
    have g_eb := s_q4 _ _ g_eb
    have g_db := s_q4 _ _ g_db
    have g_ol := s_q4 _ _ g_ol
    have g_q0 := s_q4 _ _ g_q0
    have g_q1 := s_q4 _ _ g_q1
    have g_q2 := s_q4 _ _ g_q2
    have g_q3 := s_q4 _ _ g_q3
    have sh := sh.on s_q4
    have sA := sA.trans s_q4
    refine ⟨lp 5 (by decide), fun dl n_dl => ?_⟩
    have s_dl : Same J24 (upd J24 dl (.lst [.ref q0, .ref q1, .ref q2, .ref q3, .ref q4])) := grow n_dl
    have g_dl : (upd J24 dl (.lst [.ref q0, .ref q1, .ref q2, .ref q3, .ref q4])) dl = some (.lst [.ref q0, .ref q1, .ref q2, .ref q3, .ref q4]) := upd_same
    revert s_dl g_dl
    generalize upd J24 dl (.lst [.ref q0, .ref q1, .ref q2, .ref q3, .ref q4]) = J25
    intro s_dl g_dl
    have g_e0 := s_dl _ _ g_e0
    have g_e1 := s_dl _ _ g_e1
    have g_e2 := s_dl _ _ g_e2
    have g_e3 := s_dl _ _ g_e3
    have g_e4 := s_dl _ _ g_e4
    have g_b1 := s_dl _ _ g_b1
    have g_e5 := s_dl _ _ g_e5
    have g_e6 := s_dl _ _ g_e6
    have g_e7 := s_dl _ _ g_e7
    have g_e8 := s_dl _ _ g_e8
    have g_d8 := s_dl _ _ g_d8
    have g_b2 := s_dl _ _ g_b2
    have g_bs := s_dl _ _ g_bs
    have g_ew := s_dl _ _ g_ew
    have g_dw := s_dl _ _ g_dw
    have g_en := s_dl _ _ g_en
    have g_dn := s_dl _ _ g_dn
    have g_em := s_dl _ _ g_em
    have g_dm := s_dl _ _ g_dm
    have g_eu := s_dl _ _ g_eu
    have g_du := s_dl _ _ g_du
    have g_tb := s_dl _ _ g_tb
    have g_eb := s_dl _ _ g_eb
    have g_db := s_dl _ _ g_db
    have g_ol := s_dl _ _ g_ol
    have g_q0 := s_dl _ _ g_q0
    have g_q1 := s_dl _ _ g_q1
    have g_q2 := s_dl _ _ g_q2
    have g_q3 := s_dl _ _ g_q3
    have g_q4 := s_dl _ _ g_q4
    have sh := sh.on s_dl
    have sA := sA.trans s_dl
    have gol : J25 ol = some (.lst (([ew, en, em, eu, eb] : List Addr).map V.ref)) := g_ol
    have gdl : J25 dl = some (.lst (([q0, q1, q2, q3, q4] : List Addr).map V.ref)) := g_dl
    have ie5 : AllE J25 [CW, CN, CM, CU, CB] [ew, en, em, eu, eb] := .cons (.inr ⟨dw, _, g_ew, g_dw⟩) (.cons (.inr ⟨dn, _, g_en, g_dn⟩) (.cons (.inr ⟨dm, _, g_em, g_dm⟩) (.cons (.inr ⟨du, _, g_eu, g_du⟩) (.cons (.inr ⟨db, _, g_eb, g_db⟩) .nil))))
    have dues : ∀ i, i < 5 → ∃ q d, ([q0, q1, q2, q3, q4] : List Addr)[i]? = some q ∧ dueL[i]? = some d ∧ J25 q = some (.lst (d.map V.int)) := fun i hi => by
      match i, hi with
      | 0, _ => exact ⟨q0, _, rfl, rfl, g_q0⟩
      | 1, _ => exact ⟨q1, _, rfl, rfl, g_q1⟩
      | 2, _ => exact ⟨q2, _, rfl, rfl, g_q2⟩
      | 3, _ => exact ⟨q3, _, rfl, rfl, g_q3⟩
      | 4, _ => exact ⟨q4, _, rfl, rfl, g_q4⟩
    refine ⟨_, rfl, ol, _, rfl, .inl (SqL.of gol), 5, rfl, by decide, by decide, for_it walk_range (fun i σ H' => ∃ o, σ = [some v, some (.ref bs), o, some (.ref ew), some (.ref en), some (.ref em), some (.ref eu), some (.ref eb), some (.ref ol), some (.ref dl), none, none] ∧ Same J25 H')
      ⟨o, rfl, Same.refl _⟩ (fun _ _ _ _ _ => trivial) ?_ ?_⟩
    · rintro i x σ K0 K1 hi ⟨o, rfl, s0⟩ ⟨rfl, rfl⟩
      have i5 : i < 5 := hi
      have zi : (0 : Int) + (i : Int) = (i : Int) := by omega
      obtain ⟨e, he⟩ : ∃ e, ([ew, en, em, eu, eb] : List Addr)[i]? = some e := ⟨_, List.getElem?_eq_getElem (show i < ([ew, en, em, eu, eb] : List Addr).length from i5)⟩
      obtain ⟨c, hc, ic⟩ := ie5.at he
      obtain ⟨q, d2, hq, hd, gq⟩ := dues i i5
      have av : atI (([ew, en, em, eu, eb] : List Addr).map V.ref) ((0 : Int) + (i : Int)) = some (.ref e) := by
        rw [zi]
        refine atI_nat (j := i) ?_
        rw [List.getElem?_map, he]
        rfl
      have aq : atI (([q0, q1, q2, q3, q4] : List Addr).map V.ref) ((0 : Int) + (i : Int)) = some (.ref q) := by
        rw [zi]
        refine atI_nat (j := i) ?_
        rw [List.getElem?_map, hq]
        rfl
      refine ⟨_, rfl, _, rfl, ol, _, _, _, rfl, rfl, SqL.of (s0 _ _ gol), av, ?_⟩
      refine ⟨7, rfl, by decide, by decide, fun D hD => lc_it walk_range (fun j H' => Acc K1 D (((List.range j).map fun (j : Nat) => d2.any fun z => decide (z = (j : Int))).map V.bl) H') (Acc.start hD) (fun _ _ _ _ => trivial) ?_ ?_⟩
      · rintro j y K4 K5 hj a4 ⟨rfl, rfl⟩
        have s4 := s0.trans a4.1
        refine ⟨rfl, _, rfl, _, rfl, _, rfl, dl, _, _, _, rfl, rfl, SqL.of (s4 _ _ gdl), aq, q, _, rfl, .inl (SqL.of (s4 _ _ gq)), rfl, flat_ints d2, _, a4.2.2, ?_, ?_⟩
        · rw [List.length_map, List.length_map, List.length_range]
          have j9 : j < 7 := hj
          omega
        · have z : (if false = true then !inV (V.int ((0 : Int) + (j : Int))) (d2.map V.int) else inV (V.int ((0 : Int) + (j : Int))) (d2.map V.int)) = d2.any fun z => decide (z = (j : Int)) := by
            rw [if_neg Bool.false_ne_true, any_ints]
            have zj : (0 : Int) + (j : Int) = (j : Int) := by omega
            rw [zj]
          rw [z, range_step hj, List.map_append]
          exact a4.put
      · rintro K4 a4
        have s4 := s0.trans a4.1
        refine ⟨e, c, D, (List.range 7).map fun (j : Nat) => d2.any fun z => decide (z = (j : Int)), (List.range 7).map fun (j : Nat) => d2.any fun z => decide (z = (j : Int)), rfl, ic.on s4, N5.ec c (List.mem_of_getElem? hc), N5.kd i c d2 hc hd, a4.2.2, fun K5 s5 => ⟨_, rfl, ?_⟩⟩
        refine ite2 (fun cc => ?_) (fun _ => ?_)
        · have z : decide (((List.range 7).map fun (j : Nat) => d2.any fun z => decide (z = (j : Int))) = ((List.range 7).map fun (j : Nat) => d2.any fun z => decide (z = (j : Int)))) = true := decide_eq_true rfl
          have cc2 : (!decide (((List.range 7).map fun (j : Nat) => d2.any fun z => decide (z = (j : Int))) = ((List.range 7).map fun (j : Nat) => d2.any fun z => decide (z = (j : Int))))) = true := cc
          rw [z] at cc2
          cases cc2
        · exact ⟨_, rfl, s4.trans s5⟩
    rintro σ L0 ⟨o, rfl, s0⟩
    have sA := sA.trans s0
    have sh := sh.on s0
    have g_e0 := s0 _ _ g_e0
    have g_e1 := s0 _ _ g_e1
    have g_e2 := s0 _ _ g_e2
    have g_e3 := s0 _ _ g_e3
    have g_e4 := s0 _ _ g_e4
    have g_b1 := s0 _ _ g_b1
    have g_e5 := s0 _ _ g_e5
    have g_e6 := s0 _ _ g_e6
    have g_e7 := s0 _ _ g_e7
    have g_e8 := s0 _ _ g_e8
    have g_d8 := s0 _ _ g_d8
    have g_b2 := s0 _ _ g_b2
    have g_bs := s0 _ _ g_bs
    have g_ew := s0 _ _ g_ew
    have g_dw := s0 _ _ g_dw
    have g_en := s0 _ _ g_en
    have g_dn := s0 _ _ g_dn
    have g_em := s0 _ _ g_em
    have g_dm := s0 _ _ g_dm
    have g_eu := s0 _ _ g_eu
    have g_du := s0 _ _ g_du
    have g_tb := s0 _ _ g_tb
    have g_eb := s0 _ _ g_eb
    have g_db := s0 _ _ g_db
    have g_ol := s0 _ _ g_ol
    have g_q0 := s0 _ _ g_q0
    have g_q1 := s0 _ _ g_q1
    have g_q2 := s0 _ _ g_q2
    have g_q3 := s0 _ _ g_q3
    have g_q4 := s0 _ _ g_q4
    have g_dl := s0 _ _ g_dl
    have okS : ∀ z ∈ [d.shown, d.shown, d.shown, d.shown], PyData.strOk z = true := fun z hz => by
      simp only [List.mem_cons, List.not_mem_nil, or_false] at hz
      rcases hz with rfl | rfl | rfl | rfl <;> exact sh.ok1
    have okT : ∀ z ∈ [d.shown, (PyData.tuple [d, .int 1]).shown, d.shown], PyData.strOk z = true := fun z hz => by
      simp only [List.mem_cons, List.not_mem_nil, or_false] at hz
      rcases hz with rfl | rfl | rfl
      · exact sh.ok1
      · exact sh.ok2
      · exact sh.ok1
    refine ⟨_, rfl, ew, dw, _, v, rfl, g_ew, g_dw, lk1, v, d, rfl, sh.dp, sh.td.sh, sh.td.nd, sh.l1, sh.l2, ?_⟩
    refine ⟨_, rfl, en, dn, _, v, rfl, g_en, g_dn, lk1, v, d, rfl, sh.dp, sh.td.sh, sh.td.nd, sh.l1, sh.l2, ?_⟩
    refine ⟨_, rfl, em, dm, _, v, rfl, g_em, g_dm, lk1, v, d, rfl, sh.dp, sh.td.sh, sh.td.nd, sh.l1, sh.l2, ?_⟩
    refine ⟨_, rfl, eu, du, _, v, rfl, g_eu, g_du, lk1, v, d, rfl, sh.dp, sh.td.sh, sh.td.nd, sh.l1, sh.l2, ?_⟩
    refine ⟨lp 4 (by decide), fun r1 n_r1 => ?_⟩
    have s_r1 : Same L0 (upd L0 r1 (.lst [.str d.shown, .str d.shown, .str d.shown, .str d.shown])) := grow n_r1
    have g_r1 : (upd L0 r1 (.lst [.str d.shown, .str d.shown, .str d.shown, .str d.shown])) r1 = some (.lst [.str d.shown, .str d.shown, .str d.shown, .str d.shown]) := upd_same
    revert s_r1 g_r1
    generalize upd L0 r1 (.lst [.str d.shown, .str d.shown, .str d.shown, .str d.shown]) = J26
    intro s_r1 g_r1
    have g_e0 := s_r1 _ _ g_e0
    have g_e1 := s_r1 _ _ g_e1
    have g_e2 := s_r1 _ _ g_e2
    have g_e3 := s_r1 _ _ g_e3
    have g_e4 := s_r1 _ _ g_e4
    have g_b1 := s_r1 _ _ g_b1
    have g_e5 := s_r1 _ _ g_e5
    have g_e6 := s_r1 _ _ g_e6
    have g_e7 := s_r1 _ _ g_e7
    have g_e8 := s_r1 _ _ g_e8
    have g_d8 := s_r1 _ _ g_d8
    have g_b2 := s_r1 _ _ g_b2
    have g_bs := s_r1 _ _ g_bs
    have g_ew := s_r1 _ _ g_ew
    have g_dw := s_r1 _ _ g_dw
    have g_en := s_r1 _ _ g_en
    have g_dn := s_r1 _ _ g_dn
    have g_em := s_r1 _ _ g_em
    have g_dm := s_r1 _ _ g_dm
    have g_eu := s_r1 _ _ g_eu
    have g_du := s_r1 _ _ g_du
    have g_tb := s_r1 _ _ g_tb
    have g_eb := s_r1 _ _ g_eb
    have g_db := s_r1 _ _ g_db
    have g_ol := s_r1 _ _ g_ol
    have g_q0 := s_r1 _ _ g_q0
    have g_q1 := s_r1 _ _ g_q1
    have g_q2 := s_r1 _ _ g_q2
    have g_q3 := s_r1 _ _ g_q3
    have g_q4 := s_r1 _ _ g_q4
    have g_dl := s_r1 _ _ g_dl
    have sh := sh.on s_r1
    have sA := sA.trans s_r1
    refine ⟨_, rfl, v, d, rfl, sh.dp, sh.td.sh, sh.td.nd, sh.l1, sh.l2, lp 1 (by decide), fun r2 n_r2 => ?_⟩
    have s_r2 : Same J26 (upd J26 r2 (.lst [.str d.shown])) := grow n_r2
    have g_r2 : (upd J26 r2 (.lst [.str d.shown])) r2 = some (.lst [.str d.shown]) := upd_same
    revert s_r2 g_r2
    generalize upd J26 r2 (.lst [.str d.shown]) = J27
    intro s_r2 g_r2
    have g_e0 := s_r2 _ _ g_e0
    have g_e1 := s_r2 _ _ g_e1
    have g_e2 := s_r2 _ _ g_e2
    have g_e3 := s_r2 _ _ g_e3
    have g_e4 := s_r2 _ _ g_e4
    have g_b1 := s_r2 _ _ g_b1
    have g_e5 := s_r2 _ _ g_e5
    have g_e6 := s_r2 _ _ g_e6
    have g_e7 := s_r2 _ _ g_e7
    have g_e8 := s_r2 _ _ g_e8
    have g_d8 := s_r2 _ _ g_d8
    have g_b2 := s_r2 _ _ g_b2
    have g_bs := s_r2 _ _ g_bs
    have g_ew := s_r2 _ _ g_ew
    have g_dw := s_r2 _ _ g_dw
    have g_en := s_r2 _ _ g_en
    have g_dn := s_r2 _ _ g_dn
    have g_em := s_r2 _ _ g_em
    have g_dm := s_r2 _ _ g_dm
    have g_eu := s_r2 _ _ g_eu
    have g_du := s_r2 _ _ g_du
    have g_tb := s_r2 _ _ g_tb
    have g_eb := s_r2 _ _ g_eb
    have g_db := s_r2 _ _ g_db
    have g_ol := s_r2 _ _ g_ol
    have g_q0 := s_r2 _ _ g_q0
    have g_q1 := s_r2 _ _ g_q1
    have g_q2 := s_r2 _ _ g_q2
    have g_q3 := s_r2 _ _ g_q3
    have g_q4 := s_r2 _ _ g_q4
    have g_dl := s_r2 _ _ g_dl
    have g_r1 := s_r2 _ _ g_r1
    have sh := sh.on s_r2
    have sA := sA.trans s_r2
    refine ⟨r2, 4, _, rfl, rfl, g_r2, by decide, by decide, by show 1 * 4 ≤ sizeLine; decide, fun r3 n_r3 => ?_⟩
    have s_r3 : Same J27 (upd J27 r3 (.lst (List.replicate (4 : Int).toNat [V.str d.shown]).flatten)) := grow n_r3
    have g_r3 : (upd J27 r3 (.lst (List.replicate (4 : Int).toNat [V.str d.shown]).flatten)) r3 = some (.lst (List.replicate (4 : Int).toNat [V.str d.shown]).flatten) := upd_same
    revert s_r3 g_r3
    generalize upd J27 r3 (.lst (List.replicate (4 : Int).toNat [V.str d.shown]).flatten) = J28
    intro s_r3 g_r3
    have g_e0 := s_r3 _ _ g_e0
    have g_e1 := s_r3 _ _ g_e1
    have g_e2 := s_r3 _ _ g_e2
    have g_e3 := s_r3 _ _ g_e3
    have g_e4 := s_r3 _ _ g_e4
    have g_b1 := s_r3 _ _ g_b1
    have g_e5 := s_r3 _ _ g_e5
    have g_e6 := s_r3 _ _ g_e6
    have g_e7 := s_r3 _ _ g_e7
    have g_e8 := s_r3 _ _ g_e8
    have g_d8 := s_r3 _ _ g_d8
    have g_b2 := s_r3 _ _ g_b2
    have g_bs := s_r3 _ _ g_bs
    have g_ew := s_r3 _ _ g_ew
    have g_dw := s_r3 _ _ g_dw
    have g_en := s_r3 _ _ g_en
    have g_dn := s_r3 _ _ g_dn
    have g_em := s_r3 _ _ g_em
    have g_dm := s_r3 _ _ g_dm
    have g_eu := s_r3 _ _ g_eu
    have g_du := s_r3 _ _ g_du
    have g_tb := s_r3 _ _ g_tb
    have g_eb := s_r3 _ _ g_eb
    have g_db := s_r3 _ _ g_db
    have g_ol := s_r3 _ _ g_ol
    have g_q0 := s_r3 _ _ g_q0
    have g_q1 := s_r3 _ _ g_q1
    have g_q2 := s_r3 _ _ g_q2
    have g_q3 := s_r3 _ _ g_q3
    have g_q4 := s_r3 _ _ g_q4
    have g_dl := s_r3 _ _ g_dl
    have g_r1 := s_r3 _ _ g_r1
    have g_r2 := s_r3 _ _ g_r2
    have sh := sh.on s_r3
    have sA := sA.trans s_r3
    refine neD_strs okS g_r1 g_r3 ⟨_, rfl, iteF ?_⟩
    refine ⟨_, rfl, eb, db, _, v, rfl, g_eb, g_db, lkK, v, d, rfl, sh.dp, sh.td.sh, sh.td.nd, sh.l1, sh.l2, ?_⟩
    refine ⟨_, rfl, eb, db, _, .ref tb, rfl, g_eb, g_db, lkR, .ref tb, .tuple [d, .int 1], rfl, sh.two g_tb, sh.td2.sh, sh.td2.nd, sh.l3, sh.l4, ?_⟩
    refine ⟨_, rfl, bs, _, 8, .ref e8, rfl, rfl, SqL.of g_bs, atI_nat (j := 8) rfl, e8, d8, _, v, rfl, g_e8, g_d8, lk1, v, d, rfl, sh.dp, sh.td.sh, sh.td.nd, sh.l1, sh.l2, ?_⟩
    refine ⟨lp 3 (by decide), fun w1 n_w1 => ?_⟩
    have s_w1 : Same J28 (upd J28 w1 (.lst [.str d.shown, .str (PyData.tuple [d, .int 1]).shown, .str d.shown])) := grow n_w1
    have g_w1 : (upd J28 w1 (.lst [.str d.shown, .str (PyData.tuple [d, .int 1]).shown, .str d.shown])) w1 = some (.lst [.str d.shown, .str (PyData.tuple [d, .int 1]).shown, .str d.shown]) := upd_same
    revert s_w1 g_w1
    generalize upd J28 w1 (.lst [.str d.shown, .str (PyData.tuple [d, .int 1]).shown, .str d.shown]) = J29
    intro s_w1 g_w1
    have g_e0 := s_w1 _ _ g_e0
    have g_e1 := s_w1 _ _ g_e1
    have g_e2 := s_w1 _ _ g_e2
    have g_e3 := s_w1 _ _ g_e3
    have g_e4 := s_w1 _ _ g_e4
    have g_b1 := s_w1 _ _ g_b1
    have g_e5 := s_w1 _ _ g_e5
    have g_e6 := s_w1 _ _ g_e6
    have g_e7 := s_w1 _ _ g_e7
    have g_e8 := s_w1 _ _ g_e8
    have g_d8 := s_w1 _ _ g_d8
    have g_b2 := s_w1 _ _ g_b2
    have g_bs := s_w1 _ _ g_bs
    have g_ew := s_w1 _ _ g_ew
    have g_dw := s_w1 _ _ g_dw
    have g_en := s_w1 _ _ g_en
    have g_dn := s_w1 _ _ g_dn
    have g_em := s_w1 _ _ g_em
    have g_dm := s_w1 _ _ g_dm
    have g_eu := s_w1 _ _ g_eu
    have g_du := s_w1 _ _ g_du
    have g_tb := s_w1 _ _ g_tb
    have g_eb := s_w1 _ _ g_eb
    have g_db := s_w1 _ _ g_db
    have g_ol := s_w1 _ _ g_ol
    have g_q0 := s_w1 _ _ g_q0
    have g_q1 := s_w1 _ _ g_q1
    have g_q2 := s_w1 _ _ g_q2
    have g_q3 := s_w1 _ _ g_q3
    have g_q4 := s_w1 _ _ g_q4
    have g_dl := s_w1 _ _ g_dl
    have g_r1 := s_w1 _ _ g_r1
    have g_r2 := s_w1 _ _ g_r2
    have g_r3 := s_w1 _ _ g_r3
    have sh := sh.on s_w1
    have sA := sA.trans s_w1
    refine ⟨_, rfl, v, d, rfl, sh.dp, sh.td.sh, sh.td.nd, sh.l1, sh.l2, _, rfl, lp 2 (by decide), fun w2 n_w2 => ?_⟩
    have s_w2 : Same J29 (upd J29 w2 (.tup [v, .int 1])) := grow n_w2
    have g_w2 : (upd J29 w2 (.tup [v, .int 1])) w2 = some (.tup [v, .int 1]) := upd_same
    revert s_w2 g_w2
    generalize upd J29 w2 (.tup [v, .int 1]) = J30
    intro s_w2 g_w2
    have g_e0 := s_w2 _ _ g_e0
    have g_e1 := s_w2 _ _ g_e1
    have g_e2 := s_w2 _ _ g_e2
    have g_e3 := s_w2 _ _ g_e3
    have g_e4 := s_w2 _ _ g_e4
    have g_b1 := s_w2 _ _ g_b1
    have g_e5 := s_w2 _ _ g_e5
    have g_e6 := s_w2 _ _ g_e6
    have g_e7 := s_w2 _ _ g_e7
    have g_e8 := s_w2 _ _ g_e8
    have g_d8 := s_w2 _ _ g_d8
    have g_b2 := s_w2 _ _ g_b2
    have g_bs := s_w2 _ _ g_bs
    have g_ew := s_w2 _ _ g_ew
    have g_dw := s_w2 _ _ g_dw
    have g_en := s_w2 _ _ g_en
    have g_dn := s_w2 _ _ g_dn
    have g_em := s_w2 _ _ g_em
    have g_dm := s_w2 _ _ g_dm
    have g_eu := s_w2 _ _ g_eu
    have g_du := s_w2 _ _ g_du
    have g_tb := s_w2 _ _ g_tb
    have g_eb := s_w2 _ _ g_eb
    have g_db := s_w2 _ _ g_db
    have g_ol := s_w2 _ _ g_ol
    have g_q0 := s_w2 _ _ g_q0
    have g_q1 := s_w2 _ _ g_q1
    have g_q2 := s_w2 _ _ g_q2
    have g_q3 := s_w2 _ _ g_q3
    have g_q4 := s_w2 _ _ g_q4
    have g_dl := s_w2 _ _ g_dl
    have g_r1 := s_w2 _ _ g_r1
    have g_r2 := s_w2 _ _ g_r2
    have g_r3 := s_w2 _ _ g_r3
    have g_w1 := s_w2 _ _ g_w1
    have sh := sh.on s_w2
    have sA := sA.trans s_w2
    refine ⟨.ref w2, .tuple [d, .int 1], rfl, sh.two g_w2, sh.td2.sh, sh.td2.nd, sh.l3, sh.l4, _, rfl, v, d, rfl, sh.dp, sh.td.sh, sh.td.nd, sh.l1, sh.l2, lp 3 (by decide), fun w3 n_w3 => ?_⟩
    have s_w3 : Same J30 (upd J30 w3 (.lst [.str d.shown, .str (PyData.tuple [d, .int 1]).shown, .str d.shown])) := grow n_w3
    have g_w3 : (upd J30 w3 (.lst [.str d.shown, .str (PyData.tuple [d, .int 1]).shown, .str d.shown])) w3 = some (.lst [.str d.shown, .str (PyData.tuple [d, .int 1]).shown, .str d.shown]) := upd_same
    revert s_w3 g_w3
    generalize upd J30 w3 (.lst [.str d.shown, .str (PyData.tuple [d, .int 1]).shown, .str d.shown]) = J31
    intro s_w3 g_w3
    have g_e0 := s_w3 _ _ g_e0
    have g_e1 := s_w3 _ _ g_e1
    have g_e2 := s_w3 _ _ g_e2
    have g_e3 := s_w3 _ _ g_e3
    have g_e4 := s_w3 _ _ g_e4
    have g_b1 := s_w3 _ _ g_b1
    have g_e5 := s_w3 _ _ g_e5
    have g_e6 := s_w3 _ _ g_e6
    have g_e7 := s_w3 _ _ g_e7
    have g_e8 := s_w3 _ _ g_e8
    have g_d8 := s_w3 _ _ g_d8
    have g_b2 := s_w3 _ _ g_b2
    have g_bs := s_w3 _ _ g_bs
    have g_ew := s_w3 _ _ g_ew
    have g_dw := s_w3 _ _ g_dw
    have g_en := s_w3 _ _ g_en
    have g_dn := s_w3 _ _ g_dn
    have g_em := s_w3 _ _ g_em
    have g_dm := s_w3 _ _ g_dm
    have g_eu := s_w3 _ _ g_eu
    have g_du := s_w3 _ _ g_du
    have g_tb := s_w3 _ _ g_tb
    have g_eb := s_w3 _ _ g_eb
    have g_db := s_w3 _ _ g_db
    have g_ol := s_w3 _ _ g_ol
    have g_q0 := s_w3 _ _ g_q0
    have g_q1 := s_w3 _ _ g_q1
    have g_q2 := s_w3 _ _ g_q2
    have g_q3 := s_w3 _ _ g_q3
    have g_q4 := s_w3 _ _ g_q4
    have g_dl := s_w3 _ _ g_dl
    have g_r1 := s_w3 _ _ g_r1
    have g_r2 := s_w3 _ _ g_r2
    have g_r3 := s_w3 _ _ g_r3
    have g_w1 := s_w3 _ _ g_w1
    have g_w2 := s_w3 _ _ g_w2
    have sh := sh.on s_w3
    have sA := sA.trans s_w3
    exact eqD_strs okT g_w1 g_w3 (k _ sA)
end
end K0
namespace K0
open PySem L2
open L2.My
/-! ### slots -/
theorem range_filter_step {p : Nat → Bool} {i : Nat} : ((List.range (i + 1)).filter p) = (List.range i).filter p ++ (if p i = true then [i] else []) := by
  rw [List.range_succ, List.filter_append]
  congr 1
  cases h : p i <;> simp [h]
/-- just one of the ticks t, t + 1, .. within one interval has the slot of o -/
theorem one_slot {t o : Int} {n : Nat} (h : 0 < n) : (List.range n).filter (fun (b : Nat) => decide ((t + (b : Int)) % (n : Int) = o % (n : Int))) = [((o - t) % (n : Int)).toNat] := by
  have n0 : (0 : Int) < (n : Int) := by omega
  have r0 := Int.emod_nonneg (o - t) (Int.ne_of_gt n0)
  have r1 := Int.emod_lt_of_pos (o - t) n0
  have key : ∀ b : Nat, b < n → (decide ((t + (b : Int)) % (n : Int) = o % (n : Int)) = decide (b = ((o - t) % (n : Int)).toNat)) := by
    intro b hb
    refine decide_eq_decide.mpr ⟨fun e => ?_, fun e => ?_⟩
    · have e1 : (o - (t + (b : Int))) % (n : Int) = 0 := Int.emod_eq_zero_of_dvd (Int.dvd_of_emod_eq_zero (by rw [Int.sub_emod, e, Int.sub_self, Int.zero_emod]))
      have e2 : (o - t) % (n : Int) = (b : Int) := by
        have e3 : o - t = (o - (t + (b : Int))) + (b : Int) := by omega
        rw [e3, Int.add_emod, e1, Int.zero_add, Int.emod_emod_of_dvd _ (Int.dvd_refl _)]
        exact Int.emod_eq_of_lt (by omega) (by omega)
      rw [e2]
      rfl
    · have e2 : (b : Int) = (o - t) % (n : Int) := by
        rw [e]
        exact Int.toNat_of_nonneg r0
      rw [e2, Int.add_emod, Int.emod_emod_of_dvd _ (Int.dvd_refl _), ← Int.add_emod]
      congr 1
      omega
  have m : ((o - t) % (n : Int)).toNat < n := by omega
  have all : (List.range n).filter (fun (b : Nat) => decide ((t + (b : Int)) % (n : Int) = o % (n : Int))) = (List.range n).filter (fun b => decide (b = ((o - t) % (n : Int)).toNat)) :=
    List.filter_congr fun b hb => key b (List.mem_range.mp hb)
  rw [all]
  clear all key
  generalize ((o - t) % (n : Int)).toNat = r at m
  clear r0 r1 n0 h
  induction n with
  | zero => omega
  | succ n ih =>
    rw [List.range_succ, List.filter_append]
    by_cases c : r = n
    · subst c
      have z : (List.range r).filter (fun b => decide (b = r)) = [] := by
        rw [List.filter_eq_nil_iff]
        intro b hb
        have := List.mem_range.mp hb
        simp
        omega
      rw [z]
      simp
    · rw [ih (by omega)]
      have z : decide (n = r) = false := decide_eq_false (Ne.symm c)
      simp [z]
end K0
namespace K0
open PySem L2
open L2.My
theorem e28 : (4 * 10 ^ 28 : Nat) = 40000000000000000000000000000 := by decide
theorem e30 : ((10 : Int) ^ 30) = 1000000000000000000000000000000 := by decide
theorem inB_abs {i : Int} (h : i.natAbs ≤ 900000000000000000000000000000) : inB i = true := by
  unfold inB
  rw [e30, decide_eq_true (by omega), decide_eq_true (by omega)]
  rfl
theorem mul_abs {a b : Int} {m n : Nat} (ha : a.natAbs ≤ m) (hb : b.natAbs ≤ n) : (a * b).natAbs ≤ m * n := by
  rw [Int.natAbs_mul]
  exact Nat.mul_le_mul ha hb
/-- the slot as the law finds it -/
theorem slot_of_abs {t : Int} {n : Int} (n0 : 0 < n) : (t ≥ 0 → (if t < 0 then -t else t) % n = t % n) ∧ (¬ t ≥ 0 → (if t < 0 then -t else t) % n = 0 → t % n = 0) ∧ (¬ t ≥ 0 → ¬ (if t < 0 then -t else t) % n = 0 → t % n = n - (if t < 0 then -t else t) % n) := by
  refine ⟨fun h => ?_, fun h e => ?_, fun h e => ?_⟩
  · rw [if_neg (by omega)]
  · rw [if_pos (by omega)] at e
    exact Int.emod_eq_zero_of_dvd ((Int.dvd_neg).mp (Int.dvd_of_emod_eq_zero e))
  · rw [if_pos (by omega)] at e ⊢
    have r0 := Int.emod_nonneg (-t) (Int.ne_of_gt n0)
    have r1 := Int.emod_lt_of_pos (-t) n0
    have d : -t = n * (-t / n) + -t % n := (Int.mul_ediv_add_emod (-t) n).symm
    have e2 : t = (n - -t % n) + n * (-(-t / n) - 1) := by
      rw [Int.mul_sub, Int.mul_neg, Int.mul_one]
      omega
    have e3 : t % n = ((n - -t % n) + n * (-(-t / n) - 1)) % n := by rw [← e2]
    rw [e3, Int.add_mul_emod_self_left]
    exact Int.emod_eq_of_lt (by omega) (by omega)
theorem dp_ints {K : PySem.W.Frag} {H : Hp} : ∀ zs : List Int, DpAll K H (zs.map V.int) (zs.map PyData.int)
  | [] => .nil
  | z :: zs => .cons (.int z) (dp_ints zs)
theorem shaped_ints (zs : List Int) : SeqAt.shaped (.list (zs.map PyData.int)) = true := by
  have all : PyData.canLayAll0 (zs.map PyData.int) = true ∧ PyData.depthAll (zs.map PyData.int) = 0 := by
    induction zs with
    | nil => exact ⟨by simp [PyData.canLayAll0], by simp [PyData.depthAll]⟩
    | cons z zs ih =>
      rw [List.map_cons, PyData.canLayAll0, PyData.depthAll, ih.1, ih.2]
      exact ⟨by simp [PyData.canLay0], by simp [PyData.depth]⟩
  unfold SeqAt.shaped
  rw [PyData.canLay0, PyData.depth, all.1, all.2]
  decide
theorem eqv_ints : ∀ zs : List Int, PyData.eqvAll (zs.map PyData.int) (zs.map PyData.int) = true
  | [] => by simp [PyData.eqvAll]
  | z :: zs => by
    rw [List.map_cons, PyData.eqvAll, eqv_ints zs]
    simp [PyData.eqv]
theorem eqD_ints {K : PySem.W.Frag} {H : Hp} {a b : Addr} {zs : List Int} {Q : VK} (ea : H a = some (.lst (zs.map V.int))) (eb : H b = some (.lst (zs.map V.int))) (q : Q (.bl true) H) : rEqD K (.ref a) (.ref b) H Q := by
  refine ⟨.list (zs.map PyData.int), .list (zs.map PyData.int), .lst (SqL.of ea) (dp_ints _), .lst (SqL.of eb) (dp_ints _), shaped_ints _, shaped_ints _, ?_⟩
  rw [PyData.eqv, eqv_ints]
  exact q
section
variable {P : Program} {w : World} {K : PySem.W.Frag} {mg : Str → Option Value} {base : Heap}
theorem pick_of {H : Hp} {p l : Addr} {xs : List V} {Q : VK} (e : H l = some (.lst xs)) (ne : xs ≠ []) (le : xs.length ≤ 1000) (lp : l ≠ p) (lo : Loom H p) (k : ∀ x ∈ xs, ∀ H', Loom H' p → But p H H' → Q x H') : spPick [.ref p, .ref l] H Q E0 :=
  ⟨p, l, xs, rfl, e, ne, le, lp, lo, k⟩
theorem Loom.ne {H : Hp} {p a : Addr} (l : Loom H p) (n : H a = none) : a ≠ p := by
  obtain ⟨x, y, z, e, _⟩ := l
  exact (ne_of_none e n).symm
def spOk : Sp := fun vs H Q _ => ∃ p : Addr, vs = [.ref p] ∧ Loom H p ∧ ∀ H', Loom H' p → But p H H' → Q (.bl true) H'
theorem scSlots : FnScope ["_law_loom_here", "_law_great", "_law_tick", "_law_interval", "_law_other", "_law_rest", "_law_slot", "_law_some", "_law_by"] ["_law_loom_here"] (defScope tSlots) := ⟨rfl, rfl, rfl, by decide +kernel, rfl, by decide +kernel, by decide +kernel⟩
theorem slot_call {H : Hp} {CN : Addr} {t n : Int} {Q : VK} (ht : inB t = true) (n0 : 1 ≤ n) (n1 : n ≤ 32) (k : ∀ H', Same H H' → Q (.int (t % n)) H') : spSlot 11 6 CN [.int t, .int n] H Q E0 := by
  have a1 : (10 : Nat) ^ 40 = 10000000000000000000000000000000000000000 := by decide
  have ib := ht
  unfold inB at ib
  rw [Bool.and_eq_true, decide_eq_true_eq, decide_eq_true_eq, e30] at ib
  have bt : betw 1 32 (.int n) = true := by
    show (decide ((1 : Int) ≤ n) && decide (n ≤ 32)) = true
    rw [decide_eq_true n0, decide_eq_true n1]
    rfl
  refine ⟨_, _, rfl, .int t (by rw [a1]; omega), .int n (by rw [a1]; omega), fun c => ?_, fun _ c => ?_, fun i j ei ej _ _ _ H' s' => ?_⟩
  · rw [show integB (.int t) = inB t from rfl, ht] at c
    cases c
  · rw [bt] at c
    cases c
  · cases ei
    cases ej
    exact k H' s'
theorem up_call {H : Hp} {CN : Addr} {t o n : Int} {Q : VK} (ht : inB t = true) (ho : inB o = true) (n0 : 1 ≤ n) (n1 : n ≤ 32) (k : ∀ H', Same H H' → Q (.int (t + (o - t) % n)) H') : spUp 11 6 CN [.int t, .int o, .int n] H Q E0 := by
  have a1 : (10 : Nat) ^ 40 = 10000000000000000000000000000000000000000 := by decide
  have ib := ht
  have ob := ho
  unfold inB at ib ob
  rw [Bool.and_eq_true, decide_eq_true_eq, decide_eq_true_eq, e30] at ib ob
  have bt : betw 1 32 (.int n) = true := by
    show (decide ((1 : Int) ≤ n) && decide (n ≤ 32)) = true
    rw [decide_eq_true n0, decide_eq_true n1]
    rfl
  refine ⟨_, _, _, rfl, .int t (by rw [a1]; omega), .int o (by rw [a1]; omega), .int n (by rw [a1]; omega), fun c => ?_, fun _ c => ?_, fun _ _ c => ?_, fun i l j ei el ej _ _ H' s' => ?_⟩
  · rw [show integB (.int t) = inB t from rfl, ht] at c
    cases c
  · rw [show integB (.int o) = inB o from rfl, ho] at c
    cases c
  · rw [bt] at c
    cases c
  · cases ei
    cases el
    cases ej
    exact k H' s'
/-- the slot, as the law tells it -/
def tSlE : TE := fun σ H Q => ∃ (t n : Int), 0 < n ∧ σ[2]? = some (some (.int t)) ∧ σ[3]? = some (some (.int n)) ∧ σ[5]? = some (some (.int ((if t < 0 then -t else t) % n))) ∧ Q (.int (t % n)) H
abbrev NSl : List Str := ["_law_loom_here", "_law_great", "_law_tick", "_law_interval", "_law_other", "_law_rest", "_law_slot", "_law_some", "_law_by"]
theorem ok_slots {f fT fP fS fU CN : Addr} {fd fdT fdP fdS fdU : FuncData} (F : Fun K "_law_slots_right" "_law_slots_right" tSlots f fd) (T : Bl mg)
    (dT : Dn P w K mg base CX0 "_law_turn" ["_law_loom_here", "_law_total"] 1 spTurn fT fdT) (dP : Dn P w K mg base CX0 "_law_pick" ["_law_loom_here", "_law_items"] 2 spPick fP fdP)
    (dS : Dn P w K mg base (L2.CX P w) "slot_of" ["tick", "interval"] 5 (spSlot 11 6 CN) fS fdS) (dU : Dn P w K mg base (L2.CX P w) "rounded_up" ["number", "slot", "interval"] 5 (spUp 11 6 CN) fU fdU) :
    FnOk P w K mg base CX0 6 f fd ["_law_loom_here"] spOk := by
  refine F.ok scSlots (fun vs H Q E h => ?_) (fun cdv A outer s H vs Q E hr h => ?_)
  · obtain ⟨p, rfl, _⟩ := h
    rfl
  · obtain ⟨p, rfl, lo, k⟩ := h
    have hr1 : Room 1 _ := hr.mono (by decide : 1 ≤ 5)
    have hr2 : Room 2 _ := hr.mono (by decide : 2 ≤ 5)
    have hu : (A.deeper (PyProof.Rows.envOfC "_law_slots_right" (defScope tSlots) s.heap.objs.size f cdv)).units + 64 < cLine := by
      have := hr.un
      omega
    refine ⟨_, pss_cons (ps_set (i := 1) scSlots.nd rfl (.inl rfl) (pe_call dP.G hr2 rfl dP.g dP.kp dP.b .nil pass0 (pa_cons (pv 0) (pa_cons (pe_lst (pa_cons pe_int (pa_cons pe_int (pa_cons (pe_op op_pow pe_int pe_int) (pa_cons (pe_op op_pow pe_int pe_int) pa_nil))))) pa_nil))))
      (pss_cons (ps_asg (pe_tup (pa_cons (pe_op op_mulW (pe_op op_sub (pe_call dT.G hr1 rfl dT.g dT.kp dT.b .nil pass0 (pa_cons (pv 0) (pa_cons pe_int pa_nil))) pe_int) (pv 1)) (pa_cons (pe_op op_add pe_int (pe_call dT.G hr1 rfl dT.g dT.kp dT.b .nil pass0 (pa_cons (pv 0) (pa_cons pe_int pa_nil)))) pa_nil)))
          (pg_tup rfl (pgs_cons (pg_name (i := 2) scSlots.nd rfl (.inr rfl)) (pgs_cons (pg_name (i := 3) scSlots.nd rfl (.inr rfl)) pgs_nil))))
      (pss_cons (ps_set (i := 4) scSlots.nd rfl (.inr rfl) (pe_op op_mulW (pe_op op_sub (pe_call dT.G hr1 rfl dT.g dT.kp dT.b .nil pass0 (pa_cons (pv 0) (pa_cons pe_int pa_nil))) pe_int) (pe_call dP.G hr2 rfl dP.g dP.kp dP.b .nil pass0 (pa_cons (pv 0) (pa_cons (pe_lst (pa_cons pe_int (pa_cons pe_int (pa_cons (pe_op op_pow pe_int pe_int) pa_nil)))) pa_nil)))))
      (pss_cons (ps_set (i := 5) scSlots.nd rfl (.inl rfl) (pe_op op_mod (pe_callB call_abs (by rfl) T.abs (by decide +kernel) (pa_cons (pv 2) pa_nil)) (pv 3)))
      (pss_cons (ps_set (i := 6) scSlots.nd rfl (.inl rfl) (PE.of (t' := tSlE) (pe_ifExp (PW.pt (pw_or (pt_cmpR op_ge (pv 2) pe_int (nomark _)) (pw_or1 (pt_cmpR op_eq (pv 5) pe_int (nomark _))))) (pv 5) (pe_op op_sub (pv 3) (pv 5))) ?_))
      (pss_cons (ps_if (pt_cmpR op_ne (pe_call dS.G hr rfl dS.g dS.kp dS.b .nil passL (pa_cons (pv 2) (pa_cons (pv 3) pa_nil))) (pv 6) (nomark _)) (pss_one (ps_ret pe_bl)) pss_nil)
      (pss_cons (ps_setLc (i := 7) (own := [("_law_by", 8)]) (g := gName 8) (tt := _) (by rfl) scSlots.nd rfl rfl (by rfl) (pi_range1 rfl T.range (pa_cons (pv 3) pa_nil)) (blkOk_by (own := [("_law_by", 8)]) (N := NSl) (sc := defScope tSlots) (by decide +kernel))
          (fun _ _ _ _ _ => pg_name (i := 8) scSlots.nd rfl (Or.inl rfl)) (fun _ _ _ _ _ => pts_one (pt_cmpR op_eq (pe_call dS.G hr rfl dS.g dS.kp dS.b .nil passL (pa_cons (pe_op op_add (pv 2) (pv 8)) (pa_cons (pv 3) pa_nil))) (pe_call dS.G hr rfl dS.g dS.kp dS.b .nil passL (pa_cons (pv 4) (pa_cons (pv 3) pa_nil))) (nomark _))) (fun _ _ _ _ _ => pe_op op_add (pv 2) (pv 8)))
      (pss_one (ps_ret (pe_cmpR (op_eqD hu) (pe_lst (pa_cons (pe_call dU.G hr rfl dU.g dU.kp dU.b .nil passL (pa_cons (pv 2) (pa_cons (pv 4) (pa_cons (pv 3) pa_nil)))) pa_nil)) (pv 7) (nomark _)))))))))), ?_⟩
    · rintro σ H Q ⟨t, n, n0, h2, h3, h5, q⟩
      obtain ⟨z1, z2, z3⟩ := slot_of_abs (t := t) n0
      refine ⟨_, h2, _, _, rfl, rfl, _, rfl, ?_⟩
      by_cases c : t ≥ 0
      · refine iteD c (iteT ⟨_, h5, ?_⟩)
        rw [z1 c]
        exact q
      · refine iteDn c ⟨_, h5, rfl, _, rfl, ?_⟩
        by_cases c2 : (if t < 0 then -t else t) % n = 0
        · have z : decide (V.int ((if t < 0 then -t else t) % n) = V.int 0) = true := decide_eq_true (by rw [c2])
          rw [z]
          refine iteT ⟨_, h5, ?_⟩
          rw [c2, ← z2 c c2]
          exact q
        · have z : decide (V.int ((if t < 0 then -t else t) % n) = V.int 0) = false := decide_eq_false fun e => c2 (V.int.inj e)
          rw [z]
          refine iteF ⟨_, h3, _, h5, _, _, rfl, rfl, ?_⟩
          have q2 := q
          rw [z3 c c2] at q2
          exact q2
    · have lp : ∀ n : Nat, n ≤ 10 → n ≤ sizeLine := fun n h => Nat.le_trans h (by decide)
      have line : (100 : Nat) < sizeLine := by decide
      refine ⟨_, rfl, _, _, rfl, rfl, ⟨by decide, by decide, by decide⟩, _, _, rfl, rfl, ⟨by decide, by decide, by decide⟩, lp 4 (by decide), fun l1 n1 => ?_⟩
      refine pick_of upd_same (by simp) (by simp) (lo.ne n1) (lo.same (grow n1)) fun x hx H1 lo1 u1 => ?_
      have b1 : But p H H1 := (But.of (grow n1)).trans u1
      obtain ⟨g, rfl, hg⟩ : ∃ g : Int, x = .int g ∧ g.natAbs ≤ 1000000000000000000000000000 := by
        simp only [List.mem_cons, List.not_mem_nil, or_false] at hx
        rcases hx with rfl | rfl | rfl | rfl <;> exact ⟨_, rfl, by decide +kernel⟩
      clear hx
      refine ⟨_, rfl, p, 81, rfl, by decide, by decide, lo1, fun r H2 r0 r1 lo2 u2 => ?_⟩
      have ha : (r - 40).natAbs ≤ 40 := by omega
      have ht := mul_abs ha hg
      refine ⟨_, _, rfl, rfl, _, rfl, _, _, rfl, rfl, wide_mul (a := 10) (b := 200) (Nat.lt_of_le_of_lt ha (by decide)) (Nat.lt_of_le_of_lt hg (by decide)) (by decide) (by decide) (by decide), ?_⟩
      obtain ⟨t, et⟩ : ∃ t, t = (r - 40) * g := ⟨_, rfl⟩
      rw [← et] at ht
      refine ⟨_, rfl, p, 32, rfl, by decide, by decide, lo2, fun q H3 q0 q1 lo3 u3 => ?_⟩
      refine ⟨_, _, rfl, rfl, lp 2 (by decide), fun tp np => ?_⟩
      generalize hG : upd H3 tp _ = H4
      have s4 : Same H3 H4 := by
        rw [← hG]
        exact grow np
      have e4 : H4 tp = some (.tup [.int t, .int (1 + q)]) := by
        rw [← hG, et]
        exact upd_same
      clear hG
      have lo4 := lo3.same s4
      have b4 : But p H H4 := ((b1.trans u2).trans u3).trans (.of s4)
      refine ⟨tp, _, rfl, SqT.of e4, rfl, _, _, rfl, _, _, rfl, rfl, ?_⟩
      obtain ⟨n, hn⟩ : ∃ n : Nat, 1 + q = (n : Int) := ⟨(1 + q).toNat, by omega⟩
      rw [hn]
      have n0 : 0 < n := by omega
      have n1 : n ≤ 32 := by omega
      have nI : (0 : Int) < (n : Int) := by omega
      clear hn q0 q1 e4
      refine ⟨_, rfl, p, 41, rfl, by decide, by decide, lo4, fun r2 H5 r20 r21 lo5 u5 => ?_⟩
      refine ⟨_, _, rfl, rfl, _, rfl, _, _, rfl, rfl, ⟨by decide, by decide, by decide⟩, lp 3 (by decide), fun l2 n2 => ?_⟩
      refine pick_of upd_same (by simp) (by simp) (lo5.ne n2) (lo5.same (grow n2)) fun x hx H6 lo6 u6 => ?_
      have b6 : But p H H6 := (b4.trans u5).trans ((But.of (grow n2)).trans u6)
      obtain ⟨g2, rfl, hg2⟩ : ∃ g : Int, x = .int g ∧ g.natAbs ≤ 10000000000000000000000000000 := by
        simp only [List.mem_cons, List.not_mem_nil, or_false] at hx
        rcases hx with rfl | rfl | rfl <;> exact ⟨_, rfl, by decide +kernel⟩
      clear hx
      have ha2 : (r2 - 20).natAbs ≤ 20 := by omega
      have ho := mul_abs ha2 hg2
      refine ⟨_, _, rfl, rfl, wide_mul (a := 10) (b := 200) (Nat.lt_of_le_of_lt ha2 (by decide)) (Nat.lt_of_le_of_lt hg2 (by decide)) (by decide) (by decide) (by decide), ?_⟩
      have nI1 : (1 : Int) ≤ (n : Int) := by omega
      have nI32 : (n : Int) ≤ 32 := by omega
      have bt : inB t = true := inB_abs (Nat.le_trans ht (by decide))
      have bo : inB ((r2 - 20) * g2) = true := inB_abs (Nat.le_trans ho (by decide))
      refine ⟨_, rfl, _, rfl, _, rfl, _, _, rfl, rfl, nI, ?_⟩
      refine ⟨t, n, nI, rfl, rfl, rfl, ?_⟩
      refine ⟨_, rfl, _, rfl, ?_⟩
      dsimp only [tNil, List.append_nil]
      refine slot_call bt nI1 nI32 fun H7 s7 => ?_
      refine ⟨_, rfl, rfl, ?_⟩
      rw [decide_eq_true rfl]
      refine ⟨_, rfl, iteF ?_⟩
      have lo7 := lo6.same s7
      have b7 : But p H H7 := b6.trans (.of s7)
      refine ⟨_, rfl, _, rfl, by omega, by omega, fun D hD => lc_it walk_range (fun i H' => Acc H7 D ((((List.range i).filter fun (b : Nat) => decide ((t + (b : Int)) % (n : Int) = ((r2 - 20) * g2) % (n : Int))).map fun (b : Nat) => t + (b : Int)).map V.int) H') (Acc.start hD) (fun _ _ _ _ => trivial) ?_ ?_⟩
      · rintro i y K4 K5 hi a4 ⟨rfl, rfl⟩
        have i32 : i < n := by
          have : i < ((n : Int)).toNat := hi
          omega
        have zi : (0 : Int) + (i : Int) = (i : Int) := by omega
        dsimp only
        rw [zi]
        refine ⟨rfl, _, rfl, _, rfl, _, _, rfl, rfl, _, rfl, ?_⟩
        have bti : inB (t + (i : Int)) = true := inB_abs (by have := e28; omega)
        dsimp only [tNil, List.append_nil]
        refine slot_call bti nI1 nI32 fun K6 s6 => ?_
        refine ⟨_, rfl, _, rfl, ?_⟩
        dsimp only [tNil, List.append_nil]
        refine slot_call bo nI1 nI32 fun K7 s7' => ?_
        refine ⟨rfl, _, rfl, ?_⟩
        have a7 := a4.on (s6.trans s7')
        have z : decide (V.int ((t + (i : Int)) % (n : Int)) = V.int (((r2 - 20) * g2) % (n : Int))) = decide ((t + (i : Int)) % (n : Int) = ((r2 - 20) * g2) % (n : Int)) := decide_eq_decide.mpr ⟨fun z => V.int.inj z, fun z => by rw [z]⟩
        rw [z]
        cases c : decide ((t + (i : Int)) % (n : Int) = ((r2 - 20) * g2) % (n : Int)) with
        | false =>
          refine iteF ?_
          rw [range_filter_step, c]
          simpa using a7
        | true =>
          refine iteT ⟨_, rfl, _, rfl, _, _, rfl, rfl, _, a7.2.2, ?_, ?_⟩
          · rw [List.length_map, List.length_map]
            have := List.length_filter_le (fun (b : Nat) => decide ((t + (b : Int)) % (n : Int) = ((r2 - 20) * g2) % (n : Int))) (List.range i)
            rw [List.length_range] at this
            omega
          · rw [range_filter_step, c, List.map_append, List.map_append]
            exact a7.put
      · rintro K4 a4
        have zn : ((n : Int)).toNat = n := by omega
        have e7 : K4 D = some (.lst (([t + ((r2 - 20) * g2 - t) % (n : Int)] : List Int).map V.int)) := by
          have z := a4.2.2
          rw [zn, one_slot n0] at z
          have r0 := Int.emod_nonneg ((r2 - 20) * g2 - t) (Int.ne_of_gt nI)
          have z2 : (((((r2 - 20) * g2 - t) % (n : Int)).toNat : Nat) : Int) = ((r2 - 20) * g2 - t) % (n : Int) := Int.toNat_of_nonneg r0
          simp only [List.map_cons, List.map_nil, z2] at z
          exact z
        refine ⟨_, rfl, _, rfl, _, rfl, ?_⟩
        dsimp only [tNil, List.append_nil]
        refine up_call bt bo nI1 nI32 fun K5 s5 => ?_
        refine ⟨lp 1 (by decide), fun l3 n3 => ⟨_, rfl, ?_⟩⟩
        have g6 := grow (o := .lst [.int (t + ((r2 - 20) * g2 - t) % (n : Int))]) n3
        refine eqD_ints (zs := [t + ((r2 - 20) * g2 - t) % (n : Int)]) upd_same ((s5.trans g6) _ _ e7) ?_
        have sf := (a4.1.trans s5).trans g6
        exact k _ (lo7.same sf) (b7.trans (.of sf))
end
end K0
namespace K0
open PySem L2
open L2.My
section
variable {P : Program} {w : World} {K : PySem.W.Frag} {mg : Str → Option Value} {base : Heap}
/-- a pick of a sign -/
def spPickS : Sp := fun vs H Q _ => ∃ (p : Addr) (z : Str), vs = [.ref p, .str z] ∧ 0 < z.length ∧ z.length ≤ 1000 ∧ Loom H p ∧ ∀ c ∈ z.cps.toList, ∀ H', Loom H' p → But p H H' → Q (.str ⟨#[c]⟩) H'
theorem ok_pickS {f fT : Addr} {fd fdT : FuncData} (F : Fun K "_law_pick" "_law_pick" tPick f fd) (T : Bl mg) (dT : Dn P w K mg base CX0 "_law_turn" ["_law_loom_here", "_law_total"] 1 spTurn fT fdT) :
    FnOk P w K mg base CX0 2 f fd ["_law_loom_here", "_law_items"] spPickS := by
  refine F.ok scPick (fun vs H Q E h => ?_) (fun cdv A outer s H vs Q E hr h => ?_)
  · obtain ⟨p, z, rfl, _⟩ := h
    rfl
  · obtain ⟨p, z, rfl, l0, l, lo, k⟩ := h
    have big : (1000 : Nat) ≤ sizeLine := by decide
    refine ⟨_, pss_one (ps_ret (pe_ix ix_str (pv 1) (pe_call dT.G hr rfl dT.g dT.kp dT.b .nil pass0 (pa_cons (pv 0) (pa_cons (pe_callB call_len_str (by rfl) T.len PySem.boot_len (pa_cons (pv 1) pa_nil)) pa_nil))) (fun _ _ => rfl))), ?_⟩
    refine ⟨_, rfl, _, rfl, _, rfl, z, rfl, by omega, p, (z.length : Int), rfl, by omega, by omega, lo, fun r H1 r0 r1 lo1 u1 => ?_⟩
    obtain ⟨j, rfl⟩ := Int.eq_ofNat_of_zero_le r0
    have hj : j < z.cps.toList.length := by
      have : z.cps.toList.length = z.length := Array.length_toList
      omega
    exact ⟨z, j, z.cps.toList[j], rfl, rfl, by omega, atI_nat (j := j) (List.getElem?_eq_getElem hj), k _ (List.getElem_mem hj) H1 lo1 u1⟩
end
end K0
namespace K0
open PySem L2
open L2.My
def okc (c : Nat) : Bool := decide (97 ≤ c) && decide (c ≤ 122)
theorem filter_step {α : Type} (p : α → Bool) {xs : List α} {i : Nat} {x : α} (h : xs[i]? = some x) : (xs.take (i + 1)).filter p = (xs.take i).filter p ++ (if p x = true then [x] else []) := by
  obtain ⟨hi, hx⟩ := List.getElem?_eq_some_iff.mp h
  rw [← hx, List.take_succ_eq_append_getElem hi, List.filter_append]
  congr 1
  cases h : p xs[i] <;> simp [h]
theorem filter_none {α : Type} (f : α → Bool) : ∀ xs : List α, (xs.filter fun c => !f c).isEmpty = xs.all f
  | [] => rfl
  | x :: xs => by
    rw [List.filter_cons, List.all_cons]
    cases h : f x with
    | false => rfl
    | true =>
      show (xs.filter _).isEmpty = _
      rw [filter_none f xs, Bool.true_and]
theorem fold_size : ∀ (ys : List Str) (acc : Array Nat), (∀ y ∈ ys, y.length = 1) → (ys.foldl (fun acc (p : Str) => acc ++ ("" : Str).cps ++ p.cps) acc).size = acc.size + ys.length
  | [], acc, _ => by simp
  | y :: ys, acc, h => by
    have h1 : y.cps.size = 1 := h y (List.mem_cons_self ..)
    have e : ("" : Str).cps.size = 0 := by decide +kernel
    rw [List.foldl_cons, fold_size ys _ fun z hz => h z (List.mem_cons_of_mem _ hz), Array.size_append, Array.size_append, h1, e, List.length_cons]
    omega
theorem join_len {ys : List Str} (h : ∀ y ∈ ys, y.length = 1) : (Txt.join "" ys).length ≤ ys.length := by
  cases ys with
  | nil => exact Nat.le_of_eq (by decide +kernel)
  | cons y ys =>
    show (ys.foldl (fun acc (p : Str) => acc ++ ("" : Str).cps ++ p.cps) y.cps).size ≤ _
    rw [fold_size ys _ fun z hz => h z (List.mem_cons_of_mem _ hz)]
    have h1 : y.cps.size = 1 := h y (List.mem_cons_self ..)
    rw [h1, List.length_cons]
    omega
theorem sum_ones : ∀ {ys : List Str}, (∀ y ∈ ys, y.length = 1) → (ys.map (·.length)).sum = ys.length
  | [], _ => rfl
  | y :: ys, h => by
    rw [List.map_cons, List.sum_cons, sum_ones fun z hz => h z (List.mem_cons_of_mem _ hz), h y (List.mem_cons_self ..), List.length_cons]
    omega
theorem nameZ_eq (z : Str) : nameZ z = ((decide (1 ≤ z.length) && decide (z.length ≤ 8)) && z.cps.toList.all okc) := rfl
section
variable {P : Program} {w : World} {K : PySem.W.Frag} {mg : Str → Option Value} {base : Heap}
theorem scNames : FnScope ["_law_loom_here", "_law_name", "_law_some", "_law_one", "_law_due", "_law_turn_here", "_law_sign"] ["_law_loom_here"] (defScope tNames) := ⟨rfl, rfl, rfl, by decide +kernel, rfl, by decide +kernel, by decide +kernel⟩
def tDue : TE := fun σ H Q => ∃ (z : Str) (o0 o1 o2 o4 o5 o6 : Option V), σ = [o0, o1, o2, some (.str z), o4, o5, o6] ∧ z.length ≤ 100 ∧ ∀ H', Same H H' → Q (.bl (nameZ z)) H'
theorem bool_t (b : Bool) : Told (PyData.bool b) 64 sizeLine := ⟨by simp [PyData.showable], by simp [PyData.hasDict], by simp [PyData.depth], by cases b <;> decide +kernel⟩
abbrev NN : List Str := ["_law_loom_here", "_law_name", "_law_some", "_law_one", "_law_due", "_law_turn_here", "_law_sign"]
theorem ok_names {f fT fP fN : Addr} {fd fdT fdP fdN : FuncData} (F : Fun K "_law_names_right" "_law_names_right" tNames f fd) (T : Bl mg) (hrp : mg "repr" = none) (hord : mg "ord" = none)
    (dT : Dn P w K mg base CX0 "_law_turn" ["_law_loom_here", "_law_total"] 1 spTurn fT fdT) (dP : Dn P w K mg base CX0 "_law_pick" ["_law_loom_here", "_law_items"] 2 spPickS fP fdP)
    (dN : Dn P w K mg base CX0 "is_name" ["value"] 1 (spV 11 6 nameB) fN fdN) :
    FnG P w K mg base 4 f fd ["_law_loom_here"] spOk := by
  refine L2.My.Fun.okG F scNames (fun vs H Q E h => ?_) (fun cdv A outer s H vs Q E _ hr gd h => ?_)
  · obtain ⟨p, rfl, _⟩ := h
    rfl
  · obtain ⟨p, rfl, lo, k⟩ := h
    have hr1 : Room 1 _ := hr.mono (by decide : 1 ≤ 3)
    have hr2 : Room 2 _ := hr.mono (by decide : 2 ≤ 3)
    have hu70 : (A.deeper (PyProof.Rows.envOfC "_law_names_right" (defScope tNames) s.heap.objs.size f cdv)).units + 70 < cLine := by
      have := hr.un
      omega
    have hu : (A.deeper (PyProof.Rows.envOfC "_law_names_right" (defScope tNames) s.heap.objs.size f cdv)).units + 64 < cLine := by omega
    have hu0 : (A.deeper (PyProof.Rows.envOfC "_law_names_right" (defScope tNames) s.heap.objs.size f cdv)).units < cLine := by omega
    refine ⟨_, pss_cons (ps_set (i := 1) scNames.nd rfl (.inl rfl) (pe_bm PySem.F.plainAttrs_str PySem.F.slot_str_join PySem.F.type_str_join mt_join pe_str (pa_cons (pe_lc (own := [("_law_turn_here", 5)]) (g := gName 5) (tt := tYes) (by rfl) scNames.nd
          (pi_range1 rfl T.range (pa_cons (pe_call dT.G hr1 rfl dT.g dT.kp dT.b .nil pass0 (pa_cons (pv 0) (pa_cons pe_int pa_nil))) pa_nil)) (blkOk_by (own := [("_law_turn_here", 5)]) (N := NN) (sc := defScope tNames) (by decide +kernel))
          (fun _ _ _ _ _ => pg_name (i := 5) scNames.nd rfl (Or.inl rfl)) (fun _ _ _ _ _ => pts_nil) (fun _ _ _ _ _ => pe_call dP.G hr2 rfl dP.g dP.kp dP.b .nil pass0 (pa_cons (pv 0) (pa_cons pe_str pa_nil)))) pa_nil)))
      (pss_cons (ps_set (i := 2) scNames.nd rfl (.inl rfl) (pe_lst (pa_cons (pv 1) (pa_cons (pe_op op_add_str (pv 1) pe_str) (pa_cons (pe_op op_add_str (pv 1) pe_str) (pa_cons (pe_op op_add_str (pv 1) pe_str) (pa_cons (pe_slice sl_str (pv 1) po_none (po_some pe_int)) (pa_cons (pe_op op_mulStr pe_str pe_int) (pa_cons (pe_op op_mulStr pe_str pe_int) (pa_cons pe_str pa_nil))))))))))
      (pss_cons (ps_for PassesOwn.never rfl (pi_list (pe_op op_cat (pv 2) (pe_lst (pa_cons (pe_op op_add_str (pv 1) pe_str) (pa_cons (pe_op op_add_str (pv 1) pe_str) (pa_cons (pe_op op_add_str (pv 1) pe_str) pa_nil)))))) (pg_name (i := 3) scNames.nd rfl (.inl rfl))
        (pss_cons (ps_set (i := 4) scNames.nd rfl (.inl rfl) (PE.of (t' := tDue) (pe_and (pe_chain op_le op_le pe_int (pe_callB call_len_str (by rfl) T.len PySem.boot_len (pa_cons (pv 3) pa_nil)) pe_int)
          (pe_one (pe_cmpR (op_eqNil hu0) (pe_lc (own := [("_law_sign", 6)]) (g := gName 6) (tt := _) (by rfl) scNames.nd (pi_str (pv 3)) (blkOk_by (own := [("_law_sign", 6)]) (N := NN) (sc := defScope tNames) (by decide +kernel))
            (fun _ _ _ _ _ => pg_name (i := 6) scNames.nd rfl (Or.inl rfl)) (fun _ _ _ _ _ => pts_one (pt_not (pt_chain op_le op_le pe_int (pe_callB call_ord (by rfl) hord (by decide +kernel) (pa_cons (pv 6) pa_nil)) pe_int))) (fun _ _ _ _ _ => pv 6)) (pe_lst pa_nil) (nomark _)))) ?_))
        (pss_one (ps_if (pt_cmpR op_ne (pe_callB (call_repr gd hu70) (by rfl) hrp (by decide +kernel) (pa_cons (pe_call dN.G hr1 rfl dN.g dN.kp dN.b .nil pass0 (pa_cons (pv 3) pa_nil)) pa_nil)) (pe_callB (call_repr gd hu70) (by rfl) hrp (by decide +kernel) (pa_cons (pv 4) pa_nil)) (nomark _)) (pss_one (ps_ret pe_bl)) pss_nil))))
      (pss_one (ps_ret (pe_cmpR (op_eqD hu) (pe_lc (own := [("_law_one", 3)]) (g := gName 3) (tt := tYes) (by rfl) scNames.nd (pi_tup (pe_tup (pa_cons pe_non (pa_cons pe_int (pa_cons (pe_tup (pa_cons pe_str pa_nil)) (pa_cons (pe_lst (pa_cons pe_str pa_nil)) (pa_cons pe_dnewK (pa_cons pe_bl pa_nil)))))))) (blkOk_by (own := [("_law_one", 3)]) (N := NN) (sc := defScope tNames) (by decide +kernel))
          (fun _ _ _ _ _ => pg_name (i := 3) scNames.nd rfl (Or.inl rfl)) (fun _ _ _ _ _ => pts_nil) (fun _ _ _ _ _ => pe_call dN.G hr1 rfl dN.g dN.kp dN.b .nil pass0 (pa_cons (pv 3) pa_nil))) (pe_op op_rep (pe_lst (pa_cons pe_bl pa_nil)) pe_int) (nomark _)))))), ?_⟩
    · rintro σ H Q ⟨z, o0, o1, o2, o4, o5, o6, rfl, lz, q⟩
      have big : (100 : Nat) ≤ sizeLine := by decide
      have nz := nameZ_eq z
      refine ⟨_, rfl, z, rfl, by omega, _, _, rfl, rfl, _, rfl, ?_⟩
      by_cases c1 : (1 : Int) ≤ (z.length : Int)
      · refine iteD c1 ⟨_, _, rfl, rfl, _, rfl, ?_⟩
        by_cases c2 : (z.length : Int) ≤ 8
        · rw [decide_eq_true c2]
          refine iteT ?_
          refine ⟨_, rfl, z, rfl, fun D hD => lc_it walk_str (fun i H' => Acc H D (((z.cps.toList.take i).filter fun c => !okc c).map fun c => V.str ⟨#[c]⟩) H') (Acc.start hD) (fun _ _ _ _ => trivial) ?_ ?_⟩
          · rintro i v H1 H2 hi a ⟨rfl, c, hc, rfl⟩
            have e : z.cps.toList[i]? = some c := by simpa using hc
            refine ⟨rfl, _, rfl, ⟨#[c]⟩, rfl, rfl, _, _, rfl, rfl, _, rfl, ?_⟩
            have put : okc c = false → ∃ acc, H2 D = some (.lst acc) ∧ acc.length < sizeLine ∧ Acc H D (((z.cps.toList.take (i + 1)).filter fun c => !okc c).map fun c => V.str ⟨#[c]⟩) (upd H2 D (.lst (acc ++ [.str ⟨#[c]⟩]))) := by
              intro b
              refine ⟨_, a.2.2, ?_, ?_⟩
              · rw [List.length_map]
                have l1 := List.length_filter_le (fun c => !okc c) (z.cps.toList.take i)
                have l3 : (z.cps.toList.take i).length ≤ z.cps.toList.length := by rw [List.length_take]; omega
                have big2 : (100 : Nat) < sizeLine := by decide
                have z1 : z.cps.toList.length = z.length := Array.length_toList
                omega
              · rw [filter_step (fun c => !okc c) e, b, List.map_append]
                exact a.put
            have same : okc c = true → Acc H D (((z.cps.toList.take (i + 1)).filter fun c => !okc c).map fun c => V.str ⟨#[c]⟩) H2 := by
              intro b
              rw [filter_step (fun c => !okc c) e, b]
              simpa using a
            have cc : (((⟨#[c]⟩ : Str).cps.getD 0 0 : Nat) : Int) = (c : Int) := rfl
            by_cases d1 : (97 : Int) ≤ (((⟨#[c]⟩ : Str).cps.getD 0 0 : Nat) : Int)
            · refine iteD d1 ⟨_, _, rfl, rfl, _, rfl, ?_⟩
              by_cases d2 : (((⟨#[c]⟩ : Str).cps.getD 0 0 : Nat) : Int) ≤ 122
              · rw [decide_eq_true d2]
                refine iteF (same ?_)
                have e1 : 97 ≤ c := by omega
                have e2 : c ≤ 122 := by omega
                simp [okc, e1, e2]
              · rw [decide_eq_false d2]
                refine iteT ⟨_, rfl, put ?_⟩
                have e2 : ¬ c ≤ 122 := by omega
                simp [okc, e2]
            · refine iteDn d1 ⟨_, rfl, ?_⟩
              refine iteT ⟨_, rfl, put ?_⟩
              have e1 : ¬ 97 ≤ c := by omega
              simp [okc, e1]
          · intro H1 a
            refine ⟨by show 0 ≤ sizeLine; decide, fun l nl => ?_⟩
            have a2 := a.on (grow (o := .lst []) nl)
            refine ⟨_, _, _, rfl, rfl, a2.2.2, upd_same, ?_⟩
            have e : z.cps.toList.take z.cps.size = z.cps.toList := List.take_of_length_le (by simp)
            have kk := q _ a2.1
            have z2 : nameZ z = (((z.cps.toList.take z.cps.size).filter fun c => !okc c).map fun c => V.str ⟨#[c]⟩).isEmpty := by
              rw [e, List.isEmpty_map, filter_none, nz, decide_eq_true (show 1 ≤ z.length by omega), decide_eq_true (show z.length ≤ 8 by omega), Bool.true_and, Bool.true_and]
            rw [z2] at kk
            exact kk
        · rw [decide_eq_false c2]
          refine iteF ?_
          have kk := q H (Same.refl H)
          rw [nz, decide_eq_false (show ¬ z.length ≤ 8 by omega), Bool.and_false, Bool.false_and] at kk
          exact kk
      · refine iteDn c1 ⟨_, rfl, iteF ?_⟩
        have kk := q H (Same.refl H)
        rw [nz, decide_eq_false (show ¬ 1 ≤ z.length by omega), Bool.false_and, Bool.false_and] at kk
        exact kk
    · have lp : ∀ n : Nat, n ≤ 20 → n ≤ sizeLine := fun n h => Nat.le_trans h (by decide)
      have big : (1000 : Nat) < sizeLine := by decide
      refine ⟨rfl, ?_⟩
      refine ⟨_, rfl, p, 12, rfl, by decide, by decide, lo, fun r H1 r0 r1 lo1 u1 => ?_⟩
      refine ⟨r, rfl, by omega, by omega, fun D hD => lc_it walk_range (fun i H' => ∃ ys : List Str, Loom H' p ∧ But p H1 H' ∧ H' D = some (.lst (ys.map V.str)) ∧ ys.length = i ∧ ∀ y ∈ ys, y.length = 1)
        ⟨[], lo1.same (grow hD), .of (grow hD), upd_same, rfl, fun y hy => by cases hy⟩ (fun _ _ _ _ => trivial) ?_ ?_⟩
      · rintro i x K0 K1 hi ⟨ys, l0, b0, e0, len, one⟩ ⟨rfl, rfl⟩
        have i12 : i < 12 := by
          have : i < r.toNat := hi
          omega
        have Dp := lo1.ne hD
        refine ⟨rfl, _, rfl, p, "abkxyz", rfl, by decide +kernel, by decide +kernel, l0, fun c hc K2 l2 u2 => ⟨_, u2 D Dp _ e0, ?_, ?_⟩⟩
        · rw [List.length_map]
          omega
        · refine ⟨ys ++ [⟨#[c]⟩], ?_, ?_, ?_, ?_, ?_⟩
          · obtain ⟨x1, x2, x3, ex, r'⟩ := l2
            exact ⟨x1, x2, x3, by rw [upd_ne Dp.symm]; exact ex, r'⟩
          · intro q hq o eq
            rw [upd_ne (ne_of_none eq hD)]
            exact u2 q hq _ (b0 q hq _ eq)
          · rw [List.map_append]
            exact upd_same
          · rw [List.length_append, List.length_singleton, len]
          · intro y hy
            rcases List.mem_append.mp hy with hy | hy
            · exact one y hy
            · rw [List.mem_singleton.mp hy]
              rfl
      · rintro K0 ⟨ys, l0, b0, e0, len, one⟩
        have ylen : ys.length ≤ 11 := by omega
        refine ⟨"", D, ys, rfl, rfl, .inl (SqL.of e0), ?_, ?_⟩
        · rw [sum_ones one, show (("" : Str)).length = 0 by decide +kernel]
          omega
        have nl := join_len one
        revert nl
        generalize Txt.join "" ys = nm
        intro nl
        have nm11 : nm.length ≤ 11 := by omega
        have b00 : But p H K0 := u1.trans b0
        clear e0 one len nl
        have e8 : ((⟨(List.replicate (8 : Int).toNat ("z" : Str).cps).foldl (· ++ ·) #[]⟩ : Str)).length ≤ 100 := by decide +kernel
        have e9 : ((⟨(List.replicate (9 : Int).toNat ("a" : Str).cps).foldl (· ++ ·) #[]⟩ : Str)).length ≤ 100 := by decide +kernel
        have ec : (cutS nm none (some 8)).length ≤ 100 := by
          show (((nm.cps.toList.drop _).take _).toArray).size ≤ 100
          rw [List.size_toArray, List.length_take, List.length_drop, Array.length_toList]
          have : nm.cps.size = nm.length := rfl
          omega
        have ea : ∀ y : Str, y.length = 1 → (nm ++ y).length ≤ 100 := fun y hy => by
          rw [Str.length_append, hy]
          omega
        have bd : ∀ y : Str, y.length = 1 → nm.length + y.length ≤ sizeLine := fun y hy => by omega
        refine ⟨_, rfl, _, rfl, nm, "A", rfl, rfl, bd _ (by decide +kernel), ?_⟩
        refine ⟨_, rfl, nm, " ", rfl, rfl, bd _ (by decide +kernel), ?_⟩
        refine ⟨_, rfl, nm, "0", rfl, rfl, bd _ (by decide +kernel), ?_⟩
        refine ⟨_, rfl, _, rfl, nm, rfl, by omega, ?_⟩
        refine ⟨"z", 8, rfl, rfl, by decide +kernel, by decide, by decide, ?_⟩
        refine ⟨"a", 9, rfl, rfl, by decide +kernel, by decide, by decide, lp 8 (by decide), fun l1 n1 => ?_⟩
        generalize hG : upd K0 l1 _ = K1
        have s1 : Same K0 K1 := by
          rw [← hG]
          exact grow n1
        have g1 : K1 l1 = some (.lst (([nm, nm ++ "A", nm ++ " ", nm ++ "0", cutS nm none (some 8), ⟨(List.replicate (8 : Int).toNat ("z" : Str).cps).foldl (· ++ ·) #[]⟩, ⟨(List.replicate (9 : Int).toNat ("a" : Str).cps).foldl (· ++ ·) #[]⟩, ""] : List Str).map V.str)) := by
          rw [← hG]
          exact upd_same
        clear hG
        refine ⟨_, rfl, _, rfl, nm, "{", rfl, rfl, bd _ (by decide +kernel), ?_⟩
        refine ⟨_, rfl, nm, "_", rfl, rfl, bd _ (by decide +kernel), ?_⟩
        refine ⟨_, rfl, nm, "-", rfl, rfl, bd _ (by decide +kernel), lp 3 (by decide), fun l2 n2 => ?_⟩
        generalize hG : upd K1 l2 _ = K2
        have s2 : Same K1 K2 := by
          rw [← hG]
          exact grow n2
        have g2 : K2 l2 = some (.lst (([nm ++ "{", nm ++ "_", nm ++ "-"] : List Str).map V.str)) := by
          rw [← hG]
          exact upd_same
        clear hG
        have g1 := s2 _ _ g1
        have all : ∀ z ∈ ([nm, nm ++ "A", nm ++ " ", nm ++ "0", cutS nm none (some 8), ⟨(List.replicate (8 : Int).toNat ("z" : Str).cps).foldl (· ++ ·) #[]⟩, ⟨(List.replicate (9 : Int).toNat ("a" : Str).cps).foldl (· ++ ·) #[]⟩, ""] : List Str) ++ [nm ++ "{", nm ++ "_", nm ++ "-"], z.length ≤ 100 := fun z hz => by
          simp only [List.mem_append, List.mem_cons, List.not_mem_nil, or_false] at hz
          rcases hz with (rfl | rfl | rfl | rfl | rfl | rfl | rfl | rfl) | (rfl | rfl | rfl)
          · omega
          · exact ea _ (by decide +kernel)
          · exact ea _ (by decide +kernel)
          · exact ea _ (by decide +kernel)
          · exact ec
          · exact e8
          · exact e9
          · decide +kernel
          · exact ea _ (by decide +kernel)
          · exact ea _ (by decide +kernel)
          · exact ea _ (by decide +kernel)
        have l8 : ([nm, nm ++ "A", nm ++ " ", nm ++ "0", cutS nm none (some 8), ⟨(List.replicate (8 : Int).toNat ("z" : Str).cps).foldl (· ++ ·) #[]⟩, ⟨(List.replicate (9 : Int).toNat ("a" : Str).cps).foldl (· ++ ·) #[]⟩, ""] : List Str).length = 8 := rfl
        have l3 : ([nm ++ "{", nm ++ "_", nm ++ "-"] : List Str).length = 3 := rfl
        revert g1 g2 all l8 l3
        generalize ([nm, nm ++ "A", nm ++ " ", nm ++ "0", cutS nm none (some 8), ⟨(List.replicate (8 : Int).toNat ("z" : Str).cps).foldl (· ++ ·) #[]⟩, ⟨(List.replicate (9 : Int).toNat ("a" : Str).cps).foldl (· ++ ·) #[]⟩, ""] : List Str) = zs
        generalize ([nm ++ "{", nm ++ "_", nm ++ "-"] : List Str) = ws
        intro g2 g1 all l8 l3
        refine ⟨l1, l2, _, _, rfl, rfl, g1, g2, by rw [List.length_map, List.length_map, l8, l3]; exact lp 11 (by decide), fun l5 n5 => ?_⟩
        generalize hG : upd K2 l5 _ = K3
        have s3 : Same K2 K3 := by
          rw [← hG]
          exact grow n5
        have g3 : K3 l5 = some (.lst ((zs ++ ws).map V.str)) := by
          rw [← hG, List.map_append]
          exact upd_same
        clear hG
        have s13 := (s1.trans s2).trans s3
        have lo3 := l0.same s13
        have b03 : But p H K3 := b00.trans (.of s13)
        refine ⟨l5, rfl, ⟨_, SqL.of g3⟩, for_list (xs := (zs ++ ws).map V.str) (fun i σ H' => ∃ o3 o4, σ = [some (.ref p), some (.str nm), some (.ref l1), o3, o4, none, none] ∧ Same K3 H')
          ⟨none, none, rfl, Same.refl _⟩ (fun i σ H' _ ⟨_, _, _, s⟩ => SqL.of (s _ _ g3)) ?_ ?_⟩
        · rintro i y σ K4 hy ⟨o3, o4, rfl, s4⟩
          obtain ⟨z, hz, rfl⟩ := List.mem_map.mp (List.mem_of_getElem? hy)
          have lz := all z hz
          refine ⟨z, _, _, _, _, _, _, rfl, lz, fun K5 s5 => ?_⟩
          refine ⟨_, rfl, _, rfl, .str z lz, fun K6 s6 => ⟨_, .bool (nameZ z), rfl, .bl _, (bool_t _).sh, (bool_t _).nd, (bool_t _).dp, (bool_t _).le, ?_⟩⟩
          refine ⟨_, rfl, _, .bool (nameZ z), rfl, .bl _, (bool_t _).sh, (bool_t _).nd, (bool_t _).dp, (bool_t _).le, rfl, ?_⟩
          rw [decide_eq_true rfl]
          exact ⟨_, rfl, iteF ⟨_, _, rfl, (s4.trans s5).trans s6⟩⟩
        rintro σ K4 ⟨o3, o4, rfl, s4⟩
        have lo4 := lo3.same s4
        have b04 : But p H K4 := b03.trans (.of s4)
        refine ⟨lp 1 (by decide), fun t1 m1 => ?_⟩
        have w1 : Same K4 (upd K4 t1 (.tup [.str "a"])) := grow m1
        have h1 : (upd K4 t1 (.tup [.str "a"])) t1 = some (.tup [.str "a"]) := upd_same
        revert w1 h1
        generalize upd K4 t1 (.tup [.str "a"]) = L1
        intro w1 h1
        refine ⟨lp 1 (by decide), fun t2 m2 => ?_⟩
        have w2 : Same L1 (upd L1 t2 (.lst [.str "a"])) := grow m2
        have h2 : (upd L1 t2 (.lst [.str "a"])) t2 = some (.lst [.str "a"]) := upd_same
        revert w2 h2
        generalize upd L1 t2 (.lst [.str "a"]) = L2'
        intro w2 h2
        have h1 := w2 _ _ h1
        intro t3 m3
        have w3 : Same L2' (upd L2' t3 (.dK [])) := grow m3
        have h3 : (upd L2' t3 (.dK [])) t3 = some (.dK []) := upd_same
        revert w3 h3
        generalize upd L2' t3 (.dK []) = L3
        intro w3 h3
        have h1 := w3 _ _ h1
        have h2 := w3 _ _ h2
        have w13 := (w1.trans w2).trans w3
        have none_ : ∀ y ∈ [V.non, .int 0, .ref t1, .ref t2, .ref t3, .bl true], Tv L3 11 6 y ∧ nameB y = false := fun y hy => by
          simp only [List.mem_cons, List.not_mem_nil, or_false] at hy
          rcases hy with rfl | rfl | rfl | rfl | rfl | rfl
          · exact ⟨.non, rfl⟩
          · exact ⟨.int 0 (by decide), rfl⟩
          · refine ⟨.tup (n := 5) h1 (by simp) fun x hx => ?_, rfl⟩
            rw [List.mem_singleton.mp hx]
            exact .str _ (by decide +kernel)
          · exact ⟨.lst h2, rfl⟩
          · exact ⟨.dct h3, rfl⟩
          · exact ⟨.bl true, rfl⟩
        refine ⟨lp 6 (by decide), fun t4 m4 => ?_⟩
        have w4 : Same L3 (upd L3 t4 (.tup [V.non, .int 0, .ref t1, .ref t2, .ref t3, .bl true])) := grow m4
        have h4 : (upd L3 t4 (.tup [V.non, .int 0, .ref t1, .ref t2, .ref t3, .bl true])) t4 = some (.tup [V.non, .int 0, .ref t1, .ref t2, .ref t3, .bl true]) := upd_same
        have six : [V.non, .int 0, .ref t1, .ref t2, .ref t3, .bl true].length = 6 := rfl
        revert w4 h4 none_ six
        generalize ([V.non, .int 0, .ref t1, .ref t2, .ref t3, .bl true] : List V) = vals
        generalize upd L3 t4 (.tup vals) = L4
        intro none_ w4 h4 six
        have w14 := w13.trans w4
        refine ⟨t4, rfl, ⟨_, SqT.of h4⟩, fun D2 hD2 => lc_tup (xs := vals) (fun i H' => Acc L4 D2 ((List.replicate i false).map V.bl) H') (Acc.start hD2) (fun i H' _ q => SqT.of (q.1 _ _ h4)) ?_ ?_⟩
        · intro i y M1 hy q
          obtain ⟨ty, ny⟩ := none_ y (List.mem_of_getElem? hy)
          have i6 : i < 6 := by
            have := (List.getElem?_eq_some_iff.mp hy).1
            omega
          refine ⟨rfl, _, rfl, y, rfl, (ty.kp (.of w4)).kp (.of q.1), fun M2 sM => ?_⟩
          have q2 := q.on sM
          refine ⟨_, q2.2.2, ?_, ?_⟩
          · rw [List.length_map, List.length_replicate]
            omega
          · rw [List.replicate_succ', List.map_append, ny]
            exact q2.put
        · intro M1 q
          rw [six] at q
          refine ⟨lp 1 (by decide), fun u1 z1 => ?_⟩
          have x1 := grow (o := .lst [.bl false]) z1
          refine ⟨u1, 6, _, rfl, rfl, upd_same, by decide, by decide, by show 1 * 6 ≤ sizeLine; decide, fun u2 z2 => ?_⟩
          have x2 := x1.trans (grow (o := .lst (List.replicate (6 : Int).toNat [V.bl false]).flatten) z2)
          have sf := (w14.trans q.1).trans x2
          refine eqD_bools (bs := List.replicate 6 false) (cs := List.replicate 6 false) (x2 _ _ q.2.2) upd_same ?_
          rw [decide_eq_true rfl]
          exact k _ (lo4.same sf) (b04.trans (.of sf))
end
end K0
namespace K0
open PySem L2
open L2.My
/-- what the law's word makes of a call -/
def TTW (K : PySem.W.Frag) (CN : Addr) : (XK → Hp → VK → Prop) → Hp → VK → Prop := fun tl H Q =>
  tl (fun cls d H' => ∃ dd v dt, cls = .ref CN ∧ d = some dd ∧ H' dd = some (.xd [(("value" : Str), v)]) ∧ Dp K H' v dt ∧ Told dt 60 1000 ∧ Q (.str ("number " ++ dt.shown)) H') H (fun _ H' => Q (.str "fine") H')
theorem scWord : FnScope ["_law_call", "e"] ["_law_call"] (defScope tWord) := ⟨rfl, rfl, rfl, by decide +kernel, rfl, by decide +kernel, by decide +kernel⟩
theorem word_gives {X : Cx} {CN fN g : Addr} {cdg : Value} {q : Str} (R : NumC X.K X.mg CN fN) (eNN : PySem.W.exmOne X.K (.ref CN) (.ref CN) = some true) (hrp : X.mg "repr" = none) (gd : X.A.guards = some []) (hu : X.A.units + 200 < cLine) :
    LamX.GivesTo X ["_law_call", "e"] "_law_word" (defScope tWord) g cdg (defBody tWord) "_law_call" q (TTW X.K CN) := by
  intro f c' s H Q tl act hc h
  have br : PySem.bootBuiltins "repr" = some (.builtin "repr") := by decide +kernel
  have rp : ∀ (a : Addr) (oe : Obj) (pn : List (Addr × Obj)), CallR ((cxOf C8.CX0 X.prog X.w X.K X.mg X.base ["_law_call", "e"] "_law_word" (defScope tWord) g cdg X.A X.stack s H C8.E0).nox.suite a ((a, oe) :: pn)) (.builtin "repr") (rRepr X.K) := fun a oe pn =>
    call_repr (X := (cxOf C8.CX0 X.prog X.w X.K X.mg X.base ["_law_call", "e"] "_law_word" (defScope tWord) g cdg X.A X.stack s H C8.E0).nox.suite a ((a, oe) :: pn)) (show X.A.guards = some [] from gd) (by show X.A.units + 3 + 70 < cLine; omega)
  refine ⟨_, pss_cons (ps_try_clauses (X := (cxOf C8.CX0 X.prog X.w X.K X.mg X.base ["_law_call", "e"] "_law_word" (defScope tWord) g cdg X.A X.stack s H C8.E0).nox) (n := "e") (i := 1)
      (tb := fun W D σ H => ∃ Ech : XK, (∀ cls d σ' H', σ'.length = 2 → Ech cls d H' → W cls d σ' H') ∧ σ[0]? = some (some (.ref f)) ∧ H c' = some (LamX.CodeO c' q) ∧ tl Ech H (fun _ H' => D.nx σ H')) rfl rfl scWord.nd rfl rfl LamX.takes0
      (fun W pn xe tk _ => ?_) (.cons ⟨rfl, by decide, .inl R.gl⟩ (fun a oe cls d pn hz hf => pss_one (ps_ret (pe_op op_add_str pe_str (pe_callB (rp a oe pn) (by rfl) hrp br (pa_cons (Own_value.pe_ofErr R hz hf (pv 1)) pa_nil))))) .nil)) (pss_one (ps_ret pe_str)), ?_⟩
  · refine ⟨fun pins s' σ H' D I h' => ?_⟩
    obtain ⟨Ech, hW, h1, h2, h3⟩ := h'
    have tk2 : Takes ((cxOf C8.CX0 X.prog X.w X.K X.mg X.base ["_law_call", "e"] "_law_word" (defScope tWord) g cdg X.A X.stack s H C8.E0).nox.tr pn xe) (fun cls d σ' H' => σ'.length = 2 → W cls d σ' H') := by
      rintro u s1 ⟨a, B, sI, pins1, σ1, H1, c, d, rfl, J, gr, up, sky, na, os, ag, q⟩
      exact tk _ _ ⟨a, B, sI, pins1, σ1, H1, c, d, rfl, J, gr, up, sky, na, os, ag, q J.len⟩
    exact (pss_one (ps_expr (act _ pn xe Ech _ _ tk2 (fun cls d σ' H' e l => hW cls d σ' H' l e)))).run pins s' σ H' D I ⟨h1, h2, h3⟩
  · refine ⟨_, fun cls d σ' H' hl hE => ?_, rfl, hc, h⟩
    match σ', hl with
    | [x0, x1], _ =>
    obtain ⟨dd, v, dt, rfl, rfl, hd, dp, td, q⟩ := hE
    refine ⟨true, eNN, fun _ e ne => ?_, fun z => Bool.noConfusion z⟩
    refine ⟨_, rfl, rfl, rfl, dd, v, rfl, hd, v, dt, rfl, dp, td.sh, td.nd, Nat.le_trans td.dp (by decide), Nat.le_trans td.le (by decide), ?_⟩
    refine ⟨"number ", dt.shown, rfl, rfl, ?_, q⟩
    have := td.le
    have z : (("number " : Str)).length = 7 := by decide +kernel
    have : (1007 : Nat) ≤ sizeLine := by decide
    omega
end K0
namespace K0
open PySem L2
open L2.My
def ButN (p : Addr) (H H' : Hp) : Prop := ∀ q, q ≠ p → ∀ o, H q = some o → (∀ ps, o ≠ .tbl ps) → H' q = some o
theorem ButN.of {p : Addr} {H H' : Hp} (u : But p H H') : ButN p H H' := fun q hq o e _ => u q hq o e
theorem ButN.ext {p : Addr} {H H' : Hp} (u : LamX.ExtN H H') : ButN p H H' := fun q _ o e n => u q o e n
theorem ButN.trans {p : Addr} {H H1 H2 : Hp} (a : ButN p H H1) (b : ButN p H1 H2) : ButN p H H2 := fun q hq o e n => b q hq o (a q hq o e n) n
theorem Kp.ext {H H' : Hp} (u : LamX.ExtN H H') : Kp H H' := ⟨fun a xs e => u a _ e (fun ps z => by cases z), fun a ⟨xs, e⟩ => ⟨xs, u a _ e (fun ps z => by cases z)⟩, fun a kvs e => u a _ e (fun ps z => by cases z)⟩
theorem Loom.ext {H H' : Hp} {p : Addr} (l : Loom H p) (u : LamX.ExtN H H') : Loom H' p := by
  obtain ⟨a, b, c, e, r⟩ := l
  exact ⟨a, b, c, u _ _ e (fun ps z => by cases z), r⟩
theorem tabs_but {T : List (Addr × Str)} {H H' : Hp} {p : Addr} (t : LamX.Tabs T H) (u : But p H H') (l : IsL H p) : LamX.Tabs T H' := by
  obtain ⟨ys, ep⟩ := l
  intro x hx
  obtain ⟨ps, h1, h2, h3⟩ := t x hx
  refine ⟨ps, u _ (fun z => by rw [z, ep] at h1; cases h1) _ h1, h2, fun pos cv hc => ?_⟩
  obtain ⟨c, e1, e2⟩ := h3 pos cv hc
  refine ⟨c, e1, u _ (fun z => ?_) _ e2⟩
  rw [z, ep] at e2
  have e3 := Option.some.inj e2
  unfold LamX.CodeO at e3
  cases e3
theorem fnok_ex {P : Program} {w : World} {K : PySem.W.Frag} {mg : Str → Option Value} {base : Heap} {f : Addr} {fd : FuncData} {ps : List Str} {k : Nat} {kk : Nat → Nat} {sp : Nat → Sp} {m : Nat} (F : ∀ n, FnOk P w K mg base CX0 (kk n) f fd ps (sp n)) (h : ∀ n, n ≤ m → kk n ≤ k) :
    FnOk P w K mg base CX0 k f fd ps fun vs H Q E => ∃ n, n ≤ m ∧ sp n vs H Q E := by
  refine ⟨fun vs H Q E ⟨n, _, q⟩ => (F n).len vs H Q E q, fun A outer s H args us vs Q E hr e0 hb r ⟨n, hn, q⟩ => ?_⟩
  exact (F n).run A outer s H args us vs Q E (hr.mono (h n hn)) e0 hb r q
section
variable {P : Program} {w : World} {K : PySem.W.Frag} {mg : Str → Option Value} {base : Heap}
/-- a def whose code object is known -/
structure FunC (K : PySem.W.Frag) (x : Str) (st : Stmt) (f : Addr) (fd : FuncData) (c : Addr) : Prop where
  ex : ∃ (oc : Value) (od : Option Addr) (kV doc pm : Value) (an : Option Addr) (ct : Value) (osl : Array (Option Value)),
    fd = PySem.W.fnOf x x (defArgs st) (defBody st) (defScope st) .none kV doc pm an (.ref c) ct ∧ K.lookup f = some ⟨oc, od, .func fd, osl⟩ ∧ PySem.W.codeIn K (.ref c) x = true
  kp : PySem.W.keepIn K (.ref f) = true
theorem FunC.okG {x : Str} {st : Stmt} {f c : Addr} {fd : FuncData} {N ps : List Str} {k : Nat} {sp : Sp} (F : FunC K x st f fd c) (S : FnScope N ps (defScope st)) (len : ∀ vs H Q E, sp vs H Q E → vs.length = ps.length)
    (hbody : ∀ (A : Around) (outer : List Env) (s : Shared) (H : Hp) (vs : List V) (Q : VK) (E : XK), Room k (A.deeper (PyProof.Rows.envOfC x (defScope st) s.heap.objs.size f (.ref c))) → A.guards = some [] → sp vs H Q E →
      ∃ t, PSs (cxOf CX0 P w K mg base N x (defScope st) f (.ref c) A outer s H E).nox (defBody st) t ∧ t { nx := fun _ H' => Q .non H', rt := Q } (start N vs) H) : FnG P w K mg base (k + 1) f fd ps sp := by
  obtain ⟨oc, od, kV, doc, pm, an, ct, osl, rfl, lk, hcd⟩ := F.ex
  refine ⟨len, fun A outer s H args us vs Q E hr hg e0 hb r h => ?_⟩
  refine LamX.run_ofS lk hcd S hr e0 hb r (len _ _ _ _ h) fun hr' => ?_
  obtain ⟨t, ht, q⟩ := hbody A outer s H vs Q E hr' hg h
  exact ⟨t, ht.nox, q⟩
theorem FunC.fn {x : Str} {st : Stmt} {f c : Addr} {fd : FuncData} (F : FunC K x st f fd c) : Fun K x x st f fd := by
  obtain ⟨oc, od, kV, doc, pm, an, ct, osl, h⟩ := F.ex
  exact ⟨⟨oc, od, kV, doc, pm, an, _, ct, osl, h⟩, F.kp⟩
end
theorem seqL_ext {K : PySem.W.Frag} {H H' : Hp} {a : Addr} {xs : List V} (h : SqL K H a xs) (u : LamX.ExtN H H') : SqL K H' a xs := by
  rcases h with (h | ⟨o, h⟩) | h
  · exact .inl (.inl (u _ _ h (fun ps z => by cases z)))
  · exact .inl (.inr ⟨o, u _ _ h (fun ps z => by cases z)⟩)
  · exact .inr h
theorem seqT_ext {K : PySem.W.Frag} {H H' : Hp} {a : Addr} {xs : List V} (h : SqT K H a xs) (u : LamX.ExtN H H') : SqT K H' a xs := by
  rcases h with (h | ⟨o, h⟩) | h
  · exact .inl (.inl (u _ _ h (fun ps z => by cases z)))
  · exact .inl (.inr ⟨o, u _ _ h (fun ps z => by cases z)⟩)
  · exact .inr h
mutual
theorem dp_ext {K : PySem.W.Frag} {H H' : Hp} (s : LamX.ExtN H H') : ∀ {v : V} {d : PyData}, Dp K H v d → Dp K H' v d
  | _, _, .non => .non
  | _, _, .bl b => .bl b
  | _, _, .int i => .int i
  | _, _, .str x => .str x
  | _, _, .lst h r => .lst (seqL_ext h s) (dpAll_ext s r)
  | _, _, .tup h r => .tup (seqT_ext h s) (dpAll_ext s r)
theorem dpAll_ext {K : PySem.W.Frag} {H H' : Hp} (s : LamX.ExtN H H') : ∀ {vs : List V} {ds : List PyData}, DpAll K H vs ds → DpAll K H' vs ds
  | _, _, .nil => .nil
  | _, _, .cons h r => .cons (dp_ext s h) (dpAll_ext s r)
end
/-- a value and its repr -/
structure Wd (K : PySem.W.Frag) (H : Hp) (x : V) (d : PyData) : Prop where
  tv : Tv H 11 6 x
  dp : Dp K H x d
  td : Told d 60 1000
  ok : PyData.strOk ("number " ++ d.shown) = true
theorem Wd.ext {K : PySem.W.Frag} {H H' : Hp} {x : V} {d : PyData} (h : Wd K H x d) (s : LamX.ExtN H H') : Wd K H' x d := ⟨h.tv.kp (.ext s), dp_ext s h.dp, h.td, h.ok⟩
def EchW (K : PySem.W.Frag) (CN : Addr) (Q : VK) : XK := fun cls d H' => ∃ dd v dt, cls = .ref CN ∧ d = some dd ∧ H' dd = some (.xd [(("value" : Str), v)]) ∧ Dp K H' v dt ∧ Told dt 60 1000 ∧ Q (.str ("number " ++ dt.shown)) H'
theorem ra_of {K : PySem.W.Frag} {Q : VK} {H : Hp} {CN : Addr} {x : V} {dt : PyData} (h : Wd K H x dt) (k : ∀ H', Same H H' → Q (.str ("number " ++ dt.shown)) H') : RaN (EchW K CN Q) H CN x :=
  fun H' d s nd => ⟨d, x, dt, rfl, rfl, upd_same, L2.My.Dp.on (s.trans (grow nd)) h.dp, h.td, k _ (s.trans (grow nd))⟩
/-- slot_of with a bad tick, or a good tick and a bad interval -/
theorem slot_bad1 {K : PySem.W.Frag} {Q Q0 : VK} {H : Hp} {CN : Addr} {x y : V} {dt dy : PyData} (h : Wd K H x dt) (hy : Wd K H y dy) (ix : integB x = false) (k : ∀ H', Same H H' → Q (.str ("number " ++ dt.shown)) H') : spSlot 11 6 CN [x, y] H Q0 (EchW K CN Q) := by
  refine ⟨x, y, rfl, h.tv, hy.tv, fun _ => ra_of h k, fun c => ?_, fun i j ei ej hi => ?_⟩
  · rw [ix] at c
    cases c
  · rw [ei, show integB (.int i) = inB i from rfl, hi] at ix
    cases ix
theorem slot_bad2 {K : PySem.W.Frag} {Q Q0 : VK} {H : Hp} {CN : Addr} {i : Int} {y : V} {dy : PyData} (hi : inB i = true) (hy : Wd K H y dy) (by_ : betw 1 32 y = false) (k : ∀ H', Same H H' → Q (.str ("number " ++ dy.shown)) H') : spSlot 11 6 CN [.int i, y] H Q0 (EchW K CN Q) := by
  have a1 : (10 : Nat) ^ 40 = 10000000000000000000000000000000000000000 := by decide
  have ib := hi
  unfold inB at ib
  rw [Bool.and_eq_true, decide_eq_true_eq, decide_eq_true_eq, e30] at ib
  refine ⟨_, y, rfl, .int i (by rw [a1]; omega), hy.tv, fun c => ?_, fun _ _ => ra_of hy k, fun i' j ei ej _ j0 j1 => ?_⟩
  · rw [show integB (.int i) = inB i from rfl, hi] at c
    cases c
  · rw [ej] at by_
    have z : betw 1 32 (.int j) = (decide ((1 : Int) ≤ j) && decide (j ≤ 32)) := rfl
    rw [z, decide_eq_true j0, decide_eq_true j1] at by_
    cases by_
theorem up_bad1 {K : PySem.W.Frag} {Q Q0 : VK} {H : Hp} {CN : Addr} {x y z : V} {dt dy dz : PyData} (h : Wd K H x dt) (hz : Wd K H z dz) (hy : Wd K H y dy) (ix : integB x = false) (bz : betw 1 32 y = false) (k : ∀ H', Same H H' → Q (.str ("number " ++ dt.shown)) H') : spUp 11 6 CN [x, z, y] H Q0 (EchW K CN Q) := by
  refine ⟨x, z, y, rfl, h.tv, hz.tv, hy.tv, fun _ => ra_of h k, fun c => ?_, fun c => ?_, fun i l j ei el ej j0 j1 => ?_⟩
  · rw [ix] at c
    cases c
  · rw [ix] at c
    cases c
  · rw [ej] at bz
    have z : betw 1 32 (.int j) = (decide ((1 : Int) ≤ j) && decide (j ≤ 32)) := rfl
    rw [z, decide_eq_true j0, decide_eq_true j1] at bz
    cases bz
theorem up_bad2 {K : PySem.W.Frag} {Q Q0 : VK} {H : Hp} {CN : Addr} {i : Int} {y z : V} {dy dz : PyData} (hi : inB i = true) (hz : Wd K H z dz) (hy : Wd K H y dy) (iz : integB z = false) (bz : betw 1 32 y = false) (k : ∀ H', Same H H' → Q (.str ("number " ++ dz.shown)) H') : spUp 11 6 CN [.int i, z, y] H Q0 (EchW K CN Q) := by
  have a1 : (10 : Nat) ^ 40 = 10000000000000000000000000000000000000000 := by decide
  have ib := hi
  unfold inB at ib
  rw [Bool.and_eq_true, decide_eq_true_eq, decide_eq_true_eq, e30] at ib
  refine ⟨_, z, y, rfl, .int i (by rw [a1]; omega), hz.tv, hy.tv, fun c => ?_, fun _ _ => ra_of hz k, fun _ c => ?_, fun i' l j ei el ej j0 j1 => ?_⟩
  · rw [show integB (.int i) = inB i from rfl, hi] at c
    cases c
  · rw [iz] at c
    cases c
  · rw [ej] at bz
    have z : betw 1 32 (.int j) = (decide ((1 : Int) ≤ j) && decide (j ≤ 32)) := rfl
    rw [z, decide_eq_true j0, decide_eq_true j1] at bz
    cases bz
theorem up_bad3 {K : PySem.W.Frag} {Q Q0 : VK} {H : Hp} {CN : Addr} {i l : Int} {y : V} {dy : PyData} (hi : inB i = true) (hl : inB l = true) (hy : Wd K H y dy) (bz : betw 1 32 y = false) (k : ∀ H', Same H H' → Q (.str ("number " ++ dy.shown)) H') : spUp 11 6 CN [.int i, .int l, y] H Q0 (EchW K CN Q) := by
  have a1 : (10 : Nat) ^ 40 = 10000000000000000000000000000000000000000 := by decide
  have ib := hi
  have lb := hl
  unfold inB at ib lb
  rw [Bool.and_eq_true, decide_eq_true_eq, decide_eq_true_eq, e30] at ib lb
  refine ⟨_, _, y, rfl, .int i (by rw [a1]; omega), .int l (by rw [a1]; omega), hy.tv, fun c => ?_, fun _ c => ?_, fun _ _ _ => ra_of hy k, fun i' l' j ei el ej j0 j1 => ?_⟩
  · rw [show integB (.int i) = inB i from rfl, hi] at c
    cases c
  · rw [show integB (.int l) = inB l from rfl, hl] at c
    cases c
  · rw [ej] at bz
    have z : betw 1 32 (.int j) = (decide ((1 : Int) ≤ j) && decide (j ≤ 32)) := rfl
    rw [z, decide_eq_true j0, decide_eq_true j1] at bz
    cases bz
end K0
namespace K0
open PySem L2
open L2.My
theorem extn_put {G H1 H2 : Hp} {D : Addr} {o : HO} (a : LamX.ExtN G H1) (n : H1 D = none) (b : LamX.ExtN H1 H2) : LamX.ExtN G (upd H2 D o) := fun q u e t => by
  have e1 := a q u e t
  rw [upd_ne (ne_of_none e1 n)]
  exact b q u e1 t
theorem wd_int {K : PySem.W.Frag} {H : Hp} {i : Int} (h1 : i.natAbs < 10 ^ 40) (h2 : (PyData.int i).showable = true) (h3 : (PyData.int i).shown.length ≤ 1000) (h4 : PyData.strOk ("number " ++ (PyData.int i).shown) = true) : Wd K H (.int i) (.int i) :=
  ⟨.int i h1, .int i, ⟨h2, by simp [PyData.hasDict], by simp [PyData.depth], h3⟩, h4⟩
theorem wd_non {K : PySem.W.Frag} {H : Hp} : Wd K H .non .none := ⟨.non, .non, ⟨by simp [PyData.showable], by simp [PyData.hasDict], by simp [PyData.depth], by decide +kernel⟩, by decide +kernel⟩
theorem wd_bl {K : PySem.W.Frag} {H : Hp} {b : Bool} : Wd K H (.bl b) (.bool b) := ⟨.bl b, .bl b, ⟨by simp [PyData.showable], by simp [PyData.hasDict], by simp [PyData.depth], by cases b <;> decide +kernel⟩, by cases b <;> decide +kernel⟩
theorem wd_str {K : PySem.W.Frag} {H : Hp} {z : String} (h : (z : Str).length ≤ 100) (h3 : (PyData.str z).shown.length ≤ 1000) (h4 : PyData.strOk ("number " ++ (PyData.str z).shown) = true) : Wd K H (.str z) (.str z) :=
  ⟨.str _ h, .str _, ⟨by simp [PyData.showable], by simp [PyData.hasDict], by simp [PyData.depth], h3⟩, h4⟩
theorem wd_nil {K : PySem.W.Frag} {H : Hp} {a : Addr} (e : H a = some (.lst [])) : Wd K H (.ref a) (.list []) :=
  ⟨.lst e, .lst (SqL.of e) .nil, ⟨by simp [PyData.showable, PyData.showableAll], by simp [PyData.hasDict, PyData.hasDictAll], by simp [PyData.depth, PyData.depthAll], by decide +kernel⟩, by decide +kernel⟩
theorem wd_tup {K : PySem.W.Frag} {H : Hp} {a : Addr} (e : H a = some (.tup [.int 2])) : Wd K H (.ref a) (.tuple [.int 2]) :=
  ⟨.tup (n := 5) e (by simp) (fun x hx => by rw [List.mem_singleton.mp hx]; exact .int 2 (by decide)), .tup (SqT.of e) (.cons (.int 2) .nil), ⟨by decide +kernel, by decide +kernel, by decide +kernel, by decide +kernel⟩, by decide +kernel⟩
def lamQ : Str := (PyProof.Rows.envOfC "_law_refused_right" (defScope tRefused) 0 0 .none).qual ++ "<lambda>"
section
variable {P : Program} {w : World} {K : PySem.W.Frag} {mg : Str → Option Value} {base : Heap}
def spRef (T : List (Addr × Str)) : Sp := fun vs H Q _ => ∃ p : Addr, vs = [.ref p] ∧ Loom H p ∧ LamX.Tabs T H ∧ ∀ H', Loom H' p → ButN p H H' → LamX.Tabs T H' → Q (.bl true) H'
theorem scRefused : FnScope ["_law_loom_here", "_law_told", "_law_words", "_law_odd", "_law_wide"] ["_law_loom_here"] (defScope tRefused) := ⟨rfl, rfl, rfl, by decide +kernel, rfl, by decide +kernel, by decide +kernel⟩
theorem ok_refused {CN PT f c fN : Addr} {fd : FuncData} (F : FunC K "_law_refused_right" tRefused f fd c) (TB : LamX.TabB base mg c PT) (T : Bl mg) (hrp : mg "repr" = none) (R : NumC K mg CN fN) (eNN : PySem.W.exmOne K (.ref CN) (.ref CN) = some true)
    {fP fS fU fX : Addr} {fdP fdS fdU fdX : FuncData}
    (dP : Dn P w K mg base CX0 "_law_pick" ["_law_loom_here", "_law_items"] 2 spPick fP fdP)
    (dS : Dn P w K mg base (L2.CX P w) "slot_of" ["tick", "interval"] 5 (spSlot 11 6 CN) fS fdS) (dU : Dn P w K mg base (L2.CX P w) "rounded_up" ["number", "slot", "interval"] 5 (spUp 11 6 CN) fU fdU)
    (FX : Fun K "_law_word" "_law_word" tWord fX fdX) (gX : mg "_law_word" = some (.ref fX)) (bX : Binds K fdX ["_law_call"] []) :
    FnG P w K mg base 8 f fd ["_law_loom_here"] (spRef [(PT, lamQ)]) := by
  obtain ⟨ocX, odX, kVX, docX, pmX, anX, cdvX, ctX, oslX, rfl, lkX, hcdX⟩ := FX.ex
  refine F.okG scRefused (fun vs H Q E h => ?_) (fun A outer s H vs Q E hr gd h => ?_)
  · obtain ⟨p, rfl, _⟩ := h
    rfl
  · obtain ⟨p, rfl, lo, tb, k⟩ := h
    have hr2 : Room 2 _ := hr.mono (by decide : 2 ≤ 7)
    have hu70 : (A.deeper (PyProof.Rows.envOfC "_law_refused_right" (defScope tRefused) s.heap.objs.size f (.ref c))).units + 70 < cLine := by
      have := hr.un
      omega
    have hu : (A.deeper (PyProof.Rows.envOfC "_law_refused_right" (defScope tRefused) s.heap.objs.size f (.ref c))).units + 64 < cLine := by omega
    have hu200 : (A.deeper (PyProof.Rows.envOfC "_law_refused_right" (defScope tRefused) s.heap.objs.size f (.ref c))).units + 200 < cLine := by
      have := hr.un
      omega
    refine ⟨_, pss_cons (ps_set (i := 4) scRefused.nd rfl (.inr rfl) (pe_call dP.G hr2 rfl dP.g dP.kp dP.b .nil pass0 (pa_cons (pv 0) (pa_cons (pe_lst (pa_cons (pe_op op_pow pe_int pe_int) (pa_cons (pe_un un_neg (pe_op op_pow pe_int pe_int)) (pa_cons pe_non (pa_cons pe_bl (pa_cons pe_str (pa_cons (pe_lst pa_nil) (pa_cons (pe_op op_pow pe_int pe_int) pa_nil)))))))) pa_nil))))
      (pss_cons (ps_set (i := 3) scRefused.nd rfl (.inr rfl) (pe_call dP.G hr2 rfl dP.g dP.kp dP.b .nil pass0 (pa_cons (pv 0) (pa_cons (pe_lst (pa_cons pe_int (pa_cons pe_int (pa_cons (pe_un un_neg pe_int) (pa_cons pe_non (pa_cons pe_bl (pa_cons pe_str (pa_cons (pe_tup (pa_cons pe_int pa_nil)) (pa_cons (pe_op op_pow pe_int pe_int) pa_nil))))))))) pa_nil))))
      (pss_cons (ps_set (i := 1) scRefused.nd rfl (.inl rfl) (pe_lst (pa_cons (LamX.pe_lamcall (T := [(PT, lamQ)]) (k := 5) (a := "_law_call") (Ng := ["_law_call", "e"]) rfl gX FX.kp lkX hcdX bX scWord rfl (.inl rfl) (word_gives R eNN hrp gd hu200) TB rfl (List.mem_singleton.mpr rfl) (fun p hp _ => by rw [List.mem_singleton] at hp; rw [hp]; rfl) hr (LamX.lamS_by (show LamX.lamSB (defScope tRefused) _ = true by decide +kernel)) (by rfl) (fun _ _ _ _ _ => by rfl) (fun A2 outer2 s2 H2 E2 f2 c2 hr2 => pe_callS dS.G hr2 rfl dS.g dS.kp dS.b (fun σ => passAt (takes_of rfl rfl rfl rfl) σ) (pa_cons (pv 4) (pa_cons (pv 3) pa_nil)))) pa_nil)))
      (pss_cons (ps_expr (pe_bm PySem.F.plainAttrs_list PySem.F.slot_list_append PySem.F.type_list_append mt_append (pv 1) (pa_cons (LamX.pe_lamcall (T := [(PT, lamQ)]) (k := 5) (a := "_law_call") (Ng := ["_law_call", "e"]) rfl gX FX.kp lkX hcdX bX scWord rfl (.inl rfl) (word_gives R eNN hrp gd hu200) TB rfl (List.mem_singleton.mpr rfl) (fun p hp _ => by rw [List.mem_singleton] at hp; rw [hp]; rfl) hr (LamX.lamS_by (show LamX.lamSB (defScope tRefused) _ = true by decide +kernel)) (by rfl) (fun _ _ _ _ _ => by rfl) (fun A2 outer2 s2 H2 E2 f2 c2 hr2 => pe_callS dS.G hr2 rfl dS.g dS.kp dS.b (fun σ => passAt (takes_of rfl rfl rfl rfl) σ) (pa_cons (pe_op op_sub (pe_op op_pow pe_int pe_int) pe_int) (pa_cons (pv 3) pa_nil)))) pa_nil)))
      (pss_cons (ps_expr (pe_bm PySem.F.plainAttrs_list PySem.F.slot_list_append PySem.F.type_list_append mt_append (pv 1) (pa_cons (LamX.pe_lamcall (T := [(PT, lamQ)]) (k := 5) (a := "_law_call") (Ng := ["_law_call", "e"]) rfl gX FX.kp lkX hcdX bX scWord rfl (.inl rfl) (word_gives R eNN hrp gd hu200) TB rfl (List.mem_singleton.mpr rfl) (fun p hp _ => by rw [List.mem_singleton] at hp; rw [hp]; rfl) hr (LamX.lamS_by (show LamX.lamSB (defScope tRefused) _ = true by decide +kernel)) (by rfl) (fun _ _ _ _ _ => by rfl) (fun A2 outer2 s2 H2 E2 f2 c2 hr2 => pe_callS dU.G hr2 rfl dU.g dU.kp dU.b (fun σ => passAt (takes_of rfl rfl rfl rfl) σ) (pa_cons (pv 4) (pa_cons (pv 3) (pa_cons (pv 3) pa_nil))))) pa_nil)))
      (pss_cons (ps_expr (pe_bm PySem.F.plainAttrs_list PySem.F.slot_list_append PySem.F.type_list_append mt_append (pv 1) (pa_cons (LamX.pe_lamcall (T := [(PT, lamQ)]) (k := 5) (a := "_law_call") (Ng := ["_law_call", "e"]) rfl gX FX.kp lkX hcdX bX scWord rfl (.inl rfl) (word_gives R eNN hrp gd hu200) TB rfl (List.mem_singleton.mpr rfl) (fun p hp _ => by rw [List.mem_singleton] at hp; rw [hp]; rfl) hr (LamX.lamS_by (show LamX.lamSB (defScope tRefused) _ = true by decide +kernel)) (by rfl) (fun _ _ _ _ _ => by rfl) (fun A2 outer2 s2 H2 E2 f2 c2 hr2 => pe_callS dU.G hr2 rfl dU.g dU.kp dU.b (fun σ => passAt (takes_of rfl rfl rfl rfl) σ) (pa_cons pe_int (pa_cons (pv 4) (pa_cons (pv 3) pa_nil))))) pa_nil)))
      (pss_cons (ps_expr (pe_bm PySem.F.plainAttrs_list PySem.F.slot_list_append PySem.F.type_list_append mt_append (pv 1) (pa_cons (LamX.pe_lamcall (T := [(PT, lamQ)]) (k := 5) (a := "_law_call") (Ng := ["_law_call", "e"]) rfl gX FX.kp lkX hcdX bX scWord rfl (.inl rfl) (word_gives R eNN hrp gd hu200) TB rfl (List.mem_singleton.mpr rfl) (fun p hp _ => by rw [List.mem_singleton] at hp; rw [hp]; rfl) hr (LamX.lamS_by (show LamX.lamSB (defScope tRefused) _ = true by decide +kernel)) (by rfl) (fun _ _ _ _ _ => by rfl) (fun A2 outer2 s2 H2 E2 f2 c2 hr2 => pe_callS dU.G hr2 rfl dU.g dU.kp dU.b (fun σ => passAt (takes_of rfl rfl rfl rfl) σ) (pa_cons (pe_op op_sub pe_int (pe_op op_pow pe_int pe_int)) (pa_cons pe_int (pa_cons (pv 3) pa_nil))))) pa_nil)))
      (pss_cons (ps_set (i := 2) scRefused.nd rfl (.inl rfl) (pe_lst (pa_cons (pe_op op_add_str pe_str (pe_callB (call_repr gd hu70) (by rfl) hrp (by decide +kernel) (pa_cons (pv 4) pa_nil))) (pa_cons (pe_op op_add_str pe_str (pe_callB (call_repr gd hu70) (by rfl) hrp (by decide +kernel) (pa_cons (pv 3) pa_nil))) pa_nil))))
      (pss_one (ps_ret (pe_cmpR (op_eqD hu) (pv 1) (pe_lst (pa_cons (pe_ix ix_list (pv 2) pe_int (fun _ _ => rfl)) (pa_cons (pe_ix ix_list (pv 2) pe_int (fun _ _ => rfl)) (pa_cons (pe_ix ix_list (pv 2) pe_int (fun _ _ => rfl)) (pa_cons (pe_ix ix_list (pv 2) pe_int (fun _ _ => rfl)) (pa_cons (pe_ix ix_list (pv 2) pe_int (fun _ _ => rfl)) pa_nil)))))) (nomark _))))))))))), ?_⟩
    have lp : ∀ n : Nat, n ≤ 20 → n ≤ sizeLine := fun n h => Nat.le_trans h (by decide)
    refine ⟨_, rfl, _, _, rfl, rfl, ⟨by decide, by decide, by decide⟩, _, _, rfl, rfl, ⟨by decide, by decide, by decide⟩, _, rfl, lp 0 (by decide), fun t1 m1 => ?_⟩
    have w1 : Same H (upd H t1 (.lst [])) := grow m1
    have e1 : (upd H t1 (.lst [])) t1 = some (.lst []) := upd_same
    have t1p := lo.ne m1
    revert w1 e1
    generalize upd H t1 (.lst []) = M1
    intro w1 e1
    refine ⟨_, _, rfl, rfl, ⟨by decide, by decide, by decide⟩, lp 7 (by decide), fun l1 n1 => ?_⟩
    refine pick_of upd_same (by simp) (by simp) ((lo.same w1).ne n1) ((lo.same w1).same (grow n1)) fun x hx H1 lo1 u1 => ?_
    have b1 : But p M1 H1 := (But.of (grow n1)).trans u1
    have e1 := b1 t1 t1p _ e1
    refine ⟨_, rfl, _, rfl, lp 1 (by decide), fun t2 m2 => ?_⟩
    have w2 : Same H1 (upd H1 t2 (.tup [.int 2])) := grow m2
    have e2 : (upd H1 t2 (.tup [.int 2])) t2 = some (.tup [.int 2]) := upd_same
    have t2p := lo1.ne m2
    revert w2 e2
    generalize upd H1 t2 (.tup [.int 2]) = M2
    intro w2 e2
    have e1 := w2 _ _ e1
    refine ⟨_, _, rfl, rfl, ⟨by decide, by decide, by decide⟩, lp 8 (by decide), fun l2 n2 => ?_⟩
    refine pick_of upd_same (by simp) (by simp) ((lo1.same w2).ne n2) ((lo1.same w2).same (grow n2)) fun y hy B0 lo0 u2 => ?_
    have b2 : But p M2 B0 := (But.of (grow n2)).trans u2
    have e1 := b2 t1 t1p _ e1
    have e2 := b2 t2 t2p _ e2
    have bH : But p H B0 := (((But.of w1).trans b1).trans (.of w2)).trans b2
    have tb0 : LamX.Tabs [(PT, lamQ)] B0 := tabs_but tb bH lo.isL
    obtain ⟨dx, wx, ix⟩ : ∃ d, Wd K B0 x d ∧ integB x = false := by
      simp only [List.mem_cons, List.not_mem_nil, or_false] at hx
      rcases hx with rfl | rfl | rfl | rfl | rfl | rfl | rfl
      · exact ⟨_, wd_int (by decide +kernel) (by decide +kernel) (by decide +kernel) (by decide +kernel), by decide +kernel⟩
      · exact ⟨_, wd_int (by decide +kernel) (by decide +kernel) (by decide +kernel) (by decide +kernel), by decide +kernel⟩
      · exact ⟨_, wd_non, rfl⟩
      · exact ⟨_, wd_bl, rfl⟩
      · exact ⟨_, wd_str (by decide +kernel) (by decide +kernel) (by decide +kernel), rfl⟩
      · exact ⟨_, wd_nil e1, rfl⟩
      · exact ⟨_, wd_int (by decide +kernel) (by decide +kernel) (by decide +kernel) (by decide +kernel), by decide +kernel⟩
    obtain ⟨dy, wy, by_⟩ : ∃ d, Wd K B0 y d ∧ betw 1 32 y = false := by
      simp only [List.mem_cons, List.not_mem_nil, or_false] at hy
      rcases hy with rfl | rfl | rfl | rfl | rfl | rfl | rfl | rfl
      · exact ⟨_, wd_int (by decide +kernel) (by decide +kernel) (by decide +kernel) (by decide +kernel), by decide +kernel⟩
      · exact ⟨_, wd_int (by decide +kernel) (by decide +kernel) (by decide +kernel) (by decide +kernel), by decide +kernel⟩
      · exact ⟨_, wd_int (by decide +kernel) (by decide +kernel) (by decide +kernel) (by decide +kernel), by decide +kernel⟩
      · exact ⟨_, wd_non, rfl⟩
      · exact ⟨_, wd_bl, rfl⟩
      · exact ⟨_, wd_str (by decide +kernel) (by decide +kernel) (by decide +kernel), rfl⟩
      · exact ⟨_, wd_tup e2, rfl⟩
      · exact ⟨_, wd_int (by decide +kernel) (by decide +kernel) (by decide +kernel) (by decide +kernel), by decide +kernel⟩
    have nI : ∀ {R0 : Prop}, integB x = true → R0 := fun c => by
      rw [ix] at c
      cases c
    have nIi : ∀ {R0 : Prop} (i : Int), x = .int i → inB i = true → R0 := fun i ei hi => by
      rw [ei, show integB (.int i) = inB i from rfl, hi] at ix
      cases ix
    have nB : ∀ {R0 : Prop} (j : Int), y = .int j → 1 ≤ j → j ≤ 32 → R0 := fun j ej j0 j1 => by
      rw [ej] at by_
      have z : betw 1 32 (.int j) = (decide ((1 : Int) ≤ j) && decide (j ≤ 32)) := rfl
      rw [z, decide_eq_true j0, decide_eq_true j1] at by_
      cases by_
    have nA : ∀ {R0 : Prop} (i : Int), inB i = true → integB (.int i) = false → R0 := fun i hi c => by
      rw [show integB (.int i) = inB i from rfl, hi] at c
      cases c
    have g1 : inB ((10 : Int) ^ (30 : Int).toNat - 1) = true := by decide +kernel
    have g2 : inB (1 - (10 : Int) ^ (30 : Int).toNat) = true := by decide +kernel
    have g3 : inB 1 = true := by decide +kernel
    have g4 : inB 7 = true := by decide +kernel
    refine ⟨tb0, fun G1 z1 tb1 => ?_⟩
    have wx1 := wx.ext z1
    have wy1 := wy.ext z1
    refine ⟨_, rfl, _, rfl, x, y, rfl, wx1.tv, wy1.tv, fun _ => fun Ge de se ne => ⟨de, x, dx, rfl, rfl, upd_same, L2.My.Dp.on (se.trans (grow ne)) wx1.dp, wx1.td, ?_⟩, fun c => nI c, fun i j ei ej hi => nIi i ei hi⟩
    have sE : Same G1 (upd Ge de (.xd [(("value" : Str), x)])) := se.trans (grow ne)
    have x0 : LamX.ExtN B0 (upd Ge de (.xd [(("value" : Str), x)])) := z1.trans (.of sE)
    have tbE := tb1.ext sE
    revert x0 tbE sE
    generalize upd Ge de (.xd [(("value" : Str), x)]) = G3
    intro sE x0 tbE
    refine ⟨lp 1 (by decide), fun D nD => ?_⟩
    have sD : Same G3 (upd G3 D (.lst [.str ("number " ++ dx.shown)])) := grow nD
    have eD : (upd G3 D (.lst [.str ("number " ++ dx.shown)])) D = some (.lst [.str ("number " ++ dx.shown)]) := upd_same
    revert sD eD
    generalize upd G3 D (.lst [.str ("number " ++ dx.shown)]) = C1
    intro sD eD
    have xC : LamX.ExtN B0 C1 := x0.trans (.of sD)
    have x3C : LamX.ExtN G3 C1 := .of sD
    have tbC := tbE.ext sD
    refine ⟨_, rfl, .inl ⟨rfl, _, SqL.of eD⟩, tbC, fun G1 z1 tb1 => ?_⟩
    have wx1 := wx.ext (xC.trans z1)
    have wy1 := wy.ext (xC.trans z1)
    refine ⟨_, _, rfl, rfl, ⟨by decide, by decide, by decide⟩, _, _, rfl, rfl, _, rfl, _, y, rfl, .int _ (by decide +kernel), wy1.tv, fun c => nA _ g1 c, fun _ _ => fun Ge de se ne => ⟨de, y, dy, rfl, rfl, upd_same, L2.My.Dp.on (se.trans (grow ne)) wy1.dp, wy1.td, ?_⟩, fun i j ei ej hi j0 j1 => nB j ej j0 j1⟩
    have sE : Same G1 (upd Ge de (.xd [(("value" : Str), y)])) := se.trans (grow ne)
    have xE : LamX.ExtN G3 (upd Ge de (.xd [(("value" : Str), y)])) := (x3C.trans z1).trans (.of sE)
    have eE := sE _ _ (z1 _ _ eD (fun ps q => by cases q))
    have tbE := tb1.ext sE
    revert xE tbE sE eE
    generalize upd Ge de (.xd [(("value" : Str), y)]) = Gn
    intro sE xE eE tbE
    refine ⟨D, _, _, rfl, rfl, eE, lp 2 (by decide), ?_⟩
    have xC : LamX.ExtN B0 (upd Gn D (.lst ([.str ("number " ++ dx.shown)] ++ [.str ("number " ++ dy.shown)]))) := extn_put x0 nD xE
    have x3C : LamX.ExtN G3 (upd Gn D (.lst ([.str ("number " ++ dx.shown)] ++ [.str ("number " ++ dy.shown)]))) := extn_put (LamX.ExtN.refl G3) nD xE
    have tbC : LamX.Tabs [(PT, lamQ)] (upd Gn D (.lst ([.str ("number " ++ dx.shown)] ++ [.str ("number " ++ dy.shown)]))) := tabs_but tbE upd_but ⟨_, eE⟩
    have eD : (upd Gn D (.lst ([.str ("number " ++ dx.shown)] ++ [.str ("number " ++ dy.shown)]))) D = some (.lst [.str ("number " ++ dx.shown), .str ("number " ++ dy.shown)]) := upd_same
    revert xC x3C tbC eD
    generalize upd Gn D (.lst ([.str ("number " ++ dx.shown)] ++ [.str ("number " ++ dy.shown)])) = Cn
    intro xC x3C tbC eD
    refine ⟨_, rfl, .inl ⟨rfl, _, SqL.of eD⟩, tbC, fun G1 z1 tb1 => ?_⟩
    have wx1 := wx.ext (xC.trans z1)
    have wy1 := wy.ext (xC.trans z1)
    refine ⟨_, rfl, _, rfl, _, rfl, x, y, y, rfl, wx1.tv, wy1.tv, wy1.tv, fun _ => fun Ge de se ne => ⟨de, x, dx, rfl, rfl, upd_same, L2.My.Dp.on (se.trans (grow ne)) wx1.dp, wx1.td, ?_⟩, fun c => nI c, fun c => nI c, fun i l j ei el ej j0 j1 => nB j ej j0 j1⟩
    have sE : Same G1 (upd Ge de (.xd [(("value" : Str), x)])) := se.trans (grow ne)
    have xE : LamX.ExtN G3 (upd Ge de (.xd [(("value" : Str), x)])) := (x3C.trans z1).trans (.of sE)
    have eE := sE _ _ (z1 _ _ eD (fun ps q => by cases q))
    have tbE := tb1.ext sE
    revert xE tbE sE eE
    generalize upd Ge de (.xd [(("value" : Str), x)]) = Gn
    intro sE xE eE tbE
    refine ⟨D, _, _, rfl, rfl, eE, lp 3 (by decide), ?_⟩
    have xC : LamX.ExtN B0 (upd Gn D (.lst ([.str ("number " ++ dx.shown), .str ("number " ++ dy.shown)] ++ [.str ("number " ++ dx.shown)]))) := extn_put x0 nD xE
    have x3C : LamX.ExtN G3 (upd Gn D (.lst ([.str ("number " ++ dx.shown), .str ("number " ++ dy.shown)] ++ [.str ("number " ++ dx.shown)]))) := extn_put (LamX.ExtN.refl G3) nD xE
    have tbC : LamX.Tabs [(PT, lamQ)] (upd Gn D (.lst ([.str ("number " ++ dx.shown), .str ("number " ++ dy.shown)] ++ [.str ("number " ++ dx.shown)]))) := tabs_but tbE upd_but ⟨_, eE⟩
    have eD : (upd Gn D (.lst ([.str ("number " ++ dx.shown), .str ("number " ++ dy.shown)] ++ [.str ("number " ++ dx.shown)]))) D = some (.lst [.str ("number " ++ dx.shown), .str ("number " ++ dy.shown), .str ("number " ++ dx.shown)]) := upd_same
    revert xC x3C tbC eD
    generalize upd Gn D (.lst ([.str ("number " ++ dx.shown), .str ("number " ++ dy.shown)] ++ [.str ("number " ++ dx.shown)])) = Cn
    intro xC x3C tbC eD
    refine ⟨_, rfl, .inl ⟨rfl, _, SqL.of eD⟩, tbC, fun G1 z1 tb1 => ?_⟩
    have wx1 := wx.ext (xC.trans z1)
    have wy1 := wy.ext (xC.trans z1)
    refine ⟨_, rfl, _, rfl, _, x, y, rfl, .int 1 (by decide), wx1.tv, wy1.tv, fun c => nA 1 g3 c, fun _ _ => fun Ge de se ne => ⟨de, x, dx, rfl, rfl, upd_same, L2.My.Dp.on (se.trans (grow ne)) wx1.dp, wx1.td, ?_⟩, fun _ c => nI c, fun i l j ei el ej j0 j1 => nB j ej j0 j1⟩
    have sE : Same G1 (upd Ge de (.xd [(("value" : Str), x)])) := se.trans (grow ne)
    have xE : LamX.ExtN G3 (upd Ge de (.xd [(("value" : Str), x)])) := (x3C.trans z1).trans (.of sE)
    have eE := sE _ _ (z1 _ _ eD (fun ps q => by cases q))
    have tbE := tb1.ext sE
    revert xE tbE sE eE
    generalize upd Ge de (.xd [(("value" : Str), x)]) = Gn
    intro sE xE eE tbE
    refine ⟨D, _, _, rfl, rfl, eE, lp 4 (by decide), ?_⟩
    have xC : LamX.ExtN B0 (upd Gn D (.lst ([.str ("number " ++ dx.shown), .str ("number " ++ dy.shown), .str ("number " ++ dx.shown)] ++ [.str ("number " ++ dx.shown)]))) := extn_put x0 nD xE
    have x3C : LamX.ExtN G3 (upd Gn D (.lst ([.str ("number " ++ dx.shown), .str ("number " ++ dy.shown), .str ("number " ++ dx.shown)] ++ [.str ("number " ++ dx.shown)]))) := extn_put (LamX.ExtN.refl G3) nD xE
    have tbC : LamX.Tabs [(PT, lamQ)] (upd Gn D (.lst ([.str ("number " ++ dx.shown), .str ("number " ++ dy.shown), .str ("number " ++ dx.shown)] ++ [.str ("number " ++ dx.shown)]))) := tabs_but tbE upd_but ⟨_, eE⟩
    have eD : (upd Gn D (.lst ([.str ("number " ++ dx.shown), .str ("number " ++ dy.shown), .str ("number " ++ dx.shown)] ++ [.str ("number " ++ dx.shown)]))) D = some (.lst [.str ("number " ++ dx.shown), .str ("number " ++ dy.shown), .str ("number " ++ dx.shown), .str ("number " ++ dx.shown)]) := upd_same
    revert xC x3C tbC eD
    generalize upd Gn D (.lst ([.str ("number " ++ dx.shown), .str ("number " ++ dy.shown), .str ("number " ++ dx.shown)] ++ [.str ("number " ++ dx.shown)])) = Cn
    intro xC x3C tbC eD
    refine ⟨_, rfl, .inl ⟨rfl, _, SqL.of eD⟩, tbC, fun G1 z1 tb1 => ?_⟩
    have wx1 := wx.ext (xC.trans z1)
    have wy1 := wy.ext (xC.trans z1)
    refine ⟨_, _, rfl, rfl, ⟨by decide, by decide, by decide⟩, _, _, rfl, rfl, _, rfl, _, _, y, rfl, .int _ (by decide +kernel), .int 7 (by decide), wy1.tv, fun c => nA _ g2 c, fun _ c => nA 7 g4 c, fun _ _ _ => fun Ge de se ne => ⟨de, y, dy, rfl, rfl, upd_same, L2.My.Dp.on (se.trans (grow ne)) wy1.dp, wy1.td, ?_⟩, fun i l j ei el ej j0 j1 => nB j ej j0 j1⟩
    have sE : Same G1 (upd Ge de (.xd [(("value" : Str), y)])) := se.trans (grow ne)
    have xE : LamX.ExtN G3 (upd Ge de (.xd [(("value" : Str), y)])) := (x3C.trans z1).trans (.of sE)
    have eE := sE _ _ (z1 _ _ eD (fun ps q => by cases q))
    have tbE := tb1.ext sE
    revert xE tbE sE eE
    generalize upd Ge de (.xd [(("value" : Str), y)]) = Gn
    intro sE xE eE tbE
    refine ⟨D, _, _, rfl, rfl, eE, lp 5 (by decide), ?_⟩
    have xC : LamX.ExtN B0 (upd Gn D (.lst ([.str ("number " ++ dx.shown), .str ("number " ++ dy.shown), .str ("number " ++ dx.shown), .str ("number " ++ dx.shown)] ++ [.str ("number " ++ dy.shown)]))) := extn_put x0 nD xE
    have x3C : LamX.ExtN G3 (upd Gn D (.lst ([.str ("number " ++ dx.shown), .str ("number " ++ dy.shown), .str ("number " ++ dx.shown), .str ("number " ++ dx.shown)] ++ [.str ("number " ++ dy.shown)]))) := extn_put (LamX.ExtN.refl G3) nD xE
    have tbC : LamX.Tabs [(PT, lamQ)] (upd Gn D (.lst ([.str ("number " ++ dx.shown), .str ("number " ++ dy.shown), .str ("number " ++ dx.shown), .str ("number " ++ dx.shown)] ++ [.str ("number " ++ dy.shown)]))) := tabs_but tbE upd_but ⟨_, eE⟩
    have eD : (upd Gn D (.lst ([.str ("number " ++ dx.shown), .str ("number " ++ dy.shown), .str ("number " ++ dx.shown), .str ("number " ++ dx.shown)] ++ [.str ("number " ++ dy.shown)]))) D = some (.lst [.str ("number " ++ dx.shown), .str ("number " ++ dy.shown), .str ("number " ++ dx.shown), .str ("number " ++ dx.shown), .str ("number " ++ dy.shown)]) := upd_same
    revert xC x3C tbC eD
    generalize upd Gn D (.lst ([.str ("number " ++ dx.shown), .str ("number " ++ dy.shown), .str ("number " ++ dx.shown), .str ("number " ++ dx.shown)] ++ [.str ("number " ++ dy.shown)])) = Cn
    intro xC x3C tbC eD
    have wx1 := wx.ext xC
    have wy1 := wy.ext xC
    have l7 : (("number " : Str)).length = 7 := by decide +kernel
    have big : (1007 : Nat) ≤ sizeLine := by decide
    refine ⟨_, rfl, x, dx, rfl, wx1.dp, wx1.td.sh, wx1.td.nd, Nat.le_trans wx1.td.dp (by decide), Nat.le_trans wx1.td.le (by decide), "number ", dx.shown, rfl, rfl, (by have := wx1.td.le; omega), ?_⟩
    refine ⟨_, rfl, y, dy, rfl, wy1.dp, wy1.td.sh, wy1.td.nd, Nat.le_trans wy1.td.dp (by decide), Nat.le_trans wy1.td.le (by decide), "number ", dy.shown, rfl, rfl, (by have := wy1.td.le; omega), lp 2 (by decide), fun wd nw => ?_⟩
    have sW : Same Cn (upd Cn wd (.lst [.str ("number " ++ dx.shown), .str ("number " ++ dy.shown)])) := grow nw
    have eW : (upd Cn wd (.lst [.str ("number " ++ dx.shown), .str ("number " ++ dy.shown)])) wd = some (.lst [.str ("number " ++ dx.shown), .str ("number " ++ dy.shown)]) := upd_same
    revert sW eW
    generalize upd Cn wd (.lst [.str ("number " ++ dx.shown), .str ("number " ++ dy.shown)]) = E1
    intro sW eW
    refine ⟨_, rfl, _, rfl, wd, _, 0, _, rfl, rfl, SqL.of eW, atI_nat (j := 0) rfl, ?_⟩
    refine ⟨_, rfl, wd, _, 1, _, rfl, rfl, SqL.of eW, atI_nat (j := 1) rfl, ?_⟩
    refine ⟨_, rfl, wd, _, 0, _, rfl, rfl, SqL.of eW, atI_nat (j := 0) rfl, ?_⟩
    refine ⟨_, rfl, wd, _, 0, _, rfl, rfl, SqL.of eW, atI_nat (j := 0) rfl, ?_⟩
    refine ⟨_, rfl, wd, _, 1, _, rfl, rfl, SqL.of eW, atI_nat (j := 1) rfl, lp 5 (by decide), fun fl nf => ?_⟩
    have sF := grow (o := .lst [.str ("number " ++ dx.shown), .str ("number " ++ dy.shown), .str ("number " ++ dx.shown), .str ("number " ++ dx.shown), .str ("number " ++ dy.shown)]) nf
    have okz : ∀ z ∈ [("number " ++ dx.shown), ("number " ++ dy.shown), ("number " ++ dx.shown), ("number " ++ dx.shown), ("number " ++ dy.shown)], PyData.strOk z = true := fun z hz => by
      simp only [List.mem_cons, List.not_mem_nil, or_false] at hz
      rcases hz with rfl | rfl | rfl | rfl | rfl
      · exact wx.ok
      · exact wy.ok
      · exact wx.ok
      · exact wx.ok
      · exact wy.ok
    have xF := xC.trans (.of (sW.trans sF))
    exact eqD_strs okz ((sW.trans sF) _ _ eD) upd_same (k _ (lo0.ext xF) ((ButN.of bH).trans (.ext xF)) ((tbC.ext sW).ext sF))
end
end K0
namespace K0
open PySem L2
open L2.My
theorem sh_mk {K : PySem.W.Frag} {H : Hp} {v : V} {d : PyData} (dp : Dp K H v d) (h1 : d.showable = true) (h2 : d.hasDict = false) (h3 : d.depth ≤ 60) (h4 : d.shown.length ≤ 1000) (o1 : PyData.strOk d.shown = true) (o2 : PyData.strOk (PyData.tuple [d, .int 1]).shown = true)
    (k1 : (PyData.tuple [d, .int 1]).showable = true) (k2 : (PyData.tuple [d, .int 1]).hasDict = false) (k3 : (PyData.tuple [d, .int 1]).depth ≤ 61) (k4 : (PyData.tuple [d, .int 1]).shown.length ≤ 2000) : Shows K H v d := ⟨dp, ⟨h1, h2, h3, h4⟩, o1, o2, ⟨k1, k2, k3, k4⟩⟩
section
variable {P : Program} {w : World} {K : PySem.W.Frag} {mg : Str → Option Value} {base : Heap}
def spLaw (K : PySem.W.Frag) (Tb : List (Addr × Str)) : Sp := fun vs H Q _ => ∃ (a : Addr) (ns : List Int), vs = [.ref a] ∧ SqL K H a (ns.map V.int) ∧ LamX.Tabs Tb H ∧ ∀ H', Q (.bl true) H'
theorem scLaw : FnScope ["_law_script", "_law_spot", "_law_loom_here", "_law_value", "_law_some", "_law_one"] ["_law_script"] (defScope tLaw) := ⟨rfl, rfl, rfl, by decide +kernel, rfl, by decide +kernel, by decide +kernel⟩
abbrev NL : List Str := ["_law_script", "_law_spot", "_law_loom_here", "_law_value", "_law_some", "_law_one"]
theorem ok_law {CN f : Addr} {fd : FuncData} {Tb : List (Addr × Str)} (F : Fun K "law" "law" tLaw f fd) (T : Bl mg) (hmin : mg "min" = none) (hI : ∃ t, mg "MAX_INTERVAL" = some (.int 32 t)) (hT : ∃ t, mg "MAX_TICKS" = some (.int 4 t))
    {fO fP fE fN fS fR fI fL fU : Addr} {fdO fdP fdE fdN fdS fdR fdI fdL fdU : FuncData}
    (dO : Dn P w K mg base CX0 "_law_loom" ["_law_script", "_law_spot"] 1 (spLoom K) fO fdO) (dP : Dn P w K mg base CX0 "_law_pick" ["_law_loom_here", "_law_items"] 2 spPick fP fdP)
    (GE : FnG P w K mg base 4 fE fdE ["_law_value"] (spErrs K)) (kE : PySem.W.keepIn K (.ref fE) = true) (bE : Binds K fdE ["_law_value"] []) (gE : mg "_law_errors_right" = some (.ref fE))
    (GN : FnG P w K mg base 4 fN fdN ["_law_loom_here"] spOk) (kN : PySem.W.keepIn K (.ref fN) = true) (bN : Binds K fdN ["_law_loom_here"] []) (gN : mg "_law_names_right" = some (.ref fN))
    (dS : Dn P w K mg base CX0 "_law_slots_right" ["_law_loom_here"] 6 spOk fS fdS)
    (GR : FnG P w K mg base 8 fR fdR ["_law_loom_here"] (spRef Tb)) (kR : PySem.W.keepIn K (.ref fR) = true) (bR : Binds K fdR ["_law_loom_here"] []) (gR : mg "_law_refused_right" = some (.ref fR))
    (dI : Dn P w K mg base CX0 "is_integer" ["value"] 2 (spV 11 6 integB) fI fdI)
    (dL : Dn P w K mg base (L2.CX P w) "slot_of" ["tick", "interval"] 5 (spSlot 11 6 CN) fL fdL) (dU : Dn P w K mg base (L2.CX P w) "rounded_up" ["number", "slot", "interval"] 5 (spUp 11 6 CN) fU fdU) :
    FnG P w K mg base 9 f fd ["_law_script"] (spLaw K Tb) := by
  obtain ⟨tI, hI⟩ := hI
  obtain ⟨tT, hT⟩ := hT
  refine L2.My.Fun.okG F scLaw (fun vs H Q E h => ?_) (fun cdv A outer s H vs Q E _ hr gd h => ?_)
  · obtain ⟨a, ns, rfl, _⟩ := h
    rfl
  · obtain ⟨a, ns, rfl, hS, tb, k⟩ := h
    have hr1 : Room 1 _ := hr.mono (by decide : 1 ≤ 8)
    have hr2 : Room 2 _ := hr.mono (by decide : 2 ≤ 8)
    have hr4 : Room 4 _ := hr.mono (by decide : 4 ≤ 8)
    have hr5 : Room 5 _ := hr.mono (by decide : 5 ≤ 8)
    have hr6 : Room 6 _ := hr.mono (by decide : 6 ≤ 8)
    have hu : (A.deeper (PyProof.Rows.envOfC "law" (defScope tLaw) s.heap.objs.size f cdv)).units + 64 < cLine := by
      have := hr.un
      omega
    have lp : ∀ n : Nat, n ≤ 20 → n ≤ sizeLine := fun n h => Nat.le_trans h (by decide)
    refine ⟨_, pss_cons (ps_for PassesOwn.never rfl (pi_range1 rfl T.range (pa_cons (pe_callB (call_max2 rfl) (by rfl) T.max (by decide +kernel) (pa_cons pe_int (pa_cons (pe_callB (call_min2 rfl) (by rfl) hmin (by decide +kernel) (pa_cons pe_int (pa_cons (pe_callB call_len_seq (by rfl) T.len PySem.boot_len (pa_cons (pv 0) pa_nil)) pa_nil))) pa_nil))) pa_nil)) (pg_name (i := 1) scLaw.nd rfl (.inl rfl))
      (pss_cons (ps_set (i := 2) scLaw.nd rfl (.inl rfl) (pe_call dO.G hr1 rfl dO.g dO.kp dO.b .nil pass0 (pa_cons (pv 0) (pa_cons (pv 1) pa_nil))))
      (pss_cons (ps_set (i := 3) scLaw.nd rfl (.inl rfl) (pe_call dP.G hr2 rfl dP.g dP.kp dP.b .nil pass0 (pa_cons (pv 2) (pa_cons (pe_lst (pa_cons pe_non (pa_cons pe_int (pa_cons pe_int (pa_cons pe_str (pa_cons (pe_tup (pa_cons pe_str (pa_cons pe_int pa_nil))) (pa_cons pe_bl (pa_cons (pe_op op_sub (pe_op op_pow pe_int pe_int) pe_int) pa_nil)))))))) pa_nil))))
      (pss_cons (ps_if (PW.pt (pw_or (pt_not (pt_val (pe_callG GE hr4 gd rfl gE kE bE (pa_cons (pv 3) pa_nil)))) (pw_or1 (pt_not (pt_val (pe_callG GN hr4 gd rfl gN kN bN (pa_cons (pv 2) pa_nil))))))) (pss_one (ps_ret pe_bl)) pss_nil)
      (pss_one (ps_if (PW.pt (pw_or (pt_not (pt_val (pe_call dS.G hr6 rfl dS.g dS.kp dS.b .nil pass0 (pa_cons (pv 2) pa_nil)))) (pw_or1 (pt_not (pt_val (pe_callG GR hr gd rfl gR kR bR (pa_cons (pv 2) pa_nil))))))) (pss_one (ps_ret pe_bl)) pss_nil))))))
      (pss_cons (ps_set (i := 4) scLaw.nd rfl (.inl rfl) (pe_lst (pa_cons pe_int (pa_cons (pe_un un_neg pe_int) (pa_cons (pe_op op_sub (pe_op op_pow pe_int pe_int) pe_int) (pa_cons (pe_op op_sub pe_int (pe_op op_pow pe_int pe_int)) (pa_cons (pe_op op_pow pe_int pe_int) (pa_cons (pe_un un_neg (pe_op op_pow pe_int pe_int)) (pa_cons pe_bl (pa_cons pe_bl (pa_cons pe_non (pa_cons pe_str (pa_cons (pe_tup (pa_cons pe_int pa_nil)) (pa_cons pe_dnewK pa_nil))))))))))))))
      (pss_cons (ps_if (pt_cmpR (op_neD hu) (pe_lc (own := [("_law_one", 5)]) (g := gName 5) (tt := tYes) (by rfl) scLaw.nd (pi_list (pv 4)) (blkOk_by (own := [("_law_one", 5)]) (N := NL) (sc := defScope tLaw) (by decide +kernel)) (fun _ _ _ _ _ => pg_name (i := 5) scLaw.nd rfl (Or.inl rfl)) (fun _ _ _ _ _ => pts_nil) (fun _ _ _ _ _ => pe_call dI.G hr2 rfl dI.g dI.kp dI.b .nil pass0 (pa_cons (pv 5) pa_nil)))
          (pe_op op_cat (pe_op op_rep (pe_lst (pa_cons pe_bl pa_nil)) pe_int) (pe_op op_rep (pe_lst (pa_cons pe_bl pa_nil)) pe_int)) (nomark _)) (pss_one (ps_ret pe_bl)) pss_nil)
      (pss_one (ps_ret (pe_cmpR (op_eqD hu) (pe_lst (pa_cons (pe_glob (v := .int 32) rfl hI ⟨_, rfl⟩) (pa_cons (pe_glob (v := .int 4) rfl hT ⟨_, rfl⟩) (pa_cons (pe_call dL.G hr5 rfl dL.g dL.kp dL.b .nil passL (pa_cons (pe_un un_neg pe_int) (pa_cons pe_int pa_nil))) (pa_cons (pe_call dU.G hr5 rfl dU.g dU.kp dU.b .nil passL (pa_cons (pe_un un_neg pe_int) (pa_cons pe_int (pa_cons pe_int pa_nil)))) (pa_cons (pe_call dU.G hr5 rfl dU.g dU.kp dU.b .nil passL (pa_cons pe_int (pa_cons pe_int (pa_cons pe_int pa_nil)))) pa_nil)))))) (pe_lst (pa_cons pe_int (pa_cons pe_int (pa_cons pe_int (pa_cons pe_int (pa_cons pe_int pa_nil)))))) (nomark _)))))), ?_⟩
    refine ⟨_, rfl, a, _, rfl, .inl hS, _, _, rfl, _, _, rfl, _, rfl, ?_, ?_, for_it walk_range (fun i σ H' => ∃ o1 o2 o3, σ = [some (.ref a), o1, o2, o3, none, none] ∧ LamX.ExtN H H' ∧ LamX.Tabs Tb H')
      ⟨none, none, none, rfl, LamX.ExtN.refl H, tb⟩ (fun _ _ _ _ _ => trivial) ?_ ?_⟩
    · split <;> split <;> omega
    · split <;> split <;> omega
    · rintro i x σ K0 K1 hi ⟨o1, o2, o3, rfl, n0, tb0⟩ ⟨rfl, rfl⟩
      have i8 : i < 100 := by
        revert hi
        split <;> split <;> omega
      refine ⟨_, rfl, _, rfl, a, ns, i, ?_, seqL_ext hS n0, i8, fun p K2 np s02 lo => ?_⟩
      · have z : (0 : Int) + (i : Int) = (i : Int) := by omega
        show [V.ref a, V.int (0 + (i : Int))] = _
        rw [z]
      have tb2 := tb0.ext s02
      refine ⟨_, rfl, lp 2 (by decide), fun t1 m1 => ?_⟩
      have w1 : Same K2 (upd K2 t1 (.tup [.str "a", .int 1])) := grow m1
      have e1 : (upd K2 t1 (.tup [.str "a", .int 1])) t1 = Option.some (.tup [.str "a", .int 1]) := upd_same
      have t1p := lo.ne m1
      revert w1 e1
      generalize upd K2 t1 (.tup [.str "a", .int 1]) = M1
      intro w1 e1
      refine ⟨_, _, rfl, rfl, ⟨by decide, by decide, by decide⟩, _, _, rfl, rfl, lp 7 (by decide), fun l1 n1 => ?_⟩
      refine pick_of upd_same (by simp) (by simp) ((lo.same w1).ne n1) ((lo.same w1).same (grow n1)) fun v hv K3 lo3 u3 => ?_
      have b3 : But p M1 K3 := (But.of (grow n1)).trans u3
      have e1 := b3 t1 t1p _ e1
      have bK : But p K1 K3 := ((But.of s02).trans (.of w1)).trans b3
      have b23 : But p K2 K3 := (But.of w1).trans b3
      obtain ⟨d, sh⟩ : ∃ d, Shows K K3 v d := by
        simp only [List.mem_cons, List.not_mem_nil, or_false] at hv
        rcases hv with rfl | rfl | rfl | rfl | rfl | rfl | rfl
        · exact ⟨.none, sh_mk .non (by decide +kernel) (by decide +kernel) (by decide +kernel) (by decide +kernel) (by decide +kernel) (by decide +kernel) (by decide +kernel) (by decide +kernel) (by decide +kernel) (by decide +kernel)⟩
        · exact ⟨.int 0, sh_mk (.int 0) (by decide +kernel) (by decide +kernel) (by decide +kernel) (by decide +kernel) (by decide +kernel) (by decide +kernel) (by decide +kernel) (by decide +kernel) (by decide +kernel) (by decide +kernel)⟩
        · exact ⟨.int 31, sh_mk (.int 31) (by decide +kernel) (by decide +kernel) (by decide +kernel) (by decide +kernel) (by decide +kernel) (by decide +kernel) (by decide +kernel) (by decide +kernel) (by decide +kernel) (by decide +kernel)⟩
        · exact ⟨.str "x", sh_mk (.str _) (by decide +kernel) (by decide +kernel) (by decide +kernel) (by decide +kernel) (by decide +kernel) (by decide +kernel) (by decide +kernel) (by decide +kernel) (by decide +kernel) (by decide +kernel)⟩
        · exact ⟨.tuple [.str "a", .int 1], sh_mk (.tup (SqT.of e1) (.cons (.str _) (.cons (.int 1) .nil))) (by decide +kernel) (by decide +kernel) (by decide +kernel) (by decide +kernel) (by decide +kernel) (by decide +kernel) (by decide +kernel) (by decide +kernel) (by decide +kernel) (by decide +kernel)⟩
        · exact ⟨.bool true, sh_mk (.bl true) (by decide +kernel) (by decide +kernel) (by decide +kernel) (by decide +kernel) (by decide +kernel) (by decide +kernel) (by decide +kernel) (by decide +kernel) (by decide +kernel) (by decide +kernel)⟩
        · exact ⟨.int ((10 : Int) ^ (40 : Int).toNat - 1), sh_mk (.int _) (by decide +kernel) (by decide +kernel) (by decide +kernel) (by decide +kernel) (by decide +kernel) (by decide +kernel) (by decide +kernel) (by decide +kernel) (by decide +kernel) (by decide +kernel)⟩
      refine ⟨_, rfl, v, d, rfl, sh, fun K4 s4 => ⟨_, rfl, iteF ?_⟩⟩
      refine ⟨_, rfl, p, rfl, lo3.same s4, fun K5 lo5 u5 => ⟨_, rfl, iteF ?_⟩⟩
      refine ⟨_, rfl, p, rfl, lo5, fun K6 lo6 u6 => ⟨_, rfl, iteF ?_⟩⟩
      have b26 : But p K2 K6 := ((b23.trans (.of s4)).trans u5).trans u6
      have b16 : But p K1 K6 := (But.of s02).trans b26
      refine ⟨_, rfl, p, rfl, lo6, tabs_but tb2 b26 lo.isL, fun K7 lo7 u7 tb7 => ⟨_, rfl, iteF ?_⟩⟩
      have x17 : LamX.ExtN K1 K7 := fun b o e t => ((ButN.of b16).trans u7) b (ne_of_none e np) o e t
      exact ⟨_, _, _, rfl, n0.trans x17, tb7⟩
    rintro σ G0 ⟨o1, o2, o3, rfl, n0, tb0⟩
    refine ⟨_, rfl, _, _, rfl, rfl, ⟨by decide, by decide, by decide⟩, _, _, rfl, rfl, _, _, rfl, rfl, ⟨by decide, by decide, by decide⟩, _, _, rfl, rfl, _, _, rfl, rfl, ⟨by decide, by decide, by decide⟩, _, _, rfl, rfl, ⟨by decide, by decide, by decide⟩, _, rfl, ?_⟩
    refine ⟨lp 1 (by decide), fun t1 m1 => fun d1 m2 => ⟨lp 12 (by decide), fun l1 m3 => ⟨_, rfl, ?_⟩⟩⟩
    have e1 : ∀ G1 : Hp, G1 = upd G0 t1 (.tup [.int 1]) → G1 t1 = Option.some (.tup [.int 1]) := fun _ z => z ▸ upd_same
    have g1 : Same G0 (upd G0 t1 (.tup [.int 1])) := grow m1
    have e1 := e1 _ rfl
    revert m2 m3 g1 e1
    generalize upd G0 t1 (.tup [.int 1]) = G1
    intro m2 m3 g1 e1
    have g2 : Same G1 (upd G1 d1 (.dK [])) := grow m2
    have e2 : (upd G1 d1 (.dK [])) d1 = Option.some (.dK []) := upd_same
    revert m3 g2 e2
    generalize upd G1 d1 (.dK []) = G2
    intro m3 g2 e2
    have g3 : ∀ xs : List V, Same G2 (upd G2 l1 (.lst xs)) := fun _ => grow m3
    have g3 := g3 [.int 0, .int (-1), .int (10 ^ 30 - 1), .int (1 - 10 ^ 30), .int (10 ^ 30), .int (-(10 ^ 30)), .bl true, .bl false, .non, .str "1", .ref t1, .ref d1]
    have e3 : (upd G2 l1 (.lst [.int 0, .int (-1), .int (10 ^ 30 - 1), .int (1 - 10 ^ 30), .int (10 ^ 30), .int (-(10 ^ 30)), .bl true, .bl false, .non, .str "1", .ref t1, .ref d1])) l1 = Option.some (.lst [.int 0, .int (-1), .int (10 ^ 30 - 1), .int (1 - 10 ^ 30), .int (10 ^ 30), .int (-(10 ^ 30)), .bl true, .bl false, .non, .str "1", .ref t1, .ref d1]) := upd_same
    show ∃ _, _
    revert g3 e3
    show _ → _ → ∃ b : Addr, V.ref l1 = .ref b ∧ _
    generalize hG : upd G2 l1 (.lst [.int 0, .int (-1), .int (10 ^ 30 - 1), .int (1 - 10 ^ 30), .int (10 ^ 30), .int (-(10 ^ 30)), .bl true, .bl false, .non, .str "1", .ref t1, .ref d1]) = G3
    intro g3 e3
    have hG' : (upd G2 l1 (.lst [.int 0, (fun i : Int => V.int (-i)) 1, (fun i j : Int => V.int (i - j)) (10 ^ Int.toNat 30) 1, (fun i j : Int => V.int (i - j)) 1 (10 ^ Int.toNat 30), (fun i j : Int => V.int (i ^ j.toNat)) 10 30, (fun i : Int => V.int (-i)) (10 ^ Int.toNat 30), .bl true, .bl false, .non, .str "1", .ref t1, .ref d1])) = G3 := hG
    rw [hG']
    have a30 : (10 : Int) ^ 30 = 1000000000000000000000000000000 := by decide
    have t3 : ∀ x ∈ ([.int 0, .int (-1), .int (10 ^ 30 - 1), .int (1 - 10 ^ 30), .int (10 ^ 30), .int (-(10 ^ 30)), .bl true, .bl false, .non, .str "1", .ref t1, .ref d1] : List V), Tv G3 11 6 x := by
      intro x hx
      simp only [List.mem_cons, List.not_mem_nil, or_false] at hx
      rcases hx with rfl | rfl | rfl | rfl | rfl | rfl | rfl | rfl | rfl | rfl | rfl | rfl
      · exact .int _ (by decide +kernel)
      · exact .int _ (by decide +kernel)
      · exact .int _ (by decide +kernel)
      · exact .int _ (by decide +kernel)
      · exact .int _ (by decide +kernel)
      · exact .int _ (by decide +kernel)
      · exact .bl _
      · exact .bl _
      · exact .non
      · exact .str _ (by decide +kernel)
      · exact .tup (g3 _ _ (g2 _ _ e1)) (by decide) fun x hx => by
          rw [List.mem_singleton] at hx
          subst hx
          exact .int _ (by decide +kernel)
      · exact .dct (g3 _ _ e2)
    refine ⟨l1, rfl, ⟨_, SqL.of e3⟩, fun D hD => lc_it (walk_list (xs := _)) (fun i H' => Acc G3 D (((List.range i).map fun j => decide (j < 4)).map V.bl) H') (Acc.start hD) (fun i H' _ a4 => SqL.of (a4.1 _ _ e3)) ?_ ?_⟩
    · rintro j y K4 K5 hj a4 ⟨rfl, yy⟩
      have j12 : j < 12 := hj
      refine ⟨rfl, _, rfl, y, rfl, (t3 y (List.mem_of_getElem? yy)).kp (.of a4.1), fun K6 s6 => ⟨_, s6 _ _ a4.2.2, ?_, ?_⟩⟩
      · rw [List.length_map, List.length_map, List.length_range]
        exact Nat.lt_trans j12 (by decide)
      · have z : integB y = decide (j < 4) := by
          rcases j with _ | _ | _ | _ | _ | _ | _ | _ | _ | _ | _ | _ | j <;> first | (injection yy with yy; subst yy; decide +kernel) | (injection yy with yy; subst yy; rfl) | omega
        rw [z, range_step j12, List.map_append]
        exact (a4.on s6).put
    · intro K4 a4
      have e4 : K4 D = Option.some (.lst (([true, true, true, true, false, false, false, false, false, false, false, false] : List Bool).map V.bl)) := a4.2.2
      refine ⟨lp 1 (by decide), fun u1 n1 => ?_⟩
      have h1 := grow (o := .lst [.bl true]) n1
      refine ⟨u1, 4, _, rfl, rfl, upd_same, by decide, by decide, by show 1 * 4 ≤ sizeLine; decide, fun u2 n2 => ?_⟩
      have h2 := grow (o := .lst (List.replicate (4 : Int).toNat [V.bl true]).flatten) n2
      refine ⟨lp 1 (by decide), fun u3 n3 => ?_⟩
      have h3 := grow (o := .lst [.bl false]) n3
      refine ⟨u3, 8, _, rfl, rfl, upd_same, by decide, by decide, by show 1 * 8 ≤ sizeLine; decide, fun u4 n4 => ?_⟩
      have h4 := grow (o := .lst (List.replicate (8 : Int).toNat [V.bl false]).flatten) n4
      refine ⟨u2, u4, _, _, rfl, rfl, (h3.trans h4) _ _ upd_same, upd_same, by show 12 ≤ sizeLine; decide, fun u5 n5 => ?_⟩
      have h5 := grow (o := .lst ((List.replicate (4 : Int).toNat [V.bl true]).flatten ++ (List.replicate (8 : Int).toNat [V.bl false]).flatten)) n5
      have e5 := ((((h1.trans h2).trans h3).trans h4).trans h5) _ _ e4
      refine neD_bools e5 upd_same ⟨_, rfl, iteF ?_⟩
      refine ⟨_, rfl, ?_⟩
      dsimp only [tCons, tC, tNil, List.append_nil, List.nil_append, List.cons_append]
      refine slot_call (t := -3) (n := 4) (by decide +kernel) (by decide) (by decide) fun M1 _ => ?_
      refine ⟨_, rfl, ?_⟩
      dsimp only [tCons, tC, tNil, List.append_nil, List.nil_append, List.cons_append]
      refine up_call (t := -1) (o := 6) (n := 4) (by decide +kernel) (by decide +kernel) (by decide) (by decide) fun M2 _ => ?_
      dsimp only [tCall, tCons, tC, tNil, List.append_nil]
      refine up_call (t := 3) (o := 0) (n := 3) (by decide +kernel) (by decide +kernel) (by decide) (by decide) fun M3 _ => ?_
      refine ⟨lp 5 (by decide), fun q1 x1 => ⟨lp 5 (by decide), fun q2 x2 => ?_⟩⟩
      have y2 := grow (o := .lst [.int 32, .int 4, .int 1, .int 2, .int 3]) x2
      refine eqD_ints (zs := [32, 4, 1, 2, 3]) (y2 _ _ upd_same) upd_same ?_
      exact k _

end
end K0
namespace K0
open PySem PySem.Spec PySem.Calls L2
open L2.My
/-! as L2.My.walkG, the top's own facts handed on -/
namespace E
open PySem PySem.Spec PyProof.Rows L2 L2.My
theorem walkT {l : PySem.W.OpenLaw} {n k : Nat} {q : Program} {loose : List Str} {XP : (Str → Option Value) → Heap → Prop} {YP : World → Heap → Prop} {d : DefRec} {K : Params → PySem.W.Frag} {x : Str}
    (hn : l.most = some n) (hn2 : n ≤ sizeLine) (hdf : d.params.defaults = []) (hr : Room k callerA) (hY : ∀ (w : World) (h : Heap), YP w h → (K w.params).In h)
    (F : ∀ (w : World) (mg mb : Str → Option Value) (mean : ExcName → Option Value) (fa : Addr) (h : Heap), PyProof.Rows.Top q (PySem.W.looseW q loose) mean mg mb h → YP w h → (K w.params).In h → h.Ns mainGlobals mg → mg d.name = some (.ref fa) → LawG l w (K w.params) k n x mg fa h) :
    PySem.W.WalkO q loose XP YP l.row.toRowW d [] (fun f vs => PySem.call f vs) := by
  refine Att.attach_callB hn hdf fun w s0 s1 mg mb fa o pm cd doc a vs ns G Y ho hd hcd hmg ha hi hlen hbits hg => ?_
  have KX := hY w _ Y
  obtain ⟨fd, cs, sp, hT, nT, hC, hb, hsp, hF⟩ := F w mg mb _ fa _ G.T Y KX G.T.g hmg
  have hl : ns.length ≤ sizeLine := Nat.le_trans hlen hn2
  have hTs : ∀ b ∈ cs.map (·.2), s1.heap.get? b = some tabO := by
    intro b hb
    obtain ⟨p, hp, rfl⟩ := List.mem_map.mp hb
    exact hT p hp
  have nTs : ∀ b ∈ cs.map (·.2), (K w.params).lookup b = none := by
    intro b hb
    obtain ⟨p, hp, rfl⟩ := List.mem_map.mp hb
    exact nT p hp
  have na : a ∉ cs.map (·.2) := by
    intro z
    cases ha.symm.trans (hTs a z)
  obtain ⟨H, B⟩ := begin_ex KX ha hi hl na
  have hok : HOk l.prog w H s1.heap := B.holds ha hi hl hTs
  have kin := B.kin KX nTs
  have gns := B.nsAt ha hTs G.T.g
  have tabs : ∀ p ∈ cs, H p.2 = some (.tbl #[]) := fun p hp => B.tab _ (List.mem_map.mpr ⟨p, hp, rfl⟩)
  have hM : Mod (K w.params) mg (hidT s1.heap H) := ⟨kin, gns, ⟨mb, B.nsAt ha hTs G.T.b, G.T.builtins⟩, let ⟨mc, h1, h2⟩ := G.T.nolimit; ⟨mc, B.nsAt ha hTs h1, h2⟩⟩
  have TB : ∀ p ∈ cs, LamX.TabB (hidT s1.heap H) mg p.1 p.2 := by
    intro p hp
    obtain ⟨oc, us, file, tf, flags, tg, inF, text, tt, e1, r1, r2, r3, r4, r5, r6, r7, r8, hne⟩ := hC p hp
    obtain ⟨bm, ob, b1, b2, b3, b4, b5, b6⟩ := G.T.bmain
    obtain ⟨og, es, ep, eg, dg, _⟩ := G.T.g
    refine ⟨⟨oc, us, file, tf, flags, tg, inF, text, tt, hidT_get e1 (B.off ha hTs e1 ?_ ?_), r1, r2, r3, r4, r5, r6, r7, r8, hne⟩, ⟨bm, ob, b1, b2, ?_, ?_, hidT_get b3 (B.off ha hTs b3 ?_ ?_), b4, b5, b6⟩, ?_⟩
    · rintro rfl
      cases r2
      simp at r3
    · rintro rfl
      cases r2
    · rintro rfl
      cases b3.symm.trans eg
      rw [b6] at dg
      cases dg
    · rintro rfl
      cases b3.symm.trans (hT p hp)
      cases b6
    · rintro rfl
      cases b6
    · rintro rfl
      cases b6
    · intro z
      rw [z] at eg
      cases eg.symm.trans (hT p hp)
      cases dg
  have e0 : Env0 l.prog w (K w.params) mg (hidT s1.heap H) callerA [] s1 H :=
    ⟨rfl, hM, fun b o e => of_hidT e, Nat.le_of_eq (hidT_size _ _), trivial, fun b hb => absurd (show b ∈ ([] : List Addr) from hb) (by simp), hok, .of_eq hg⟩
  refine codeAny_mono ((hF _ kin gns TB).run callerA [] s1 H ⟨[.ref a], []⟩ [.ref a] [.ref a] _ _ hr rfl e0 (hb s1 (.ref a)) (.cons rfl .nil) (hsp H a ns hlen hbits tabs B.scr)) fun r s2 hq => ?_
  match r, hq with
  | .error e, hq => exact (show False from hq).elim
  | .ok .next, hq => exact False.elim hq
  | .ok .brk, hq => exact False.elim hq
  | .ok .cont, hq => exact False.elim hq
  | .ok (.ret u), hq =>
    obtain ⟨v, H2, os, bare, un, hok2, rv, ev⟩ := hq
    obtain rfl : v = .bl true := ev
    obtain rfl : u = Value.bool true := rv
    have grown : ∀ b ∈ cs.map (·.2), ∃ more : Array Value, s2.heap.get? b = some { cls := .none, data := .fields more } := by
      intro b hb
      obtain ⟨more, z⟩ := un.tbls b #[] (B.tab b hb)
      exact ⟨_, hok2 b _ z⟩
    have same : ∀ b o, b ∉ cs.map (·.2) → s1.heap.get? b = some o → s2.heap.get? b = some o := by
      intro b o nb e
      cases qh : H b with
      | none => exact un.keep b o e qh (by intro z; exact absurd (show b ∈ ([] : List Addr) from z) (by simp)) (by simp)
      | some u =>
        rcases B.cas b u qh with ⟨hb, _⟩ | ⟨rfl, _, rfl⟩
        · exact absurd hb nb
        · have z2 := un.frzs b _ _ qh
          obtain ⟨e2, _⟩ := hok2 b _ z2
          cases e.symm.trans ha
          exact e2
    refine ⟨rfl, ⟨fun b o e => ?_, fun b o e => ?_⟩, os, bare⟩
    · by_cases hb : b ∈ cs.map (·.2)
      · obtain ⟨more, hm⟩ := grown b hb
        obtain ⟨p, hp, rfl⟩ := List.mem_map.mp hb
        cases e.symm.trans (hT p hp)
        exact .inr (.inl ⟨((hC p hp).tab (hT p hp)).isCodeTable, rfl, #[], more, rfl, by rw [Array.empty_append]; exact hm⟩)
      · exact .inl (same b o hb e)
    · by_cases hb : b ∈ cs.map (·.2)
      · obtain ⟨more, hm⟩ := grown b hb
        exact ⟨_, hm⟩
      · exact ⟨o, same b o hb e⟩
end E
structure AtTop (K : PySem.W.Frag) (x : Str) (st : Stmt) (f : Addr) (fd : FuncData) : Prop where
  ns : PySem.W.nsIn K mainGlobals x = some (some (.ref f))
  fn : Fun K x x st f fd
theorem atTop {K : PySem.W.Frag} {x : Str} {st : Stmt} {f : Addr} {oc : Value} {od an : Option Addr} {sl : Array (Option Value)} {kV dc pm cd ct : Value} (a : PySem.W.nsIn K mainGlobals x = some (some (.ref f)))
    (l : K.lookup f = some ⟨oc, od, .func (PySem.W.fnOf x x (defArgs st) (defBody st) (defScope st) .none kV dc pm an cd ct), sl⟩) (c : PySem.W.codeIn K cd x = true) (k : PySem.W.keepIn K (.ref f) = true) :
    AtTop K x st f (PySem.W.fnOf x x (defArgs st) (defBody st) (defScope st) .none kV dc pm an cd ct) := ⟨a, fun_mk (st := st) l c k⟩
structure AtTopC (K : PySem.W.Frag) (x : Str) (st : Stmt) (f : Addr) (fd : FuncData) (c : Addr) : Prop where
  ns : PySem.W.nsIn K mainGlobals x = some (some (.ref f))
  fn : FunC K x st f fd c
theorem atTopC {K : PySem.W.Frag} {x : Str} {st : Stmt} {f c : Addr} {oc : Value} {od an : Option Addr} {sl : Array (Option Value)} {kV dc pm ct : Value} (a : PySem.W.nsIn K mainGlobals x = some (some (.ref f)))
    (l : K.lookup f = some ⟨oc, od, .func (PySem.W.fnOf x x (defArgs st) (defBody st) (defScope st) .none kV dc pm an (.ref c) ct), sl⟩) (cc : PySem.W.codeIn K (.ref c) x = true) (k : PySem.W.keepIn K (.ref f) = true) :
    AtTopC K x st f (PySem.W.fnOf x x (defArgs st) (defBody st) (defScope st) .none kV dc pm an (.ref c) ct) c := ⟨a, ⟨oc, od, kV, dc, pm, an, ct, sl, rfl, l, cc⟩, k⟩
structure Consts (K : PySem.W.Frag) : Prop where
  long : ∃ t, PySem.W.nsIn K mainGlobals "LONG" = some (some (.int (10 ^ 30) t))
  l8 : ∃ t, PySem.W.nsIn K mainGlobals "MAX_LETTERS" = some (some (.int 8 t))
  ls : ∃ t, PySem.W.nsIn K mainGlobals "LETTERS" = some (some (.str "abcdefghijklmnopqrstuvwxyz" t))
  mi : ∃ t, PySem.W.nsIn K mainGlobals "MAX_INTERVAL" = some (some (.int 32 t))
  mt : ∃ t, PySem.W.nsIn K mainGlobals "MAX_TICKS" = some (some (.int 4 t))
theorem consts {K : PySem.W.Frag} {t0 t1 t2 t3 t4 : Tok} (c0 : PySem.W.nsIn K mainGlobals "LONG" = some (some (.int (10 ^ 30) t0))) (c1 : PySem.W.nsIn K mainGlobals "MAX_LETTERS" = some (some (.int 8 t1))) (c2 : PySem.W.nsIn K mainGlobals "LETTERS" = some (some (.str "abcdefghijklmnopqrstuvwxyz" t2))) (c3 : PySem.W.nsIn K mainGlobals "MAX_INTERVAL" = some (some (.int 32 t3))) (c4 : PySem.W.nsIn K mainGlobals "MAX_TICKS" = some (some (.int 4 t4))) : Consts K := ⟨⟨_, c0⟩, ⟨_, c1⟩, ⟨_, c2⟩, ⟨_, c3⟩, ⟨_, c4⟩⟩
theorem mkE8 {K : PySem.W.Frag} {C f : Addr} {n q' : Str} {N : Addr} {bs bm : List Value} {sn : List Str} {sub : List Value} {ab : Bool} {col : Option Bool} {dd : Option Addr} {k0 k1 k2 k3 k5 : Option Value} {oc : Value} {od : Option Addr} {doc pm : Value} {an : Option Addr} {cd ct : Value} {sl : Array (Option Value)} {p q a b c d : Pos}
    (lc : K.lookup C = some (excClassObj n q' C N bs bm true sn sub ab col dd k0 k1 k2 k3 k5 "ValueError.__new__")) (et : PySem.W.excTail mroV bm = true) (sa : PySem.W.findIn K (.ref C) "__setattr__" = some (some (.builtin "object.__setattr__"))) (no : PySem.W.findIn K (.ref C) "line" = some none) (ini : PySem.W.findIn K (.ref C) "__init__" = some (some (.ref f))) (tf : PySem.W.typeIn K (.ref f) = some (.type "function"))
    (kp : PySem.W.keepIn K (.ref C) = true) (ty : PySem.W.typeIn K (.ref C) = some (.type "type")) (x : ExcC K C)
    (lf : K.lookup f = some ⟨oc, od, .func (PySem.W.fnOf "__init__" "ParseError.__init__" (Own_line.initArgs p q) (Own_line.initBody a b c d) Own_line.initScope .none .none doc pm an cd ct), sl⟩) (cc : PySem.W.codeIn K cd "ParseError.__init__" = true) :
    ∀ mg : Str → Option Value, mg "ParseError" = some (.ref C) → Own_line.ErrCls K mg "ParseError" "ParseError.__init__" "ValueError.__new__" mroV C f := fun mg gl =>
  ⟨gl, ⟨n, q', N, bs, bm, sn, sub, ab, col, dd, k0, k1, k2, k3, k5, lc, et⟩, sa, x.hg, x.hk, no, ini, tf, kp, x.hs, ty, x.hd, ⟨oc, od, doc, pm, an, cd, ct, sl, p, q, a, b, c, d, lf, cc⟩⟩
theorem mkEW {K : PySem.W.Frag} {C f : Addr} {n q' : Str} {N : Addr} {bs bm : List Value} {sn : List Str} {sub : List Value} {ab : Bool} {col : Option Bool} {dd : Option Addr} {k0 k1 k2 k3 k5 : Option Value} {oc : Value} {od : Option Addr} {doc pm : Value} {an : Option Addr} {cd ct : Value} {sl : Array (Option Value)} {p q a b c d : Pos}
    (lc : K.lookup C = some (excClassObj n q' C N bs bm true sn sub ab col dd k0 k1 k2 k3 k5 "LookupError.__new__")) (et : PySem.W.excTail mroK bm = true) (sa : PySem.W.findIn K (.ref C) "__setattr__" = some (some (.builtin "object.__setattr__"))) (no : PySem.W.findIn K (.ref C) "wanted" = some none) (ini : PySem.W.findIn K (.ref C) "__init__" = some (some (.ref f))) (tf : PySem.W.typeIn K (.ref f) = some (.type "function"))
    (kp : PySem.W.keepIn K (.ref C) = true) (ty : PySem.W.typeIn K (.ref C) = some (.type "type")) (x : ExcC K C)
    (lf : K.lookup f = some ⟨oc, od, .func (PySem.W.fnOf "__init__" "UnknownName.__init__" (Own_wanted.initArgs p q) (Own_wanted.initBody a b c d) Own_wanted.initScope .none .none doc pm an cd ct), sl⟩) (cc : PySem.W.codeIn K cd "UnknownName.__init__" = true) :
    ∀ mg : Str → Option Value, mg "UnknownName" = some (.ref C) → Own_wanted.ErrCls K mg "UnknownName" "UnknownName.__init__" "LookupError.__new__" mroK C f := fun mg gl =>
  ⟨gl, ⟨n, q', N, bs, bm, sn, sub, ab, col, dd, k0, k1, k2, k3, k5, lc, et⟩, sa, x.hg, x.hk, no, ini, tf, kp, x.hs, ty, x.hd, ⟨oc, od, doc, pm, an, cd, ct, sl, p, q, a, b, c, d, lf, cc⟩⟩
theorem mkEN {K : PySem.W.Frag} {C f : Addr} {n q' : Str} {N : Addr} {bs bm : List Value} {sn : List Str} {sub : List Value} {ab : Bool} {col : Option Bool} {dd : Option Addr} {k0 k1 k2 k3 k5 : Option Value} {oc : Value} {od : Option Addr} {doc pm : Value} {an : Option Addr} {cd ct : Value} {sl : Array (Option Value)} {p q a b c d : Pos}
    (lc : K.lookup C = some (excClassObj n q' C N bs bm true sn sub ab col dd k0 k1 k2 k3 k5 "RuntimeError.__new__")) (et : PySem.W.excTail mroR bm = true) (sa : PySem.W.findIn K (.ref C) "__setattr__" = some (some (.builtin "object.__setattr__"))) (no : PySem.W.findIn K (.ref C) "value" = some none) (ini : PySem.W.findIn K (.ref C) "__init__" = some (some (.ref f))) (tf : PySem.W.typeIn K (.ref f) = some (.type "function"))
    (kp : PySem.W.keepIn K (.ref C) = true) (ty : PySem.W.typeIn K (.ref C) = some (.type "type")) (x : ExcC K C)
    (lf : K.lookup f = some ⟨oc, od, .func (PySem.W.fnOf "__init__" "InvalidNumber.__init__" (Own_value.initArgs p q) (Own_value.initBody a b c d) Own_value.initScope .none .none doc pm an cd ct), sl⟩) (cc : PySem.W.codeIn K cd "InvalidNumber.__init__" = true) :
    ∀ mg : Str → Option Value, mg "InvalidNumber" = some (.ref C) → Own_value.ErrCls K mg "InvalidNumber" "InvalidNumber.__init__" "RuntimeError.__new__" mroR C f := fun mg gl =>
  ⟨gl, ⟨n, q', N, bs, bm, sn, sub, ab, col, dd, k0, k1, k2, k3, k5, lc, et⟩, sa, x.hg, x.hk, no, ini, tf, kp, x.hs, ty, x.hd, ⟨oc, od, doc, pm, an, cd, ct, sl, p, q, a, b, c, d, lf, cc⟩⟩
theorem mkEM {K : PySem.W.Frag} {C f : Addr} {n q' : Str} {N : Addr} {bs bm : List Value} {sn : List Str} {sub : List Value} {ab : Bool} {col : Option Bool} {dd : Option Addr} {k0 k1 k2 k3 k5 : Option Value} {oc : Value} {od : Option Addr} {doc pm : Value} {an : Option Addr} {cd ct : Value} {sl : Array (Option Value)} {p q a b c d : Pos}
    (lc : K.lookup C = some (excClassObj n q' C N bs bm true sn sub ab col dd k0 k1 k2 k3 k5 "OverflowError.__new__")) (et : PySem.W.excTail mroO bm = true) (sa : PySem.W.findIn K (.ref C) "__setattr__" = some (some (.builtin "object.__setattr__"))) (no : PySem.W.findIn K (.ref C) "limit" = some none) (ini : PySem.W.findIn K (.ref C) "__init__" = some (some (.ref f))) (tf : PySem.W.typeIn K (.ref f) = some (.type "function"))
    (kp : PySem.W.keepIn K (.ref C) = true) (ty : PySem.W.typeIn K (.ref C) = some (.type "type")) (x : ExcC K C)
    (lf : K.lookup f = some ⟨oc, od, .func (PySem.W.fnOf "__init__" "TooMany.__init__" (Own_limit.initArgs p q) (Own_limit.initBody a b c d) Own_limit.initScope .none .none doc pm an cd ct), sl⟩) (cc : PySem.W.codeIn K cd "TooMany.__init__" = true) :
    ∀ mg : Str → Option Value, mg "TooMany" = some (.ref C) → Own_limit.ErrCls K mg "TooMany" "TooMany.__init__" "OverflowError.__new__" mroO C f := fun mg gl =>
  ⟨gl, ⟨n, q', N, bs, bm, sn, sub, ab, col, dd, k0, k1, k2, k3, k5, lc, et⟩, sa, x.hg, x.hk, no, ini, tf, kp, x.hs, ty, x.hd, ⟨oc, od, doc, pm, an, cd, ct, sl, p, q, a, b, c, d, lf, cc⟩⟩
theorem mkEU {K : PySem.W.Frag} {C f : Addr} {n q' : Str} {N : Addr} {bs bm : List Value} {sn : List Str} {sub : List Value} {ab : Bool} {col : Option Bool} {dd : Option Addr} {k0 k1 k2 k3 k5 : Option Value} {oc : Value} {od : Option Addr} {doc pm : Value} {an : Option Addr} {cd ct : Value} {sl : Array (Option Value)} {p q a b c d : Pos}
    (lc : K.lookup C = some (excClassObj n q' C N bs bm true sn sub ab col dd k0 k1 k2 k3 k5 "IndexError.__new__")) (et : PySem.W.excTail mroI bm = true) (sa : PySem.W.findIn K (.ref C) "__setattr__" = some (some (.builtin "object.__setattr__"))) (no : PySem.W.findIn K (.ref C) "many" = some none) (ini : PySem.W.findIn K (.ref C) "__init__" = some (some (.ref f))) (tf : PySem.W.typeIn K (.ref f) = some (.type "function"))
    (kp : PySem.W.keepIn K (.ref C) = true) (ty : PySem.W.typeIn K (.ref C) = some (.type "type")) (x : ExcC K C)
    (lf : K.lookup f = some ⟨oc, od, .func (PySem.W.fnOf "__init__" "NothingToUndo.__init__" (Own_many.initArgs p q) (Own_many.initBody a b c d) Own_many.initScope .none .none doc pm an cd ct), sl⟩) (cc : PySem.W.codeIn K cd "NothingToUndo.__init__" = true) :
    ∀ mg : Str → Option Value, mg "NothingToUndo" = some (.ref C) → Own_many.ErrCls K mg "NothingToUndo" "NothingToUndo.__init__" "IndexError.__new__" mroI C f := fun mg gl =>
  ⟨gl, ⟨n, q', N, bs, bm, sn, sub, ab, col, dd, k0, k1, k2, k3, k5, lc, et⟩, sa, x.hg, x.hk, no, ini, tf, kp, x.hs, ty, x.hd, ⟨oc, od, doc, pm, an, cd, ct, sl, p, q, a, b, c, d, lf, cc⟩⟩
theorem mkEB {K : PySem.W.Frag} {C f : Addr} {n q' : Str} {N : Addr} {bs bm : List Value} {sn : List Str} {sub : List Value} {ab : Bool} {col : Option Bool} {dd : Option Addr} {k0 k1 k2 k3 k5 : Option Value} {oc : Value} {od : Option Addr} {doc pm : Value} {an : Option Addr} {cd ct : Value} {sl : Array (Option Value)} {p q q2 a b c d a2 b2 c2 d2 : Pos}
    (lc : K.lookup C = some (excClassObj n q' C N bs bm true sn sub ab col dd k0 k1 k2 k3 k5 "ArithmeticError.__new__")) (et : PySem.W.excTail mroA bm = true) (sa : PySem.W.findIn K (.ref C) "__setattr__" = some (some (.builtin "object.__setattr__"))) (no : PySem.W.findIn K (.ref C) "kind" = some none) (no2 : PySem.W.findIn K (.ref C) "reason" = some none) (ini : PySem.W.findIn K (.ref C) "__init__" = some (some (.ref f))) (tf : PySem.W.typeIn K (.ref f) = some (.type "function"))
    (kp : PySem.W.keepIn K (.ref C) = true) (ty : PySem.W.typeIn K (.ref C) = some (.type "type")) (x : ExcC K C)
    (lf : K.lookup f = some ⟨oc, od, .func (PySem.W.fnOf "__init__" "Broken.__init__" (Own_two.initArgs p q q2) (Own_two.initBody a b c d a2 b2 c2 d2) Own_two.initScope .none .none doc pm an cd ct), sl⟩) (cc : PySem.W.codeIn K cd "Broken.__init__" = true) :
    ∀ mg : Str → Option Value, mg "Broken" = some (.ref C) → Own_two.ErrCls K mg "Broken" "Broken.__init__" "ArithmeticError.__new__" mroA C f := fun mg gl =>
  ⟨gl, ⟨n, q', N, bs, bm, sn, sub, ab, col, dd, k0, k1, k2, k3, k5, lc, et⟩, sa, x.hg, x.hk, no, no2, ini, tf, kp, x.hs, ty, x.hd, ⟨oc, od, doc, pm, an, cd, ct, sl, p, q, q2, a, b, c, d, a2, b2, c2, d2, lf, cc⟩⟩
theorem nine_mk {K : PySem.W.Frag} {CF c0 c1 c2 c3 c4 c5 c6 c7 c8 : Addr} (x0 : ExcC K c0) (x1 : ExcC K c1) (x2 : ExcC K c2) (x3 : ExcC K c3) (x4 : ExcC K c4) (x5 : ExcC K c5) (x6 : ExcC K c6) (x7 : ExcC K c7) (x8 : ExcC K c8) (k0 : tells K c0 (kindsV CF) = ([true, false, false, false, false, false, true] : List Bool).map some) (k1 : tells K c1 (kindsV CF) = ([true, false, false, false, false, false, true] : List Bool).map some) (k2 : tells K c2 (kindsV CF) = ([true, false, false, false, false, false, true] : List Bool).map some) (k3 : tells K c3 (kindsV CF) = ([true, false, false, false, false, false, true] : List Bool).map some) (k4 : tells K c4 (kindsV CF) = ([true, false, false, false, false, false, true] : List Bool).map some) (k5 : tells K c5 (kindsV CF) = ([true, false, false, false, false, false, true] : List Bool).map some) (k6 : tells K c6 (kindsV CF) = ([true, false, false, false, false, false, true] : List Bool).map some) (k7 : tells K c7 (kindsV CF) = ([true, false, false, false, false, false, true] : List Bool).map some) (k8 : tells K c8 (kindsV CF) = ([true, false, false, false, false, false, true] : List Bool).map some) (m0 : tells K c0 (famV c0 c1 c2 c3 c4 c5 c6 c7 c8) = ([true, false, false, false, false, false, false, false, false] : List Bool).map some) (m1 : tells K c1 (famV c0 c1 c2 c3 c4 c5 c6 c7 c8) = ([false, true, false, false, false, false, false, false, false] : List Bool).map some) (m2 : tells K c2 (famV c0 c1 c2 c3 c4 c5 c6 c7 c8) = ([false, false, true, false, false, false, false, false, false] : List Bool).map some) (m3 : tells K c3 (famV c0 c1 c2 c3 c4 c5 c6 c7 c8) = ([false, false, false, true, false, false, false, false, false] : List Bool).map some) (m4 : tells K c4 (famV c0 c1 c2 c3 c4 c5 c6 c7 c8) = ([false, false, false, false, true, false, false, false, false] : List Bool).map some) (m5 : tells K c5 (famV c0 c1 c2 c3 c4 c5 c6 c7 c8) = ([false, false, false, false, false, true, false, false, false] : List Bool).map some) (m6 : tells K c6 (famV c0 c1 c2 c3 c4 c5 c6 c7 c8) = ([false, false, false, false, false, false, true, false, false] : List Bool).map some) (m7 : tells K c7 (famV c0 c1 c2 c3 c4 c5 c6 c7 c8) = ([false, false, false, false, false, false, false, true, false] : List Bool).map some) (m8 : tells K c8 (famV c0 c1 c2 c3 c4 c5 c6 c7 c8) = ([false, false, false, false, false, false, false, false, true] : List Bool).map some) : Nine K CF [c0, c1, c2, c3, c4, c5, c6, c7, c8] := by
  refine ⟨fun c hc => ?_, fun c hc => ?_, fun i c hc => ?_⟩
  · simp only [List.mem_cons, List.not_mem_nil, or_false] at hc
    rcases hc with rfl | rfl | rfl | rfl | rfl | rfl | rfl | rfl | rfl
    all_goals assumption
  · simp only [List.mem_cons, List.not_mem_nil, or_false] at hc
    rcases hc with rfl | rfl | rfl | rfl | rfl | rfl | rfl | rfl | rfl
    all_goals assumption
  · rcases i with _ | _ | _ | _ | _ | _ | _ | _ | _ | i
    · cases hc
      exact m0
    · cases hc
      exact m1
    · cases hc
      exact m2
    · cases hc
      exact m3
    · cases hc
      exact m4
    · cases hc
      exact m5
    · cases hc
      exact m6
    · cases hc
      exact m7
    · cases hc
      exact m8
    · simp at hc
theorem five_mk {K : PySem.W.Frag} {CF CW CN CM CU CB : Addr} (xCW : ExcC K CW) (xCN : ExcC K CN) (xCM : ExcC K CM) (xCU : ExcC K CU) (xCB : ExcC K CB) (kCW : tells K CW (kindsV CF) = ([false, true, false, false, false, false, false] : List Bool).map some) (kCN : tells K CN (kindsV CF) = ([false, false, true, false, false, false, false] : List Bool).map some) (kCM : tells K CM (kindsV CF) = ([false, false, false, true, false, true, false] : List Bool).map some) (kCU : tells K CU (kindsV CF) = ([false, false, false, false, true, false, false] : List Bool).map some) (kCB : tells K CB (kindsV CF) = ([false, false, false, false, false, true, false] : List Bool).map some) : Five K CF [CW, CN, CM, CU, CB] := by
  refine ⟨fun c hc => ?_, fun i c d hc hd => ?_⟩
  · simp only [List.mem_cons, List.not_mem_nil, or_false] at hc
    rcases hc with rfl | rfl | rfl | rfl | rfl
    all_goals assumption
  · rcases i with _ | _ | _ | _ | _ | i
    · cases hc
      cases hd
      exact kCW.trans (by decide)
    · cases hc
      cases hd
      exact kCN.trans (by decide)
    · cases hc
      cases hd
      exact kCM.trans (by decide)
    · cases hc
      cases hd
      exact kCU.trans (by decide)
    · cases hc
      cases hd
      exact kCB.trans (by decide)
    · simp at hc
theorem all_mk {l : PySem.W.OpenLaw} {w : World} {K : PySem.W.Frag} {h : Heap} {mg : Str → Option Value} {fa cT PT CF c0 c1 c2 c3 c4 c5 c6 c7 c8 CW CN CM CU CB i8 iW iN iM iU iB : Addr} (X : K.In h) (G : h.Ns mainGlobals mg) (hfa : mg "law" = some (.ref fa)) (cs : Consts K)
    (n_CF : PySem.W.nsIn K mainGlobals "FoundryError" = some (some (.ref CF))) (n_c0 : PySem.W.nsIn K mainGlobals "InvalidTree" = some (some (.ref c0))) (n_c1 : PySem.W.nsIn K mainGlobals "InvalidBody" = some (some (.ref c1))) (n_c2 : PySem.W.nsIn K mainGlobals "InvalidMachine" = some (some (.ref c2))) (n_c3 : PySem.W.nsIn K mainGlobals "InvalidCover" = some (some (.ref c3))) (n_c4 : PySem.W.nsIn K mainGlobals "InvalidJob" = some (some (.ref c4))) (n_c5 : PySem.W.nsIn K mainGlobals "InvalidLives" = some (some (.ref c5))) (n_c6 : PySem.W.nsIn K mainGlobals "InvalidKernel" = some (some (.ref c6))) (n_c7 : PySem.W.nsIn K mainGlobals "InvalidArgument" = some (some (.ref c7))) (n_c8 : PySem.W.nsIn K mainGlobals "ParseError" = some (some (.ref c8))) (n_CW : PySem.W.nsIn K mainGlobals "UnknownName" = some (some (.ref CW))) (n_CN : PySem.W.nsIn K mainGlobals "InvalidNumber" = some (some (.ref CN))) (n_CM : PySem.W.nsIn K mainGlobals "TooMany" = some (some (.ref CM))) (n_CU : PySem.W.nsIn K mainGlobals "NothingToUndo" = some (some (.ref CU))) (n_CB : PySem.W.nsIn K mainGlobals "Broken" = some (some (.ref CB))) (M0 : Pl K c0) (M1 : Pl K c1) (M2 : Pl K c2) (M3 : Pl K c3) (M4 : Pl K c4) (M5 : Pl K c5) (M6 : Pl K c6) (M7 : Pl K c7) (E8 : ∀ mg : Str → Option Value, mg "ParseError" = some (.ref c8) → Own_line.ErrCls K mg "ParseError" "ParseError.__init__" "ValueError.__new__" mroV c8 i8) (EW : ∀ mg : Str → Option Value, mg "UnknownName" = some (.ref CW) → Own_wanted.ErrCls K mg "UnknownName" "UnknownName.__init__" "LookupError.__new__" mroK CW iW) (EN : ∀ mg : Str → Option Value, mg "InvalidNumber" = some (.ref CN) → Own_value.ErrCls K mg "InvalidNumber" "InvalidNumber.__init__" "RuntimeError.__new__" mroR CN iN) (EM : ∀ mg : Str → Option Value, mg "TooMany" = some (.ref CM) → Own_limit.ErrCls K mg "TooMany" "TooMany.__init__" "OverflowError.__new__" mroO CM iM) (EU : ∀ mg : Str → Option Value, mg "NothingToUndo" = some (.ref CU) → Own_many.ErrCls K mg "NothingToUndo" "NothingToUndo.__init__" "IndexError.__new__" mroI CU iU) (EB : ∀ mg : Str → Option Value, mg "Broken" = some (.ref CB) → Own_two.ErrCls K mg "Broken" "Broken.__init__" "ArithmeticError.__new__" mroA CB iB) (N9 : Nine K CF [c0, c1, c2, c3, c4, c5, c6, c7, c8]) (N5 : Five K CF [CW, CN, CM, CU, CB]) (sN : PySem.W.subIn K (.ref CN) (.ref CN) = some true)
    (hT : PySem.W.CodeHd h cT PT ∧ h.get? PT = some tabO) (nT : K.lookup PT = none)
    {f_nm f_wh f_ig f_bt f_cn f_ci f_so f_up f_lo f_tu f_pi f_td f_fa f_er f_wo f_na f_sl f_re f_la : Addr} {d_nm d_wh d_ig d_bt d_cn d_ci d_so d_up d_lo d_tu d_pi d_td d_fa d_er d_wo d_na d_sl d_re d_la : FuncData}
    (Dnm : AtTop K "is_name" tName f_nm d_nm) (Dwh : AtTop K "is_whole" tWhole f_wh d_wh) (Dig : AtTop K "is_integer" tInteger f_ig d_ig) (Dbt : AtTop K "is_between" tBetween f_bt d_bt) (Dcn : AtTop K "check_number" tChNum f_cn d_cn) (Dci : AtTop K "check_integer" tChInt f_ci d_ci) (Dso : AtTop K "slot_of" tSlot f_so d_so) (Dup : AtTop K "rounded_up" tUp f_up d_up) (Dlo : AtTop K "_law_loom" tLoom f_lo d_lo) (Dtu : AtTop K "_law_turn" tTurn f_tu d_tu) (Dpi : AtTop K "_law_pick" tPick f_pi d_pi) (Dtd : AtTop K "_law_is_told" tTold f_td d_td) (Dfa : AtTop K "_law_families" tFam f_fa d_fa) (Der : AtTop K "_law_errors_right" tErrs f_er d_er) (Dwo : AtTop K "_law_word" tWord f_wo d_wo) (Dna : AtTop K "_law_names_right" tNames f_na d_na) (Dsl : AtTop K "_law_slots_right" tSlots f_sl d_sl) (Dre : AtTopC K "_law_refused_right" tRefused f_re d_re cT) (Dla : AtTop K "law" tLaw f_la d_la)
    (z0 : PySem.W.nsIn K mainGlobals "isinstance" = some none) (z1 : PySem.W.nsIn K mainGlobals "int" = some none) (z2 : PySem.W.nsIn K mainGlobals "bool" = some none) (z3 : PySem.W.nsIn K mainGlobals "str" = some none) (z4 : PySem.W.nsIn K mainGlobals "tuple" = some none) (z5 : PySem.W.nsIn K mainGlobals "list" = some none) (z6 : PySem.W.nsIn K mainGlobals "len" = some none) (z7 : PySem.W.nsIn K mainGlobals "all" = some none) (z8 : PySem.W.nsIn K mainGlobals "abs" = some none) (z9 : PySem.W.nsIn K mainGlobals "max" = some none) (z10 : PySem.W.nsIn K mainGlobals "min" = some none) (z11 : PySem.W.nsIn K mainGlobals "range" = some none) (z12 : PySem.W.nsIn K mainGlobals "repr" = some none) (z13 : PySem.W.nsIn K mainGlobals "ord" = some none) (z14 : PySem.W.nsIn K mainGlobals "ValueError" = some none) (z15 : PySem.W.nsIn K mainGlobals "KeyError" = some none) (z16 : PySem.W.nsIn K mainGlobals "RuntimeError" = some none) (z17 : PySem.W.nsIn K mainGlobals "OverflowError" = some none) (z18 : PySem.W.nsIn K mainGlobals "IndexError" = some none) (z19 : PySem.W.nsIn K mainGlobals "ArithmeticError" = some none)
    (hb : ∀ (s : Shared) (v : Value), BindsTo s d_la ⟨[v], []⟩ [("_law_script", v)]) :
    LawG l w K 9 63 "_law_script" mg fa h := by
  have e := hfa.symm.trans (PySem.W.mg_of X G Dla.ns)
  have e2 : f_la = fa := by
    cases e
    rfl
  subst e2
  refine ⟨d_la, [(cT, PT)], spLaw K [(PT, lamQ)], fun p hp => ?_, fun p hp => ?_, fun p hp => ?_, hb, fun H a ns _ _ ht hS => ⟨a, ns, rfl, hS, fun p hp => ?_, fun _ => rfl⟩, fun base _ _ tb => ?_⟩
  · rw [List.mem_singleton] at hp
    rw [hp]
    exact hT.2
  · rw [List.mem_singleton] at hp
    rw [hp]
    exact nT
  · rw [List.mem_singleton] at hp
    rw [hp]
    exact hT.1
  · rw [List.mem_singleton] at hp
    rw [hp]
    exact LamX.TabS.nil (ht (cT, PT) (List.mem_singleton.mpr rfl))
  have TB := tb (cT, PT) (List.mem_singleton.mpr rfl)
  obtain ⟨⟨t1, a1⟩, ⟨t2, a2⟩, ⟨t3, a3⟩, ⟨t4, a4⟩, ⟨t5, a5⟩⟩ := cs
  have T1 : Txt mg := ⟨(PySem.W.mg_none_of X G z0), (PySem.W.mg_none_of X G z1), (PySem.W.mg_none_of X G z2), (PySem.W.mg_none_of X G z3), (PySem.W.mg_none_of X G z4), (PySem.W.mg_none_of X G z5), (PySem.W.mg_none_of X G z6), (PySem.W.mg_none_of X G z7), (PySem.W.mg_none_of X G z8), ⟨t1, PySem.W.mg_of X G a1⟩, ⟨t2, PySem.W.mg_of X G a2⟩, ⟨t3, PySem.W.mg_of X G a3⟩⟩
  have TBl : Bl mg := ⟨(PySem.W.mg_none_of X G z1), (PySem.W.mg_none_of X G z8), (PySem.W.mg_none_of X G z9), (PySem.W.mg_none_of X G z11), (PySem.W.mg_none_of X G z6), (PySem.W.mg_none_of X G z4), (PySem.W.mg_none_of X G z5), (PySem.W.mg_none_of X G z0)⟩
  have TBx : Bx mg := ⟨(PySem.W.mg_none_of X G z0), (PySem.W.mg_none_of X G z14), (PySem.W.mg_none_of X G z15), (PySem.W.mg_none_of X G z16), (PySem.W.mg_none_of X G z17), (PySem.W.mg_none_of X G z18), (PySem.W.mg_none_of X G z19)⟩
  have C_mi : ∃ t, mg "MAX_INTERVAL" = some (.int 32 t) := ⟨t4, PySem.W.mg_of X G a4⟩
  have C_mt : ∃ t, mg "MAX_TICKS" = some (.int 4 t) := ⟨t5, PySem.W.mg_of X G a5⟩
  have GF : Fam mg c0 c1 c2 c3 c4 c5 c6 c7 c8 := ⟨PySem.W.mg_of X G n_c0, PySem.W.mg_of X G n_c1, PySem.W.mg_of X G n_c2, PySem.W.mg_of X G n_c3, PySem.W.mg_of X G n_c4, PySem.W.mg_of X G n_c5, PySem.W.mg_of X G n_c6, PySem.W.mg_of X G n_c7, PySem.W.mg_of X G n_c8⟩
  have E8 := E8 mg (PySem.W.mg_of X G n_c8)
  have EW := EW mg (PySem.W.mg_of X G n_CW)
  have EN := EN mg (PySem.W.mg_of X G n_CN)
  have EM := EM mg (PySem.W.mg_of X G n_CM)
  have EU := EU mg (PySem.W.mg_of X G n_CU)
  have EB := EB mg (PySem.W.mg_of X G n_CB)
  have eNN : PySem.W.exmOne K (.ref CN) (.ref CN) = some true := PySem.W.exm_ref EN.sub EN.hd EN.ty sN
  have g_nm : mg "is_name" = some (.ref f_nm) := PySem.W.mg_of X G Dnm.ns
  have b_nm := Dnm.fn.binds (ps := ["value"]) fun _ _ _ _ _ _ us hl => match us, hl with | [_], _ => rfl
  have k_nm := Dnm.fn.kp
  have g_wh : mg "is_whole" = some (.ref f_wh) := PySem.W.mg_of X G Dwh.ns
  have b_wh := Dwh.fn.binds (ps := ["value"]) fun _ _ _ _ _ _ us hl => match us, hl with | [_], _ => rfl
  have k_wh := Dwh.fn.kp
  have g_ig : mg "is_integer" = some (.ref f_ig) := PySem.W.mg_of X G Dig.ns
  have b_ig := Dig.fn.binds (ps := ["value"]) fun _ _ _ _ _ _ us hl => match us, hl with | [_], _ => rfl
  have k_ig := Dig.fn.kp
  have g_bt : mg "is_between" = some (.ref f_bt) := PySem.W.mg_of X G Dbt.ns
  have b_bt := Dbt.fn.binds (ps := ["value", "least", "most"]) fun _ _ _ _ _ _ us hl => match us, hl with | [_, _, _], _ => rfl
  have k_bt := Dbt.fn.kp
  have g_cn : mg "check_number" = some (.ref f_cn) := PySem.W.mg_of X G Dcn.ns
  have b_cn := Dcn.fn.binds (ps := ["value", "least", "most"]) fun _ _ _ _ _ _ us hl => match us, hl with | [_, _, _], _ => rfl
  have k_cn := Dcn.fn.kp
  have g_ci : mg "check_integer" = some (.ref f_ci) := PySem.W.mg_of X G Dci.ns
  have b_ci := Dci.fn.binds (ps := ["value"]) fun _ _ _ _ _ _ us hl => match us, hl with | [_], _ => rfl
  have k_ci := Dci.fn.kp
  have g_so : mg "slot_of" = some (.ref f_so) := PySem.W.mg_of X G Dso.ns
  have b_so := Dso.fn.binds (ps := ["tick", "interval"]) fun _ _ _ _ _ _ us hl => match us, hl with | [_, _], _ => rfl
  have k_so := Dso.fn.kp
  have g_up : mg "rounded_up" = some (.ref f_up) := PySem.W.mg_of X G Dup.ns
  have b_up := Dup.fn.binds (ps := ["number", "slot", "interval"]) fun _ _ _ _ _ _ us hl => match us, hl with | [_, _, _], _ => rfl
  have k_up := Dup.fn.kp
  have g_lo : mg "_law_loom" = some (.ref f_lo) := PySem.W.mg_of X G Dlo.ns
  have b_lo := Dlo.fn.binds (ps := ["_law_script", "_law_spot"]) fun _ _ _ _ _ _ us hl => match us, hl with | [_, _], _ => rfl
  have k_lo := Dlo.fn.kp
  have g_tu : mg "_law_turn" = some (.ref f_tu) := PySem.W.mg_of X G Dtu.ns
  have b_tu := Dtu.fn.binds (ps := ["_law_loom_here", "_law_total"]) fun _ _ _ _ _ _ us hl => match us, hl with | [_, _], _ => rfl
  have k_tu := Dtu.fn.kp
  have g_pi : mg "_law_pick" = some (.ref f_pi) := PySem.W.mg_of X G Dpi.ns
  have b_pi := Dpi.fn.binds (ps := ["_law_loom_here", "_law_items"]) fun _ _ _ _ _ _ us hl => match us, hl with | [_, _], _ => rfl
  have k_pi := Dpi.fn.kp
  have g_td : mg "_law_is_told" = some (.ref f_td) := PySem.W.mg_of X G Dtd.ns
  have b_td := Dtd.fn.binds (ps := ["_law_error", "_law_told"]) fun _ _ _ _ _ _ us hl => match us, hl with | [_, _], _ => rfl
  have k_td := Dtd.fn.kp
  have g_fa : mg "_law_families" = some (.ref f_fa) := PySem.W.mg_of X G Dfa.ns
  have b_fa := Dfa.fn.binds (ps := ["_law_error"]) fun _ _ _ _ _ _ us hl => match us, hl with | [_], _ => rfl
  have k_fa := Dfa.fn.kp
  have g_er : mg "_law_errors_right" = some (.ref f_er) := PySem.W.mg_of X G Der.ns
  have b_er := Der.fn.binds (ps := ["_law_value"]) fun _ _ _ _ _ _ us hl => match us, hl with | [_], _ => rfl
  have k_er := Der.fn.kp
  have g_wo : mg "_law_word" = some (.ref f_wo) := PySem.W.mg_of X G Dwo.ns
  have b_wo := Dwo.fn.binds (ps := ["_law_call"]) fun _ _ _ _ _ _ us hl => match us, hl with | [_], _ => rfl
  have k_wo := Dwo.fn.kp
  have g_na : mg "_law_names_right" = some (.ref f_na) := PySem.W.mg_of X G Dna.ns
  have b_na := Dna.fn.binds (ps := ["_law_loom_here"]) fun _ _ _ _ _ _ us hl => match us, hl with | [_], _ => rfl
  have k_na := Dna.fn.kp
  have g_sl : mg "_law_slots_right" = some (.ref f_sl) := PySem.W.mg_of X G Dsl.ns
  have b_sl := Dsl.fn.binds (ps := ["_law_loom_here"]) fun _ _ _ _ _ _ us hl => match us, hl with | [_], _ => rfl
  have k_sl := Dsl.fn.kp
  have g_re : mg "_law_refused_right" = some (.ref f_re) := PySem.W.mg_of X G Dre.ns
  have b_re := Dre.fn.fn.binds (ps := ["_law_loom_here"]) fun _ _ _ _ _ _ us hl => match us, hl with | [_], _ => rfl
  have k_re := Dre.fn.fn.kp
  have g_la : mg "law" = some (.ref f_la) := PySem.W.mg_of X G Dla.ns
  have b_la := Dla.fn.binds (ps := ["_law_script"]) fun _ _ _ _ _ _ us hl => match us, hl with | [_], _ => rfl
  have k_la := Dla.fn.kp
  have Gnm : FnOk l.prog w K mg base CX0 1 f_nm d_nm ["value"] (spV 11 6 nameB) := ok_name Dnm.fn T1
  have Gig : FnOk l.prog w K mg base CX0 2 f_ig d_ig ["value"] (spV 11 6 integB) := ok_integer Dig.fn T1 Dwh.fn b_wh g_wh
  have Gbt : FnOk l.prog w K mg base CX0 3 f_bt d_bt ["value", "least", "most"] (spBetween 11 6 1 32) := ok_between (by decide) (by decide) Dbt.fn Gig k_ig b_ig g_ig
  have Gcn : FnOk l.prog w K mg base (L2.CX l.prog w) 4 f_cn d_cn ["value", "least", "most"] (spChNum 11 6 CN 1 32) := ok_chnum Dcn.fn EN ⟨Gbt, k_bt, b_bt, g_bt⟩
  have Gci : FnOk l.prog w K mg base (L2.CX l.prog w) 3 f_ci d_ci ["value"] (spChInt 11 6 CN) := ok_chint Dci.fn EN ⟨Gig, k_ig, b_ig, g_ig⟩
  have Gso : FnOk l.prog w K mg base (L2.CX l.prog w) 5 f_so d_so ["tick", "interval"] (spSlot 11 6 CN) := ok_slot (fN := iN) Dso.fn C_mi ⟨Gci, k_ci, b_ci, g_ci⟩ ⟨Gcn, k_cn, b_cn, g_cn⟩
  have Gup : FnOk l.prog w K mg base (L2.CX l.prog w) 5 f_up d_up ["number", "slot", "interval"] (spUp 11 6 CN) := ok_up (fN := iN) Dup.fn C_mi ⟨Gci, k_ci, b_ci, g_ci⟩ ⟨Gcn, k_cn, b_cn, g_cn⟩
  have Glo : FnOk l.prog w K mg base CX0 1 f_lo d_lo ["_law_script", "_law_spot"] (spLoom K) := ok_loom Dlo.fn TBl
  have Gtu : FnOk l.prog w K mg base CX0 1 f_tu d_tu ["_law_loom_here", "_law_total"] spTurn := ok_turn Dtu.fn TBl
  have Gpi : FnOk l.prog w K mg base CX0 2 f_pi d_pi ["_law_loom_here", "_law_items"] spPick := ok_pick Dpi.fn TBl Gtu k_tu b_tu g_tu
  have Gps : FnOk l.prog w K mg base CX0 2 f_pi d_pi ["_law_loom_here", "_law_items"] spPickS := ok_pickS Dpi.fn TBl ⟨Gtu, k_tu, b_tu, g_tu⟩
  have Gtd : FnOk l.prog w K mg base CX0 1 f_td d_td ["_law_error", "_law_told"] (spTold K CF) := ok_told Dtd.fn TBx (PySem.W.mg_of X G n_CF)
  have Gfa : FnOk l.prog w K mg base CX0 1 f_fa d_fa ["_law_error"] (spFam K (famV c0 c1 c2 c3 c4 c5 c6 c7 c8)) := ok_fam Dfa.fn (PySem.W.mg_none_of X G z0) GF
  have Ger : FnG l.prog w K mg base 4 f_er d_er ["_law_value"] (spErrs K) := ok_errs Der.fn (PySem.W.mg_none_of X G z12) (PySem.W.mg_none_of X G z11) (PySem.W.mg_none_of X G z6) GF M0 M1 M2 M3 M4 M5 M6 M7 E8 EW EN EM EU EB N9 N5 ⟨Gtd, k_td, b_td, g_td⟩ ⟨Gfa, k_fa, b_fa, g_fa⟩
  have Gna : FnG l.prog w K mg base 4 f_na d_na ["_law_loom_here"] spOk := ok_names Dna.fn TBl (PySem.W.mg_none_of X G z12) (PySem.W.mg_none_of X G z13) ⟨Gtu, k_tu, b_tu, g_tu⟩ ⟨Gps, k_pi, b_pi, g_pi⟩ ⟨Gnm, k_nm, b_nm, g_nm⟩
  have Gsl : FnOk l.prog w K mg base CX0 6 f_sl d_sl ["_law_loom_here"] spOk := ok_slots Dsl.fn TBl ⟨Gtu, k_tu, b_tu, g_tu⟩ ⟨Gpi, k_pi, b_pi, g_pi⟩ ⟨Gso, k_so, b_so, g_so⟩ ⟨Gup, k_up, b_up, g_up⟩
  have Gre : FnG l.prog w K mg base 8 f_re d_re ["_law_loom_here"] (spRef [(PT, lamQ)]) := ok_refused Dre.fn TB TBl (PySem.W.mg_none_of X G z12) EN eNN ⟨Gpi, k_pi, b_pi, g_pi⟩ ⟨Gso, k_so, b_so, g_so⟩ ⟨Gup, k_up, b_up, g_up⟩ Dwo.fn g_wo b_wo
  exact ok_law Dla.fn TBl (PySem.W.mg_none_of X G z10) C_mi C_mt ⟨Glo, k_lo, b_lo, g_lo⟩ ⟨Gpi, k_pi, b_pi, g_pi⟩ Ger k_er b_er g_er Gna k_na b_na g_na ⟨Gsl, k_sl, b_sl, g_sl⟩ Gre k_re b_re g_re ⟨Gig, k_ig, b_ig, g_ig⟩ ⟨Gso, k_so, b_so, g_so⟩ ⟨Gup, k_up, b_up, g_up⟩
end K0
open PySem PySem.W PyProof.Rows
set_option maxRecDepth 100000 in
set_option maxHeartbeats 0 in
theorem PySem.Challenge.cw_loopfoundry_k00_errors_and_numbers_holds : PySem.Challenge.rw_loopfoundry_k00_errors_and_numbers.Holds := by
  w_on; o_law; k_head; (case hw => w_witness2)
  k_fill
  refine K0.E.walkT (l := PySem.Challenge.rw_loopfoundry_k00_errors_and_numbers) (n := 63) (k := 9) (x := "_law_script") rfl (by decide) rfl ⟨rfl, by decide, by decide⟩ (fun w h Y => PySem.W.km_in_of Y) ?F
  case F =>
    intro w mg mb mean fa h TT Y KX G hmg
    refine' K0.all_mk KX G hmg (K0.consts ?q0 ?q1 ?q2 ?q3 ?q4) ?nCF ?nc0 ?nc1 ?nc2 ?nc3 ?nc4 ?nc5 ?nc6 ?nc7 ?nc8 ?nCW ?nCN ?nCM ?nCU ?nCB ⟨?xp0, ?kp0⟩ ⟨?xp1, ?kp1⟩ ⟨?xp2, ?kp2⟩ ⟨?xp3, ?kp3⟩ ⟨?xp4, ?kp4⟩ ⟨?xp5, ?kp5⟩ ⟨?xp6, ?kp6⟩ ⟨?xp7, ?kp7⟩ (K0.mkE8 ?e8l ?e8t ?e8s ?e8n ?e8i ?e8f ?e8k ?e8y ?e8x ?e8g ?e8c) (K0.mkEW ?eWl ?eWt ?eWs ?eWn ?eWi ?eWf ?eWk ?eWy ?eWx ?eWg ?eWc) (K0.mkEN ?eNl ?eNt ?eNs ?eNn ?eNi ?eNf ?eNk ?eNy ?eNx ?eNg ?eNc) (K0.mkEM ?eMl ?eMt ?eMs ?eMn ?eMi ?eMf ?eMk ?eMy ?eMx ?eMg ?eMc) (K0.mkEU ?eUl ?eUt ?eUs ?eUn ?eUi ?eUf ?eUk ?eUy ?eUx ?eUg ?eUc) (K0.mkEB ?eBl ?eBt ?eBs ?eBn ?eBm ?eBi ?eBf ?eBk ?eBy ?eBx ?eBg ?eBc) (K0.nine_mk ?X0 ?X1 ?X2 ?X3 ?X4 ?X5 ?X6 ?X7 ?X8 ?K0 ?K1 ?K2 ?K3 ?K4 ?K5 ?K6 ?K7 ?K8 ?M0 ?M1 ?M2 ?M3 ?M4 ?M5 ?M6 ?M7 ?M8) (K0.five_mk ?XCW ?XCN ?XCM ?XCU ?XCB ?KCW ?KCN ?KCM ?KCU ?KCB) ?sN ⟨PySem.W.codeHd_of_K KX ?ch, PySem.W.km_tabs_of Y _ (List.mem_cons_self ..)⟩ ?nT (K0.atTop ?anm ?lnm ?cnm ?knm) (K0.atTop ?awh ?lwh ?cwh ?kwh) (K0.atTop ?aig ?lig ?cig ?kig) (K0.atTop ?abt ?lbt ?cbt ?kbt) (K0.atTop ?acn ?lcn ?ccn ?kcn) (K0.atTop ?aci ?lci ?cci ?kci) (K0.atTop ?aso ?lso ?cso ?kso) (K0.atTop ?aup ?lup ?cup ?kup) (K0.atTop ?alo ?llo ?clo ?klo) (K0.atTop ?atu ?ltu ?ctu ?ktu) (K0.atTop ?api ?lpi ?cpi ?kpi) (K0.atTop ?atd ?ltd ?ctd ?ktd) (K0.atTop ?afa ?lfa ?cfa ?kfa) (K0.atTop ?aer ?ler ?cer ?ker) (K0.atTop ?awo ?lwo ?cwo ?kwo) (K0.atTop ?ana ?lna ?cna ?kna) (K0.atTop ?asl ?lsl ?csl ?ksl) (K0.atTopC ?are ?lre ?cre ?kre) (K0.atTop ?ala ?lla ?cla ?kla) ?z0 ?z1 ?z2 ?z3 ?z4 ?z5 ?z6 ?z7 ?z8 ?z9 ?z10 ?z11 ?z12 ?z13 ?z14 ?z15 ?z16 ?z17 ?z18 ?z19 ?hb
    (case q0 => k_is); (case q1 => k_is); (case q2 => k_is); (case q3 => k_is); (case q4 => k_is)
    (case nCF => k_is); (case nc0 => k_is); (case nc1 => k_is); (case nc2 => k_is); (case nc3 => k_is); (case nc4 => k_is); (case nc5 => k_is); (case nc6 => k_is); (case nc7 => k_is); (case nc8 => k_is); (case nCW => k_is); (case nCN => k_is); (case nCM => k_is); (case nCU => k_is); (case nCB => k_is)
    (case xp0 => k_exc); (case kp0 => k_is); (case xp1 => k_exc); (case kp1 => k_is); (case xp2 => k_exc); (case kp2 => k_is); (case xp3 => k_exc); (case kp3 => k_is); (case xp4 => k_exc); (case kp4 => k_is); (case xp5 => k_exc); (case kp5 => k_is); (case xp6 => k_exc); (case kp6 => k_is); (case xp7 => k_exc); (case kp7 => k_is)
    (case e8l => k_is); (case e8t => first | rfl | decide | k_is); (case e8s => k_is); (case e8n => k_is); (case e8i => k_is); (case e8f => k_is); (case e8k => k_is); (case e8y => k_is); (case e8x => exact ⟨by k_is, by k_is, by k_is, by k_is, by k_is, by k_is, by k_is, by k_is⟩); (case e8g => k_is); (case e8c => k_is)
    (case eWl => k_is); (case eWt => first | rfl | decide | k_is); (case eWs => k_is); (case eWn => k_is); (case eWi => k_is); (case eWf => k_is); (case eWk => k_is); (case eWy => k_is); (case eWx => exact ⟨by k_is, by k_is, by k_is, by k_is, by k_is, by k_is, by k_is, by k_is⟩); (case eWg => k_is); (case eWc => k_is)
    (case eNl => k_is); (case eNt => first | rfl | decide | k_is); (case eNs => k_is); (case eNn => k_is); (case eNi => k_is); (case eNf => k_is); (case eNk => k_is); (case eNy => k_is); (case eNx => exact ⟨by k_is, by k_is, by k_is, by k_is, by k_is, by k_is, by k_is, by k_is⟩); (case eNg => k_is); (case eNc => k_is)
    (case eMl => k_is); (case eMt => first | rfl | decide | k_is); (case eMs => k_is); (case eMn => k_is); (case eMi => k_is); (case eMf => k_is); (case eMk => k_is); (case eMy => k_is); (case eMx => exact ⟨by k_is, by k_is, by k_is, by k_is, by k_is, by k_is, by k_is, by k_is⟩); (case eMg => k_is); (case eMc => k_is)
    (case eUl => k_is); (case eUt => first | rfl | decide | k_is); (case eUs => k_is); (case eUn => k_is); (case eUi => k_is); (case eUf => k_is); (case eUk => k_is); (case eUy => k_is); (case eUx => exact ⟨by k_is, by k_is, by k_is, by k_is, by k_is, by k_is, by k_is, by k_is⟩); (case eUg => k_is); (case eUc => k_is)
    (case eBl => k_is); (case eBt => first | rfl | decide | k_is); (case eBs => k_is); (case eBn => k_is); (case eBm => k_is); (case eBi => k_is); (case eBf => k_is); (case eBk => k_is); (case eBy => k_is); (case eBx => exact ⟨by k_is, by k_is, by k_is, by k_is, by k_is, by k_is, by k_is, by k_is⟩); (case eBg => k_is); (case eBc => k_is)
    (case X0 => exact ⟨by k_is, by k_is, by k_is, by k_is, by k_is, by k_is, by k_is, by k_is⟩); (case K0 => first | rfl | kernel_rfl | k_is); (case M0 => first | rfl | kernel_rfl | k_is)
    (case X1 => exact ⟨by k_is, by k_is, by k_is, by k_is, by k_is, by k_is, by k_is, by k_is⟩); (case K1 => first | rfl | kernel_rfl | k_is); (case M1 => first | rfl | kernel_rfl | k_is)
    (case X2 => exact ⟨by k_is, by k_is, by k_is, by k_is, by k_is, by k_is, by k_is, by k_is⟩); (case K2 => first | rfl | kernel_rfl | k_is); (case M2 => first | rfl | kernel_rfl | k_is)
    (case X3 => exact ⟨by k_is, by k_is, by k_is, by k_is, by k_is, by k_is, by k_is, by k_is⟩); (case K3 => first | rfl | kernel_rfl | k_is); (case M3 => first | rfl | kernel_rfl | k_is)
    (case X4 => exact ⟨by k_is, by k_is, by k_is, by k_is, by k_is, by k_is, by k_is, by k_is⟩); (case K4 => first | rfl | kernel_rfl | k_is); (case M4 => first | rfl | kernel_rfl | k_is)
    (case X5 => exact ⟨by k_is, by k_is, by k_is, by k_is, by k_is, by k_is, by k_is, by k_is⟩); (case K5 => first | rfl | kernel_rfl | k_is); (case M5 => first | rfl | kernel_rfl | k_is)
    (case X6 => exact ⟨by k_is, by k_is, by k_is, by k_is, by k_is, by k_is, by k_is, by k_is⟩); (case K6 => first | rfl | kernel_rfl | k_is); (case M6 => first | rfl | kernel_rfl | k_is)
    (case X7 => exact ⟨by k_is, by k_is, by k_is, by k_is, by k_is, by k_is, by k_is, by k_is⟩); (case K7 => first | rfl | kernel_rfl | k_is); (case M7 => first | rfl | kernel_rfl | k_is)
    (case X8 => exact ⟨by k_is, by k_is, by k_is, by k_is, by k_is, by k_is, by k_is, by k_is⟩); (case K8 => first | rfl | kernel_rfl | k_is); (case M8 => first | rfl | kernel_rfl | k_is)
    (case XCW => exact ⟨by k_is, by k_is, by k_is, by k_is, by k_is, by k_is, by k_is, by k_is⟩); (case KCW => first | rfl | kernel_rfl | k_is)
    (case XCN => exact ⟨by k_is, by k_is, by k_is, by k_is, by k_is, by k_is, by k_is, by k_is⟩); (case KCN => first | rfl | kernel_rfl | k_is)
    (case XCM => exact ⟨by k_is, by k_is, by k_is, by k_is, by k_is, by k_is, by k_is, by k_is⟩); (case KCM => first | rfl | kernel_rfl | k_is)
    (case XCU => exact ⟨by k_is, by k_is, by k_is, by k_is, by k_is, by k_is, by k_is, by k_is⟩); (case KCU => first | rfl | kernel_rfl | k_is)
    (case XCB => exact ⟨by k_is, by k_is, by k_is, by k_is, by k_is, by k_is, by k_is, by k_is⟩); (case KCB => first | rfl | kernel_rfl | k_is)
    (case sN => first | rfl | k_is)
    (case anm => k_is); (case lnm => k_is); (case cnm => k_is); (case knm => k_is)
    (case awh => k_is); (case lwh => k_is); (case cwh => k_is); (case kwh => k_is)
    (case aig => k_is); (case lig => k_is); (case cig => k_is); (case kig => k_is)
    (case abt => k_is); (case lbt => k_is); (case cbt => k_is); (case kbt => k_is)
    (case acn => k_is); (case lcn => k_is); (case ccn => k_is); (case kcn => k_is)
    (case aci => k_is); (case lci => k_is); (case cci => k_is); (case kci => k_is)
    (case aso => k_is); (case lso => k_is); (case cso => k_is); (case kso => k_is)
    (case aup => k_is); (case lup => k_is); (case cup => k_is); (case kup => k_is)
    (case alo => k_is); (case llo => k_is); (case clo => k_is); (case klo => k_is)
    (case atu => k_is); (case ltu => k_is); (case ctu => k_is); (case ktu => k_is)
    (case api => k_is); (case lpi => k_is); (case cpi => k_is); (case kpi => k_is)
    (case atd => k_is); (case ltd => k_is); (case ctd => k_is); (case ktd => k_is)
    (case afa => k_is); (case lfa => k_is); (case cfa => k_is); (case kfa => k_is)
    (case aer => k_is); (case ler => k_is); (case cer => k_is); (case ker => k_is)
    (case awo => k_is); (case lwo => k_is); (case cwo => k_is); (case kwo => k_is)
    (case ana => k_is); (case lna => k_is); (case cna => k_is); (case kna => k_is)
    (case asl => k_is); (case lsl => k_is); (case csl => k_is); (case ksl => k_is)
    (case are => k_is); (case lre => k_is); (case cre => k_is); (case kre => k_is)
    (case ala => k_is); (case lla => k_is); (case cla => k_is); (case kla => k_is)
    (case z0 => k_is); (case z1 => k_is); (case z2 => k_is); (case z3 => k_is); (case z4 => k_is); (case z5 => k_is); (case z6 => k_is); (case z7 => k_is); (case z8 => k_is); (case z9 => k_is); (case z10 => k_is); (case z11 => k_is); (case z12 => k_is); (case z13 => k_is); (case z14 => k_is); (case z15 => k_is); (case z16 => k_is); (case z17 => k_is); (case z18 => k_is); (case z19 => k_is)
    (case ch => first | k_is | kernel_rfl)
    (case nT => first | k_is | kernel_rfl)
    (case hb => exact fun s v => .of_eq rfl)
