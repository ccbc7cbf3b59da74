import PyProof.Rows.All
import Wide.All
import OpenK.AllK
import Wide.FinOn
import HandS.ForMost
import HandS.IsInst
import HandS.TupLe
import HandS.Codes
import PySem.Challenge.RW_tribunal_k02_clashes
set_option Elab.async false
set_option linter.all false
set_option maxRecDepth 100000
set_option maxHeartbeats 4000000
namespace Toy
open PySem L2
def top (i : Nat) : Stmt := PySem.Challenge.pw_tribunal_k02_clashes.main.body.getD i (.Pass ⟨0, 0, 0, 0⟩)
abbrev s_law_cell : Stmt := (top 13)
abbrev s_proposal : Stmt := (top 6)
abbrev s_prevote : Stmt := (top 7)
abbrev s_precommit : Stmt := (top 8)
abbrev s_is_vote : Stmt := (top 9)
abbrev s_abandons : Stmt := (top 11)
abbrev s_clash : Stmt := (top 10)
abbrev s_law_clash : Stmt := (top 16)
abbrev s_law_drawn : Stmt := (top 17)
abbrev s_law_made : Stmt := (top 18)
abbrev s_law : Stmt := (top 19)
abbrev sc_law_cell_N : List Str := ["script", "k"]
theorem sc_law_cell : FnScope sc_law_cell_N ["script", "k"] (defScope s_law_cell) := ⟨rfl, rfl, rfl, by decide +kernel, rfl, by decide +kernel, by decide +kernel⟩
abbrev sc_proposal_N : List Str := ["height", "turn", "block"]
theorem sc_proposal : FnScope sc_proposal_N ["height", "turn", "block"] (defScope s_proposal) := ⟨rfl, rfl, rfl, by decide +kernel, rfl, by decide +kernel, by decide +kernel⟩
abbrev sc_prevote_N : List Str := ["height", "turn", "block", "lean"]
theorem sc_prevote : FnScope sc_prevote_N ["height", "turn", "block", "lean"] (defScope s_prevote) := ⟨rfl, rfl, rfl, by decide +kernel, rfl, by decide +kernel, by decide +kernel⟩
abbrev sc_precommit_N : List Str := ["height", "turn", "block"]
theorem sc_precommit : FnScope sc_precommit_N ["height", "turn", "block"] (defScope s_precommit) := ⟨rfl, rfl, rfl, by decide +kernel, rfl, by decide +kernel, by decide +kernel⟩
abbrev sc_is_vote_N : List Str := ["statement"]
theorem sc_is_vote : FnScope sc_is_vote_N ["statement"] (defScope s_is_vote) := ⟨rfl, rfl, rfl, by decide +kernel, rfl, by decide +kernel, by decide +kernel⟩
abbrev sc_abandons_N : List Str := ["one", "other"]
theorem sc_abandons : FnScope sc_abandons_N ["one", "other"] (defScope s_abandons) := ⟨rfl, rfl, rfl, by decide +kernel, rfl, by decide +kernel, by decide +kernel⟩
abbrev sc_clash_N : List Str := ["one", "other"]
theorem sc_clash : FnScope sc_clash_N ["one", "other"] (defScope s_clash) := ⟨rfl, rfl, rfl, by decide +kernel, rfl, by decide +kernel, by decide +kernel⟩
abbrev sc_law_clash_N : List Str := ["one", "other", "first", "second"]
theorem sc_law_clash : FnScope sc_law_clash_N ["one", "other"] (defScope s_law_clash) := ⟨rfl, rfl, rfl, by decide +kernel, rfl, by decide +kernel, by decide +kernel⟩
abbrev sc_law_drawn_N : List Str := ["cell", "height", "block", "turn", "way", "lean"]
theorem sc_law_drawn : FnScope sc_law_drawn_N ["cell"] (defScope s_law_drawn) := ⟨rfl, rfl, rfl, by decide +kernel, rfl, by decide +kernel, by decide +kernel⟩
abbrev sc_law_made_N : List Str := ["statement"]
theorem sc_law_made : FnScope sc_law_made_N ["statement"] (defScope s_law_made) := ⟨rfl, rfl, rfl, by decide +kernel, rfl, by decide +kernel, by decide +kernel⟩
abbrev sc_law_N : List Str := ["script", "k", "one", "other", "pair", "actual"]
theorem sc_law : FnScope sc_law_N ["script"] (defScope s_law) := ⟨rfl, rfl, rfl, by decide +kernel, rfl, by decide +kernel, by decide +kernel⟩
/-! ### what stands where -/
structure DefAt (K : PySem.W.Frag) (mg : Str → Option Value) (x : Str) (st : Stmt) (ps : List Str) (f : Addr) : Prop where
  F : ∃ fd, Fun K x x st f fd ∧ Binds K fd ps []
  g : mg x = some (.ref f)
  kp : PySem.W.keepIn K (.ref f) = true
structure MethAt (K : PySem.W.Frag) (C : Addr) (x qual : Str) (st : Stmt) (ps : List Str) (f : Addr) : Prop where
  F : ∃ fd, Fun K x qual st f fd ∧ Binds K fd ps []
  fi : PySem.W.findIn K (.ref C) x = some (some (.ref f))
  isf : PySem.W.isFn K (.ref f) = true
  kp : PySem.W.keepIn K (.ref f) = true
theorem def_mk {K : PySem.W.Frag} {x qual : Str} {st : Stmt} {f : Addr} {ps : List Str} {oc : Value} {od an : Option Addr} {osl : Array (Option Value)} {kV doc pm cdv ct : Value}
    (l : K.lookup f = some ⟨oc, od, .func (PySem.W.fnOf x qual (defArgs st) (defBody st) (defScope st) .none kV doc pm an cdv ct), osl⟩)
    (c : PySem.W.codeIn K cdv qual = true) (k : PySem.W.keepIn K (.ref f) = true)
    (h : ∀ (kV doc pm : Value) (an : Option Addr) (cdv ct : Value) (us : List Value), us.length = ps.length → bindArgs (PySem.W.fnOf x qual (defArgs st) (defBody st) (defScope st) .none kV doc pm an cdv ct) ⟨us, []⟩ = pure (ps.zip us)) :
    ∃ fd, Fun K x qual st f fd ∧ Binds K fd ps [] := by
  have F := fun_mk (st := st) l c k
  exact ⟨_, F, F.binds h⟩
theorem mg_no {K : PySem.W.Frag} {h : Heap} {mg : Str → Option Value} {n : Str} (X : K.In h) (G : h.Ns mainGlobals mg) (e : PySem.W.nsIn K mainGlobals n = some none) : mg n = none := PySem.W.mg_none_of X G e
theorem same_new {H : Hp} {p : Addr} {o : HO} (n : H p = Option.none) : Same H (upd H p o) := fun b u e => by
  rw [upd_ne (ne_of_none e n)]
  exact e
structure Ads where
  d_law_cell : Addr
  d_proposal : Addr
  d_prevote : Addr
  d_precommit : Addr
  d_is_vote : Addr
  d_abandons : Addr
  d_clash : Addr
  d_law_clash : Addr
  d_law_drawn : Addr
  d_law_made : Addr
structure Txt (K : PySem.W.Frag) (mg : Str → Option Value) (a : Ads) : Prop where
  n_len : mg "len" = none
  n_range : mg "range" = none
  n_isinstance : mg "isinstance" = none
  n_int : mg "int" = none
  n_bool : mg "bool" = none
  n_tuple : mg "tuple" = none
  c_KIND : ∃ t, mg "KIND" = some (.int 0 t)
  c_HEIGHT : ∃ t, mg "HEIGHT" = some (.int 1 t)
  c_TURN : ∃ t, mg "TURN" = some (.int 2 t)
  c_BLOCK : ∃ t, mg "BLOCK" = some (.int 3 t)
  c_LEAN : ∃ t, mg "LEAN" = some (.int 4 t)
  d_law_cell : DefAt K mg "_law_cell" s_law_cell ["script", "k"] a.d_law_cell
  d_proposal : DefAt K mg "proposal" s_proposal ["height", "turn", "block"] a.d_proposal
  d_prevote : DefAt K mg "prevote" s_prevote ["height", "turn", "block", "lean"] a.d_prevote
  d_precommit : DefAt K mg "precommit" s_precommit ["height", "turn", "block"] a.d_precommit
  d_is_vote : DefAt K mg "is_vote" s_is_vote ["statement"] a.d_is_vote
  d_abandons : DefAt K mg "_abandons" s_abandons ["one", "other"] a.d_abandons
  d_clash : DefAt K mg "clash" s_clash ["one", "other"] a.d_clash
  d_law_clash : DefAt K mg "_law_clash" s_law_clash ["one", "other"] a.d_law_clash
  d_law_drawn : DefAt K mg "_law_drawn" s_law_drawn ["cell"] a.d_law_drawn
  d_law_made : DefAt K mg "_law_made" s_law_made ["statement"] a.d_law_made
/-! ### the data: a statement as the tuple that it is -/
inductive Kd where
  | prop | pre | com
  deriving DecidableEq
def Kd.s : Kd → Str
  | .prop => "proposal"
  | .pre => "prevote"
  | .com => "precommit"
structure Sm where
  k : Kd
  h : Int
  t : Int
  b : Option Str
  l : Option Int
def oS : Option Str → V
  | none => .non
  | some x => .str x
def oI : Option Int → V
  | none => .non
  | some x => .int x
def Sm.vals (m : Sm) : List V := match m.k with
  | .pre => [.str m.k.s, .int m.h, .int m.t, oS m.b, oI m.l]
  | _ => [.str m.k.s, .int m.h, .int m.t, oS m.b]
def SmAt (H : Hp) (p : Addr) (m : Sm) : Prop := H p = some (.tup m.vals)
theorem at0 (m : Sm) : atI m.vals 0 = some (.str m.k.s) := by
  cases m with | mk k h t b l => cases k <;> rfl
theorem at1 (m : Sm) : atI m.vals 1 = some (.int m.h) := by
  cases m with | mk k h t b l => cases k <;> rfl
theorem at2 (m : Sm) : atI m.vals 2 = some (.int m.t) := by
  cases m with | mk k h t b l => cases k <;> rfl
theorem at3 (m : Sm) : atI m.vals 3 = some (oS m.b) := by
  cases m with | mk k h t b l => cases k <;> rfl
theorem at4 (m : Sm) (e : m.k = .pre) : atI m.vals 4 = some (oI m.l) := by
  cases m with | mk k h t b l => cases k <;> first | rfl | cases e
theorem ks_pp : ¬ (("proposal" : Str) = "prevote") := by decide +kernel
theorem ks_pc : ¬ (("proposal" : Str) = "precommit") := by decide +kernel
theorem ks_vc : ¬ (("prevote" : Str) = "precommit") := by decide +kernel
theorem ks_vp : ¬ (("prevote" : Str) = "proposal") := fun e => ks_pp e.symm
theorem ks_cp : ¬ (("precommit" : Str) = "proposal") := fun e => ks_pc e.symm
theorem ks_cv : ¬ (("precommit" : Str) = "prevote") := fun e => ks_vc e.symm
theorem kd_inj (a b : Kd) : a.s = b.s ↔ a = b := by
  cases a <;> cases b <;> simp [Kd.s, ks_pp, ks_pc, ks_vc, ks_vp, ks_cp, ks_cv]
theorem dec_kd (a b : Kd) : decide (V.str a.s = V.str b.s) = decide (a = b) := by
  rw [Bool.eq_iff_iff, decide_eq_true_iff, decide_eq_true_iff]
  constructor
  · intro e
    injection e with e
    exact (kd_inj a b).mp e
  · intro e
    rw [e]
theorem kprop (a : Kd) : (V.str a.s = V.str "proposal") = (a = .prop) := propext (by simpa [Kd.s] using decide_eq_decide.mp (dec_kd a .prop))
theorem kpre (a : Kd) : (V.str a.s = V.str "prevote") = (a = .pre) := propext (by simpa [Kd.s] using decide_eq_decide.mp (dec_kd a .pre))
theorem kcom (a : Kd) : (V.str a.s = V.str "precommit") = (a = .com) := propext (by simpa [Kd.s] using decide_eq_decide.mp (dec_kd a .com))
theorem koS (a b : Option Str) : (oS a = oS b) = (a = b) := propext (by
  cases a <;> cases b <;> simp [oS])
theorem koSn (a : Option Str) : (oS a = V.non) = (a = none) := koS a none
theorem koIn (a : Option Int) : (oI a = V.non) = (a = none) := by cases a <;> simp [oI]
theorem dec_oS (a b : Option Str) : decide (oS a = oS b) = decide (a = b) := by
  rw [Bool.eq_iff_iff, decide_eq_true_iff, decide_eq_true_iff]
  constructor
  · intro e
    cases a <;> cases b <;> first | rfl | cases e
    rfl
  · intro e
    rw [e]
theorem dec_oSn (a : Option Str) : decide (oS a = V.non) = decide (a = none) := dec_oS a none
theorem dec_oIn (a : Option Int) : decide (oI a = V.non) = decide (a = none) := by
  cases a <;> rfl
theorem scal_oS (a b : Option Str) : scal (oS a) (oS b) = true := by
  cases a <;> cases b <;> rfl
/-! ### the mirror -/
def abandM (x y : Sm) : Bool :=
  if x.k = .com ∧ y.k = .pre ∧ x.b ≠ none ∧ y.b ≠ none ∧ x.b ≠ y.b ∧ x.t < y.t then (match y.l with | none => true | some l => decide (l < x.t)) else false
def clashM (x y : Sm) : Bool :=
  if x.h ≠ y.h then false
  else if x.k = y.k then (decide (x.k ≠ .prop) && (decide (x.t = y.t) && decide (x.b ≠ y.b)))
  else (abandM x y || abandM y x)
theorem clashM_comm (x y : Sm) : clashM x y = clashM y x := by
  unfold clashM
  by_cases h1 : x.h = y.h
  · by_cases h2 : x.k = y.k
    · simp only [h1, h2, ne_eq, not_true_eq_false, if_false, if_true]
      congr 1
      congr 1
      · exact decide_eq_decide.mpr ⟨Eq.symm, Eq.symm⟩
      · exact decide_eq_decide.mpr ⟨Ne.symm, Ne.symm⟩
    · have h3 : ¬ y.k = x.k := fun e => h2 e.symm
      simp only [h1, h2, h3, ne_eq, not_true_eq_false, if_false, Bool.or_comm]
  · have h3 : ¬ y.h = x.h := fun e => h1 e.symm
    simp only [h1, h3, ne_eq, not_false_eq_true, if_true]
/-! ### promises -/
def OkS (b : Option Str) : Prop := ∀ x, b = some x → PyData.strOk x = true
def spCell (K : PySem.W.Frag) : Sp := fun vs H Q _ => ∃ (a : Addr) (ns : List Int) (k : Int), vs = [.ref a, .int k] ∧ SqL K H a (ns.map V.int) ∧ ns.length ≤ 63 ∧ 0 ≤ k ∧ Q (.int (ns.getD k.toNat 0)) H
def spVote (K : PySem.W.Frag) : Sp := fun vs H Q _ => ∃ (p : Addr) (m : Sm), vs = [.ref p] ∧ SmAt H p m ∧ ∀ H', Same H H' → Q (.bl (decide (m.k ≠ .prop))) H'
def spAband (K : PySem.W.Frag) : Sp := fun vs H Q _ => ∃ (p q : Addr) (m n : Sm), vs = [.ref p, .ref q] ∧ SmAt H p m ∧ SmAt H q n ∧ ∀ H', Same H H' → Q (.bl (abandM m n)) H'
def spClash (K : PySem.W.Frag) : Sp := fun vs H Q _ => ∃ (p q : Addr) (m n : Sm), vs = [.ref p, .ref q] ∧ SmAt H p m ∧ SmAt H q n ∧ ∀ H', Same H H' → Q (.bl (clashM m n)) H'
def spProp (K : PySem.W.Frag) : Sp := fun vs H Q _ => ∃ (h t : Int) (b : Option Str), vs = [.int h, .int t, oS b] ∧ ∀ p H', Same H H' → SmAt H' p ⟨.prop, h, t, b, none⟩ → Q (.ref p) H'
def spPre (K : PySem.W.Frag) : Sp := fun vs H Q _ => ∃ (h t : Int) (b : Option Str) (l : Option Int), vs = [.int h, .int t, oS b, oI l] ∧ ∀ p H', Same H H' → SmAt H' p ⟨.pre, h, t, b, l⟩ → Q (.ref p) H'
def spCom (K : PySem.W.Frag) : Sp := fun vs H Q _ => ∃ (h t : Int) (b : Option Str), vs = [.int h, .int t, oS b] ∧ ∀ p H', Same H H' → SmAt H' p ⟨.com, h, t, b, none⟩ → Q (.ref p) H'
def spDrawn (K : PySem.W.Frag) : Sp := fun vs H Q _ => ∃ (c : Int), vs = [.int c] ∧ ∀ p m H', Same H H' → SmAt H' p m → OkS m.b → Q (.ref p) H'
def spMade (K : PySem.W.Frag) : Sp := fun vs H Q _ => ∃ (p : Addr) (m : Sm), vs = [.ref p] ∧ SmAt H p m ∧ ∀ q H', Same H H' → H' q = some (.tup m.vals) → Q (.ref q) H'
def spLaw (K : PySem.W.Frag) : Sp := fun vs H Q _ => ∃ (a : Addr) (ns : List Int), vs = [.ref a] ∧ SqL K H a (ns.map V.int) ∧ ns.length ≤ 63 ∧ ∀ H', Q (.bl true) H'
section
local macro_rules | `(tactic| walk_at "r1") => `(tactic| first
  | refine ⟨_, rfl, ?_⟩
  | refine ⟨_, _, rfl, rfl, (by show (0 : Int) < _; first | decide | omega), ?_⟩
  | refine ⟨_, _, rfl, rfl, ⟨by decide, by decide⟩, ?_⟩
  | refine ⟨_, _, rfl, rfl, ?_⟩
  | refine ⟨_, _, _, _, rfl, rfl, SqT.of (by assumption), by first | exact at0 _ | exact at1 _ | exact at2 _ | exact at3 _ | exact at4 _ (by assumption), ?_⟩
  | refine ⟨scal_oS _ _, ?_⟩
  | refine .inl ⟨_, rfl, ?_⟩
  | refine ⟨(show CMul _ _ from .inl ⟨by decide, by decide⟩), ?_⟩
  | refine ⟨rfl, ?_⟩)
local macro_rules | `(tactic| walk_at "rs") => `(tactic| repeat walk_at "r1")
variable {P : Program} {w : World} {K : PySem.W.Frag} {mg : Str → Option Value} {base : Heap} {a : Ads}
theorem ok_law_cell (T : Txt K mg a) : ∃ fd, FnOk P w K mg base CX0 1 a.d_law_cell fd ["script", "k"] (spCell K) ∧ Binds K fd ["script", "k"] [] := by
  obtain ⟨fd, F, b⟩ := T.d_law_cell.F
  refine ⟨fd, F.ok sc_law_cell (fun vs H Q E h => ?_) (fun cdv A outer s H vs Q E hr h => ?_), b⟩
  · obtain ⟨a, ns, k, rfl, _⟩ := h
    rfl
  · obtain ⟨l, ns, k, rfl, hS, hl, hk, q⟩ := h
    refine ⟨_, (pss_cons (ps_if (pt_cmpR op_lt (pv 1) (pe_callB call_len_seq (by rfl) T.n_len PySem.boot_len (pa_cons (pv 0) pa_nil)) (nomark _))
      (pss_one (ps_ret (pe_ix ix_list (pv 0) (pv 1) (fun _ _ => rfl))))
      pss_nil)
      (pss_one (ps_ret pe_int))), ?_⟩
    refine ⟨_, rfl, _, rfl, l, _, rfl, .inl hS, _, _, rfl, rfl, _, rfl, ?_⟩
    refine ite2 (fun hlt => ?_) (fun hge => ?_)
    · have hlt : k < ((ns.map V.int).length : Int) := of_decide_eq_true hlt
      rw [List.length_map] at hlt
      have hj : k.toNat < ns.length := by omega
      have e : ns.getD k.toNat 0 = ns[k.toNat] := by rw [List.getD_eq_getElem?_getD, List.getElem?_eq_getElem hj]; rfl
      rw [e] at q
      refine ⟨_, rfl, _, rfl, l, _, k, .int ns[k.toNat], rfl, rfl, hS, at_of (j := k.toNat) (by omega) (by rw [List.getElem?_map, List.getElem?_eq_getElem hj]; rfl), q⟩
    · have hge : ¬ k < ((ns.map V.int).length : Int) := fun e => hge (decide_eq_true e)
      rw [List.length_map] at hge
      have e : ns.getD k.toNat 0 = 0 := by rw [List.getD_eq_getElem?_getD, List.getElem?_eq_none (by omega)]; rfl
      rw [e] at q
      exact q
theorem ok_is_vote (T : Txt K mg a) : ∃ fd, FnOk P w K mg base CX0 1 a.d_is_vote fd ["statement"] (spVote K) ∧ Binds K fd ["statement"] [] := by
  obtain ⟨fd, F, b⟩ := T.d_is_vote.F
  refine ⟨fd, F.ok sc_is_vote (fun vs H Q E h => ?_) (fun cdv A outer s H vs Q E hr h => ?_), b⟩
  · obtain ⟨p, m, rfl, _⟩ := h
    rfl
  · obtain ⟨p, m, rfl, hp, k⟩ := h
    refine ⟨_, (pss_one (ps_ret (pe_cmpR op_in_seq (pe_ix ix_tup (pv 0) (pe_glob (v := (.int 0)) rfl T.c_KIND.choose_spec ⟨_, rfl⟩) (fun _ _ => rfl)) (pe_tup (pa_cons pe_str (pa_cons pe_str pa_nil))) (by rfl)))), ?_⟩
    refine ⟨_, rfl, p, _, _, _, rfl, rfl, SqT.of hp, at0 m, (by show 2 ≤ sizeLine; decide), fun t ht => ?_⟩
    refine ⟨t, _, rfl, .inr (SqT.of upd_same), rfl, rfl, ?_⟩
    have e : inV (V.str m.k.s) [V.str "prevote", V.str "precommit"] = decide (m.k ≠ .prop) := by
      cases hk : m.k <;> decide +kernel
    show Q (.bl (inV (V.str m.k.s) [V.str "prevote", V.str "precommit"])) _
    rw [e]
    exact k _ (same_new ht)
theorem ok_proposal (T : Txt K mg a) : ∃ fd, FnOk P w K mg base CX0 1 a.d_proposal fd ["height", "turn", "block"] (spProp K) ∧ Binds K fd ["height", "turn", "block"] [] := by
  obtain ⟨fd, F, b⟩ := T.d_proposal.F
  refine ⟨fd, F.ok sc_proposal (fun vs H Q E h => ?_) (fun cdv A outer s H vs Q E hr h => ?_), b⟩
  · obtain ⟨_, _, _, rfl, _⟩ := h
    rfl
  · obtain ⟨h, t, b, rfl, k⟩ := h
    refine ⟨_, (pss_one (ps_ret (pe_tup (pa_cons pe_str (pa_cons (pv 0) (pa_cons (pv 1) (pa_cons (pv 2) pa_nil))))))), ?_⟩
    refine ⟨_, rfl, _, rfl, _, rfl, (by show 4 ≤ sizeLine; decide), fun p hp => ?_⟩
    exact k _ _ (same_new hp) upd_same
theorem ok_prevote (T : Txt K mg a) : ∃ fd, FnOk P w K mg base CX0 1 a.d_prevote fd ["height", "turn", "block", "lean"] (spPre K) ∧ Binds K fd ["height", "turn", "block", "lean"] [] := by
  obtain ⟨fd, F, b⟩ := T.d_prevote.F
  refine ⟨fd, F.ok sc_prevote (fun vs H Q E h => ?_) (fun cdv A outer s H vs Q E hr h => ?_), b⟩
  · obtain ⟨_, _, _, _, rfl, _⟩ := h
    rfl
  · obtain ⟨h, t, b, l, rfl, k⟩ := h
    refine ⟨_, (pss_one (ps_ret (pe_tup (pa_cons pe_str (pa_cons (pv 0) (pa_cons (pv 1) (pa_cons (pv 2) (pa_cons (pv 3) pa_nil)))))))), ?_⟩
    refine ⟨_, rfl, _, rfl, _, rfl, _, rfl, (by show 5 ≤ sizeLine; decide), fun p hp => ?_⟩
    exact k _ _ (same_new hp) upd_same
theorem ok_precommit (T : Txt K mg a) : ∃ fd, FnOk P w K mg base CX0 1 a.d_precommit fd ["height", "turn", "block"] (spCom K) ∧ Binds K fd ["height", "turn", "block"] [] := by
  obtain ⟨fd, F, b⟩ := T.d_precommit.F
  refine ⟨fd, F.ok sc_precommit (fun vs H Q E h => ?_) (fun cdv A outer s H vs Q E hr h => ?_), b⟩
  · obtain ⟨_, _, _, rfl, _⟩ := h
    rfl
  · obtain ⟨h, t, b, rfl, k⟩ := h
    refine ⟨_, (pss_one (ps_ret (pe_tup (pa_cons pe_str (pa_cons (pv 0) (pa_cons (pv 1) (pa_cons (pv 2) pa_nil))))))), ?_⟩
    refine ⟨_, rfl, _, rfl, _, rfl, (by show 4 ≤ sizeLine; decide), fun p hp => ?_⟩
    exact k _ _ (same_new hp) upd_same
theorem ok_abandons (T : Txt K mg a) : ∃ fd, FnOk P w K mg base CX0 1 a.d_abandons fd ["one", "other"] (spAband K) ∧ Binds K fd ["one", "other"] [] := by
  obtain ⟨fd, F, b⟩ := T.d_abandons.F
  refine ⟨fd, F.ok sc_abandons (fun vs H Q E h => ?_) (fun cdv A outer s H vs Q E hr h => ?_), b⟩
  · obtain ⟨_, _, _, _, rfl, _⟩ := h
    rfl
  · obtain ⟨p, q, m, n, rfl, hp, hq, k⟩ := h
    have k0 : Q (.bl (abandM m n)) H := k _ (Same.refl H)
    refine ⟨_, (pss_cons (ps_if (PW.pt (pw_or (pt_cmpR op_ne (pe_ix ix_tup (pv 0) (pe_glob (v := (.int 0)) rfl T.c_KIND.choose_spec ⟨_, rfl⟩) (fun _ _ => rfl)) pe_str (nomark _)) (pw_or1 (pt_cmpR op_ne (pe_ix ix_tup (pv 1) (pe_glob (v := (.int 0)) rfl T.c_KIND.choose_spec ⟨_, rfl⟩) (fun _ _ => rfl)) pe_str (nomark _)))))
      (pss_one (ps_ret pe_bl))
      pss_nil)
      (pss_cons (ps_if (PW.pt (pw_or (pt_cmpR op_isN (pe_ix ix_tup (pv 0) (pe_glob (v := (.int 3)) rfl T.c_BLOCK.choose_spec ⟨_, rfl⟩) (fun _ _ => rfl)) pe_non (nomark _)) (pw_or1 (pt_cmpR op_isN (pe_ix ix_tup (pv 1) (pe_glob (v := (.int 3)) rfl T.c_BLOCK.choose_spec ⟨_, rfl⟩) (fun _ _ => rfl)) pe_non (nomark _)))))
      (pss_one (ps_ret pe_bl))
      pss_nil)
      (pss_cons (ps_if (PW.pt (pw_or (pt_cmpR op_eq (pe_ix ix_tup (pv 0) (pe_glob (v := (.int 3)) rfl T.c_BLOCK.choose_spec ⟨_, rfl⟩) (fun _ _ => rfl)) (pe_ix ix_tup (pv 1) (pe_glob (v := (.int 3)) rfl T.c_BLOCK.choose_spec ⟨_, rfl⟩) (fun _ _ => rfl)) (nomark _)) (pw_or1 (pt_cmpR op_ge (pe_ix ix_tup (pv 0) (pe_glob (v := (.int 2)) rfl T.c_TURN.choose_spec ⟨_, rfl⟩) (fun _ _ => rfl)) (pe_ix ix_tup (pv 1) (pe_glob (v := (.int 2)) rfl T.c_TURN.choose_spec ⟨_, rfl⟩) (fun _ _ => rfl)) (nomark _)))))
      (pss_one (ps_ret pe_bl))
      pss_nil)
      (pss_one (ps_ret (pe_or (pe_cmpR op_isN (pe_ix ix_tup (pv 1) (pe_glob (v := (.int 4)) rfl T.c_LEAN.choose_spec ⟨_, rfl⟩) (fun _ _ => rfl)) pe_non (nomark _)) (pe_one (pe_cmpR op_lt (pe_ix ix_tup (pv 1) (pe_glob (v := (.int 4)) rfl T.c_LEAN.choose_spec ⟨_, rfl⟩) (fun _ _ => rfl)) (pe_ix ix_tup (pv 0) (pe_glob (v := (.int 2)) rfl T.c_TURN.choose_spec ⟨_, rfl⟩) (fun _ _ => rfl)) (nomark _))))))))), ?_⟩
    walk_at "rs"
    refine ite2 (fun c1 => ?_) (fun c1 => ?_) <;> simp only [kcom, Bool.not_eq_true', decide_eq_false_iff_not, decide_eq_true_iff, Decidable.not_not] at c1
    · rw [show abandM m n = false from if_neg (fun z => c1 z.1)] at k0
      exact k0
    walk_at "rs"
    refine ite2 (fun c2 => ?_) (fun c2 => ?_) <;> simp only [kpre, Bool.not_eq_true', decide_eq_false_iff_not, decide_eq_true_iff, Decidable.not_not] at c2
    · rw [show abandM m n = false from if_neg (fun z => c2 z.2.1)] at k0
      exact k0
    walk_at "rs"
    refine ite2 (fun c3 => ?_) (fun c3 => ?_) <;> simp only [koSn, decide_eq_true_iff] at c3
    · rw [show abandM m n = false from if_neg (fun z => z.2.2.1 c3)] at k0
      exact k0
    walk_at "rs"
    refine ite2 (fun c4 => ?_) (fun c4 => ?_) <;> simp only [koSn, decide_eq_true_iff] at c4
    · rw [show abandM m n = false from if_neg (fun z => z.2.2.2.1 c4)] at k0
      exact k0
    walk_at "rs"
    refine ite2 (fun c5 => ?_) (fun c5 => ?_) <;> simp only [koS, decide_eq_true_iff] at c5
    · rw [show abandM m n = false from if_neg (fun z => z.2.2.2.2.1 c5)] at k0
      exact k0
    walk_at "rs"
    refine ite2 (fun c6 => ?_) (fun c6 => ?_) <;> simp only [decide_eq_true_iff] at c6
    · rw [show abandM m n = false from if_neg (fun z => by have := z.2.2.2.2.2; omega)] at k0
      exact k0
    have e : abandM m n = (match n.l with | none => true | some l => decide (l < m.t)) := if_pos ⟨c1, c2, c3, c4, c5, by omega⟩
    rw [e] at k0
    clear e
    walk_at "rs"
    refine ite2 (fun c7 => ?_) (fun c7 => ?_) <;> simp only [koIn, decide_eq_true_iff] at c7
    · rw [c7] at k0
      exact k0
    · cases hnl : n.l with
      | none => exact absurd hnl c7
      | some l =>
        rw [hnl] at k0
        refine ⟨_, rfl, _, _, _, _, rfl, rfl, SqT.of hq, (at4 n c2).trans (by rw [hnl]), ?_⟩
        walk_at "rs"
        exact k0
theorem ok_clash (T : Txt K mg a) : ∃ fd, FnOk P w K mg base CX0 2 a.d_clash fd ["one", "other"] (spClash K) ∧ Binds K fd ["one", "other"] [] := by
  obtain ⟨fd, F, b⟩ := T.d_clash.F
  obtain ⟨fd_abandons, G_abandons, b_abandons⟩ := ok_abandons (P := P) (w := w) (base := base) T
  obtain ⟨fd_is_vote, G_is_vote, b_is_vote⟩ := ok_is_vote (P := P) (w := w) (base := base) T
  refine ⟨fd, F.ok sc_clash (fun vs H Q E h => ?_) (fun cdv A outer s H vs Q E hr h => ?_), b⟩
  · obtain ⟨_, _, _, _, rfl, _⟩ := h
    rfl
  · obtain ⟨p, q, m, n, rfl, hp, hq, k⟩ := h
    refine ⟨_, (pss_cons (ps_if (pt_cmpR op_ne (pe_ix ix_tup (pv 0) (pe_glob (v := (.int 1)) rfl T.c_HEIGHT.choose_spec ⟨_, rfl⟩) (fun _ _ => rfl)) (pe_ix ix_tup (pv 1) (pe_glob (v := (.int 1)) rfl T.c_HEIGHT.choose_spec ⟨_, rfl⟩) (fun _ _ => rfl)) (nomark _))
      (pss_one (ps_ret pe_bl))
      pss_nil)
      (pss_cons (ps_if (pt_cmpR op_eq (pe_ix ix_tup (pv 0) (pe_glob (v := (.int 0)) rfl T.c_KIND.choose_spec ⟨_, rfl⟩) (fun _ _ => rfl)) (pe_ix ix_tup (pv 1) (pe_glob (v := (.int 0)) rfl T.c_KIND.choose_spec ⟨_, rfl⟩) (fun _ _ => rfl)) (nomark _))
      (pss_one (ps_ret (pe_and (pe_call G_is_vote (hr.mono (by decide)) rfl T.d_is_vote.g T.d_is_vote.kp b_is_vote .nil pass0 (pa_cons (pv 0) pa_nil)) (pe_and (pe_cmpR op_eq (pe_ix ix_tup (pv 0) (pe_glob (v := (.int 2)) rfl T.c_TURN.choose_spec ⟨_, rfl⟩) (fun _ _ => rfl)) (pe_ix ix_tup (pv 1) (pe_glob (v := (.int 2)) rfl T.c_TURN.choose_spec ⟨_, rfl⟩) (fun _ _ => rfl)) (nomark _)) (pe_one (pe_cmpR op_ne (pe_ix ix_tup (pv 0) (pe_glob (v := (.int 3)) rfl T.c_BLOCK.choose_spec ⟨_, rfl⟩) (fun _ _ => rfl)) (pe_ix ix_tup (pv 1) (pe_glob (v := (.int 3)) rfl T.c_BLOCK.choose_spec ⟨_, rfl⟩) (fun _ _ => rfl)) (nomark _)))))))
      pss_nil)
      (pss_one (ps_ret (pe_or (pe_call G_abandons (hr.mono (by decide)) rfl T.d_abandons.g T.d_abandons.kp b_abandons .nil pass0 (pa_cons (pv 0) (pa_cons (pv 1) pa_nil))) (pe_one (pe_call G_abandons (hr.mono (by decide)) rfl T.d_abandons.g T.d_abandons.kp b_abandons .nil pass0 (pa_cons (pv 1) (pa_cons (pv 0) pa_nil))))))))), ?_⟩
    unfold clashM at k
    walk_at "rs"
    refine ite2 (fun c1 => ?_) (fun c1 => ?_) <;> simp only [dec_int, Bool.not_eq_true', beq_eq_false_iff_ne, Bool.not_eq_false', Bool.not_eq_true, beq_iff_eq, ne_eq, Decidable.not_not] at c1
    · rw [if_pos c1] at k
      exact k _ (Same.refl H)
    rw [if_neg (fun z => z c1)] at k
    walk_at "rs"
    refine ite2 (fun c2 => ?_) (fun c2 => ?_) <;> simp only [dec_kd, decide_eq_true_iff] at c2
    · rw [if_pos c2] at k
      walk_at "rs"
      refine ⟨p, m, rfl, hp, fun H' s1 => ?_⟩
      have hp' : SmAt H' p m := s1 _ _ hp
      have hq' : SmAt H' q n := s1 _ _ hq
      walk_at "rs"
      refine ite2 (fun c3 => ?_) (fun c3 => ?_)
      · rw [c3, Bool.true_and] at k
        walk_at "rs"
        refine ite2 (fun c4 => ?_) (fun c4 => ?_) <;> simp only [dec_int, beq_iff_eq] at c4
        · rw [decide_eq_true c4, Bool.true_and] at k
          walk_at "rs"
          have k' := k H' s1
          rw [show decide (m.b ≠ n.b) = (!decide (oS m.b = oS n.b)) by rw [dec_oS, decide_not]] at k'
          exact k'
        · rw [decide_eq_false c4, Bool.false_and] at k
          exact k H' s1
      · rw [Bool.eq_false_iff.mpr c3, Bool.false_and] at k
        exact k H' s1
    · rw [if_neg c2] at k
      walk_at "rs"
      refine ⟨p, q, m, n, rfl, hp, hq, fun H' s1 => ?_⟩
      have hp' : SmAt H' p m := s1 _ _ hp
      have hq' : SmAt H' q n := s1 _ _ hq
      walk_at "rs"
      refine ite2 (fun c3 => ?_) (fun c3 => ?_)
      · rw [c3, Bool.true_or] at k
        exact k H' s1
      · rw [Bool.eq_false_iff.mpr c3, Bool.false_or] at k
        walk_at "rs"
        exact ⟨q, p, n, m, rfl, hq', hp', fun H2 s2 => k H2 (s1.trans s2)⟩
theorem ok_law_clash (T : Txt K mg a) : ∃ fd, FnOk P w K mg base CX0 1 a.d_law_clash fd ["one", "other"] (spClash K) ∧ Binds K fd ["one", "other"] [] := by
  obtain ⟨fd, F, b⟩ := T.d_law_clash.F
  refine ⟨fd, F.ok sc_law_clash (fun vs H Q E h => ?_) (fun cdv A outer s H vs Q E hr h => ?_), b⟩
  · obtain ⟨_, _, _, _, rfl, _⟩ := h
    rfl
  · obtain ⟨p, q, m, n, rfl, hp, hq, k⟩ := h
    have k0 : Q (.bl (clashM m n)) H := k _ (Same.refl H)
    clear k
    refine ⟨_, (pss_cons (ps_if (PW.pt (pw_or (pt_cmpR op_ne (pe_ix ix_tup (pv 0) pe_int (fun _ _ => rfl)) (pe_ix ix_tup (pv 1) pe_int (fun _ _ => rfl)) (nomark _)) (pw_or (pt_cmpR op_eq (pe_ix ix_tup (pv 0) pe_int (fun _ _ => rfl)) pe_str (nomark _)) (pw_or1 (pt_cmpR op_eq (pe_ix ix_tup (pv 1) pe_int (fun _ _ => rfl)) pe_str (nomark _))))))
      (pss_one (ps_ret pe_bl))
      pss_nil)
      (pss_cons (ps_if (pt_cmpR op_eq (pe_ix ix_tup (pv 0) pe_int (fun _ _ => rfl)) (pe_ix ix_tup (pv 1) pe_int (fun _ _ => rfl)) (nomark _))
      (pss_one (ps_ret (pe_and (pe_cmpR op_eq (pe_ix ix_tup (pv 0) pe_int (fun _ _ => rfl)) (pe_ix ix_tup (pv 1) pe_int (fun _ _ => rfl)) (nomark _)) (pe_one (pe_cmpR op_ne (pe_ix ix_tup (pv 0) pe_int (fun _ _ => rfl)) (pe_ix ix_tup (pv 1) pe_int (fun _ _ => rfl)) (nomark _))))))
      pss_nil)
      (pss_cons (ps_set (i := 2) sc_law_clash.nd rfl (Or.inl rfl) (pv 0))
      (pss_cons (ps_set (i := 3) sc_law_clash.nd rfl (Or.inl rfl) (pv 1))
      (pss_cons (ps_if (pt_cmpR op_eq (pe_ix ix_tup (pv 0) pe_int (fun _ _ => rfl)) pe_str (nomark _))
      (pss_cons (ps_set (i := 2) sc_law_clash.nd rfl (Or.inl rfl) (pv 1))
        (pss_one (ps_set (i := 3) sc_law_clash.nd rfl (Or.inl rfl) (pv 0))))
      pss_nil)
      (pss_cons (ps_if (PW.pt (pw_or (pt_cmpR op_isN (pe_ix ix_tup (pv 2) pe_int (fun _ _ => rfl)) pe_non (nomark _)) (pw_or (pt_cmpR op_isN (pe_ix ix_tup (pv 3) pe_int (fun _ _ => rfl)) pe_non (nomark _)) (pw_or (pt_cmpR op_eq (pe_ix ix_tup (pv 2) pe_int (fun _ _ => rfl)) (pe_ix ix_tup (pv 3) pe_int (fun _ _ => rfl)) (nomark _)) (pw_or1 (pt_cmpR op_le (pe_ix ix_tup (pv 3) pe_int (fun _ _ => rfl)) (pe_ix ix_tup (pv 2) pe_int (fun _ _ => rfl)) (nomark _)))))))
      (pss_one (ps_ret pe_bl))
      pss_nil)
      (pss_one (ps_ret (pe_or (pe_cmpR op_isN (pe_ix ix_tup (pv 3) pe_int (fun _ _ => rfl)) pe_non (nomark _)) (pe_one (pe_cmpR op_lt (pe_ix ix_tup (pv 3) pe_int (fun _ _ => rfl)) (pe_ix ix_tup (pv 2) pe_int (fun _ _ => rfl)) (nomark _)))))))))))), ?_⟩
    walk_at "rs"
    refine ite2 (fun c1 => ?_) (fun c1 => ?_) <;> simp only [dec_int, Bool.not_eq_true', beq_eq_false_iff_ne, Bool.not_eq_false', Bool.not_eq_true, beq_iff_eq, ne_eq, Decidable.not_not] at c1
    · rw [show clashM m n = false from if_pos c1] at k0
      exact k0
    walk_at "rs"
    refine ite2 (fun c2 => ?_) (fun c2 => ?_) <;> simp only [kprop, decide_eq_true_iff] at c2
    · rw [show clashM m n = false by
        unfold clashM abandM
        rw [if_neg (fun z => z c1)]
        by_cases e : m.k = n.k
        · rw [if_pos e, c2]
          rfl
        · rw [if_neg e, c2]
          simp] at k0
      exact k0
    walk_at "rs"
    refine ite2 (fun c3 => ?_) (fun c3 => ?_) <;> simp only [kprop, decide_eq_true_iff] at c3
    · rw [show clashM m n = false by
        unfold clashM abandM
        rw [if_neg (fun z => z c1)]
        by_cases e : m.k = n.k
        · rw [if_pos e, e, c3]
          rfl
        · rw [if_neg e, c3]
          simp] at k0
      exact k0
    walk_at "rs"
    refine ite2 (fun c4 => ?_) (fun c4 => ?_) <;> simp only [dec_kd, decide_eq_true_iff] at c4
    · unfold clashM at k0
      rw [if_neg (fun z => z c1), if_pos c4, decide_eq_true c2, Bool.true_and] at k0
      walk_at "rs"
      refine ite2 (fun c5 => ?_) (fun c5 => ?_) <;> simp only [dec_int, beq_iff_eq] at c5
      · rw [decide_eq_true c5, Bool.true_and] at k0
        walk_at "rs"
        rw [show decide (m.b ≠ n.b) = (!decide (oS m.b = oS n.b)) by rw [dec_oS, decide_not]] at k0
        exact k0
      · rw [decide_eq_false c5, Bool.false_and] at k0
        exact k0
    · unfold clashM at k0
      rw [if_neg (fun z => z c1), if_neg c4] at k0
      walk_at "rs"
      refine ite2 (fun c5 => ?_) (fun c5 => ?_) <;> simp only [kpre, decide_eq_true_iff] at c5
      · have cn : n.k = .com := by
          cases e : n.k with
          | prop => exact absurd e c3
          | pre => exact absurd (c5.trans e.symm) c4
          | com => rfl
        rw [show abandM m n = false from if_neg (fun z => by rw [c5] at z; cases z.1), Bool.false_or] at k0
        walk_at "rs"
        refine ite2 (fun d1 => ?_) (fun d1 => ?_) <;> simp only [koSn, decide_eq_true_iff] at d1
        · rw [show abandM n m = false from if_neg (fun z => z.2.2.1 d1)] at k0
          exact k0
        walk_at "rs"
        refine ite2 (fun d2 => ?_) (fun d2 => ?_) <;> simp only [koSn, decide_eq_true_iff] at d2
        · rw [show abandM n m = false from if_neg (fun z => z.2.2.2.1 d2)] at k0
          exact k0
        walk_at "rs"
        refine ite2 (fun d3 => ?_) (fun d3 => ?_) <;> simp only [koS, decide_eq_true_iff] at d3
        · rw [show abandM n m = false from if_neg (fun z => z.2.2.2.2.1 d3)] at k0
          exact k0
        walk_at "rs"
        refine ite2 (fun d4 => ?_) (fun d4 => ?_) <;> simp only [decide_eq_true_iff] at d4
        · rw [show abandM n m = false from if_neg (fun z => by have := z.2.2.2.2.2; omega)] at k0
          exact k0
        rw [show abandM n m = (match m.l with | none => true | some l => decide (l < n.t)) from if_pos ⟨by assumption, by assumption, d1, d2, d3, by omega⟩] at k0
        walk_at "rs"
        refine ite2 (fun d5 => ?_) (fun d5 => ?_) <;> simp only [koIn, decide_eq_true_iff] at d5
        · rw [d5] at k0
          exact k0
        · cases hnl : m.l with
          | none => exact absurd hnl d5
          | some l =>
            rw [hnl] at k0
            refine ⟨_, rfl, _, _, _, _, rfl, rfl, SqT.of (by assumption), (at4 m (by assumption)).trans (by rw [hnl]), ?_⟩
            walk_at "rs"
            exact k0
      · have cm : m.k = .com := by
          cases e : m.k with
          | prop => exact absurd e c2
          | pre => exact absurd e c5
          | com => rfl
        have cn : n.k = .pre := by
          cases e : n.k with
          | prop => exact absurd e c3
          | pre => rfl
          | com => exact absurd (cm.trans e.symm) c4
        rw [show abandM n m = false from if_neg (fun z => by rw [cn] at z; cases z.1), Bool.or_false] at k0
        walk_at "rs"
        refine ite2 (fun d1 => ?_) (fun d1 => ?_) <;> simp only [koSn, decide_eq_true_iff] at d1
        · rw [show abandM m n = false from if_neg (fun z => z.2.2.1 d1)] at k0
          exact k0
        walk_at "rs"
        refine ite2 (fun d2 => ?_) (fun d2 => ?_) <;> simp only [koSn, decide_eq_true_iff] at d2
        · rw [show abandM m n = false from if_neg (fun z => z.2.2.2.1 d2)] at k0
          exact k0
        walk_at "rs"
        refine ite2 (fun d3 => ?_) (fun d3 => ?_) <;> simp only [koS, decide_eq_true_iff] at d3
        · rw [show abandM m n = false from if_neg (fun z => z.2.2.2.2.1 d3)] at k0
          exact k0
        walk_at "rs"
        refine ite2 (fun d4 => ?_) (fun d4 => ?_) <;> simp only [decide_eq_true_iff] at d4
        · rw [show abandM m n = false from if_neg (fun z => by have := z.2.2.2.2.2; omega)] at k0
          exact k0
        rw [show abandM m n = (match n.l with | none => true | some l => decide (l < m.t)) from if_pos ⟨by assumption, by assumption, d1, d2, d3, by omega⟩] at k0
        walk_at "rs"
        refine ite2 (fun d5 => ?_) (fun d5 => ?_) <;> simp only [koIn, decide_eq_true_iff] at d5
        · rw [d5] at k0
          exact k0
        · cases hnl : n.l with
          | none => exact absurd hnl d5
          | some l =>
            rw [hnl] at k0
            refine ⟨_, rfl, _, _, _, _, rfl, rfl, SqT.of (by assumption), (at4 n (by assumption)).trans (by rw [hnl]), ?_⟩
            walk_at "rs"
            exact k0
theorem ok_law_made (T : Txt K mg a) : ∃ fd, FnOk P w K mg base CX0 2 a.d_law_made fd ["statement"] (spMade K) ∧ Binds K fd ["statement"] [] := by
  obtain ⟨fd, F, b⟩ := T.d_law_made.F
  obtain ⟨fd_prevote, G_prevote, b_prevote⟩ := ok_prevote (P := P) (w := w) (base := base) T
  obtain ⟨fd_proposal, G_proposal, b_proposal⟩ := ok_proposal (P := P) (w := w) (base := base) T
  obtain ⟨fd_precommit, G_precommit, b_precommit⟩ := ok_precommit (P := P) (w := w) (base := base) T
  refine ⟨fd, F.ok sc_law_made (fun vs H Q E h => ?_) (fun cdv A outer s H vs Q E hr h => ?_), b⟩
  · obtain ⟨_, _, rfl, _⟩ := h
    rfl
  · obtain ⟨p, m, rfl, hp, k⟩ := h
    refine ⟨_, (pss_cons (ps_if (pt_cmpR op_eq (pe_ix ix_tup (pv 0) pe_int (fun _ _ => rfl)) pe_str (nomark _))
      (pss_one (ps_ret (pe_call G_proposal (hr.mono (by decide)) rfl T.d_proposal.g T.d_proposal.kp b_proposal .nil pass0 (pa_cons (pe_ix ix_tup (pv 0) pe_int (fun _ _ => rfl)) (pa_cons (pe_ix ix_tup (pv 0) pe_int (fun _ _ => rfl)) (pa_cons (pe_ix ix_tup (pv 0) pe_int (fun _ _ => rfl)) pa_nil))))))
      pss_nil)
      (pss_cons (ps_if (pt_cmpR op_eq (pe_ix ix_tup (pv 0) pe_int (fun _ _ => rfl)) pe_str (nomark _))
      (pss_one (ps_ret (pe_call G_precommit (hr.mono (by decide)) rfl T.d_precommit.g T.d_precommit.kp b_precommit .nil pass0 (pa_cons (pe_ix ix_tup (pv 0) pe_int (fun _ _ => rfl)) (pa_cons (pe_ix ix_tup (pv 0) pe_int (fun _ _ => rfl)) (pa_cons (pe_ix ix_tup (pv 0) pe_int (fun _ _ => rfl)) pa_nil))))))
      pss_nil)
      (pss_one (ps_ret (pe_call G_prevote (hr.mono (by decide)) rfl T.d_prevote.g T.d_prevote.kp b_prevote .nil pass0 (pa_cons (pe_ix ix_tup (pv 0) pe_int (fun _ _ => rfl)) (pa_cons (pe_ix ix_tup (pv 0) pe_int (fun _ _ => rfl)) (pa_cons (pe_ix ix_tup (pv 0) pe_int (fun _ _ => rfl)) (pa_cons (pe_ix ix_tup (pv 0) pe_int (fun _ _ => rfl)) pa_nil))))))))), ?_⟩
    walk_at "rs"
    refine ite2 (fun c1 => ?_) (fun c1 => ?_) <;> simp only [kprop, decide_eq_true_iff] at c1
    · walk_at "rs"
      refine ⟨m.h, m.t, m.b, rfl, fun q H' s1 hq => k q H' s1 ?_⟩
      obtain ⟨mk, mh, mt, mb, ml⟩ := m
      cases c1
      exact hq
    walk_at "rs"
    refine ite2 (fun c2 => ?_) (fun c2 => ?_) <;> simp only [kcom, decide_eq_true_iff] at c2
    · walk_at "rs"
      refine ⟨m.h, m.t, m.b, rfl, fun q H' s1 hq => k q H' s1 ?_⟩
      obtain ⟨mk, mh, mt, mb, ml⟩ := m
      cases c2
      exact hq
    have c3 : m.k = .pre := by
      cases e : m.k with
      | prop => exact absurd e c1
      | pre => rfl
      | com => exact absurd e c2
    walk_at "rs"
    refine ⟨m.h, m.t, m.b, m.l, rfl, fun q H' s1 hq => k q H' s1 ?_⟩
    obtain ⟨mk, mh, mt, mb, ml⟩ := m
    cases c3
    exact hq
theorem okA : OkS (some "a") := fun x e => by
  cases e
  decide +kernel
theorem okB : OkS (some "b") := fun x e => by
  cases e
  decide +kernel
theorem okN : OkS none := fun x e => nomatch e
theorem pick5 {i : Int} (h0 : 0 ≤ i) (h5 : i < 5) : ∃ b : Option Str, atI [V.str "a", V.str "b", V.str "a", V.str "b", V.non] i = some (oS b) ∧ OkS b := by
  have h : i = 0 ∨ i = 1 ∨ i = 2 ∨ i = 3 ∨ i = 4 := by omega
  rcases h with rfl | rfl | rfl | rfl | rfl
  · exact ⟨some "a", rfl, okA⟩
  · exact ⟨some "b", rfl, okB⟩
  · exact ⟨some "a", rfl, okA⟩
  · exact ⟨some "b", rfl, okB⟩
  · exact ⟨none, rfl, okN⟩
theorem ok_law_drawn (T : Txt K mg a) : ∃ fd, FnOk P w K mg base CX0 1 a.d_law_drawn fd ["cell"] (spDrawn K) ∧ Binds K fd ["cell"] [] := by
  obtain ⟨fd, F, b⟩ := T.d_law_drawn.F
  refine ⟨fd, F.ok sc_law_drawn (fun vs H Q E h => ?_) (fun cdv A outer s H vs Q E hr h => ?_), b⟩
  · obtain ⟨_, rfl, _⟩ := h
    rfl
  · obtain ⟨c, rfl, k⟩ := h
    refine ⟨_, (pss_cons (ps_set (i := 1) sc_law_drawn.nd rfl (Or.inl rfl) (pe_op op_fdiv (pe_op op_mod (pe_callTy call_int1 (by rfl) T.n_int (by decide +kernel) (pa_cons (pv 0) pa_nil)) pe_int) pe_int))
      (pss_cons (ps_set (i := 2) sc_law_drawn.nd rfl (Or.inl rfl) (pe_ix ix_tup (pe_tup (pa_cons pe_str (pa_cons pe_str (pa_cons pe_str (pa_cons pe_str (pa_cons pe_non pa_nil)))))) (pe_op op_mod (pe_op op_fdiv (pv 0) pe_int) pe_int) (fun _ _ => rfl)))
      (pss_cons (ps_set (i := 3) sc_law_drawn.nd rfl (Or.inl rfl) (pe_op op_mod (pe_op op_fdiv (pv 0) pe_int) pe_int))
      (pss_cons (ps_set (i := 4) sc_law_drawn.nd rfl (Or.inl rfl) (pe_op op_mod (pe_op op_fdiv (pv 0) pe_int) pe_int))
      (pss_cons (ps_if (pt_cmpR op_eq (pv 4) pe_int (nomark _))
      (pss_cons (ps_if (pt_cmpR op_isN (pv 2) pe_non (nomark _))
        (pss_one (ps_set (i := 2) sc_law_drawn.nd rfl (Or.inl rfl) pe_str))
        pss_nil)
        (pss_one (ps_ret (pe_tup (pa_cons pe_str (pa_cons (pv 1) (pa_cons (pv 3) (pa_cons (pv 2) pa_nil))))))))
      pss_nil)
      (pss_cons (ps_if (pt_cmpR op_lt (pv 4) pe_int (nomark _))
      (pss_one (ps_ret (pe_tup (pa_cons pe_str (pa_cons (pv 1) (pa_cons (pv 3) (pa_cons (pv 2) pa_nil)))))))
      pss_nil)
      (pss_cons (ps_set (i := 5) sc_law_drawn.nd rfl (Or.inl rfl) pe_non)
      (pss_cons (ps_if (PW.pt (pw_and (pt_cmpR op_gt (pv 3) pe_int (nomark _)) (pw_and1 (pt_cmpR op_eq (pe_op op_mod (pe_op op_fdiv (pv 0) pe_int) pe_int) pe_int (nomark _)))))
      (pss_one (ps_set (i := 5) sc_law_drawn.nd rfl (Or.inl rfl) (pe_op op_mod (pe_op op_fdiv (pv 0) pe_int) (pv 3))))
      pss_nil)
      (pss_one (ps_ret (pe_tup (pa_cons pe_str (pa_cons (pv 1) (pa_cons (pv 3) (pa_cons (pv 2) (pa_cons (pv 5) pa_nil)))))))))))))))), ?_⟩
    walk_at "rs"
    refine ⟨(by show 5 ≤ sizeLine; decide), fun p1 hp1 => ?_⟩
    obtain ⟨b1, hb1, ob1⟩ := pick5 (i := c / 7 % 5) (Int.emod_nonneg _ (by decide)) (Int.emod_lt_of_pos _ (by decide))
    have s1 : Same H (upd H p1 (.tup [V.str "a", V.str "b", V.str "a", V.str "b", V.non])) := same_new hp1
    walk_at "rs"
    refine ⟨p1, _, _, _, rfl, rfl, SqT.of upd_same, hb1, ?_⟩
    walk_at "rs"
    refine ite2 (fun c1 => ?_) (fun c1 => ?_)
    · walk_at "rs"
      refine ite2 (fun c2 => ?_) (fun c2 => ?_)
      · walk_at "rs"
        refine ⟨(by show 4 ≤ sizeLine; decide), fun q hq => ?_⟩
        exact k q ⟨.prop, _, _, some "a", none⟩ _ (s1.trans (same_new hq)) upd_same okA
      · walk_at "rs"
        refine ⟨(by show 4 ≤ sizeLine; decide), fun q hq => ?_⟩
        exact k q ⟨.prop, _, _, b1, none⟩ _ (s1.trans (same_new hq)) upd_same ob1
    walk_at "rs"
    refine ite2 (fun c2 => ?_) (fun c2 => ?_)
    · walk_at "rs"
      refine ⟨(by show 4 ≤ sizeLine; decide), fun q hq => ?_⟩
      exact k q ⟨.com, _, _, b1, none⟩ _ (s1.trans (same_new hq)) upd_same ob1
    walk_at "rs"
    refine ite2 (fun c3 => ?_) (fun c3 => ?_)
    · have c3' := of_decide_eq_true c3
      walk_at "rs"
      refine ite2 (fun c4 => ?_) (fun c4 => ?_)
      · walk_at "rs"
        refine ⟨(by show 5 ≤ sizeLine; decide), fun q hq => ?_⟩
        exact k q ⟨.pre, _, _, b1, some _⟩ _ (s1.trans (same_new hq)) upd_same ob1
      · walk_at "rs"
        refine ⟨(by show 5 ≤ sizeLine; decide), fun q hq => ?_⟩
        exact k q ⟨.pre, _, _, b1, none⟩ _ (s1.trans (same_new hq)) upd_same ob1
    · walk_at "rs"
      refine ⟨(by show 5 ≤ sizeLine; decide), fun q hq => ?_⟩
      exact k q ⟨.pre, _, _, b1, none⟩ _ (s1.trans (same_new hq)) upd_same ob1
/-! ### the law -/
def Sm.dat (m : Sm) : List PyData := match m.k with
  | .pre => [.str m.k.s, .int m.h, .int m.t, (match m.b with | none => .none | some x => .str x), (match m.l with | none => .none | some x => .int x)]
  | _ => [.str m.k.s, .int m.h, .int m.t, (match m.b with | none => .none | some x => .str x)]
theorem dp_oS {H : Hp} (b : Option Str) : Dp K H (oS b) (match b with | none => .none | some x => .str x) := by
  cases b with
  | none => exact .non
  | some x => exact .str x
theorem dp_oI {H : Hp} (b : Option Int) : Dp K H (oI b) (match b with | none => .none | some x => .int x) := by
  cases b with
  | none => exact .non
  | some x => exact .int x
theorem dp_sm {H : Hp} {p : Addr} {m : Sm} (h : H p = some (.tup m.vals)) : Dp K H (.ref p) (.tuple m.dat) := by
  refine .tup (SqT.of h) ?_
  obtain ⟨mk, mh, mt, mb, ml⟩ := m
  cases mk
  · exact .cons (.str _) (.cons (.int _) (.cons (.int _) (.cons (dp_oS _) .nil)))
  · exact .cons (.str _) (.cons (.int _) (.cons (.int _) (.cons (dp_oS _) (.cons (dp_oI _) .nil))))
  · exact .cons (.str _) (.cons (.int _) (.cons (.int _) (.cons (dp_oS _) .nil)))
theorem ks_ok (k : Kd) : PyData.strOk k.s = true := by
  cases k <;> decide +kernel
theorem shaped_sm (m : Sm) (o : OkS m.b) : SeqAt.shaped (.tuple m.dat) = true := by
  obtain ⟨mk, mh, mt, mb, ml⟩ := m
  cases mk <;> cases mb <;> cases ml <;> simp [Sm.dat, SeqAt.shaped, PyData.canLay0, PyData.canLayAll0, PyData.depth, PyData.depthAll, ks_ok] <;> exact o _ rfl
theorem eqv_sm (m : Sm) (o : OkS m.b) : PyData.eqv (.tuple m.dat) (.tuple m.dat) = true := SeqAt.eqv_refl _ (by
  obtain ⟨mk, mh, mt, mb, ml⟩ := m
  cases mk <;> cases mb <;> cases ml <;> simp [Sm.dat, PyData.canLay0, PyData.canLayAll0, ks_ok] <;> exact o _ rfl)
theorem ok_law {f : Addr} {fd : FuncData} (F : Fun K "law" "law" s_law f fd) (T : Txt K mg a) : FnOk P w K mg base CX0 3 f fd ["script"] (spLaw K) := by
  obtain ⟨fd_law_drawn, G_law_drawn, b_law_drawn⟩ := ok_law_drawn (P := P) (w := w) (base := base) T
  obtain ⟨fd_law_cell, G_law_cell, b_law_cell⟩ := ok_law_cell (P := P) (w := w) (base := base) T
  obtain ⟨fd_clash, G_clash, b_clash⟩ := ok_clash (P := P) (w := w) (base := base) T
  obtain ⟨fd_law_made, G_law_made, b_law_made⟩ := ok_law_made (P := P) (w := w) (base := base) T
  obtain ⟨fd_is_vote, G_is_vote, b_is_vote⟩ := ok_is_vote (P := P) (w := w) (base := base) T
  obtain ⟨fd_law_clash, G_law_clash, b_law_clash⟩ := ok_law_clash (P := P) (w := w) (base := base) T
  refine F.ok sc_law (fun vs H Q E h => ?_) (fun cdv A outer s H vs Q E hr h => ?_)
  · obtain ⟨_, _, rfl, _⟩ := h
    rfl
  · obtain ⟨l, ns, rfl, hS, hl, k⟩ := h
    refine ⟨_, (pss_cons (ps_for PassesOwn.never rfl (pi_range1 rfl T.n_range (pa_cons (pe_op op_fdiv (pe_op op_add (pe_callB call_len_seq (by rfl) T.n_len PySem.boot_len (pa_cons (pv 0) pa_nil)) pe_int) pe_int) pa_nil)) (pg_name (i := 1) sc_law.nd rfl (Or.inl rfl))
      (pss_cons (ps_set (i := 2) sc_law.nd rfl (Or.inl rfl) (pe_call G_law_drawn (hr.mono (by decide)) rfl T.d_law_drawn.g T.d_law_drawn.kp b_law_drawn .nil pass0 (pa_cons (pe_call G_law_cell (hr.mono (by decide)) rfl T.d_law_cell.g T.d_law_cell.kp b_law_cell .nil pass0 (pa_cons (pv 0) (pa_cons (pe_op op_mul pe_int (pv 1)) pa_nil))) pa_nil)))
        (pss_cons (ps_set (i := 3) sc_law.nd rfl (Or.inl rfl) (pe_call G_law_drawn (hr.mono (by decide)) rfl T.d_law_drawn.g T.d_law_drawn.kp b_law_drawn .nil pass0 (pa_cons (pe_call G_law_cell (hr.mono (by decide)) rfl T.d_law_cell.g T.d_law_cell.kp b_law_cell .nil pass0 (pa_cons (pv 0) (pa_cons (pe_op op_add (pe_op op_mul pe_int (pv 1)) pe_int) pa_nil))) pa_nil)))
        (pss_cons (ps_if (PW.pt (pw_or (pt_cmpR (op_neD hr.units) (pe_call G_law_made (hr.mono (by decide)) rfl T.d_law_made.g T.d_law_made.kp b_law_made .nil pass0 (pa_cons (pv 2) pa_nil)) (pv 2) (nomark _)) (pw_or1 (pt_not (pt_val (pe_callB call_isi (by rfl) T.n_isinstance (by decide +kernel) (pa_cons (pe_call G_law_made (hr.mono (by decide)) rfl T.d_law_made.g T.d_law_made.kp b_law_made .nil pass0 (pa_cons (pv 2) pa_nil)) (pa_cons (pe_bltn (v := .ty "tuple") (u := .type "tuple") (by rfl) T.n_tuple (by decide +kernel) rfl) pa_nil))))))))
        (pss_one (ps_ret pe_bl))
        pss_nil)
        (C8.pss_cut (ps_if (PW.pt (pw_or (PW.pt (pw_and (pt_cmpR op_isnot_bl (pe_call G_is_vote (hr.mono (by decide)) rfl T.d_is_vote.g T.d_is_vote.kp b_is_vote .nil pass0 (pa_cons (pv 2) pa_nil)) pe_bl (nomark _)) (pw_and1 (pt_cmpR op_ne (pe_ix ix_tup (pv 2) pe_int (fun _ _ => rfl)) pe_str (nomark _))))) (pw_or1 (PW.pt (pw_and (pt_cmpR op_isnot_bl (pe_call G_is_vote (hr.mono (by decide)) rfl T.d_is_vote.g T.d_is_vote.kp b_is_vote .nil pass0 (pa_cons (pv 2) pa_nil)) pe_bl (nomark _)) (pw_and1 (pt_cmpR op_eq (pe_ix ix_tup (pv 2) pe_int (fun _ _ => rfl)) pe_str (nomark _))))))))
        (pss_one (ps_ret pe_bl))
        pss_nil)
        (pss_one (ps_for PassesOwn.never rfl (pi_tup (pe_tup (pa_cons (pe_tup (pa_cons (pv 2) (pa_cons (pv 3) pa_nil))) (pa_cons (pe_tup (pa_cons (pv 3) (pa_cons (pv 2) pa_nil))) pa_nil)))) (pg_name (i := 4) sc_law.nd rfl (Or.inl rfl))
        (pss_cons (ps_set (i := 5) sc_law.nd rfl (Or.inl rfl) (pe_call G_clash (hr.mono (by decide)) rfl T.d_clash.g T.d_clash.kp b_clash .nil pass0 (pa_cons (pe_ix ix_tup (pv 4) pe_int (fun _ _ => rfl)) (pa_cons (pe_ix ix_tup (pv 4) pe_int (fun _ _ => rfl)) pa_nil))))
          (pss_one (ps_if (PW.pt (pw_or (pt_not (pt_val (pe_callB call_isi (by rfl) T.n_isinstance (by decide +kernel) (pa_cons (pv 5) (pa_cons (pe_bltn (v := .ty "bool") (u := .type "bool") (by rfl) T.n_bool (by decide +kernel) rfl) pa_nil))))) (pw_or1 (pt_cmpR op_ne (pv 5) (pe_call G_law_clash (hr.mono (by decide)) rfl T.d_law_clash.g T.d_law_clash.kp b_law_clash .nil pass0 (pa_cons (pv 2) (pa_cons (pv 3) pa_nil))) (nomark _)))))
          (pss_one (ps_ret pe_bl))
          pss_nil))))))))))
      (pss_one (ps_ret pe_bl))), ?_⟩
    walk_at "rs"
    refine ⟨l, _, rfl, .inl hS, ?_⟩
    walk_at "rs"
    have hN : ((ns.map V.int).length : Int) = ns.length := by rw [List.length_map]
    refine ⟨(by show -(2 ^ 62 : Int) ≤ _; omega), (by show _ < (2 ^ 62 : Int); omega), ?_⟩
    refine for_range (lo := 0) (n := ((((ns.map V.int).length : Int) + 1) / 2).toNat) (fun i σ H2 => ∃ v1 v2 v3 v4 v5 : Option V, σ = [some (.ref l), v1, v2, v3, v4, v5] ∧ Same H H2) ⟨_, _, _, _, _, rfl, Same.refl H⟩ ?_ ?_
    · rintro i σ H2 hi ⟨v1, v2, v3, v4, v5, rfl, s0⟩
      walk_at "rs"
      refine ⟨l, ns, _, rfl, s0.seq hS, hl, by omega, ?_⟩
      refine ⟨_, rfl, fun p m H3 s1 hp om => ?_⟩
      walk_at "rs"
      have s01 : Same H H3 := s0.trans s1
      refine ⟨l, ns, _, rfl, s01.seq hS, hl, by omega, ?_⟩
      refine ⟨_, rfl, fun q n H4 s2 hq on => ?_⟩
      have hp4 : SmAt H4 p m := s2 _ _ hp
      have s02 : Same H H4 := s01.trans s2
      walk_at "rs"
      -- _law_made(one) != one
      refine ⟨p, m, rfl, hp4, fun q1 H5 s3 hq1 => ?_⟩
      have hp5 : SmAt H5 p m := s3 _ _ hp4
      walk_at "rs"
      refine ⟨_, _, dp_sm hq1, dp_sm hp5, shaped_sm m om, shaped_sm m om, ?_⟩
      rw [eqv_sm m om]
      walk_at "rs"
      refine ⟨p, m, rfl, hp5, fun q2 H6 s4 hq2 => ?_⟩
      walk_at "rs"
      refine ⟨_, _, .type "tuple", .type "tuple", true, rfl, .ty _, .base (.tup hq2), kit_ty (by decide +kernel), ?_⟩
      walk_at "rs"
      refine iteF ?_
      have s06 : Same H4 H6 := s3.trans s4
      have hp6 : SmAt H6 p m := s06 _ _ hp4
      have hq6 : SmAt H6 q n := s06 _ _ hq
      refine ⟨fun σ' H' => σ' = [some (V.ref l), some (V.int (0 + (i : Int))), some (V.ref p), some (V.ref q), v4, v5] ∧ Same H6 H', ?_, ?_⟩
      · walk_at "rs"
        refine ⟨p, m, rfl, hp6, fun H7 s5 => ?_⟩
        have hp7 : SmAt H7 p m := s5 _ _ hp6
        walk_at "rs"
        refine ite2 (fun c1 => ?_) (fun c1 => ?_)
        · walk_at "rs"
          refine ite2 (fun c2 => ?_) (fun c2 => ?_)
          · exfalso
            simp only [kprop, Bool.not_eq_true', decide_eq_false_iff_not, decide_eq_true_iff, Decidable.not_not, Bool.not_eq_true, ne_eq] at c1 c2
            exact c2 (by simpa using c1)
          · walk_at "rs"
            refine ⟨p, m, rfl, hp7, fun H8 s6 => ?_⟩
            have hp8 : SmAt H8 p m := s6 _ _ hp7
            walk_at "rs"
            refine ite2 (fun c3 => ?_) (fun c3 => ?_)
            · exfalso
              simp at c1 c3
              exact c3 c1
            · exact ⟨rfl, s5.trans s6⟩
        · walk_at "rs"
          refine ⟨p, m, rfl, hp7, fun H8 s6 => ?_⟩
          have hp8 : SmAt H8 p m := s6 _ _ hp7
          walk_at "rs"
          refine ite2 (fun c3 => ?_) (fun c3 => ?_)
          · walk_at "rs"
            refine ite2 (fun c2 => ?_) (fun c2 => ?_)
            · exfalso
              simp only [kprop, decide_eq_true_iff] at c2
              simp [c2] at c1
            · exact ⟨rfl, s5.trans s6⟩
          · exact ⟨rfl, s5.trans s6⟩
      · rintro σ' H7 ⟨rfl, s5⟩
        have hp7 : SmAt H7 p m := s5 _ _ hp6
        have hq7 : SmAt H7 q n := s5 _ _ hq6
        walk_at "rs"
        refine ⟨(by show 2 ≤ sizeLine; decide), fun t1 ht1 => ?_⟩
        walk_at "rs"
        refine ⟨(by show 2 ≤ sizeLine; decide), fun t2 ht2 => ?_⟩
        refine ⟨(by show 2 ≤ sizeLine; decide), fun t3 ht3 => ?_⟩
        walk_at "rs"
        have s8 : Same H7 (upd (upd (upd H7 t1 (.tup [V.ref p, V.ref q])) t2 (.tup [V.ref q, V.ref p])) t3 (.tup [V.ref t1, V.ref t2])) := ((same_new ht1).trans (same_new ht2)).trans (same_new ht3)
        refine ⟨⟨_, SqT.of upd_same⟩, ?_⟩
        have e1 : (upd (upd (upd H7 t1 (.tup [V.ref p, V.ref q])) t2 (.tup [V.ref q, V.ref p])) t3 (.tup [V.ref t1, V.ref t2])) t1 = some (.tup [V.ref p, V.ref q]) := (same_new ht3) _ _ ((same_new ht2) _ _ upd_same)
        have e2 : (upd (upd (upd H7 t1 (.tup [V.ref p, V.ref q])) t2 (.tup [V.ref q, V.ref p])) t3 (.tup [V.ref t1, V.ref t2])) t2 = some (.tup [V.ref q, V.ref p]) := (same_new ht3) _ _ upd_same
        have e3 : (upd (upd (upd H7 t1 (.tup [V.ref p, V.ref q])) t2 (.tup [V.ref q, V.ref p])) t3 (.tup [V.ref t1, V.ref t2])) t3 = some (.tup [V.ref t1, V.ref t2]) := upd_same
        generalize upd (upd (upd H7 t1 (.tup [V.ref p, V.ref q])) t2 (.tup [V.ref q, V.ref p])) t3 (.tup [V.ref t1, V.ref t2]) = H8 at s8 e1 e2 e3
        refine for_tup (K := K) (a := t3) (xs := [V.ref t1, V.ref t2]) (fun _ σ' H' => ∃ v4 v5 : Option V, σ' = [some (V.ref l), some (V.int (0 + (i : Int))), some (V.ref p), some (V.ref q), v4, v5] ∧ Same H8 H') ⟨_, _, rfl, Same.refl H8⟩ (fun _ _ _ _ ⟨_, _, _, sx⟩ => SqT.of (sx _ _ e3)) ?_ ?_
        · rintro j x σ H9 hx ⟨w4, w5, rfl, s9⟩
          obtain ⟨t, y, z, my, mz, rfl, ht, hy, hz, hc⟩ : ∃ (t y z : Addr) (my mz : Sm), x = V.ref t ∧ H9 t = some (.tup [V.ref y, V.ref z]) ∧ SmAt H9 y my ∧ SmAt H9 z mz ∧ clashM my mz = clashM m n := by
            match j, hx with
            | 0, hx =>
              cases hx
              exact ⟨t1, p, q, m, n, rfl, s9 _ _ e1, s9 _ _ (s8 _ _ hp7), s9 _ _ (s8 _ _ hq7), rfl⟩
            | 1, hx =>
              cases hx
              exact ⟨t2, q, p, n, m, rfl, s9 _ _ e2, s9 _ _ (s8 _ _ hq7), s9 _ _ (s8 _ _ hp7), clashM_comm _ _⟩
            | j + 2, hx => simp at hx
          have hp9 : SmAt H9 p m := s9 _ _ (s8 _ _ hp7)
          have hq9 : SmAt H9 q n := s9 _ _ (s8 _ _ hq7)
          walk_at "rs"
          refine ⟨_, _, _, _, rfl, rfl, SqT.of ht, rfl, ?_⟩
          walk_at "rs"
          refine ⟨_, _, _, _, rfl, rfl, SqT.of ht, rfl, ?_⟩
          walk_at "rs"
          refine ⟨y, z, my, mz, rfl, hy, hz, fun H10 s10 => ?_⟩
          rw [hc]
          walk_at "rs"
          refine ⟨_, _, .type "bool", .type "bool", true, rfl, .ty _, .base (.bl _), kit_ty (by decide +kernel), ?_⟩
          walk_at "rs"
          refine ⟨p, q, m, n, rfl, s10 _ _ hp9, s10 _ _ hq9, fun H11 s11 => ?_⟩
          walk_at "rs"
          refine ite2 (fun c1 => ?_) (fun c1 => ?_)
          · exfalso
            simp at c1
          · exact ⟨_, _, rfl, (s9.trans s10).trans s11⟩
        · rintro σ H9 ⟨w4, w5, rfl, s9⟩
          exact ⟨_, _, _, _, _, rfl, (((s02.trans s06).trans s5).trans s8).trans s9⟩
    · rintro σ H2 ⟨v1, v2, v3, v4, v5, rfl, s0⟩
      exact k _
end

theorem all_mk {l : PySem.W.OpenLaw} {w : World} {K : PySem.W.Frag} {h : Heap} {mg : Str → Option Value} {fa : Addr} (X : K.In h) (G : h.Ns mainGlobals mg) (hfa : mg "law" = some (.ref fa))
    {t_KIND : Tok} {t_HEIGHT : Tok} {t_TURN : Tok} {t_BLOCK : Tok} {t_LEAN : Tok} {f_law_cell : Addr} {od_law_cell an_law_cell : Option Addr} {sl_law_cell : Array (Option Value)} {oc_law_cell kV_law_cell dc_law_cell pm_law_cell cd_law_cell ct_law_cell : Value} {f_proposal : Addr} {od_proposal an_proposal : Option Addr} {sl_proposal : Array (Option Value)} {oc_proposal kV_proposal dc_proposal pm_proposal cd_proposal ct_proposal : Value} {f_prevote : Addr} {od_prevote an_prevote : Option Addr} {sl_prevote : Array (Option Value)} {oc_prevote kV_prevote dc_prevote pm_prevote cd_prevote ct_prevote : Value} {f_precommit : Addr} {od_precommit an_precommit : Option Addr} {sl_precommit : Array (Option Value)} {oc_precommit kV_precommit dc_precommit pm_precommit cd_precommit ct_precommit : Value} {f_is_vote : Addr} {od_is_vote an_is_vote : Option Addr} {sl_is_vote : Array (Option Value)} {oc_is_vote kV_is_vote dc_is_vote pm_is_vote cd_is_vote ct_is_vote : Value} {f_abandons : Addr} {od_abandons an_abandons : Option Addr} {sl_abandons : Array (Option Value)} {oc_abandons kV_abandons dc_abandons pm_abandons cd_abandons ct_abandons : Value} {f_clash : Addr} {od_clash an_clash : Option Addr} {sl_clash : Array (Option Value)} {oc_clash kV_clash dc_clash pm_clash cd_clash ct_clash : Value} {f_law_clash : Addr} {od_law_clash an_law_clash : Option Addr} {sl_law_clash : Array (Option Value)} {oc_law_clash kV_law_clash dc_law_clash pm_law_clash cd_law_clash ct_law_clash : Value} {f_law_drawn : Addr} {od_law_drawn an_law_drawn : Option Addr} {sl_law_drawn : Array (Option Value)} {oc_law_drawn kV_law_drawn dc_law_drawn pm_law_drawn cd_law_drawn ct_law_drawn : Value} {f_law_made : Addr} {od_law_made an_law_made : Option Addr} {sl_law_made : Array (Option Value)} {oc_law_made kV_law_made dc_law_made pm_law_made cd_law_made ct_law_made : Value} {f_law : Addr} {od_law an_law : Option Addr} {sl_law : Array (Option Value)} {oc_law kV_law dc_law pm_law cd_law ct_law : Value}
    (c_KIND : PySem.W.nsIn K mainGlobals "KIND" = some (some (.int 0 t_KIND)))
    (c_HEIGHT : PySem.W.nsIn K mainGlobals "HEIGHT" = some (some (.int 1 t_HEIGHT)))
    (c_TURN : PySem.W.nsIn K mainGlobals "TURN" = some (some (.int 2 t_TURN)))
    (c_BLOCK : PySem.W.nsIn K mainGlobals "BLOCK" = some (some (.int 3 t_BLOCK)))
    (c_LEAN : PySem.W.nsIn K mainGlobals "LEAN" = some (some (.int 4 t_LEAN)))
    (n_len : PySem.W.nsIn K mainGlobals "len" = some none)
    (n_range : PySem.W.nsIn K mainGlobals "range" = some none)
    (n_isinstance : PySem.W.nsIn K mainGlobals "isinstance" = some none)
    (n_int : PySem.W.nsIn K mainGlobals "int" = some none)
    (n_bool : PySem.W.nsIn K mainGlobals "bool" = some none)
    (n_tuple : PySem.W.nsIn K mainGlobals "tuple" = some none)
    (a_law_cell : PySem.W.nsIn K mainGlobals "_law_cell" = some (some (.ref f_law_cell)))
    (l_law_cell : K.lookup f_law_cell = some ⟨oc_law_cell, od_law_cell, .func (PySem.W.fnOf "_law_cell" "_law_cell" (defArgs s_law_cell) (defBody s_law_cell) (defScope s_law_cell) .none kV_law_cell dc_law_cell pm_law_cell an_law_cell cd_law_cell ct_law_cell), sl_law_cell⟩)
    (q_law_cell : PySem.W.codeIn K cd_law_cell "_law_cell" = true)
    (k_law_cell : PySem.W.keepIn K (.ref f_law_cell) = true)
    (a_proposal : PySem.W.nsIn K mainGlobals "proposal" = some (some (.ref f_proposal)))
    (l_proposal : K.lookup f_proposal = some ⟨oc_proposal, od_proposal, .func (PySem.W.fnOf "proposal" "proposal" (defArgs s_proposal) (defBody s_proposal) (defScope s_proposal) .none kV_proposal dc_proposal pm_proposal an_proposal cd_proposal ct_proposal), sl_proposal⟩)
    (q_proposal : PySem.W.codeIn K cd_proposal "proposal" = true)
    (k_proposal : PySem.W.keepIn K (.ref f_proposal) = true)
    (a_prevote : PySem.W.nsIn K mainGlobals "prevote" = some (some (.ref f_prevote)))
    (l_prevote : K.lookup f_prevote = some ⟨oc_prevote, od_prevote, .func (PySem.W.fnOf "prevote" "prevote" (defArgs s_prevote) (defBody s_prevote) (defScope s_prevote) .none kV_prevote dc_prevote pm_prevote an_prevote cd_prevote ct_prevote), sl_prevote⟩)
    (q_prevote : PySem.W.codeIn K cd_prevote "prevote" = true)
    (k_prevote : PySem.W.keepIn K (.ref f_prevote) = true)
    (a_precommit : PySem.W.nsIn K mainGlobals "precommit" = some (some (.ref f_precommit)))
    (l_precommit : K.lookup f_precommit = some ⟨oc_precommit, od_precommit, .func (PySem.W.fnOf "precommit" "precommit" (defArgs s_precommit) (defBody s_precommit) (defScope s_precommit) .none kV_precommit dc_precommit pm_precommit an_precommit cd_precommit ct_precommit), sl_precommit⟩)
    (q_precommit : PySem.W.codeIn K cd_precommit "precommit" = true)
    (k_precommit : PySem.W.keepIn K (.ref f_precommit) = true)
    (a_is_vote : PySem.W.nsIn K mainGlobals "is_vote" = some (some (.ref f_is_vote)))
    (l_is_vote : K.lookup f_is_vote = some ⟨oc_is_vote, od_is_vote, .func (PySem.W.fnOf "is_vote" "is_vote" (defArgs s_is_vote) (defBody s_is_vote) (defScope s_is_vote) .none kV_is_vote dc_is_vote pm_is_vote an_is_vote cd_is_vote ct_is_vote), sl_is_vote⟩)
    (q_is_vote : PySem.W.codeIn K cd_is_vote "is_vote" = true)
    (k_is_vote : PySem.W.keepIn K (.ref f_is_vote) = true)
    (a_abandons : PySem.W.nsIn K mainGlobals "_abandons" = some (some (.ref f_abandons)))
    (l_abandons : K.lookup f_abandons = some ⟨oc_abandons, od_abandons, .func (PySem.W.fnOf "_abandons" "_abandons" (defArgs s_abandons) (defBody s_abandons) (defScope s_abandons) .none kV_abandons dc_abandons pm_abandons an_abandons cd_abandons ct_abandons), sl_abandons⟩)
    (q_abandons : PySem.W.codeIn K cd_abandons "_abandons" = true)
    (k_abandons : PySem.W.keepIn K (.ref f_abandons) = true)
    (a_clash : PySem.W.nsIn K mainGlobals "clash" = some (some (.ref f_clash)))
    (l_clash : K.lookup f_clash = some ⟨oc_clash, od_clash, .func (PySem.W.fnOf "clash" "clash" (defArgs s_clash) (defBody s_clash) (defScope s_clash) .none kV_clash dc_clash pm_clash an_clash cd_clash ct_clash), sl_clash⟩)
    (q_clash : PySem.W.codeIn K cd_clash "clash" = true)
    (k_clash : PySem.W.keepIn K (.ref f_clash) = true)
    (a_law_clash : PySem.W.nsIn K mainGlobals "_law_clash" = some (some (.ref f_law_clash)))
    (l_law_clash : K.lookup f_law_clash = some ⟨oc_law_clash, od_law_clash, .func (PySem.W.fnOf "_law_clash" "_law_clash" (defArgs s_law_clash) (defBody s_law_clash) (defScope s_law_clash) .none kV_law_clash dc_law_clash pm_law_clash an_law_clash cd_law_clash ct_law_clash), sl_law_clash⟩)
    (q_law_clash : PySem.W.codeIn K cd_law_clash "_law_clash" = true)
    (k_law_clash : PySem.W.keepIn K (.ref f_law_clash) = true)
    (a_law_drawn : PySem.W.nsIn K mainGlobals "_law_drawn" = some (some (.ref f_law_drawn)))
    (l_law_drawn : K.lookup f_law_drawn = some ⟨oc_law_drawn, od_law_drawn, .func (PySem.W.fnOf "_law_drawn" "_law_drawn" (defArgs s_law_drawn) (defBody s_law_drawn) (defScope s_law_drawn) .none kV_law_drawn dc_law_drawn pm_law_drawn an_law_drawn cd_law_drawn ct_law_drawn), sl_law_drawn⟩)
    (q_law_drawn : PySem.W.codeIn K cd_law_drawn "_law_drawn" = true)
    (k_law_drawn : PySem.W.keepIn K (.ref f_law_drawn) = true)
    (a_law_made : PySem.W.nsIn K mainGlobals "_law_made" = some (some (.ref f_law_made)))
    (l_law_made : K.lookup f_law_made = some ⟨oc_law_made, od_law_made, .func (PySem.W.fnOf "_law_made" "_law_made" (defArgs s_law_made) (defBody s_law_made) (defScope s_law_made) .none kV_law_made dc_law_made pm_law_made an_law_made cd_law_made ct_law_made), sl_law_made⟩)
    (q_law_made : PySem.W.codeIn K cd_law_made "_law_made" = true)
    (k_law_made : PySem.W.keepIn K (.ref f_law_made) = true)
    (a_law : PySem.W.nsIn K mainGlobals "law" = some (some (.ref f_law)))
    (l_law : K.lookup f_law = some ⟨oc_law, od_law, .func (PySem.W.fnOf "law" "law" (defArgs s_law) (defBody s_law) (defScope s_law) .none kV_law dc_law pm_law an_law cd_law ct_law), sl_law⟩)
    (q_law : PySem.W.codeIn K cd_law "law" = true)
    (k_law : PySem.W.keepIn K (.ref f_law) = true) :
    ∃ fd : FuncData, (∀ (s : Shared) (v : Value), BindsTo s fd ⟨[v], []⟩ [("script", v)]) ∧ ∀ base : Heap, K.In base → base.Ns mainGlobals mg → FnOk l.prog w K mg base CX0 3 fa fd ["script"] (spLaw K) := by
  have e := hfa.symm.trans (PySem.W.mg_of X G a_law)
  cases e
  have T : Txt K mg ⟨f_law_cell, f_proposal, f_prevote, f_precommit, f_is_vote, f_abandons, f_clash, f_law_clash, f_law_drawn, f_law_made⟩ := {
    n_len := mg_no X G n_len
    n_range := mg_no X G n_range
    n_isinstance := mg_no X G n_isinstance
    n_int := mg_no X G n_int
    n_bool := mg_no X G n_bool
    n_tuple := mg_no X G n_tuple
    c_KIND := ⟨_, PySem.W.mg_of X G c_KIND⟩
    c_HEIGHT := ⟨_, PySem.W.mg_of X G c_HEIGHT⟩
    c_TURN := ⟨_, PySem.W.mg_of X G c_TURN⟩
    c_BLOCK := ⟨_, PySem.W.mg_of X G c_BLOCK⟩
    c_LEAN := ⟨_, PySem.W.mg_of X G c_LEAN⟩
    d_law_cell := ⟨def_mk l_law_cell q_law_cell k_law_cell (fun _ _ _ _ _ _ us hl => match us, hl with | [_, _], _ => rfl), PySem.W.mg_of X G a_law_cell, k_law_cell⟩
    d_proposal := ⟨def_mk l_proposal q_proposal k_proposal (fun _ _ _ _ _ _ us hl => match us, hl with | [_, _, _], _ => rfl), PySem.W.mg_of X G a_proposal, k_proposal⟩
    d_prevote := ⟨def_mk l_prevote q_prevote k_prevote (fun _ _ _ _ _ _ us hl => match us, hl with | [_, _, _, _], _ => rfl), PySem.W.mg_of X G a_prevote, k_prevote⟩
    d_precommit := ⟨def_mk l_precommit q_precommit k_precommit (fun _ _ _ _ _ _ us hl => match us, hl with | [_, _, _], _ => rfl), PySem.W.mg_of X G a_precommit, k_precommit⟩
    d_is_vote := ⟨def_mk l_is_vote q_is_vote k_is_vote (fun _ _ _ _ _ _ us hl => match us, hl with | [_], _ => rfl), PySem.W.mg_of X G a_is_vote, k_is_vote⟩
    d_abandons := ⟨def_mk l_abandons q_abandons k_abandons (fun _ _ _ _ _ _ us hl => match us, hl with | [_, _], _ => rfl), PySem.W.mg_of X G a_abandons, k_abandons⟩
    d_clash := ⟨def_mk l_clash q_clash k_clash (fun _ _ _ _ _ _ us hl => match us, hl with | [_, _], _ => rfl), PySem.W.mg_of X G a_clash, k_clash⟩
    d_law_clash := ⟨def_mk l_law_clash q_law_clash k_law_clash (fun _ _ _ _ _ _ us hl => match us, hl with | [_, _], _ => rfl), PySem.W.mg_of X G a_law_clash, k_law_clash⟩
    d_law_drawn := ⟨def_mk l_law_drawn q_law_drawn k_law_drawn (fun _ _ _ _ _ _ us hl => match us, hl with | [_], _ => rfl), PySem.W.mg_of X G a_law_drawn, k_law_drawn⟩
    d_law_made := ⟨def_mk l_law_made q_law_made k_law_made (fun _ _ _ _ _ _ us hl => match us, hl with | [_], _ => rfl), PySem.W.mg_of X G a_law_made, k_law_made⟩ }
  have F5 := fun_mk (st := s_law) l_law q_law k_law
  exact ⟨PySem.W.fnOf "law" "law" (defArgs s_law) (defBody s_law) (defScope s_law) .none kV_law dc_law pm_law an_law cd_law ct_law, fun s v => .of_eq rfl, fun base _ _ => ok_law F5 T⟩
theorem walk {l : PySem.W.OpenLaw} {q : Program} {loose : List Str} {XP : (Str → Option Value) → Heap → Prop} {YP : World → Heap → Prop} {d : DefRec} {K : Params → PySem.W.Frag} (hn : l.most = some 63) (hdf : d.params.defaults = [])
    (hY : ∀ (w : World) (h : Heap), YP w h → (K w.params).In h)
    (F : ∀ (w : World) (mg : Str → Option Value) (fa : Addr) (h : Heap), (K w.params).In h → h.Ns mainGlobals mg → mg d.name = some (.ref fa) →
      ∃ fd : FuncData, (∀ (s : Shared) (u : Value), BindsTo s fd ⟨[u], []⟩ [("script", u)]) ∧ ∀ base : Heap, (K w.params).In base → base.Ns mainGlobals mg → FnOk l.prog w (K w.params) mg base CX0 3 fa fd ["script"] (spLaw (K w.params))) :
    PySem.W.WalkO q loose XP YP l.row.toRowW d [] (fun f vs => PySem.call f vs) :=
  L2.walk_of (n := 63) (k := 3) (x := "script") (CX := fun _ => CX0) (sp := fun w => spLaw (K w.params)) hn (by decide) hdf ⟨rfl, by decide, by decide⟩ hY F (fun _ _ a ns hl _ hS => ⟨a, ns, rfl, hS, hl, fun _ => rfl⟩) fun _ _ _ _ _ z => z
end Toy
open PySem PySem.W PyProof.Rows
set_option maxRecDepth 100000 in
set_option maxHeartbeats 0 in
theorem PySem.Challenge.cw_tribunal_k02_clashes_holds : PySem.Challenge.rw_tribunal_k02_clashes.Holds := by
  w_on; o_law; k_head; (case hw => w_witness2)
  k_fill
  refine Toy.walk (l := PySem.Challenge.rw_tribunal_k02_clashes) rfl rfl (fun w h Y => PySem.W.kIn_of Y) ?F
  case F =>
    intro w mg fa h KX G hmg
    refine' Toy.all_mk KX G hmg ?c_KIND ?c_HEIGHT ?c_TURN ?c_BLOCK ?c_LEAN ?n_len ?n_range ?n_isinstance ?n_int ?n_bool ?n_tuple ?a_law_cell ?l_law_cell ?q_law_cell ?k_law_cell ?a_proposal ?l_proposal ?q_proposal ?k_proposal ?a_prevote ?l_prevote ?q_prevote ?k_prevote ?a_precommit ?l_precommit ?q_precommit ?k_precommit ?a_is_vote ?l_is_vote ?q_is_vote ?k_is_vote ?a_abandons ?l_abandons ?q_abandons ?k_abandons ?a_clash ?l_clash ?q_clash ?k_clash ?a_law_clash ?l_law_clash ?q_law_clash ?k_law_clash ?a_law_drawn ?l_law_drawn ?q_law_drawn ?k_law_drawn ?a_law_made ?l_law_made ?q_law_made ?k_law_made ?a_law ?l_law ?q_law ?k_law
    (case c_KIND => k_is)
    (case c_HEIGHT => k_is)
    (case c_TURN => k_is)
    (case c_BLOCK => k_is)
    (case c_LEAN => k_is)
    (case n_len => k_is)
    (case n_range => k_is)
    (case n_isinstance => k_is)
    (case n_int => k_is)
    (case n_bool => k_is)
    (case n_tuple => k_is)
    (case a_law_cell => k_is)
    (case l_law_cell => k_is)
    (case q_law_cell => k_is)
    (case k_law_cell => k_is)
    (case a_proposal => k_is)
    (case l_proposal => k_is)
    (case q_proposal => k_is)
    (case k_proposal => k_is)
    (case a_prevote => k_is)
    (case l_prevote => k_is)
    (case q_prevote => k_is)
    (case k_prevote => k_is)
    (case a_precommit => k_is)
    (case l_precommit => k_is)
    (case q_precommit => k_is)
    (case k_precommit => k_is)
    (case a_is_vote => k_is)
    (case l_is_vote => k_is)
    (case q_is_vote => k_is)
    (case k_is_vote => k_is)
    (case a_abandons => k_is)
    (case l_abandons => k_is)
    (case q_abandons => k_is)
    (case k_abandons => k_is)
    (case a_clash => k_is)
    (case l_clash => k_is)
    (case q_clash => k_is)
    (case k_clash => k_is)
    (case a_law_clash => k_is)
    (case l_law_clash => k_is)
    (case q_law_clash => k_is)
    (case k_law_clash => k_is)
    (case a_law_drawn => k_is)
    (case l_law_drawn => k_is)
    (case q_law_drawn => k_is)
    (case k_law_drawn => k_is)
    (case a_law_made => k_is)
    (case l_law_made => k_is)
    (case q_law_made => k_is)
    (case k_law_made => k_is)
    (case a_law => k_is)
    (case l_law => k_is)
    (case q_law => k_is)
    (case k_law => k_is)
