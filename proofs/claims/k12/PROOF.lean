import PyProof.Rows.All
import Wide.All
import OpenK.AllK
import Wide.FinOn
import HandS.ForMost
import HandS.IsInst
import HandS.TupLe
import HandS.Codes
import HandS.More
import HandS.Exc
import HandS.ExcOwn
import HandS.WordsExc
import HandS.Deep
import HandS.ExcIs
import HandS.TupAny
import HandS.SetKeys
import HandS.SortKw
import KE.KMinBuiltin
import KE.KExcIs
import KE.GoesMore
import KE.GoesEnum
import KE.KTupSum
import PySem.Challenge.RW_tribunal_k12_two_papers_accuse
set_option Elab.async false
set_option linter.all false
set_option maxRecDepth 100000
set_option maxHeartbeats 4000000
namespace Toy
open PySem L2
def top (i : Nat) : Stmt := PySem.Challenge.pw_tribunal_k12_two_papers_accuse.main.body.getD i (.Pass ⟨0, 0, 0, 0⟩)
abbrev s_is_vote : Stmt := (top 7)
abbrev s_clash : Stmt := (top 8)
abbrev s_abandons : Stmt := (top 9)
abbrev s_Charge_init : Stmt := (inClass (top 11) 0)
abbrev s_first_clash : Stmt := (top 14)
abbrev s_charge_of : Stmt := (top 12)
abbrev s_charges : Stmt := (top 13)
abbrev s_first_wrong : Stmt := (top 33)
abbrev s_Committee_init : Stmt := (inClass (top 32) 0)
abbrev s_Committee_weight_of : Stmt := (inClass (top 32) 1)
abbrev s_Committee_is_quorum : Stmt := (inClass (top 32) 2)
abbrev s_votes_by_turn : Stmt := (top 23)
abbrev s_counts : Stmt := (top 24)
abbrev s_certified_turns : Stmt := (top 21)
abbrev s_committed_turns : Stmt := (top 22)
abbrev s_shown_turn : Stmt := (top 27)
abbrev s_shows : Stmt := (top 26)
abbrev s_accuse : Stmt := (top 28)
abbrev s_law_cell : Stmt := (top 35)
abbrev s_law_row : Stmt := (top 37)
abbrev s_law_weights : Stmt := (top 38)
abbrev s_law_weight : Stmt := (top 39)
abbrev s_law_clash : Stmt := (top 40)
abbrev s_law_certified : Stmt := (top 41)
abbrev s_law_committed : Stmt := (top 42)
abbrev s_law_planted : Stmt := (top 45)
abbrev s_law_commits : Stmt := (top 46)
abbrev s_law : Stmt := (top 47)
abbrev sc_is_vote_N : List Str := ["statement"]
theorem sc_is_vote : FnScope sc_is_vote_N ["statement"] (defScope s_is_vote) := ⟨rfl, rfl, rfl, by decide +kernel, rfl, by decide +kernel, by decide +kernel⟩
abbrev sc_clash_N : List Str := ["one", "other"]
theorem sc_clash : FnScope sc_clash_N ["one", "other"] (defScope s_clash) := ⟨rfl, rfl, rfl, by decide +kernel, rfl, by decide +kernel, by decide +kernel⟩
abbrev sc_abandons_N : List Str := ["one", "other"]
theorem sc_abandons : FnScope sc_abandons_N ["one", "other"] (defScope s_abandons) := ⟨rfl, rfl, rfl, by decide +kernel, rfl, by decide +kernel, by decide +kernel⟩
abbrev sc_Charge_init_N : List Str := ["self", "who", "first", "second"]
theorem sc_Charge_init : FnScope sc_Charge_init_N ["self", "who", "first", "second"] (defScope s_Charge_init) := ⟨rfl, rfl, rfl, by decide +kernel, rfl, by decide +kernel, by decide +kernel⟩
abbrev sc_first_clash_N : List Str := ["earlier", "letter", "before"]
theorem sc_first_clash : FnScope sc_first_clash_N ["earlier", "letter"] (defScope s_first_clash) := ⟨rfl, rfl, rfl, by decide +kernel, rfl, by decide +kernel, by decide +kernel⟩
abbrev sc_charge_of_N : List Str := ["letters", "who", "earlier", "letter", "first"]
theorem sc_charge_of : FnScope sc_charge_of_N ["letters", "who"] (defScope s_charge_of) := ⟨rfl, rfl, rfl, by decide +kernel, rfl, by decide +kernel, by decide +kernel⟩
abbrev sc_charges_N : List Str := ["committee", "letters", "found", "who", "charge"]
theorem sc_charges : FnScope sc_charges_N ["committee", "letters"] (defScope s_charges) := ⟨rfl, rfl, rfl, by decide +kernel, rfl, by decide +kernel, by decide +kernel⟩
abbrev sc_first_wrong_N : List Str := ["weights", "at", "weight"]
theorem sc_first_wrong : FnScope sc_first_wrong_N ["weights"] (defScope s_first_wrong) := ⟨rfl, rfl, rfl, by decide +kernel, rfl, by decide +kernel, by decide +kernel⟩
abbrev sc_Committee_init_N : List Str := ["self", "weights", "wrong"]
theorem sc_Committee_init : FnScope sc_Committee_init_N ["self", "weights"] (defScope s_Committee_init) := ⟨rfl, rfl, rfl, by decide +kernel, rfl, by decide +kernel, by decide +kernel⟩
abbrev sc_Committee_weight_of_N : List Str := ["self", "members", "listed", "member", "weight"]
theorem sc_Committee_weight_of : FnScope sc_Committee_weight_of_N ["self", "members"] (defScope s_Committee_weight_of) := ⟨rfl, rfl, rfl, by decide +kernel, rfl, by decide +kernel, by decide +kernel⟩
abbrev sc_Committee_is_quorum_N : List Str := ["self", "members"]
theorem sc_Committee_is_quorum : FnScope sc_Committee_is_quorum_N ["self", "members"] (defScope s_Committee_is_quorum) := ⟨rfl, rfl, rfl, by decide +kernel, rfl, by decide +kernel, by decide +kernel⟩
abbrev sc_votes_by_turn_N : List Str := ["letters", "kind", "height", "block", "found", "letter", "vote"]
theorem sc_votes_by_turn : FnScope sc_votes_by_turn_N ["letters", "kind", "height", "block"] (defScope s_votes_by_turn) := ⟨rfl, rfl, rfl, by decide +kernel, rfl, by decide +kernel, by decide +kernel⟩
abbrev sc_counts_N : List Str := ["prevote", "turns", "lean"]
theorem sc_counts : FnScope sc_counts_N ["prevote", "turns"] (defScope s_counts) := ⟨rfl, rfl, rfl, by decide +kernel, rfl, by decide +kernel, by decide +kernel⟩
abbrev sc_certified_turns_N : List Str := ["committee", "letters", "height", "block", "prevotes", "found", "turn", "members", "letter"]
theorem sc_certified_turns : FnScope sc_certified_turns_N ["committee", "letters", "height", "block"] (defScope s_certified_turns) := ⟨rfl, rfl, rfl, by decide +kernel, rfl, by decide +kernel, by decide +kernel⟩
abbrev sc_committed_turns_N : List Str := ["committee", "letters", "height", "block", "precommits", "found", "turn", "members", "letter"]
theorem sc_committed_turns : FnScope sc_committed_turns_N ["committee", "letters", "height", "block"] (defScope s_committed_turns) := ⟨rfl, rfl, rfl, by decide +kernel, rfl, by decide +kernel, by decide +kernel⟩
abbrev sc_shown_turn_N : List Str := ["committee", "height", "block", "letters"]
theorem sc_shown_turn : FnScope sc_shown_turn_N ["committee", "height", "block", "letters"] (defScope s_shown_turn) := ⟨rfl, rfl, rfl, by decide +kernel, rfl, by decide +kernel, by decide +kernel⟩
abbrev sc_shows_N : List Str := ["committee", "height", "block", "letters"]
theorem sc_shows : FnScope sc_shows_N ["committee", "height", "block", "letters"] (defScope s_shows) := ⟨rfl, rfl, rfl, by decide +kernel, rfl, by decide +kernel, by decide +kernel⟩
abbrev sc_accuse_N : List Str := ["committee", "height", "one", "other", "first_block", "first_paper", "second_block", "second_paper", "block", "paper"]
theorem sc_accuse : FnScope sc_accuse_N ["committee", "height", "one", "other"] (defScope s_accuse) := ⟨rfl, rfl, rfl, by decide +kernel, rfl, by decide +kernel, by decide +kernel⟩
abbrev sc_law_cell_N : List Str := ["script", "k"]
theorem sc_law_cell : FnScope sc_law_cell_N ["script", "k"] (defScope s_law_cell) := ⟨rfl, rfl, rfl, by decide +kernel, rfl, by decide +kernel, by decide +kernel⟩
abbrev sc_law_row_N : List Str := ["cell", "count", "size", "state", "row", "k"]
theorem sc_law_row : FnScope sc_law_row_N ["cell", "count", "size"] (defScope s_law_row) := ⟨rfl, rfl, rfl, by decide +kernel, rfl, by decide +kernel, by decide +kernel⟩
abbrev sc_law_weights_N : List Str := ["cell", "most", "count", "value"]
theorem sc_law_weights : FnScope sc_law_weights_N ["cell", "most"] (defScope s_law_weights) := ⟨rfl, rfl, rfl, by decide +kernel, rfl, by decide +kernel, by decide +kernel⟩
abbrev sc_law_weight_N : List Str := ["weights", "members", "k"]
theorem sc_law_weight : FnScope sc_law_weight_N ["weights", "members"] (defScope s_law_weight) := ⟨rfl, rfl, rfl, by decide +kernel, rfl, by decide +kernel, by decide +kernel⟩
abbrev sc_law_clash_N : List Str := ["one", "other", "first", "second"]
theorem sc_law_clash : FnScope sc_law_clash_N ["one", "other"] (defScope s_law_clash) := ⟨rfl, rfl, rfl, by decide +kernel, rfl, by decide +kernel, by decide +kernel⟩
abbrev sc_law_certified_N : List Str := ["weights", "letters", "height", "turn", "block", "leans", "later", "members", "letter", "statement", "holds"]
theorem sc_law_certified : FnScope sc_law_certified_N ["weights", "letters", "height", "turn", "block"] (defScope s_law_certified) := ⟨rfl, rfl, rfl, by decide +kernel, rfl, by decide +kernel, by decide +kernel⟩
abbrev sc_law_committed_N : List Str := ["weights", "letters", "height", "turn", "block", "members", "letter"]
theorem sc_law_committed : FnScope sc_law_committed_N ["weights", "letters", "height", "turn", "block"] (defScope s_law_committed) := ⟨rfl, rfl, rfl, by decide +kernel, rfl, by decide +kernel, by decide +kernel⟩
abbrev sc_law_planted_N : List Str := ["cell", "size", "digits", "letters", "early", "late", "via", "k"]
theorem sc_law_planted : FnScope sc_law_planted_N ["cell", "size"] (defScope s_law_planted) := ⟨rfl, rfl, rfl, by decide +kernel, rfl, by decide +kernel, by decide +kernel⟩
abbrev sc_law_commits_N : List Str := ["weights", "block", "letters", "turn"]
theorem sc_law_commits : FnScope sc_law_commits_N ["weights", "block", "letters"] (defScope s_law_commits) := ⟨rfl, rfl, rfl, by decide +kernel, rfl, by decide +kernel, by decide +kernel⟩
abbrev sc_law_N : List Str := ["script", "weights", "letters", "way", "first", "second", "one", "other", "right", "told", "e", "members", "charge", "letter"]
theorem sc_law : FnScope sc_law_N ["script"] (defScope s_law) := ⟨rfl, rfl, rfl, by decide +kernel, rfl, by decide +kernel, by decide +kernel⟩
/-! ### what stands where -/
structure DefAt (K : PySem.W.Frag) (mg : Str → Option Value) (x : Str) (st : Stmt) (ps : List Str) (f : Addr) : Prop where
  F : ∃ fd, Fun K x x st f fd ∧ Binds K fd ps []
  g : mg x = some (.ref f)
  kp : PySem.W.keepIn K (.ref f) = true
structure MethAt (K : PySem.W.Frag) (C : Addr) (x qual : Str) (st : Stmt) (ps : List Str) (f : Addr) : Prop where
  F : ∃ fd, Fun K x qual st f fd ∧ Binds K fd ps []
  fi : PySem.W.findIn K (.ref C) x = some (some (.ref f))
  isf : PySem.W.isFn K (.ref f) = true
  kp : PySem.W.keepIn K (.ref f) = true
theorem def_mk {K : PySem.W.Frag} {x qual : Str} {st : Stmt} {f : Addr} {ps : List Str} {oc : Value} {od an : Option Addr} {osl : Array (Option Value)} {kV doc pm cdv ct : Value}
    (l : K.lookup f = some ⟨oc, od, .func (PySem.W.fnOf x qual (defArgs st) (defBody st) (defScope st) .none kV doc pm an cdv ct), osl⟩)
    (c : PySem.W.codeIn K cdv qual = true) (k : PySem.W.keepIn K (.ref f) = true)
    (h : ∀ (kV doc pm : Value) (an : Option Addr) (cdv ct : Value) (us : List Value), us.length = ps.length → bindArgs (PySem.W.fnOf x qual (defArgs st) (defBody st) (defScope st) .none kV doc pm an cdv ct) ⟨us, []⟩ = pure (ps.zip us)) :
    ∃ fd, Fun K x qual st f fd ∧ Binds K fd ps [] := by
  have F := fun_mk (st := st) l c k
  exact ⟨_, F, F.binds h⟩
theorem mg_no {K : PySem.W.Frag} {h : Heap} {mg : Str → Option Value} {n : Str} (X : K.In h) (G : h.Ns mainGlobals mg) (e : PySem.W.nsIn K mainGlobals n = some none) : mg n = none := PySem.W.mg_none_of X G e
theorem same_new {H : Hp} {p : Addr} {o : HO} (n : H p = Option.none) : Same H (upd H p o) := fun b u e => by
  rw [upd_ne (ne_of_none e n)]
  exact e
theorem same_upd {H H2 : Hp} {p : Addr} {o : HO} (s : Same H H2) (n : H p = Option.none) : Same H (upd H2 p o) := fun b u e => by
  rw [upd_ne (ne_of_none e n)]
  exact s b u e
structure Ads where
  C_Committee : Addr
  C_Charge : Addr
  d_is_vote : Addr
  d_clash : Addr
  d_abandons : Addr
  d_Charge_init : Addr
  d_first_clash : Addr
  d_charge_of : Addr
  d_charges : Addr
  d_first_wrong : Addr
  d_Committee_init : Addr
  d_Committee_weight_of : Addr
  d_Committee_is_quorum : Addr
  d_votes_by_turn : Addr
  d_counts : Addr
  d_certified_turns : Addr
  d_committed_turns : Addr
  d_shown_turn : Addr
  d_shows : Addr
  d_accuse : Addr
  d_law_cell : Addr
  d_law_row : Addr
  d_law_weights : Addr
  d_law_weight : Addr
  d_law_clash : Addr
  d_law_certified : Addr
  d_law_committed : Addr
  d_law_planted : Addr
  d_law_commits : Addr
  C_BadPaper : Addr
  C_TribunalError : Addr
  C_BadLine : Addr
structure Txt (K : PySem.W.Frag) (mg : Str → Option Value) (a : Ads) : Prop where
  n_len : mg "len" = none
  n_range : mg "range" = none
  n_isinstance : mg "isinstance" = none
  n_int : mg "int" = none
  n_bool : mg "bool" = none
  n_list : mg "list" = none
  n_tuple : mg "tuple" = none
  n_sum : mg "sum" = none
  n_enumerate : mg "enumerate" = none
  n_set : mg "set" = none
  n_sorted : mg "sorted" = none
  n_min : mg "min" = none
  n_abs : mg "abs" = none
  c_KIND : ∃ t, mg "KIND" = some (.int 0 t)
  c_HEIGHT : ∃ t, mg "HEIGHT" = some (.int 1 t)
  c_TURN : ∃ t, mg "TURN" = some (.int 2 t)
  c_BLOCK : ∃ t, mg "BLOCK" = some (.int 3 t)
  c_LEAN : ∃ t, mg "LEAN" = some (.int 4 t)
  c_MOST_MEMBERS : ∃ t, mg "MOST_MEMBERS" = some (.int 16 t)
  c_MOST_WEIGHT : ∃ t, mg "MOST_WEIGHT" = some (.int 1000000000000 t)
  g_Committee : mg "Committee" = some (.ref a.C_Committee)
  cl_Committee : Cls K a.C_Committee
  kc_Committee : PySem.W.keepIn K (.ref a.C_Committee) = true
  mk_Committee : PySem.W.makesIn K a.C_Committee = true
  a_Committee_weights : NoAttr K a.C_Committee "weights"
  a_Committee_size : NoAttr K a.C_Committee "size"
  a_Committee_total : NoAttr K a.C_Committee "total"
  g_Charge : mg "Charge" = some (.ref a.C_Charge)
  cl_Charge : Cls K a.C_Charge
  kc_Charge : PySem.W.keepIn K (.ref a.C_Charge) = true
  mk_Charge : PySem.W.makesIn K a.C_Charge = true
  a_Charge_who : NoAttr K a.C_Charge "who"
  a_Charge_first : NoAttr K a.C_Charge "first"
  a_Charge_second : NoAttr K a.C_Charge "second"
  d_is_vote : DefAt K mg "is_vote" s_is_vote ["statement"] a.d_is_vote
  d_clash : DefAt K mg "clash" s_clash ["one", "other"] a.d_clash
  d_abandons : DefAt K mg "_abandons" s_abandons ["one", "other"] a.d_abandons
  d_Charge_init : MethAt K a.C_Charge "__init__" "Charge.__init__" s_Charge_init ["self", "who", "first", "second"] a.d_Charge_init
  d_first_clash : DefAt K mg "_first_clash" s_first_clash ["earlier", "letter"] a.d_first_clash
  d_charge_of : DefAt K mg "charge_of" s_charge_of ["letters", "who"] a.d_charge_of
  d_charges : DefAt K mg "charges" s_charges ["committee", "letters"] a.d_charges
  d_first_wrong : DefAt K mg "_first_wrong" s_first_wrong ["weights"] a.d_first_wrong
  d_Committee_init : MethAt K a.C_Committee "__init__" "Committee.__init__" s_Committee_init ["self", "weights"] a.d_Committee_init
  d_Committee_weight_of : MethAt K a.C_Committee "weight_of" "Committee.weight_of" s_Committee_weight_of ["self", "members"] a.d_Committee_weight_of
  d_Committee_is_quorum : MethAt K a.C_Committee "is_quorum" "Committee.is_quorum" s_Committee_is_quorum ["self", "members"] a.d_Committee_is_quorum
  d_votes_by_turn : DefAt K mg "votes_by_turn" s_votes_by_turn ["letters", "kind", "height", "block"] a.d_votes_by_turn
  d_counts : DefAt K mg "counts" s_counts ["prevote", "turns"] a.d_counts
  d_certified_turns : DefAt K mg "certified_turns" s_certified_turns ["committee", "letters", "height", "block"] a.d_certified_turns
  d_committed_turns : DefAt K mg "committed_turns" s_committed_turns ["committee", "letters", "height", "block"] a.d_committed_turns
  d_shown_turn : DefAt K mg "shown_turn" s_shown_turn ["committee", "height", "block", "letters"] a.d_shown_turn
  d_shows : DefAt K mg "shows" s_shows ["committee", "height", "block", "letters"] a.d_shows
  d_accuse : DefAt K mg "accuse" s_accuse ["committee", "height", "one", "other"] a.d_accuse
  d_law_cell : DefAt K mg "_law_cell" s_law_cell ["script", "k"] a.d_law_cell
  d_law_row : DefAt K mg "_law_row" s_law_row ["cell", "count", "size"] a.d_law_row
  d_law_weights : DefAt K mg "_law_weights" s_law_weights ["cell", "most"] a.d_law_weights
  d_law_weight : DefAt K mg "_law_weight" s_law_weight ["weights", "members"] a.d_law_weight
  d_law_clash : DefAt K mg "_law_clash" s_law_clash ["one", "other"] a.d_law_clash
  d_law_certified : DefAt K mg "_law_certified" s_law_certified ["weights", "letters", "height", "turn", "block"] a.d_law_certified
  d_law_committed : DefAt K mg "_law_committed" s_law_committed ["weights", "letters", "height", "turn", "block"] a.d_law_committed
  d_law_planted : DefAt K mg "_law_planted" s_law_planted ["cell", "size"] a.d_law_planted
  d_law_commits : DefAt K mg "_law_commits" s_law_commits ["weights", "block", "letters"] a.d_law_commits
theorem Txt.m_Charge {K : PySem.W.Frag} {mg : Str → Option Value} {a : Ads} (T : Txt K mg a) : Mk K a.C_Charge a.d_Charge_init := ⟨T.mk_Charge, T.d_Charge_init.fi, T.d_Charge_init.isf, T.kc_Charge⟩
theorem Txt.m_Committee {K : PySem.W.Frag} {mg : Str → Option Value} {a : Ads} (T : Txt K mg a) : Mk K a.C_Committee a.d_Committee_init := ⟨T.mk_Committee, T.d_Committee_init.fi, T.d_Committee_init.isf, T.kc_Committee⟩
theorem Txt.me_Committee_weight_of {K : PySem.W.Frag} {mg : Str → Option Value} {a : Ads} (T : Txt K mg a) : Meth K a.C_Committee "weight_of" a.d_Committee_weight_of := ⟨T.d_Committee_weight_of.fi, T.d_Committee_weight_of.isf, T.d_Committee_weight_of.kp⟩
theorem Txt.me_Committee_is_quorum {K : PySem.W.Frag} {mg : Str → Option Value} {a : Ads} (T : Txt K mg a) : Meth K a.C_Committee "is_quorum" a.d_Committee_is_quorum := ⟨T.d_Committee_is_quorum.fi, T.d_Committee_is_quorum.isf, T.d_Committee_is_quorum.kp⟩
/-! ### max and min with default=None -/
end Toy
namespace Toy0
open PySem

section
variable {prog : Program} {w : World} {A : Around} {R : Result → Shared → Prop} {I : Addr} {fp wr : List Addr} {n : Nat} {P : Nat → Value → Prop} {St : Nat → Heap → Prop}
/-- the turns of max with keywords, from the place behind j on -/
theorem maxd_run (W : Walks prog w A.in1 I fp wr n P St) (up : Nat → Nat → Bool) (cm : CmpOf prog w A.in1 .Gt P up) (Z : Addr) (nZ : Z ∉ fp) (kw : List (Str × Value)) : ∀ (k j : Nat) (s : Shared) (b0 : Value) (c : Nat), n = j + 1 + k → St (j + 1) s.heap → P (argBest up j) b0 →
    s.heap.get? Z = some { cls := .type "list", dict := none, data := .seq #[b0, b0] c, slots := #[] } → (∀ v h2 t2, P (argBest up (n - 1)) v → (∀ x o, x ∉ wr → x ≠ Z → s.heap.get? x = some o → h2.get? x = some o) → R (.ok (.ret v)) { s with heap := h2, toks := t2 }) →
    codeAny (model prog w) A (.builtin "max.loop" ⟨[.ref I, .none, .ref Z], kw⟩) R s
  | 0, j, s, b0, c, hn, st, hP, hZ, q => by
    have nw : Z ∉ wr := fun z => nZ (W.sub _ z)
    have hin : j + 1 = n := hn.symm
    refine codeAny_builtin PySem.F.entry_max_loop (by
      rw [Around.under_plainId PySem.F.plain_max_loop _]
      show wpAny _ A.in1 (seqItems? (.ref Z) >>= _) _ _ s
      refine wpAny_bind (wpAny_seqItems hZ rfl ?_)
      show wpAny _ A.in1 (tryCatch (pyNext (.ref I)) _ >>= _) _ _ s
      refine wpAny_bind (wpAny_tryCatch (W.done s _ _ (by rw [← hin]; exact st) fun h2 t2 kp => ?_))
      have hZ2 := kp Z _ nw hZ
      show wpAny _ A.in1 (updateSeq Z (fun _ => #[]) >>= _) _ _ _
      refine wpAny_bind (wpAny_updateSeq hZ2 rfl (wpAny_bind (wpAny_letGo (wpAny_pure ?_))))
      exact q b0 _ t2 (by rw [show n - 1 = j by omega]; exact hP) fun x o xw xz e => (Heap.get?_update_other _ _ (fun z => xz z.symm)).trans (kp x o xw e))
  | k + 1, j, s, b0, c, hn, st, hP, hZ, q => by
    have nw : Z ∉ wr := fun z => nZ (W.sub _ z)
    have nm : (toString "max" ++ toString ".loop" : String) = "max.loop" := by decide
    refine codeAny_builtin PySem.F.entry_max_loop (by
      rw [Around.under_plainId PySem.F.plain_max_loop _]
      show wpAny _ A.in1 (seqItems? (.ref Z) >>= _) _ _ s
      refine wpAny_bind (wpAny_seqItems hZ rfl ?_)
      show wpAny _ A.in1 (tryCatch (pyNext (.ref I)) _ >>= _) _ _ s
      refine wpAny_bind (wpAny_tryCatch (W.item (j + 1) s _ _ (by omega) st fun v h2 t2 pv st2 kp => ?_))
      have hZ2 := kp Z _ nw hZ
      show wpAny _ A.in1 (tryCatch (holding [v, v] (richCompare .Gt v b0 >>= _)) _ >>= _) _ _ _
      refine wpAny_bind (wpAny_tryCatch (wpAny_holding (wpAny_bind (cm (j + 1) (argBest up j) v b0 _ _ _ pv hP ?_))))
      refine wpAny_bind (wpAny_holding (wpAny_truthy_bool (wpAny_bind (wpAny_letGo (wpAny_pure ?_)))))
      cases eb : up (j + 1) (argBest up j) with
      | true =>
        simp only [if_true]
        refine wpAny_bind (wpAny_updateSeq hZ2 rfl (wpAny_bind (wpAny_letGo ?_)))
        rw [nm]
        refine wpAny_pure ⟨plainId_quiet PySem.F.plain_max_loop _, maxd_run W up cm Z nZ kw k (j + 1) _ v _ (by omega) (W.frame _ _ _ st2 fun x hx o e => ?_) (by simp only [argBest, eb, if_true]; exact pv) (Heap.get?_update_self _ hZ2 rfl) fun v3 h3 t3 p3 kp3 => ?_⟩
        · exact (Heap.get?_update_other _ _ (fun z : Z = x => nZ (by rw [z]; exact hx))).trans e
        · exact q v3 h3 t3 p3 fun x o xw xz e => kp3 x o xw xz ((Heap.get?_update_other _ _ (fun z => xz z.symm)).trans (kp x o xw e))
      | false =>
        simp only [Bool.false_eq_true, if_false]
        refine wpAny_bind (wpAny_letGo ?_)
        rw [nm]
        refine wpAny_pure ⟨plainId_quiet PySem.F.plain_max_loop _, maxd_run W up cm Z nZ kw k (j + 1) _ b0 c (by omega) st2 (by simp only [argBest, eb, Bool.false_eq_true, if_false]; exact hP) hZ2 fun v3 h3 t3 p3 kp3 => ?_⟩
        exact q v3 h3 t3 p3 fun x o xw xz e => kp3 x o xw xz (kp x o xw e))
/-- its first turn -/
theorem maxd_start (W : Walks prog w A.in1 I fp wr n P St) (up : Nat → Nat → Bool) (cm : CmpOf prog w A.in1 .Gt P up) (Z : Addr) (nZ : Z ∉ fp) (d : Value) {s : Shared} {c : Nat} (st : St 0 s.heap) (hZ : s.heap.get? Z = some { cls := .type "list", dict := none, data := .seq #[] c, slots := #[] })
    (q0 : n = 0 → ∀ h2 t2, (∀ x o, x ∉ wr → x ≠ Z → s.heap.get? x = some o → h2.get? x = some o) → R (.ok (.ret d)) { s with heap := h2, toks := t2 })
    (q : 0 < n → ∀ v h2 t2, P (argBest up (n - 1)) v → (∀ x o, x ∉ wr → x ≠ Z → s.heap.get? x = some o → h2.get? x = some o) → R (.ok (.ret v)) { s with heap := h2, toks := t2 }) :
    codeAny (model prog w) A (.builtin "max.loop" ⟨[.ref I, .none, .ref Z], [(Str.ofString "default", d)]⟩) R s := by
  have nw : Z ∉ wr := fun z => nZ (W.sub _ z)
  have nm : (toString "max" ++ toString ".loop" : String) = "max.loop" := by decide
  refine codeAny_builtin PySem.F.entry_max_loop (by
    rw [Around.under_plainId PySem.F.plain_max_loop _]
    show wpAny _ A.in1 (seqItems? (.ref Z) >>= _) _ _ s
    refine wpAny_bind (wpAny_seqItems hZ rfl ?_)
    show wpAny _ A.in1 (tryCatch (pyNext (.ref I)) _ >>= _) _ _ s
    rcases Nat.eq_zero_or_pos n with n0 | n0
    · refine wpAny_bind (wpAny_tryCatch (W.done s _ _ (by rw [n0]; exact st) fun h2 t2 kp => ?_))
      show wpAny _ A.in1 (rule _ >>= _) _ _ _
      exact wpAny_bind (wpAny_rule (wpAny_pure (q0 n0 h2 t2 fun x o xw _ e => kp x o xw e)))
    · refine wpAny_bind (wpAny_tryCatch (W.item 0 s _ _ n0 st fun v h2 t2 pv st2 kp => ?_))
      have hZ2 := kp Z _ nw hZ
      show wpAny _ A.in1 (updateSeq Z (fun _ => #[v, v]) >>= _) _ _ _
      refine wpAny_bind (wpAny_updateSeq hZ2 rfl ?_)
      rw [nm]
      refine wpAny_pure ⟨plainId_quiet PySem.F.plain_max_loop _, maxd_run W up cm Z nZ _ (n - 1) 0 _ v _ (by omega) (W.frame _ _ _ st2 fun x hx o e => ?_) pv (Heap.get?_update_self _ hZ2 rfl) fun v3 h3 t3 p3 kp3 => ?_⟩
      · exact (Heap.get?_update_other _ _ (fun z : Z = x => nZ (by rw [z]; exact hx))).trans e
      · exact q n0 v3 h3 t3 p3 fun x o xw xz e => kp3 x o xw xz ((Heap.get?_update_other _ _ (fun z => xz z.symm)).trans (kp x o xw e)))
end
section
variable {prog : Program} {w : World} {A : Around} {E : Value → Shared → Prop} {s : Shared} {l : Addr} {xs : Array (Int × Tok)}
theorem maxd_args (a d : Value) : argsOk "max" ⟨[a], [(Str.ofString "default", d)]⟩ := by
  unfold argsOk
  kernel_rfl
theorem maxd_call {d : Value} {Q : Value → Shared → Prop} (hh : A.handled = none) (hl : s.heap.IsList l (intItems xs)) (q0 : xs.size = 0 → ∀ h2 t2, (∀ b o, s.heap.get? b = some o → h2.get? b = some o) → Q d { s with heap := h2, toks := t2 })
    (q : 0 < xs.size → ∀ v h2 t2, (intItems xs)[argBest (fun i j => decide (numAt xs i > numAt xs j)) (xs.size - 1)]? = some v → (∀ b o, s.heap.get? b = some o → h2.get? b = some o) → Q v { s with heap := h2, toks := t2 }) :
    wpAny (model prog w) A (call (.builtin "max") [.ref l] [(Str.ofString "default", d)]) Q E s := by
  have nm : (toString "max" ++ toString ".loop" : String) = "max.loop" := by decide
  refine PyProof.Rows.kmb_tree PySem.F.kind_max PySem.F.plain_max PySem.F.entry_max (maxd_args _ _) ?_
  show wpAny _ A.in1 (Builtin.Builtins.bindParams "max" ["key", "default"] 0 ⟨[], [(Str.ofString "default", d)]⟩ >>= _) _ _ s
  refine wpAny_bind (wpAny_of_eq (show Builtin.Builtins.bindParams "max" ["key", "default"] 0 ⟨[], [(Str.ofString "default", d)]⟩ = pure [none, some d] from rfl) ?_)
  refine wpAny_bind (wpAny_pure (wpAny_bind (iter_intList hl fun s2 e st hfp ne => ?_)))
  subst e
  refine wpAny_bind (wpAny_newObj_type ?_)
  have W := Walks.list (prog := prog) (w := w) (A := A.in1) hh s.heap.objs.size l ne (intItems xs)
  have hsz : (intItems xs).size = xs.size := by simp [intItems]
  rw [nm]
  have nS := fun hm => Nat.lt_irrefl _ (hfp _ hm)
  refine wpAny_pure ⟨plainId_quiet PySem.F.plain_max_loop _, ?_⟩
  refine maxd_start (c := 0) W (fun i j => decide (numAt xs i > numAt xs j)) (CmpOf.ints_gt (numAt xs) (fun _ _ => intItems_at)) _ nS d ?_ ?_ (fun n0 h2 t2 kp => ?_) fun n0 v h2 t2 p kp => ?_
  · exact W.frame _ _ _ st fun b _ o e => Heap.get?_push_of_some _ e
  · exact Heap.get?_push_size _ rfl
  · exact q0 (hsz ▸ n0) h2 t2 (old_kept fun b o nb e => kp b o nb (Nat.ne_of_lt (Heap.lt_size e)) (Heap.get?_push_of_some _ e))
  · rw [hsz] at n0 p
    exact q n0 v h2 t2 p (old_kept fun b o nb e => kp b o nb (Nat.ne_of_lt (Heap.lt_size e)) (Heap.get?_push_of_some _ e))
end

section
variable {prog : Program} {w : World} {A : Around} {R : Result → Shared → Prop} {I : Addr} {fp wr : List Addr} {n : Nat} {P : Nat → Value → Prop} {St : Nat → Heap → Prop}
/-- the turns of min with keywords, from the place behind j on -/
theorem mind_run (W : Walks prog w A.in1 I fp wr n P St) (up : Nat → Nat → Bool) (cm : CmpOf prog w A.in1 .Lt P up) (Z : Addr) (nZ : Z ∉ fp) (kw : List (Str × Value)) : ∀ (k j : Nat) (s : Shared) (b0 : Value) (c : Nat), n = j + 1 + k → St (j + 1) s.heap → P (argBest up j) b0 →
    s.heap.get? Z = some { cls := .type "list", dict := none, data := .seq #[b0, b0] c, slots := #[] } → (∀ v h2 t2, P (argBest up (n - 1)) v → (∀ x o, x ∉ wr → x ≠ Z → s.heap.get? x = some o → h2.get? x = some o) → R (.ok (.ret v)) { s with heap := h2, toks := t2 }) →
    codeAny (model prog w) A (.builtin "min.loop" ⟨[.ref I, .none, .ref Z], kw⟩) R s
  | 0, j, s, b0, c, hn, st, hP, hZ, q => by
    have nw : Z ∉ wr := fun z => nZ (W.sub _ z)
    have hin : j + 1 = n := hn.symm
    refine codeAny_builtin PySem.F.entry_min_loop (by
      rw [Around.under_plainId PySem.F.plain_min_loop _]
      show wpAny _ A.in1 (seqItems? (.ref Z) >>= _) _ _ s
      refine wpAny_bind (wpAny_seqItems hZ rfl ?_)
      show wpAny _ A.in1 (tryCatch (pyNext (.ref I)) _ >>= _) _ _ s
      refine wpAny_bind (wpAny_tryCatch (W.done s _ _ (by rw [← hin]; exact st) fun h2 t2 kp => ?_))
      have hZ2 := kp Z _ nw hZ
      show wpAny _ A.in1 (updateSeq Z (fun _ => #[]) >>= _) _ _ _
      refine wpAny_bind (wpAny_updateSeq hZ2 rfl (wpAny_bind (wpAny_letGo (wpAny_pure ?_))))
      exact q b0 _ t2 (by rw [show n - 1 = j by omega]; exact hP) fun x o xw xz e => (Heap.get?_update_other _ _ (fun z => xz z.symm)).trans (kp x o xw e))
  | k + 1, j, s, b0, c, hn, st, hP, hZ, q => by
    have nw : Z ∉ wr := fun z => nZ (W.sub _ z)
    have nm : (toString "min" ++ toString ".loop" : String) = "min.loop" := by decide
    refine codeAny_builtin PySem.F.entry_min_loop (by
      rw [Around.under_plainId PySem.F.plain_min_loop _]
      show wpAny _ A.in1 (seqItems? (.ref Z) >>= _) _ _ s
      refine wpAny_bind (wpAny_seqItems hZ rfl ?_)
      show wpAny _ A.in1 (tryCatch (pyNext (.ref I)) _ >>= _) _ _ s
      refine wpAny_bind (wpAny_tryCatch (W.item (j + 1) s _ _ (by omega) st fun v h2 t2 pv st2 kp => ?_))
      have hZ2 := kp Z _ nw hZ
      show wpAny _ A.in1 (tryCatch (holding [v, v] (richCompare .Lt v b0 >>= _)) _ >>= _) _ _ _
      refine wpAny_bind (wpAny_tryCatch (wpAny_holding (wpAny_bind (cm (j + 1) (argBest up j) v b0 _ _ _ pv hP ?_))))
      refine wpAny_bind (wpAny_holding (wpAny_truthy_bool (wpAny_bind (wpAny_letGo (wpAny_pure ?_)))))
      cases eb : up (j + 1) (argBest up j) with
      | true =>
        simp only [if_true]
        refine wpAny_bind (wpAny_updateSeq hZ2 rfl (wpAny_bind (wpAny_letGo ?_)))
        rw [nm]
        refine wpAny_pure ⟨plainId_quiet PySem.F.plain_min_loop _, mind_run W up cm Z nZ kw k (j + 1) _ v _ (by omega) (W.frame _ _ _ st2 fun x hx o e => ?_) (by simp only [argBest, eb, if_true]; exact pv) (Heap.get?_update_self _ hZ2 rfl) fun v3 h3 t3 p3 kp3 => ?_⟩
        · exact (Heap.get?_update_other _ _ (fun z : Z = x => nZ (by rw [z]; exact hx))).trans e
        · exact q v3 h3 t3 p3 fun x o xw xz e => kp3 x o xw xz ((Heap.get?_update_other _ _ (fun z => xz z.symm)).trans (kp x o xw e))
      | false =>
        simp only [Bool.false_eq_true, if_false]
        refine wpAny_bind (wpAny_letGo ?_)
        rw [nm]
        refine wpAny_pure ⟨plainId_quiet PySem.F.plain_min_loop _, mind_run W up cm Z nZ kw k (j + 1) _ b0 c (by omega) st2 (by simp only [argBest, eb, Bool.false_eq_true, if_false]; exact hP) hZ2 fun v3 h3 t3 p3 kp3 => ?_⟩
        exact q v3 h3 t3 p3 fun x o xw xz e => kp3 x o xw xz (kp x o xw e))
/-- its first turn -/
theorem mind_start (W : Walks prog w A.in1 I fp wr n P St) (up : Nat → Nat → Bool) (cm : CmpOf prog w A.in1 .Lt P up) (Z : Addr) (nZ : Z ∉ fp) (d : Value) {s : Shared} {c : Nat} (st : St 0 s.heap) (hZ : s.heap.get? Z = some { cls := .type "list", dict := none, data := .seq #[] c, slots := #[] })
    (q0 : n = 0 → ∀ h2 t2, (∀ x o, x ∉ wr → x ≠ Z → s.heap.get? x = some o → h2.get? x = some o) → R (.ok (.ret d)) { s with heap := h2, toks := t2 })
    (q : 0 < n → ∀ v h2 t2, P (argBest up (n - 1)) v → (∀ x o, x ∉ wr → x ≠ Z → s.heap.get? x = some o → h2.get? x = some o) → R (.ok (.ret v)) { s with heap := h2, toks := t2 }) :
    codeAny (model prog w) A (.builtin "min.loop" ⟨[.ref I, .none, .ref Z], [(Str.ofString "default", d)]⟩) R s := by
  have nw : Z ∉ wr := fun z => nZ (W.sub _ z)
  have nm : (toString "min" ++ toString ".loop" : String) = "min.loop" := by decide
  refine codeAny_builtin PySem.F.entry_min_loop (by
    rw [Around.under_plainId PySem.F.plain_min_loop _]
    show wpAny _ A.in1 (seqItems? (.ref Z) >>= _) _ _ s
    refine wpAny_bind (wpAny_seqItems hZ rfl ?_)
    show wpAny _ A.in1 (tryCatch (pyNext (.ref I)) _ >>= _) _ _ s
    rcases Nat.eq_zero_or_pos n with n0 | n0
    · refine wpAny_bind (wpAny_tryCatch (W.done s _ _ (by rw [n0]; exact st) fun h2 t2 kp => ?_))
      show wpAny _ A.in1 (rule _ >>= _) _ _ _
      exact wpAny_bind (wpAny_rule (wpAny_pure (q0 n0 h2 t2 fun x o xw _ e => kp x o xw e)))
    · refine wpAny_bind (wpAny_tryCatch (W.item 0 s _ _ n0 st fun v h2 t2 pv st2 kp => ?_))
      have hZ2 := kp Z _ nw hZ
      show wpAny _ A.in1 (updateSeq Z (fun _ => #[v, v]) >>= _) _ _ _
      refine wpAny_bind (wpAny_updateSeq hZ2 rfl ?_)
      rw [nm]
      refine wpAny_pure ⟨plainId_quiet PySem.F.plain_min_loop _, mind_run W up cm Z nZ _ (n - 1) 0 _ v _ (by omega) (W.frame _ _ _ st2 fun x hx o e => ?_) pv (Heap.get?_update_self _ hZ2 rfl) fun v3 h3 t3 p3 kp3 => ?_⟩
      · exact (Heap.get?_update_other _ _ (fun z : Z = x => nZ (by rw [z]; exact hx))).trans e
      · exact q n0 v3 h3 t3 p3 fun x o xw xz e => kp3 x o xw xz ((Heap.get?_update_other _ _ (fun z => xz z.symm)).trans (kp x o xw e)))
end
section
variable {prog : Program} {w : World} {A : Around} {E : Value → Shared → Prop} {s : Shared} {l : Addr} {xs : Array (Int × Tok)}
theorem mind_args (a d : Value) : argsOk "min" ⟨[a], [(Str.ofString "default", d)]⟩ := by
  unfold argsOk
  kernel_rfl
theorem mind_call {d : Value} {Q : Value → Shared → Prop} (hh : A.handled = none) (hl : s.heap.IsList l (intItems xs)) (q0 : xs.size = 0 → ∀ h2 t2, (∀ b o, s.heap.get? b = some o → h2.get? b = some o) → Q d { s with heap := h2, toks := t2 })
    (q : 0 < xs.size → ∀ v h2 t2, (intItems xs)[argBest (fun i j => decide (numAt xs i < numAt xs j)) (xs.size - 1)]? = some v → (∀ b o, s.heap.get? b = some o → h2.get? b = some o) → Q v { s with heap := h2, toks := t2 }) :
    wpAny (model prog w) A (call (.builtin "min") [.ref l] [(Str.ofString "default", d)]) Q E s := by
  have nm : (toString "min" ++ toString ".loop" : String) = "min.loop" := by decide
  refine PyProof.Rows.kmb_tree PySem.F.kind_min PySem.F.plain_min PySem.F.entry_min (mind_args _ _) ?_
  show wpAny _ A.in1 (Builtin.Builtins.bindParams "min" ["key", "default"] 0 ⟨[], [(Str.ofString "default", d)]⟩ >>= _) _ _ s
  refine wpAny_bind (wpAny_of_eq (show Builtin.Builtins.bindParams "min" ["key", "default"] 0 ⟨[], [(Str.ofString "default", d)]⟩ = pure [none, some d] from rfl) ?_)
  refine wpAny_bind (wpAny_pure (wpAny_bind (iter_intList hl fun s2 e st hfp ne => ?_)))
  subst e
  refine wpAny_bind (wpAny_newObj_type ?_)
  have W := Walks.list (prog := prog) (w := w) (A := A.in1) hh s.heap.objs.size l ne (intItems xs)
  have hsz : (intItems xs).size = xs.size := by simp [intItems]
  rw [nm]
  have nS := fun hm => Nat.lt_irrefl _ (hfp _ hm)
  refine wpAny_pure ⟨plainId_quiet PySem.F.plain_min_loop _, ?_⟩
  refine mind_start (c := 0) W (fun i j => decide (numAt xs i < numAt xs j)) (CmpOf.ints_lt (numAt xs) (fun _ _ => intItems_at)) _ nS d ?_ ?_ (fun n0 h2 t2 kp => ?_) fun n0 v h2 t2 p kp => ?_
  · exact W.frame _ _ _ st fun b _ o e => Heap.get?_push_of_some _ e
  · exact Heap.get?_push_size _ rfl
  · exact q0 (hsz ▸ n0) h2 t2 (old_kept fun b o nb e => kp b o nb (Nat.ne_of_lt (Heap.lt_size e)) (Heap.get?_push_of_some _ e))
  · rw [hsz] at n0 p
    exact q n0 v h2 t2 p (old_kept fun b o nb e => kp b o nb (Nat.ne_of_lt (Heap.lt_size e)) (Heap.get?_push_of_some _ e))
end
end Toy0
namespace Toy
open PySem L2 PyProof.Rows

/-- max(xs, default=None) of a list of ints -/
def rmaxd (K : PySem.W.Frag) : List V → List V → Hp → VK → Prop := fun vs zs H Q => ∃ (a : Addr) (ns : List Int), vs = [V.ref a] ∧ zs = [.non] ∧ SqL K H a (ns.map V.int) ∧ (ns = [] → Q .non H) ∧ ∀ m, m ∈ ns → (∀ y, y ∈ ns → y ≤ m) → Q (.int m) H
theorem cr_maxd {X : Cx} (hc : X.calm = true) : CallRK X (.builtin "max") [Str.ofString "default"] (rmaxd X.K) := by
  intro pins s σ H vs zs us wz Q I r rz h
  obtain ⟨a, ns, rfl, rfl, hs, q0, q⟩ := h
  obtain ⟨its, rv, hl, _⟩ := I.list hs
  obtain rfl := Vals.ref1 r
  obtain ⟨w1, rfl, e1⟩ := vals1 rz
  obtain rfl : w1 = Value.none := e1
  obtain ⟨xs, e⟩ := rv.ints.allInts.items
  have hn : numsOf (intItems xs).toList = ns := by rw [← e]; exact rv.ints.numsOf
  rw [nums_intItems] at hn
  have hl2 := hl.isList
  rw [e] at hl2
  have hlen : ns.length = xs.size := by rw [← hn, List.length_map, Array.length_toList]
  refine Toy0.maxd_call (I.ok.hd hc) hl2 (fun n0 h2 t2 kp => ?_) fun n0 v h2 t2 hv kp => ?_
  · exact ⟨.non, H, I.kept kp, rfl, q0 (List.eq_nil_of_length_eq_zero (by omega))⟩
  · obtain ⟨t, rfl⟩ := intItems_at hv
    obtain ⟨h1, h3⟩ := argBest_gt (numAt xs) (xs.size - 1)
    refine ⟨.int _, H, I.kept kp, ⟨_, rfl⟩, q _ ?_ fun y hy => ?_⟩
    · rw [← hn, numAt_eq]
      exact PySem.getD_mem (by rw [List.length_map, Array.length_toList]; omega)
    · rw [← hn] at hy
      obtain ⟨j, hj, rfl⟩ := mem_getD hy
      rw [List.length_map, Array.length_toList] at hj
      have := h3 j (by omega)
      rwa [← numAt_eq]

/-- min(xs, default=None) of a list of ints -/
def rmind (K : PySem.W.Frag) : List V → List V → Hp → VK → Prop := fun vs zs H Q => ∃ (a : Addr) (ns : List Int), vs = [V.ref a] ∧ zs = [.non] ∧ SqL K H a (ns.map V.int) ∧ (ns = [] → Q .non H) ∧ ∀ m, m ∈ ns → (∀ y, y ∈ ns → m ≤ y) → Q (.int m) H
theorem cr_mind {X : Cx} (hc : X.calm = true) : CallRK X (.builtin "min") [Str.ofString "default"] (rmind X.K) := by
  intro pins s σ H vs zs us wz Q I r rz h
  obtain ⟨a, ns, rfl, rfl, hs, q0, q⟩ := h
  obtain ⟨its, rv, hl, _⟩ := I.list hs
  obtain rfl := Vals.ref1 r
  obtain ⟨w1, rfl, e1⟩ := vals1 rz
  obtain rfl : w1 = Value.none := e1
  obtain ⟨xs, e⟩ := rv.ints.allInts.items
  have hn : numsOf (intItems xs).toList = ns := by rw [← e]; exact rv.ints.numsOf
  rw [nums_intItems] at hn
  have hl2 := hl.isList
  rw [e] at hl2
  have hlen : ns.length = xs.size := by rw [← hn, List.length_map, Array.length_toList]
  refine Toy0.mind_call (I.ok.hd hc) hl2 (fun n0 h2 t2 kp => ?_) fun n0 v h2 t2 hv kp => ?_
  · exact ⟨.non, H, I.kept kp, rfl, q0 (List.eq_nil_of_length_eq_zero (by omega))⟩
  · obtain ⟨t, rfl⟩ := intItems_at hv
    obtain ⟨h1, h3⟩ := argBest_lt (numAt xs) (xs.size - 1)
    refine ⟨.int _, H, I.kept kp, ⟨_, rfl⟩, q _ ?_ fun y hy => ?_⟩
    · rw [← hn, numAt_eq]
      exact PySem.getD_mem (by rw [List.length_map, Array.length_toList]; omega)
    · rw [← hn] at hy
      obtain ⟨j, hj, rfl⟩ := mem_getD hy
      rw [List.length_map, Array.length_toList] at hj
      have := h3 j (by omega)
      rwa [← numAt_eq]

section
open PyProof.Rows
/-! ### own rules: set(list of ints), k in that set; enumerate(a tuple) -/
theorem any_firstMet (zs : List Int) (k : Int) : (PyProof.Rows.firstMet (fun i => zs.getD i 0) zs.length).any (· == k) = decide (k ∈ zs) := by
  rw [PyProof.Rows.firstMet_any, Bool.eq_iff_iff, List.any_eq_true, decide_eq_true_iff]
  constructor
  · rintro ⟨y, hy, e⟩
    obtain ⟨i, hi, rfl⟩ := List.mem_map.mp hy
    have hi' : i < zs.length := List.mem_range.mp hi
    have e' : zs.getD i 0 = k := by simpa using e
    rw [← e', List.getD_eq_getElem?_getD, List.getElem?_eq_getElem hi']
    exact List.getElem_mem hi'
  · intro hk
    obtain ⟨i, hi, e⟩ := List.getElem_of_mem hk
    refine ⟨k, List.mem_map.mpr ⟨i, List.mem_range.mpr hi, ?_⟩, by simp⟩
    show zs.getD i 0 = k
    rw [List.getD_eq_getElem?_getD, List.getElem?_eq_getElem hi]
    exact e
/-- set(xs), xs a list of ints -/
def rSetOfL (K : PySem.W.Frag) : List V → Hp → VK → Prop := fun vs H Q => ∃ (l : Addr) (zs : List Int), vs = [V.ref l] ∧ SqL K H l (zs.map V.int) ∧ zs.length ≤ 1000 ∧
  ∀ (p : Addr) (n : Nat), H p = Option.none → Q (.ref p) (upd H p (.set (fun k => decide (k ∈ zs)) n))
theorem cr_set {X : Cx} (calm : X.calm = true) : CallR X (.type "set") (rSetOfL X.K) := by
  intro pins sh σ H vs us Q I rel hyp
  obtain ⟨l, zs, rfl, hl, few, q⟩ := hyp
  rw [Vals.ref1 rel]
  obtain ⟨its, rv, pl, _⟩ := I.list hl
  have isI := ints_of_vals rv
  have same : its.toArray.size = zs.length := by
    have e := rv.length
    rw [List.length_map] at e
    rw [List.size_toArray]
    exact e.symm
  refine PySem.call_set_list (items := its.toArray) (ns := zs) (I.ok.hd calm) pl.isList (by simpa using isI) (by rw [same]; unfold scanBound; omega) fun h' tk S kp => ?_
  have fresh : H sh.heap.objs.size = Option.none := I.hok.fresh (Nat.le_refl _)
  have e : (fun k => (PyProof.Rows.firstMet (fun i => zs.getD i 0) its.toArray.size).any (· == k)) = fun k => decide (k ∈ zs) := by
    funext k
    rw [same]
    exact any_firstMet zs k
  rw [e] at S
  exact ⟨.ref sh.heap.objs.size, upd H sh.heap.objs.size (.set (fun k => decide (k ∈ zs)) _), I.laid (t' := tk) (fun b o ho => kp b o (Heap.lt_size ho) ho) (Nat.le_refl _) S, rfl, q _ _ fresh⟩
/-- k in such a set -/
def rInSt (neg : Bool) : R2 := fun x y H Q => ∃ (k : Int) (b : Addr) (S : Int → Bool) (n : Nat), x = V.int k ∧ y = V.ref b ∧ H b = some (.set S n) ∧ Q (.bl (if neg then !S k else S k)) H
theorem op_in_set {X : Cx} : OpR X (compareOp .In) (rInSt false) := by
  intro pins sh σ H x y v u Q I r1 r2 hyp
  obtain ⟨k, b, S, n, rfl, rfl, hb, q⟩ := hyp
  obtain ⟨tk, rfl⟩ := r1
  cases r2
  have hS : sh.heap.SetOf (intKind X.prog X.w) b S n := I.hok b _ hb
  exact PySem.wpAny_inSet_of (PySem.intKind_is _ _ _ _) rfl hS ⟨.bl (S k), H, I.tok _, rfl, q⟩
/-- the pairs of enumerate over the tuple at a -/
def Itu (K : PySem.W.Frag) (a : Addr) : It where
  go i H := ∃ (ys : List V) (y : V), SqT K H a ys ∧ ys[i]? = some y
  yld i H v H' := ∃ (p : Addr) (y : V), v = .ref p ∧ H p = Option.none ∧ H' = upd H p (.tup [.int (i : Nat), y]) ∧ ∀ ys, SqT K H a ys → ys[i]? = some y
  stop i H := ∃ ys : List V, SqT K H a ys ∧ ys.length = i
theorem turn_enumT {P : Program} {w : World} {K : PySem.W.Frag} {elts : List Expr} {kk : Nat} {tpos : Pos} (a en it : Addr) (na : a ≠ it) (ne : en ≠ it) (nea : en ≠ a) :
    Turn P w K (.Tuple elts kk tpos) (Itu K a) [en, it] en (fun i h => (∃ old, IsEnum h en it ((i : Nat) : Int) old) ∧ h.IsTupleIter it a i) where
  mem := List.mem_cons_self
  obj := by
    rintro i h ⟨⟨old, he⟩, ⟨o, ho, hc, hd⟩⟩ b hb
    rcases List.mem_cons.mp hb with rfl | hb
    · exact ⟨_, he, fun v z => nomatch z⟩
    · rw [List.mem_singleton.mp hb]
      exact ⟨o, ho, fun v z => by rw [hd] at z; cases z⟩
  keep := by
    rintro i h h' ⟨⟨old, he⟩, hi⟩ kp
    exact ⟨⟨old, kp en List.mem_cons_self _ he⟩, hi.at fun o z => kp it (List.mem_cons_of_mem _ List.mem_cons_self) o z⟩
  item := by
    intro X hP hw hK calm i pins sh σ H E I fp st hg
    subst hP hw hK
    obtain ⟨⟨old, he⟩, hit⟩ := st
    obtain ⟨ys, y, hy, hix⟩ := hg
    obtain ⟨its, rv, tp, _⟩ := I.tuple hy
    obtain ⟨u, hu, ru⟩ := rv.get hix
    have hT : sh.heap.IsTuple a its.toArray := tp
    have hlen : i < its.toArray.size := by
      rw [List.size_toArray]
      exact (List.getElem?_eq_some_iff.mp hu).1
    have len : en < sh.heap.objs.size := Heap.lt_size he
    have lit : it < sh.heap.objs.size := by
      obtain ⟨_, z, _⟩ := hit
      exact Heap.lt_size z
    refine wpAny_pyNext_enum_itemD (Draws.tuple (by simp [I.ok.hd calm]) it a na its.toArray) he ⟨hit, hT⟩ hlen ne (by simp [ne, nea]) fun x h' tk hx ho hst hnew hsz kp => ?_
    have ex : x = u := by
      rw [List.getElem?_toArray, hu] at hx
      exact (Option.some.inj hx).symm
    subst ex
    refine ⟨_, rfl, wpAny_letOwnedTupleGo_enum (s := { sh with heap := h', toks := tk + 1 }) ho fun h2 he2 sb => ?_⟩
    have new2 : h2.get? sh.heap.objs.size = some { cls := .type "tuple", data := .seq #[.int i tk, x] } := (sb.2 _ (Nat.ne_of_gt len)).trans hnew
    have okN : ObjOk X.prog X.w (upd H sh.heap.objs.size (.tup [.int (i : Nat), y])) h2 sh.heap.objs.size (.tup [.int (i : Nat), y]) := by
      refine ⟨(by show 2 ≤ sizeLine; decide), [.int i tk, x], .cons ⟨_, rfl⟩ (.cons ru .nil), ?_⟩
      exact ⟨_, new2, rfl, _, rfl⟩
    have I2 : Inv X pins σ (upd H sh.heap.objs.size (.tup [.int (i : Nat), y])) { sh with heap := h2, toks := tk + 1 } := by
      refine I.turnedNew (ch := [en, it]) (fun b ob hb z => ?_) fp (Nat.le_refl _) okN
      have b1 : b ≠ en := fun q => hb (by rw [q]; exact List.mem_cons_self)
      have b2 : b ≠ it := fun q => hb (by rw [q]; exact List.mem_cons_of_mem _ List.mem_cons_self)
      exact (sb.2 b b1).trans (kp b ob b1 b2 z)
    refine ⟨.ref sh.heap.objs.size, _, I2, rfl, ⟨_, y, rfl, I.hok.fresh (Nat.le_refl _), rfl, fun zs hz => ?_⟩, ⟨⟨x, ?_⟩, hst.1.at fun o z => (sb.2 it (Ne.symm ne)).trans z⟩, fun b hb => ?_⟩
    · rw [I.tuple_inj hz hy]
      exact hix
    · have e1 : ((i + 1 : Nat) : Int) = (i : Int) + 1 := by omega
      rw [e1]
      exact he2
    · have lb : b < sh.heap.objs.size := by
        rcases List.mem_cons.mp hb with rfl | hb
        · exact len
        · rw [List.mem_singleton.mp hb]
          exact lit
      rw [upd_ne (Nat.ne_of_lt lb)]
      exact (fp b hb).1
  done := by
    intro X hP hw hK calm i pins sh σ H E I fp st hg
    subst hP hw hK
    obtain ⟨⟨old, he⟩, hit⟩ := st
    obtain ⟨ys, hy, rfl⟩ := hg
    obtain ⟨its, rv, tp, _⟩ := I.tuple hy
    have hT : sh.heap.IsTuple a its.toArray := tp
    have e : ys.length = its.toArray.size := by
      rw [List.size_toArray]
      exact rv.length
    rw [e] at hit
    obtain ⟨g0, g1, g2, g3, g4, g5⟩ := fp it (List.mem_cons_of_mem _ List.mem_cons_self)
    exact wpAny_pyNext_enum_endD (Draws.tuple (by simp [I.ok.hd calm]) it a na its.toArray) he ⟨hit, hT⟩ fun h' eb => ⟨rfl, I.turned (t' := sh.toks) (fun b o hb z => eb b o hb z) g0 g1 g3 g4 g5⟩
  self := by
    rintro A i s Q E ⟨⟨_, he⟩, _⟩ h
    exact wpAny_pyIter_enum he h
theorem meets_enum1 {v : Value} {o : Obj} {Z : Heap → Prop} (B : Begins v o Z) :
    Meets (Builtin.«enumerate.__new__» ⟨[.type "enumerate", v], []⟩) (fun _ R s => Z s.heap ∧
      R (.ok (.ret (.ref (s.heap.push o).objs.size))) { s with heap := (s.heap.push o).push { cls := .type "enumerate", data := .fields #[.none, .bool false, .ref s.heap.objs.size, rawInt 0, .none, .none] } }) :=
  .of_wp fun prog w A R s hyp => by
    obtain ⟨hp, g, d, tk, os⟩ := s
    obtain ⟨hz, hyp⟩ := hyp
    have sube := sub_enumerate
    have step : ∀ {A' : Around} {E' : Value → Shared → Prop} {Q' : Value → Shared → Prop}, Q' (.ref hp.objs.size) ⟨hp.push o, g, d, tk, os⟩ → wpAny (model prog w) A' (pyIter v) Q' E' ⟨hp, g, d, tk, os⟩ :=
      fun z => B.iter prog w _ _ ⟨hp, g, d, tk, os⟩ _ hz z
    wp_walk using step
    refine wpAny_stack_any fun st => wpAny_pure ?_
    split
    · rename_i c _ _ _ _ _
      cases (c == Value.type "enumerate") <;> (wp_walk using step; exact ⟨_, rfl, hyp⟩)
    · wp_walk using step
      exact ⟨_, rfl, hyp⟩
theorem call_enum1 {prog : Program} {w : World} {A : Around} {E : Value → Shared → Prop} {s : Shared} {v : Value} {o : Obj} {Z : Heap → Prop} {Q : Value → Shared → Prop} (B : Begins v o Z) (hz : Z s.heap)
    (fin : ∀ h', IsEnum h' (s.heap.objs.size + 1) s.heap.objs.size 0 .none → h'.get? s.heap.objs.size = some o → (∀ b u, s.heap.get? b = some u → h'.get? b = some u) → Q (.ref (s.heap.objs.size + 1)) { s with heap := h' }) :
    wpAny (model prog w) A (call (.type "enumerate") [v]) Q E s := by
  have size1 : (s.heap.push o).objs.size = s.heap.objs.size + 1 := Heap.size_push ..
  refine callType_new F.called_enumerate (by decide) (F.typeCall_enumerate_1 _) (F.newCall_enumerate_1 _) (fun obj => F.args_object_init_2 obj _) F.entry_enumerate_new (meets_enum1 B) ⟨hz, ?_⟩
  rw [size1]
  have isE : IsEnum ((s.heap.push o).push { cls := .type "enumerate", data := .fields #[.none, .bool false, .ref s.heap.objs.size, rawInt 0, .none, .none] }) (s.heap.objs.size + 1) s.heap.objs.size 0 .none := by
    have z := Heap.get?_push_size (s.heap.push o) (o := { cls := .type "enumerate", data := .fields #[.none, .bool false, .ref s.heap.objs.size, rawInt 0, .none, .none] }) rfl
    rwa [size1] at z
  exact ⟨⟨_, isE, rfl⟩, fin _ isE (Heap.get?_push_of_some _ (Heap.get?_push_size _ B.free)) fun b u z => Heap.get?_push_of_some _ (Heap.get?_push_of_some _ z)⟩
def iEnumT (K : PySem.W.Frag) (ta : TA) : TI := fun σ H R => ta σ H fun vs H1 => ∃ (a : Addr) (ys : List V), vs = [.ref a] ∧ SqT K H1 a ys ∧ R (Itu K a) H1
theorem pi_enumT {X : Cx} {e : Expr} {ta : TA} {p pos tpos : Pos} {elts : List Expr} {kk : Nat} (gl : Gl X "enumerate") (no : X.mg "enumerate" = none) (pa : PA X [e] ta) (plain : starEach [e] X.env = [(false, eval e X.env)] := by rfl) :
    PI X (.Tuple elts kk tpos) (.Call (.Name "enumerate" p) [e] [] pos) (iEnumT X.K ta) := by
  constructor
  intro pins s σ H R I hyp
  refine PyProof.Rows.Call_ (ld_blt I gl no boot_enumerate (PyProof.Rows.callWith_type1 (thn (pa.run pos pins s σ H _ I hyp) fun us s1 got => ?_) plain rfl))
  obtain ⟨vs, H1, I1, rel, a, ys, rfl, hy, q⟩ := got
  rw [Vals.ref1 rel]
  obtain ⟨its, rv, tp, _⟩ := I1.tuple hy
  have hT : s1.heap.IsTuple a its.toArray := tp
  have la : a < s1.heap.objs.size := by
    obtain ⟨_, z, _⟩ := hT
    exact Heap.lt_size z
  refine call_enum1 (begins_tuple a its.toArray) hT fun h' isE hit kp => wpAny_pyIter_enum isE ?_
  have I2 : Inv X pins σ H1 { s1 with heap := h' } := I1.kept (t' := s1.toks) kp
  refine ⟨s1.heap.objs.size + 1, [s1.heap.objs.size + 1, s1.heap.objs.size], _, _, H1, rfl, I2, turn_enumT a (s1.heap.objs.size + 1) s1.heap.objs.size (Nat.ne_of_lt la) (Nat.succ_ne_self _) (Nat.ne_of_gt (Nat.lt_succ_of_lt la)), ⟨⟨.none, isE⟩, _, hit, rfl, rfl⟩, fun b hb => ?_, q⟩
  have le : s1.heap.objs.size ≤ b := by
    rcases List.mem_cons.mp hb with rfl | hb
    · exact Nat.le_succ _
    · rw [List.mem_singleton.mp hb]
      exact Nat.le_refl _
  exact I1.fpOk le (I1.hok.fresh le)
/-- the forms that one uses: a word by the turn -/
theorem for_enumT {K : PySem.W.Frag} {a : Addr} {ys : List V} {g : TG} {tb : TS} {D : Ends} {σ : L2.St} {H : Hp} (Pv : Nat → L2.St → Hp → Prop) (h0 : Pv 0 σ H) (src : ∀ i σ H, i ≤ ys.length → Pv i σ H → SqT K H a ys)
    (turn : ∀ i y σ H p, ys[i]? = some y → Pv i σ H → H p = Option.none → g (.ref p) σ (upd H p (.tup [.int (i : Nat), y])) fun σ2 H2 => tb { D with nx := Pv (i + 1), ct := Pv (i + 1), bk := D.nx } σ2 H2) (fin : ∀ σ H, Pv ys.length σ H → D.nx σ H) :
    ∃ W : Nat → Nat → L2.St → Hp → Prop, (∃ m, W 0 m σ H) ∧ ∀ i m σ H, W i m σ H →
      ((Itu K a).stop i H ∧ D.nx σ H) ∨ ((Itu K a).go i H ∧ ∃ N : L2.St → Hp → Prop, (∀ σ' H', N σ' H' → ∃ m', m' < m ∧ W (i + 1) m' σ' H') ∧ ∀ x H', (Itu K a).yld i H x H' → g x σ H' fun σ2 H2 => tb { D with nx := N, ct := N, bk := D.nx } σ2 H2) := by
  refine ⟨fun i m σ H => m + i = ys.length ∧ Pv i σ H, ⟨ys.length, Nat.add_zero _, h0⟩, ?_⟩
  rintro i m σ H ⟨em, pv⟩
  have s := src i σ H (by omega) pv
  rcases Nat.lt_or_ge i ys.length with lt | ge
  · refine .inr ⟨⟨ys, ys[i], s, List.getElem?_eq_getElem lt⟩, Pv (i + 1), fun σ' H' z => ⟨m - 1, by omega, by omega, z⟩, ?_⟩
    rintro x H' ⟨p, y, rfl, hp, rfl, hy⟩
    exact turn i y σ H p (hy ys s) pv hp
  · have e : i = ys.length := by omega
    subst e
    exact .inl ⟨⟨ys, s, rfl⟩, fin σ H pv⟩
theorem lc_enumT {K : PySem.W.Frag} {a : Addr} {ys : List V} {g : TG} {tt : TT} {te : TE} {vs : List Nat} {σ : L2.St} {H1 : Hp} {D : Addr} {Qd : Hp → Prop} (Pv : Nat → Hp → Prop) (h0 : Pv 0 (upd H1 D (.lst []))) (src : ∀ i H, i ≤ ys.length → Pv i H → SqT K H a ys)
    (turn : ∀ i y H p, ys[i]? = some y → Pv i H → H p = Option.none → g (.ref p) (wipe σ vs) (upd H p (.tup [.int (i : Nat), y])) fun σ2 H2 => wipe σ2 vs = wipe σ vs ∧ tt σ2 H2 fun b H3 =>
      if b = true then te σ2 H3 fun y H4 => ∃ acc, H4 D = some (.lst acc) ∧ acc.length < sizeLine ∧ Pv (i + 1) (upd H4 D (.lst (acc ++ [y]))) else Pv (i + 1) H3) (fin : ∀ H, Pv ys.length H → Qd H) :
    ∃ W : Nat → Nat → Hp → Prop, (∃ m, W 0 m (upd H1 D (.lst []))) ∧ ∀ i m H, W i m H →
      ((Itu K a).stop i H ∧ Qd H) ∨ ((Itu K a).go i H ∧ ∃ Nx : Hp → Prop, (∀ H', Nx H' → ∃ m', m' < m ∧ W (i + 1) m' H') ∧ ∀ x H', (Itu K a).yld i H x H' → g x (wipe σ vs) H' fun σ2 H2 => wipe σ2 vs = wipe σ vs ∧ tt σ2 H2 fun b H3 =>
        if b = true then te σ2 H3 fun y H4 => ∃ acc, H4 D = some (.lst acc) ∧ acc.length < sizeLine ∧ Nx (upd H4 D (.lst (acc ++ [y]))) else Nx H3) := by
  refine ⟨fun i m H => m + i = ys.length ∧ Pv i H, ⟨ys.length, Nat.add_zero _, h0⟩, ?_⟩
  rintro i m H ⟨em, pv⟩
  have s := src i H (by omega) pv
  rcases Nat.lt_or_ge i ys.length with lt | ge
  · refine .inr ⟨⟨ys, ys[i], s, List.getElem?_eq_getElem lt⟩, Pv (i + 1), fun H' z => ⟨m - 1, by omega, by omega, z⟩, ?_⟩
    rintro x H' ⟨p, y, rfl, hp, rfl, hy⟩
    exact turn i y H p (hy ys s) pv hp
  · have e : i = ys.length := by omega
    subst e
    exact .inl ⟨⟨ys, s, rfl⟩, fin H pv⟩
/-- sum(t), t a tuple of ints -/
def rSumT (K : PySem.W.Frag) : List V → Hp → VK → Prop := fun vs H Q => ∃ (a : Addr) (zs : List Int), vs = [V.ref a] ∧ SqT K H a (zs.map V.int) ∧ Q (.int zs.sum) H
theorem cr_sumT {X : Cx} (calm : X.calm = true) : CallR X (.builtin "sum") (rSumT X.K) := by
  intro pins sh σ H vs us Q I rel hyp
  obtain ⟨a, zs, rfl, hz, q⟩ := hyp
  rw [Vals.ref1 rel]
  obtain ⟨its, rv, tp, _⟩ := I.tuple hz
  have hT : sh.heap.IsTuple a its.toArray := tp
  have isI : IntsAre its zs := Vals.ints rv
  obtain ⟨xs, ex⟩ := isI.allInts.items
  have en : numsOf (intItems xs).toList = zs := by
    rw [← ex]
    exact isI.numsOf
  rw [nums_intItems] at en
  rw [ex] at hT
  refine PySem.W.ktm_sumG (I.ok.hd calm) hT fun h' tk t' kp => ?_
  rw [preSum_eq, List.take_of_length_le (by simp), en]
  exact ⟨.int zs.sum, H, I.kept kp, ⟨_, rfl⟩, q⟩
/-- enumerate over a list, by a word -/
theorem for_enumL {K : PySem.W.Frag} {a : Addr} {ys : List V} {g : TG} {tb : TS} {D : Ends} {σ : L2.St} {H : Hp} (Pv : Nat → L2.St → Hp → Prop) (h0 : Pv 0 σ H) (src : ∀ i σ H, i ≤ ys.length → Pv i σ H → SqL K H a ys)
    (turn : ∀ i y σ H p, ys[i]? = some y → Pv i σ H → H p = Option.none → g (.ref p) σ (upd H p (.tup [.int (i : Nat), y])) fun σ2 H2 => tb { D with nx := Pv (i + 1), ct := Pv (i + 1), bk := D.nx } σ2 H2) (fin : ∀ σ H, Pv ys.length σ H → D.nx σ H) :
    ∃ W : Nat → Nat → L2.St → Hp → Prop, (∃ m, W 0 m σ H) ∧ ∀ i m σ H, W i m σ H →
      ((Ite K a).stop i H ∧ D.nx σ H) ∨ ((Ite K a).go i H ∧ ∃ N : L2.St → Hp → Prop, (∀ σ' H', N σ' H' → ∃ m', m' < m ∧ W (i + 1) m' σ' H') ∧ ∀ x H', (Ite K a).yld i H x H' → g x σ H' fun σ2 H2 => tb { D with nx := N, ct := N, bk := D.nx } σ2 H2) := by
  refine ⟨fun i m σ H => m + i = ys.length ∧ Pv i σ H, ⟨ys.length, Nat.add_zero _, h0⟩, ?_⟩
  rintro i m σ H ⟨em, pv⟩
  have s := src i σ H (by omega) pv
  rcases Nat.lt_or_ge i ys.length with lt | ge
  · refine .inr ⟨⟨ys, ys[i], s, List.getElem?_eq_getElem lt⟩, Pv (i + 1), fun σ' H' z => ⟨m - 1, by omega, by omega, z⟩, ?_⟩
    rintro x H' ⟨p, y, rfl, hp, rfl, hy⟩
    exact turn i y σ H p (hy ys s) pv hp
  · have e : i = ys.length := by omega
    subst e
    exact .inl ⟨⟨ys, s, Nat.le_refl _⟩, fin σ H pv⟩
/-- k in xs, xs a list of ints -/
theorem inV_ints (zs : List Int) (k : Int) : inV (V.int k) (zs.map V.int) = decide (k ∈ zs) := by
  induction zs with
  | nil => rfl
  | cons a r ih =>
    have e : inV (V.int k) ((a :: r).map V.int) = (eqV (V.int a) (V.int k) || inV (V.int k) (r.map V.int)) := rfl
    rw [e, ih]
    by_cases h : a = k
    · subst h
      simp [eqV]
    · have h' : ¬ k = a := fun z => h z.symm
      simp [eqV, h, h']
theorem flat_ints (zs : List Int) : (zs.map V.int).all flatV = true := by
  rw [List.all_eq_true]
  intro x hx
  obtain ⟨z, _, rfl⟩ := List.mem_map.mp hx
  rfl
end

/-! ### the mathematics of weights -/
/-- the weights at the places below n that f lists, in order -/
def pick (ws : List Int) (f : Int → Bool) : Nat → List Int
  | 0 => []
  | n + 1 => if f (n : Int) then pick ws f n ++ [ws.getD n 0] else pick ws f n
def wt (ws : List Int) (f : Int → Bool) (n : Nat) : Int := (pick ws f n).sum
theorem wt_succ (ws : List Int) (f : Int → Bool) (n : Nat) : wt ws f (n + 1) = wt ws f n + (if f (n : Int) then ws.getD n 0 else 0) := by
  unfold wt
  rw [pick]
  split
  · rw [List.sum_append, List.sum_cons, List.sum_nil, Int.add_zero]
  · rw [Int.add_zero]
theorem pick_len (ws : List Int) (f : Int → Bool) : ∀ n, (pick ws f n).length ≤ n
  | 0 => Nat.le_refl _
  | n + 1 => by
    have ih := pick_len ws f n
    rw [pick]
    split
    · rw [List.length_append, List.length_singleton]
      omega
    · omega
theorem wt_congr (ws : List Int) (f g : Int → Bool) : ∀ n, (∀ k : Nat, k < n → f k = g k) → wt ws f n = wt ws g n
  | 0, _ => rfl
  | n + 1, h => by
    rw [wt_succ, wt_succ, wt_congr ws f g n fun k hk => h k (Nat.lt_succ_of_lt hk), h n (Nat.lt_succ_self n)]
theorem wt_take (ws : List Int) : ∀ n, n ≤ ws.length → wt ws (fun _ => true) n = (ws.take n).sum
  | 0, _ => by simp [wt, pick]
  | n + 1, h => by
    have hn : n < ws.length := h
    rw [wt_succ, wt_take ws n (Nat.le_of_lt hn), if_pos rfl, sum_take (List.getElem?_eq_getElem hn), List.getD_eq_getElem?_getD, List.getElem?_eq_getElem hn]
    rfl
theorem wt_all (ws : List Int) : wt ws (fun _ => true) ws.length = ws.sum := by
  rw [wt_take ws _ (Nat.le_refl _), List.take_length]
theorem wt_not (ws : List Int) (f : Int → Bool) : ∀ n, wt ws f n + wt ws (fun k => !f k) n = wt ws (fun _ => true) n
  | 0 => rfl
  | n + 1 => by
    have ih := wt_not ws f n
    rw [wt_succ, wt_succ, wt_succ, if_pos rfl]
    cases f (n : Int)
    · simp
      omega
    · simp
      omega
theorem wt_both (ws : List Int) (f g : Int → Bool) (pos : ∀ k : Nat, 0 ≤ ws.getD k 0) : ∀ n, wt ws f n + wt ws g n ≤ wt ws (fun k => f k && g k) n + wt ws (fun _ => true) n
  | 0 => Int.le_refl _
  | n + 1 => by
    have ih := wt_both ws f g pos n
    have p := pos n
    rw [wt_succ, wt_succ, wt_succ, wt_succ, if_pos rfl]
    cases f (n : Int) <;> cases g (n : Int) <;> simp only [Bool.and_self, Bool.and_true, Bool.and_false, Bool.true_and, Bool.false_and, if_true, Bool.false_eq_true, if_false] <;> omega
/-- the weight of some listed members -/
def wOf (ws ms : List Int) : Int := wt ws (fun k => decide (k ∈ ms)) ws.length
/-- the places below n that f lists -/
def sel (f : Int → Bool) : Nat → List Int
  | 0 => []
  | n + 1 => if f (n : Int) then sel f n ++ [(n : Int)] else sel f n
theorem sel_len (f : Int → Bool) : ∀ n, (sel f n).length ≤ n
  | 0 => Nat.le_refl _
  | n + 1 => by
    have ih := sel_len f n
    rw [sel]
    split
    · rw [List.length_append, List.length_singleton]
      omega
    · omega
theorem mem_sel (f : Int → Bool) (k : Nat) : ∀ n, (k : Int) ∈ sel f n ↔ k < n ∧ f k = true
  | 0 => by simp [sel]
  | n + 1 => by
    have ih := mem_sel f k n
    rw [sel]
    split
    · rename_i h
      rw [List.mem_append, ih, List.mem_singleton]
      constructor
      · rintro (⟨h1, h2⟩ | h1)
        · exact ⟨by omega, h2⟩
        · have e : k = n := by omega
          subst e
          exact ⟨Nat.lt_succ_self _, h⟩
      · rintro ⟨h1, h2⟩
        rcases Nat.lt_or_ge k n with h3 | h3
        · exact .inl ⟨h3, h2⟩
        · exact .inr (by omega)
    · rename_i h
      rw [ih]
      constructor
      · rintro ⟨h1, h2⟩
        exact ⟨by omega, h2⟩
      · rintro ⟨h1, h2⟩
        refine ⟨?_, h2⟩
        rcases Nat.lt_or_ge k n with h3 | h3
        · exact h3
        · have e : k = n := by omega
          subst e
          exact absurd h2 h
/-- who is not listed weighs what is left -/
theorem wOf_rest (ws ms : List Int) : wOf ws ms + wOf ws (sel (fun k => !decide (k ∈ ms)) ws.length) = ws.sum := by
  unfold wOf
  rw [wt_congr ws (fun k => decide (k ∈ sel (fun k => !decide (k ∈ ms)) ws.length)) (fun k => !decide (k ∈ ms)) ws.length fun k hk => ?_]
  · rw [wt_not, wt_all]
  · rw [Bool.eq_iff_iff, decide_eq_true_iff, mem_sel]
    exact ⟨fun z => z.2, fun z => ⟨hk, z⟩⟩
theorem wOf_common (ws ms ns : List Int) (pos : ∀ k : Nat, 0 ≤ ws.getD k 0) : wOf ws ms + wOf ws ns ≤ wOf ws (ms.filter fun k => decide (k ∈ ns)) + ws.sum := by
  unfold wOf
  have h := wt_both ws (fun k => decide (k ∈ ms)) (fun k => decide (k ∈ ns)) pos ws.length
  rw [wt_all] at h
  rw [wt_congr ws (fun k => decide (k ∈ ms.filter fun k => decide (k ∈ ns))) (fun k => decide (k ∈ ms) && decide (k ∈ ns)) ws.length fun k _ => ?_]
  · exact h
  · rw [Bool.eq_iff_iff]
    simp [List.mem_filter]

/-! ### a committee as it stands -/
theorem ne_ws : ¬ (("weights" : Str) = "size") := by decide +kernel
theorem ne_wt : ¬ (("weights" : Str) = "total") := by decide +kernel
theorem ne_st : ¬ (("size" : Str) = "total") := by decide +kernel
def cfs (t : Addr) (ws : List Int) : List (Str × V) := putF "total" (.int ws.sum) (putF "size" (.int ws.length) (putF "weights" (.ref t) []))
theorem cfs_w (t : Addr) (ws : List Int) : (cfs t ws).lookup ("weights" : Str) = some (.ref t) := by
  unfold cfs
  rw [lookup_putF, if_neg ne_wt, lookup_putF, if_neg ne_ws, lookup_putF, if_pos rfl]
theorem cfs_s (t : Addr) (ws : List Int) : (cfs t ws).lookup ("size" : Str) = some (.int ws.length) := by
  unfold cfs
  rw [lookup_putF, if_neg ne_st, lookup_putF, if_pos rfl]
theorem cfs_t (t : Addr) (ws : List Int) : (cfs t ws).lookup ("total" : Str) = some (.int ws.sum) := by
  unfold cfs
  rw [lookup_putF, if_pos rfl]
theorem cfs_no (t : Addr) (ws : List Int) {m : Str} (h1 : ¬ m = "weights") (h2 : ¬ m = "size") (h3 : ¬ m = "total") : (cfs t ws).lookup m = none := by
  unfold cfs
  rw [lookup_putF, if_neg h3, lookup_putF, if_neg h2, lookup_putF, if_neg h1]
  all_goals rfl
def CommAt (C : Addr) (H : Hp) (p : Addr) (ws : List Int) : Prop := ∃ dx t, H p = some (.ins C dx (cfs t ws)) ∧ H t = some (.tup (ws.map V.int))
theorem CommAt.same {C : Addr} {H H' : Hp} {p : Addr} {ws : List Int} (h : CommAt C H p ws) (s : Same H H') : CommAt C H' p ws := by
  obtain ⟨dx, t, h1, h2⟩ := h
  exact ⟨dx, t, s _ _ h1, s _ _ h2⟩
/-- weights that a committee takes -/
def GoodW (ws : List Int) : Prop := 0 < ws.length ∧ ws.length ≤ 16 ∧ ∀ w ∈ ws, 1 ≤ w ∧ w ≤ 1000000000000

/-! ### the data: a statement as the tuple that it is -/
inductive Kd where
  | prop | pre | com
  deriving DecidableEq
def Kd.s : Kd → Str
  | .prop => "proposal"
  | .pre => "prevote"
  | .com => "precommit"
structure Sm where
  k : Kd
  h : Int
  t : Int
  b : Option Str
  l : Option Int
def oS : Option Str → V
  | none => .non
  | some x => .str x
def oI : Option Int → V
  | none => .non
  | some x => .int x
def Sm.vals (m : Sm) : List V := match m.k with
  | .pre => [.str m.k.s, .int m.h, .int m.t, oS m.b, oI m.l]
  | _ => [.str m.k.s, .int m.h, .int m.t, oS m.b]
def SmAt (H : Hp) (p : Addr) (m : Sm) : Prop := H p = some (.tup m.vals)
theorem at0 (m : Sm) : atI m.vals 0 = some (.str m.k.s) := by
  cases m with | mk k h t b l => cases k <;> rfl
theorem at1 (m : Sm) : atI m.vals 1 = some (.int m.h) := by
  cases m with | mk k h t b l => cases k <;> rfl
theorem at2 (m : Sm) : atI m.vals 2 = some (.int m.t) := by
  cases m with | mk k h t b l => cases k <;> rfl
theorem at3 (m : Sm) : atI m.vals 3 = some (oS m.b) := by
  cases m with | mk k h t b l => cases k <;> rfl
theorem at4 (m : Sm) (e : m.k = .pre) : atI m.vals 4 = some (oI m.l) := by
  cases m with | mk k h t b l => cases k <;> first | rfl | cases e
theorem ks_pp : ¬ (("proposal" : Str) = "prevote") := by decide +kernel
theorem ks_pc : ¬ (("proposal" : Str) = "precommit") := by decide +kernel
theorem ks_vc : ¬ (("prevote" : Str) = "precommit") := by decide +kernel
theorem ks_vp : ¬ (("prevote" : Str) = "proposal") := fun e => ks_pp e.symm
theorem ks_cp : ¬ (("precommit" : Str) = "proposal") := fun e => ks_pc e.symm
theorem ks_cv : ¬ (("precommit" : Str) = "prevote") := fun e => ks_vc e.symm
theorem kd_inj (a b : Kd) : a.s = b.s ↔ a = b := by
  cases a <;> cases b <;> simp [Kd.s, ks_pp, ks_pc, ks_vc, ks_vp, ks_cp, ks_cv]
theorem dec_kd (a b : Kd) : decide (V.str a.s = V.str b.s) = decide (a = b) := by
  rw [Bool.eq_iff_iff, decide_eq_true_iff, decide_eq_true_iff]
  constructor
  · intro e
    injection e with e
    exact (kd_inj a b).mp e
  · intro e
    rw [e]
theorem kprop (a : Kd) : (V.str a.s = V.str "proposal") = (a = .prop) := propext (by simpa [Kd.s] using decide_eq_decide.mp (dec_kd a .prop))
theorem kpre (a : Kd) : (V.str a.s = V.str "prevote") = (a = .pre) := propext (by simpa [Kd.s] using decide_eq_decide.mp (dec_kd a .pre))
theorem kcom (a : Kd) : (V.str a.s = V.str "precommit") = (a = .com) := propext (by simpa [Kd.s] using decide_eq_decide.mp (dec_kd a .com))
theorem koS (a b : Option Str) : (oS a = oS b) = (a = b) := propext (by
  cases a <;> cases b <;> simp [oS])
theorem koSn (a : Option Str) : (oS a = V.non) = (a = none) := koS a none
theorem koIn (a : Option Int) : (oI a = V.non) = (a = none) := by cases a <;> simp [oI]
theorem dec_oS (a b : Option Str) : decide (oS a = oS b) = decide (a = b) := by
  rw [Bool.eq_iff_iff, decide_eq_true_iff, decide_eq_true_iff]
  constructor
  · intro e
    cases a <;> cases b <;> first | rfl | cases e
    rfl
  · intro e
    rw [e]
theorem dec_oSn (a : Option Str) : decide (oS a = V.non) = decide (a = none) := dec_oS a none
theorem dec_oIn (a : Option Int) : decide (oI a = V.non) = decide (a = none) := by
  cases a <;> rfl
theorem scal_oS (a b : Option Str) : scal (oS a) (oS b) = true := by
  cases a <;> cases b <;> rfl
/-! ### the mirror -/
def abandM (x y : Sm) : Bool :=
  if x.k = .com ∧ y.k = .pre ∧ x.b ≠ none ∧ y.b ≠ none ∧ x.b ≠ y.b ∧ x.t < y.t then (match y.l with | none => true | some l => decide (l < x.t)) else false
def clashM (x y : Sm) : Bool :=
  if x.h ≠ y.h then false
  else if x.k = y.k then (decide (x.k ≠ .prop) && (decide (x.t = y.t) && decide (x.b ≠ y.b)))
  else (abandM x y || abandM y x)
theorem clashM_comm (x y : Sm) : clashM x y = clashM y x := by
  unfold clashM
  by_cases h1 : x.h = y.h
  · by_cases h2 : x.k = y.k
    · simp only [h1, h2, ne_eq, not_true_eq_false, if_false, if_true]
      congr 1
      congr 1
      · exact decide_eq_decide.mpr ⟨Eq.symm, Eq.symm⟩
      · exact decide_eq_decide.mpr ⟨Ne.symm, Ne.symm⟩
    · have h3 : ¬ y.k = x.k := fun e => h2 e.symm
      simp only [h1, h2, h3, ne_eq, not_true_eq_false, if_false, Bool.or_comm]
  · have h3 : ¬ y.h = x.h := fun e => h1 e.symm
    simp only [h1, h3, ne_eq, not_false_eq_true, if_true]
def OkS (b : Option Str) : Prop := ∀ x, b = some x → PyData.strOk x = true
theorem okA : OkS (some "a") := fun x e => by
  cases e
  decide +kernel
theorem okB : OkS (some "b") := fun x e => by
  cases e
  decide +kernel
theorem okN : OkS none := fun x e => nomatch e
theorem pick5 {i : Int} (h0 : 0 ≤ i) (h5 : i < 5) : ∃ b : Option Str, atI [V.str "a", V.str "b", V.str "a", V.str "b", V.non] i = some (oS b) ∧ OkS b := by
  have h : i = 0 ∨ i = 1 ∨ i = 2 ∨ i = 3 ∨ i = 4 := by omega
  rcases h with rfl | rfl | rfl | rfl | rfl
  · exact ⟨some "a", rfl, okA⟩
  · exact ⟨some "b", rfl, okB⟩
  · exact ⟨some "a", rfl, okA⟩
  · exact ⟨some "b", rfl, okB⟩
  · exact ⟨none, rfl, okN⟩
def Sm.dat (m : Sm) : List PyData := match m.k with
  | .pre => [.str m.k.s, .int m.h, .int m.t, (match m.b with | none => .none | some x => .str x), (match m.l with | none => .none | some x => .int x)]
  | _ => [.str m.k.s, .int m.h, .int m.t, (match m.b with | none => .none | some x => .str x)]
theorem dp_oS {K : PySem.W.Frag} {H : Hp} (b : Option Str) : Dp K H (oS b) (match b with | none => .none | some x => .str x) := by
  cases b with
  | none => exact .non
  | some x => exact .str x
theorem dp_oI {K : PySem.W.Frag} {H : Hp} (b : Option Int) : Dp K H (oI b) (match b with | none => .none | some x => .int x) := by
  cases b with
  | none => exact .non
  | some x => exact .int x
theorem dp_sm {K : PySem.W.Frag} {H : Hp} {p : Addr} {m : Sm} (h : H p = some (.tup m.vals)) : Dp K H (.ref p) (.tuple m.dat) := by
  refine .tup (SqT.of h) ?_
  obtain ⟨mk, mh, mt, mb, ml⟩ := m
  cases mk
  · exact .cons (.str _) (.cons (.int _) (.cons (.int _) (.cons (dp_oS _) .nil)))
  · exact .cons (.str _) (.cons (.int _) (.cons (.int _) (.cons (dp_oS _) (.cons (dp_oI _) .nil))))
  · exact .cons (.str _) (.cons (.int _) (.cons (.int _) (.cons (dp_oS _) .nil)))
theorem ks_ok (k : Kd) : PyData.strOk k.s = true := by
  cases k <;> decide +kernel
theorem shaped_sm (m : Sm) (o : OkS m.b) : SeqAt.shaped (.tuple m.dat) = true := by
  obtain ⟨mk, mh, mt, mb, ml⟩ := m
  cases mk <;> cases mb <;> cases ml <;> simp [Sm.dat, SeqAt.shaped, PyData.canLay0, PyData.canLayAll0, PyData.depth, PyData.depthAll, ks_ok] <;> exact o _ rfl
theorem eqv_sm (m : Sm) (o : OkS m.b) : PyData.eqv (.tuple m.dat) (.tuple m.dat) = true := SeqAt.eqv_refl _ (by
  obtain ⟨mk, mh, mt, mb, ml⟩ := m
  cases mk <;> cases mb <;> cases ml <;> simp [Sm.dat, PyData.canLay0, PyData.canLayAll0, ks_ok] <;> exact o _ rfl)
def spVote (K : PySem.W.Frag) : Sp := fun vs H Q _ => ∃ (p : Addr) (m : Sm), vs = [.ref p] ∧ SmAt H p m ∧ ∀ H', Same H H' → Q (.bl (decide (m.k ≠ .prop))) H'
def spAband (K : PySem.W.Frag) : Sp := fun vs H Q _ => ∃ (p q : Addr) (m n : Sm), vs = [.ref p, .ref q] ∧ SmAt H p m ∧ SmAt H q n ∧ ∀ H', Same H H' → Q (.bl (abandM m n)) H'
def spClash (K : PySem.W.Frag) : Sp := fun vs H Q _ => ∃ (p q : Addr) (m n : Sm), vs = [.ref p, .ref q] ∧ SmAt H p m ∧ SmAt H q n ∧ ∀ H', Same H H' → Q (.bl (clashM m n)) H'

/-! ### letters, lists of letters, what is due -/
structure Lt where
  w : Int
  m : Sm
instance : Inhabited Lt := ⟨⟨0, ⟨.prop, 0, 0, none, none⟩⟩⟩
def LtAt (H : Hp) (p : Addr) (x : Lt) : Prop := ∃ q, H p = some (.tup [.int x.w, .ref q]) ∧ SmAt H q x.m
theorem LtAt.same {H H' : Hp} {p : Addr} {x : Lt} (h : LtAt H p x) (s : Same H H') : LtAt H' p x := by
  obtain ⟨q, h1, h2⟩ := h
  exact ⟨q, s _ _ h1, s _ _ h2⟩
theorem ne_lst {H : Hp} {p l : Addr} {xs ys : List V} (h : H p = some (.tup xs)) (hl : H l = some (.lst ys)) : p ≠ l := fun e => by
  rw [e, hl] at h
  cases h
theorem LtAt.upd {H : Hp} {p l : Addr} {x : Lt} {ys : List V} {o : HO} (h : LtAt H p x) (hl : H l = some (.lst ys)) : LtAt (upd H l o) p x := by
  obtain ⟨q, h1, h2⟩ := h
  have h2' : H q = some (.tup x.m.vals) := h2
  refine ⟨q, ?_, ?_⟩
  · rw [upd_ne (ne_lst h1 hl)]
    exact h1
  · unfold SmAt
    rw [upd_ne (ne_lst h2' hl)]
    exact h2
def LsAt (H : Hp) (ps : List Addr) (xs : List Lt) : Prop := ps.length = xs.length ∧ ∀ i, i < xs.length → LtAt H (ps.getD i 0) (xs.getD i default)
theorem LsAt.nil {H : Hp} : LsAt H [] [] := ⟨rfl, fun i h => absurd h (Nat.not_lt_zero i)⟩
theorem LsAt.same {H H' : Hp} {ps : List Addr} {xs : List Lt} (h : LsAt H ps xs) (s : Same H H') : LsAt H' ps xs := ⟨h.1, fun i hi => (h.2 i hi).same s⟩
theorem LsAt.upd {H : Hp} {ps : List Addr} {xs : List Lt} {l : Addr} {ys : List V} {o : HO} (h : LsAt H ps xs) (hl : H l = some (.lst ys)) : LsAt (upd H l o) ps xs := ⟨h.1, fun i hi => (h.2 i hi).upd hl⟩
theorem getD_left {α : Type} {d : α} {xs ys : List α} {i : Nat} (h : i < xs.length) : (xs ++ ys).getD i d = xs.getD i d := by
  rw [List.getD_eq_getElem?_getD, List.getD_eq_getElem?_getD, List.getElem?_append_left h]
theorem getD_last {α : Type} {d : α} {xs : List α} {x : α} : (xs ++ [x]).getD xs.length d = x := by
  rw [List.getD_eq_getElem?_getD, List.getElem?_append_right (Nat.le_refl _), Nat.sub_self]
  rfl
theorem LsAt.snoc {H : Hp} {ps : List Addr} {xs : List Lt} {p : Addr} {x : Lt} (h : LsAt H ps xs) (e : LtAt H p x) : LsAt H (ps ++ [p]) (xs ++ [x]) := by
  refine ⟨by rw [List.length_append, List.length_append, h.1]; rfl, fun i hi => ?_⟩
  rw [List.length_append, List.length_singleton] at hi
  rcases Nat.lt_or_ge i xs.length with z | z
  · rw [getD_left (by rw [h.1]; exact z), getD_left z]
    exact h.2 i z
  · have ei : i = xs.length := by omega
    subst ei
    rw [getD_last]
    have : (ps ++ [p]).getD xs.length 0 = p := by rw [← h.1, getD_last]
    rw [this]
    exact e
theorem at_refs {ps : List Addr} {i : Nat} (h : i < ps.length) : (ps.map V.ref)[i]? = some (.ref (ps.getD i 0)) := by
  rw [List.getElem?_map, List.getD_eq_getElem?_getD, List.getElem?_eq_getElem h]
  rfl
def ownOf (xs : List Lt) (who : Int) : List Lt := xs.filter fun x => decide (x.w = who)
theorem take_succ_getD {α : Type} {d : α} {xs : List α} {i : Nat} (h : i < xs.length) : xs.take (i + 1) = xs.take i ++ [xs.getD i d] := by
  rw [List.take_add_one, List.getElem?_eq_getElem h, List.getD_eq_getElem?_getD, List.getElem?_eq_getElem h]
  rfl
theorem own_yes {xs : List Lt} {who : Int} {i : Nat} (h : i < xs.length) (e : (xs.getD i default).w = who) : ownOf (xs.take (i + 1)) who = ownOf (xs.take i) who ++ [xs.getD i default] := by
  unfold ownOf
  rw [take_succ_getD (d := default) h, List.filter_append, List.filter_cons_of_pos (by exact decide_eq_true e)]
  rfl
theorem own_no {xs : List Lt} {who : Int} {i : Nat} (h : i < xs.length) (e : ¬ (xs.getD i default).w = who) : ownOf (xs.take (i + 1)) who = ownOf (xs.take i) who := by
  unfold ownOf
  rw [take_succ_getD (d := default) h, List.filter_append, List.filter_cons_of_neg (by simpa using e), List.filter_nil, List.append_nil]
theorem own_len (xs : List Lt) (who : Int) : (ownOf xs who).length ≤ xs.length := List.length_filter_le _ _
theorem own_mem {xs : List Lt} {who : Int} {x : Lt} (h : x ∈ ownOf xs who) : x ∈ xs ∧ x.w = who := by
  unfold ownOf at h
  rw [List.mem_filter] at h
  exact ⟨h.1, of_decide_eq_true h.2⟩
theorem getD_mem2 {α : Type} {d : α} {xs : List α} {i : Nat} (h : i < xs.length) : xs.getD i d ∈ xs := by
  rw [List.getD_eq_getElem?_getD, List.getElem?_eq_getElem h]
  exact List.getElem_mem h
/-- the first letter before place n with which the one at place a clashes -/
def rowDue (own : List Lt) (a : Nat) : Nat → Option (Lt × Lt)
  | 0 => none
  | n + 1 => match rowDue own a n with
    | some r => some r
    | none => if clashM (own.getD n default).m (own.getD a default).m then some (own.getD n default, own.getD a default) else none
def colDue (own : List Lt) : Nat → Option (Lt × Lt)
  | 0 => none
  | n + 1 => match colDue own n with
    | some r => some r
    | none => rowDue own n n
def due (own : List Lt) : Option (Lt × Lt) := colDue own own.length
theorem row_mono {own : List Lt} {a i : Nat} {r : Lt × Lt} (h : rowDue own a i = some r) : ∀ d, rowDue own a (i + d) = some r
  | 0 => h
  | d + 1 => by
    show rowDue own a (i + d + 1) = some r
    rw [rowDue, row_mono h d]
theorem col_mono {own : List Lt} {i : Nat} {r : Lt × Lt} (h : colDue own i = some r) : ∀ d, colDue own (i + d) = some r
  | 0 => h
  | d + 1 => by
    show colDue own (i + d + 1) = some r
    rw [colDue, col_mono h d]
theorem row_no {own : List Lt} {a n : Nat} (h : rowDue own a n = none) (c : clashM (own.getD n default).m (own.getD a default).m = false) : rowDue own a (n + 1) = none := by
  rw [rowDue, h]
  show (if _ then _ else _) = _
  rw [c]
  rfl
theorem due_at {own : List Lt} {a n : Nat} (ha : a < own.length) (hn : n < a) (hc : colDue own a = none) (h : rowDue own a n = none) (c : clashM (own.getD n default).m (own.getD a default).m = true) :
    due own = some (own.getD n default, own.getD a default) := by
  have h1 : rowDue own a (n + 1) = some (own.getD n default, own.getD a default) := by
    rw [rowDue, h]
    show (if _ then _ else _) = _
    rw [c]
    rfl
  have h2 : rowDue own a a = some (own.getD n default, own.getD a default) := by
    have := row_mono h1 (a - (n + 1))
    rwa [Nat.add_sub_cancel' hn] at this
  have h3 : colDue own (a + 1) = some (own.getD n default, own.getD a default) := by
    rw [colDue, hc]
    exact h2
  have := col_mono h3 (own.length - (a + 1))
  rw [Nat.add_sub_cancel' ha] at this
  exact this
theorem col_no {own : List Lt} {a : Nat} (hc : colDue own a = none) (h : rowDue own a a = none) : colDue own (a + 1) = none := by
  rw [colDue, hc]
  exact h
theorem row_ok {own : List Lt} {a : Nat} (ha : a < own.length) : ∀ n, n ≤ own.length → ∀ f s, rowDue own a n = some (f, s) → f ∈ own ∧ s ∈ own ∧ clashM f.m s.m = true
  | 0, _, f, s, h => nomatch h
  | n + 1, hn, f, s, h => by
    rw [rowDue] at h
    split at h
    · rename_i r e
      cases h
      exact row_ok ha n (Nat.le_of_lt hn) f s e
    · split at h
      · rename_i c
        cases h
        exact ⟨getD_mem2 hn, getD_mem2 ha, c⟩
      · cases h
theorem col_ok {own : List Lt} : ∀ n, n ≤ own.length → ∀ f s, colDue own n = some (f, s) → f ∈ own ∧ s ∈ own ∧ clashM f.m s.m = true
  | 0, _, f, s, h => nomatch h
  | n + 1, hn, f, s, h => by
    rw [colDue] at h
    split at h
    · rename_i r e
      cases h
      exact col_ok n (Nat.le_of_lt hn) f s e
    · exact row_ok hn n (Nat.le_of_lt hn) f s h
theorem due_ok {own : List Lt} {f s : Lt} (h : due own = some (f, s)) : f ∈ own ∧ s ∈ own ∧ clashM f.m s.m = true := col_ok _ (Nat.le_refl _) f s h
def DueAt (H : Hp) (v : V) : Option (Lt × Lt) → Prop
  | none => v = .non
  | some r => ∃ p a b, v = .ref p ∧ H p = some (.tup [.ref a, .ref b]) ∧ LtAt H a r.1 ∧ LtAt H b r.2
def OkL (xs : List Lt) : Prop := ∀ x ∈ xs, OkS x.m.b
def Lt.dat (x : Lt) : PyData := .tuple [.int x.w, .tuple x.m.dat]
theorem dp_lt {K : PySem.W.Frag} {H : Hp} {p : Addr} {x : Lt} (h : LtAt H p x) : Dp K H (.ref p) x.dat := by
  obtain ⟨q, h1, h2⟩ := h
  exact .tup (SqT.of h1) (.cons (.int _) (.cons (dp_sm h2) .nil))
theorem lay_sm (m : Sm) (o : OkS m.b) : PyData.canLay0 (.tuple m.dat) = true := by
  have h := shaped_sm m o
  exact (Bool.and_eq_true_iff.mp h).1
theorem depth_sm (m : Sm) : PyData.depth (.tuple m.dat) = 1 := by
  obtain ⟨mk, mh, mt, mb, ml⟩ := m
  cases mk <;> cases mb <;> cases ml <;> simp [Sm.dat, PyData.depth, PyData.depthAll]
theorem lay_lt {x : Lt} (o : OkS x.m.b) : PyData.canLay0 x.dat = true := by
  simp only [Lt.dat, PyData.canLay0, PyData.canLayAll0, Bool.true_and, Bool.and_true]
  exact lay_sm x.m o
theorem depth_lt (x : Lt) : PyData.depth x.dat = 2 := by
  have h := depth_sm x.m
  simp only [Lt.dat, PyData.depth, PyData.depthAll] at h ⊢
  omega
theorem shaped_lt {x : Lt} (o : OkS x.m.b) : SeqAt.shaped x.dat = true := by
  unfold SeqAt.shaped
  rw [lay_lt o, depth_lt]
  rfl
theorem eqv_lt {x : Lt} (o : OkS x.m.b) : PyData.eqv x.dat x.dat = true := SeqAt.eqv_refl _ (lay_lt o)
theorem LsAt.cons {H : Hp} {p : Addr} {ps : List Addr} {x : Lt} {xs : List Lt} (h : LsAt H (p :: ps) (x :: xs)) : LtAt H p x ∧ LsAt H ps xs :=
  ⟨h.2 0 (Nat.succ_pos _), Nat.succ.inj h.1, fun i hi => h.2 (i + 1) (Nat.succ_lt_succ hi)⟩
theorem dp_lts {K : PySem.W.Frag} {H : Hp} : ∀ {ps : List Addr} {xs : List Lt}, LsAt H ps xs → DpAll K H (ps.map V.ref) (xs.map Lt.dat)
  | [], [], _ => .nil
  | p :: ps, x :: xs, h => .cons (dp_lt h.cons.1) (dp_lts h.cons.2)
  | [], x :: xs, h => nomatch h.1
  | p :: ps, [], h => nomatch h.1
theorem lay_lts : ∀ {xs : List Lt}, OkL xs → PyData.canLayAll0 (xs.map Lt.dat) = true
  | [], _ => by simp [PyData.canLayAll0]
  | x :: xs, o => by
    simp only [List.map_cons, PyData.canLayAll0]
    rw [lay_lt (o x List.mem_cons_self), lay_lts fun y hy => o y (List.mem_cons_of_mem _ hy)]
    rfl
theorem depth_lts : ∀ xs : List Lt, PyData.depthAll (xs.map Lt.dat) ≤ 2
  | [] => by simp [PyData.depthAll]
  | x :: xs => by
    have := depth_lts xs
    have := depth_lt x
    simp only [List.map_cons, PyData.depthAll]
    omega
theorem shaped_lts {xs : List Lt} (o : OkL xs) : SeqAt.shaped (.list (xs.map Lt.dat)) = true := by
  have h := depth_lts xs
  unfold SeqAt.shaped
  have e : PyData.depth (.list (xs.map Lt.dat)) = PyData.depthAll (xs.map Lt.dat) + 1 := by simp only [PyData.depth]
  have l : PyData.canLay0 (.list (xs.map Lt.dat)) = true := by simp only [PyData.canLay0, lay_lts o]
  rw [l, e, decide_eq_true (show PyData.depthAll (xs.map Lt.dat) + 1 ≤ 64 by omega)]
  rfl
theorem eqv_lts {xs : List Lt} (o : OkL xs) : PyData.eqv (.list (xs.map Lt.dat)) (.list (xs.map Lt.dat)) = true := SeqAt.eqv_refl _ (by
  simp only [PyData.canLay0, lay_lts o])

/-! ### certificates, turn by turn -/
def qrm (ws ms : List Int) : Bool := decide (2 * ws.sum < 3 * wOf ws ms)
def cnt (h t : Int) (b : Option Str) (L : List Int) (x : Lt) : Bool := decide (x.m.k = .pre ∧ x.m.h = h ∧ x.m.t = t ∧ x.m.b = b) && (match x.m.l with | none => true | some l => decide (l ∈ L) && decide (l < t))
def memM (xs : List Lt) (h t : Int) (b : Option Str) (L : List Int) : List Int := (xs.filter (cnt h t b L)).map Lt.w
/-- the turns below n with a certificate -/
def lns (ws : List Int) (xs : List Lt) (h : Int) (b : Option Str) : Nat → List Int
  | 0 => []
  | n + 1 => if qrm ws (memM xs h n b (lns ws xs h b n)) then lns ws xs h b n ++ [(n : Int)] else lns ws xs h b n
def certM (ws : List Int) (xs : List Lt) (h : Int) (b : Option Str) (n : Nat) : Bool := qrm ws (memM xs h n b (lns ws xs h b n))
def comS (xs : List Lt) (h t : Int) (b : Option Str) : List Int := (xs.filter fun x => decide (x.m.k = .com ∧ x.m.h = h ∧ x.m.t = t ∧ x.m.b = b)).map Lt.w
def commM (ws : List Int) (xs : List Lt) (h : Int) (b : Option Str) (n : Nat) : Bool := qrm ws (comS xs h n b) && certM ws xs h b n
theorem lns_len (ws : List Int) (xs : List Lt) (h : Int) (b : Option Str) : ∀ n, (lns ws xs h b n).length ≤ n
  | 0 => Nat.le_refl _
  | n + 1 => by
    have := lns_len ws xs h b n
    rw [lns]
    split
    · rw [List.length_append, List.length_singleton]
      omega
    · omega
theorem mem_yes {xs : List Lt} {h t : Int} {b : Option Str} {L : List Int} {i : Nat} (hi : i < xs.length) (c : cnt h t b L (xs.getD i default) = true) : memM (xs.take (i + 1)) h t b L = memM (xs.take i) h t b L ++ [(xs.getD i default).w] := by
  unfold memM
  rw [take_succ_getD (d := default) hi, List.filter_append, List.filter_cons_of_pos c, List.map_append]
  rfl
theorem mem_no {xs : List Lt} {h t : Int} {b : Option Str} {L : List Int} {i : Nat} (hi : i < xs.length) (c : cnt h t b L (xs.getD i default) = false) : memM (xs.take (i + 1)) h t b L = memM (xs.take i) h t b L := by
  unfold memM
  rw [take_succ_getD (d := default) hi, List.filter_append, List.filter_cons_of_neg (by rw [c]; exact Bool.false_ne_true), List.filter_nil, List.append_nil]
theorem mem_len (xs : List Lt) (h t : Int) (b : Option Str) (L : List Int) : (memM xs h t b L).length ≤ xs.length := by
  unfold memM
  rw [List.length_map]
  exact List.length_filter_le _ _
theorem com_yes {xs : List Lt} {h t : Int} {b : Option Str} {i : Nat} (hi : i < xs.length) (c : (xs.getD i default).m.k = .com ∧ (xs.getD i default).m.h = h ∧ (xs.getD i default).m.t = t ∧ (xs.getD i default).m.b = b) : comS (xs.take (i + 1)) h t b = comS (xs.take i) h t b ++ [(xs.getD i default).w] := by
  unfold comS
  rw [take_succ_getD (d := default) hi, List.filter_append, List.filter_cons_of_pos (by exact decide_eq_true c), List.map_append]
  rfl
theorem com_no {xs : List Lt} {h t : Int} {b : Option Str} {i : Nat} (hi : i < xs.length) (c : ¬ ((xs.getD i default).m.k = .com ∧ (xs.getD i default).m.h = h ∧ (xs.getD i default).m.t = t ∧ (xs.getD i default).m.b = b)) : comS (xs.take (i + 1)) h t b = comS (xs.take i) h t b := by
  unfold comS
  rw [take_succ_getD (d := default) hi, List.filter_append, List.filter_cons_of_neg (by rw [decide_eq_false c]; exact Bool.false_ne_true), List.filter_nil, List.append_nil]
theorem com_len (xs : List Lt) (h t : Int) (b : Option Str) : (comS xs h t b).length ≤ xs.length := by
  unfold comS
  rw [List.length_map]
  exact List.length_filter_le _ _
/-- a list of turns behind None -/
def lnV (L : List Int) : List V := .non :: L.map V.int
theorem flat_lnV (L : List Int) : (lnV L).all flatV = true := by
  unfold lnV
  rw [List.all_cons, flat_ints]
  rfl
theorem inV_lnV (l : Option Int) (L : List Int) : inV (oI l) (lnV L) = (match l with | none => true | some i => decide (i ∈ L)) := by
  cases l with
  | none => rfl
  | some i =>
    show (eqV .non (.int i) || inV (.int i) (L.map V.int)) = _
    rw [inV_ints]
    rfl
theorem cnt_f {h t : Int} {b : Option Str} {L : List Int} {x : Lt} (c : ¬ (x.m.k = .pre ∧ x.m.h = h ∧ x.m.t = t ∧ x.m.b = b)) : cnt h t b L x = false := by
  unfold cnt
  rw [decide_eq_false c]
  rfl
theorem cnt_t {h t : Int} {b : Option Str} {L : List Int} {x : Lt} (c : x.m.k = .pre ∧ x.m.h = h ∧ x.m.t = t ∧ x.m.b = b) : cnt h t b L x = (match x.m.l with | none => true | some l => decide (l ∈ L) && decide (l < t)) := by
  unfold cnt
  rw [decide_eq_true c]
  rfl
theorem flat_oI (l : Option Int) : flatV (oI l) = true := by
  cases l <;> rfl
theorem lnV_snoc (L : List Int) (i : Int) : lnV (L ++ [i]) = lnV L ++ [.int i] := by simp [lnV]
theorem lns_yes {ws : List Int} {xs : List Lt} {h : Int} {b : Option Str} {n : Nat} (c : certM ws xs h b n = true) : lns ws xs h b (n + 1) = lns ws xs h b n ++ [(n : Int)] := by
  rw [lns]
  exact if_pos c
theorem lns_no {ws : List Int} {xs : List Lt} {h : Int} {b : Option Str} {n : Nat} (c : ¬ certM ws xs h b n = true) : lns ws xs h b (n + 1) = lns ws xs h b n := by
  rw [lns]
  exact if_neg c
/-- == with a precommit -/
theorem eqv_com (m : Sm) (h t : Int) (b : Option Str) : PyData.eqv (.tuple m.dat) (.tuple (Sm.dat ⟨.com, h, t, b, none⟩)) = decide (m.k = .com ∧ m.h = h ∧ m.t = t ∧ m.b = b) := by
  obtain ⟨mk, mh, mt, mb, ml⟩ := m
  rw [Bool.eq_iff_iff, decide_eq_true_iff]
  have ks : ∀ x y : Kd, (x.s == y.s) = decide (x = y) := fun x y => by
    rw [Bool.eq_iff_iff, beq_iff_eq, decide_eq_true_iff]
    exact kd_inj x y
  have kp : (Kd.prop.s == Kd.com.s) = false := by
    rw [ks]
    decide
  have kv : (Kd.pre.s == Kd.com.s) = false := by
    rw [ks]
    decide
  cases mk
  · simp only [Sm.dat, PyData.eqv, PyData.eqvAll, kp, Bool.false_and, Bool.false_eq_true, false_iff, not_and]
    intro z
    cases z
  · simp only [Sm.dat, PyData.eqv, PyData.eqvAll, kv, Bool.false_and, Bool.false_eq_true, false_iff, not_and]
    intro z
    cases z
  · cases mb <;> cases b <;> simp [Sm.dat, PyData.eqv, PyData.eqvAll]

/-! ### a list of letters that is being made -/
def GoodLt (size : Int) (x : Lt) : Prop := OkS x.m.b ∧ 0 ≤ x.w ∧ x.w < size ∧ x.m.h = 0 ∧ x.m.k ≠ .prop ∧ 0 ≤ x.m.t ∧ x.m.t < 4
structure PL (H Hc : Hp) (pl : Addr) (size : Int) (n : Nat) (ps : List Addr) (xs : List Lt) : Prop where
  same : Same H Hc
  free : H pl = none
  at' : Hc pl = some (.lst (ps.map V.ref))
  ls : LsAt Hc ps xs
  good : ∀ x ∈ xs, GoodLt size x
  few : xs.length ≤ n
theorem PL.start {H Hc : Hp} {pl : Addr} {size : Int} (s : Same H Hc) (f : Hc pl = none) : PL H (upd Hc pl (.lst [])) pl size 0 [] [] :=
  ⟨s.trans (same_new f), s.free f, upd_same, LsAt.nil, fun x hx => (nomatch hx), Nat.le_refl _⟩
theorem PL.more {H Hc : Hp} {pl : Addr} {size : Int} {n n' : Nat} {ps : List Addr} {xs : List Lt} (I : PL H Hc pl size n ps xs) (h : n ≤ n') : PL H Hc pl size n' ps xs := { I with few := Nat.le_trans I.few h }
theorem PL.go {H Hc H' : Hp} {pl : Addr} {size : Int} {n : Nat} {ps : List Addr} {xs : List Lt} (I : PL H Hc pl size n ps xs) (s : Same Hc H') : PL H H' pl size n ps xs :=
  { I with same := I.same.trans s, at' := s _ _ I.at', ls := I.ls.same s }
theorem PL.push {H Hc : Hp} {pl t : Addr} {size : Int} {n : Nat} {ps : List Addr} {xs : List Lt} {x : Lt} (I : PL H Hc pl size n ps xs) (e : LtAt Hc t x) (g : GoodLt size x) : PL H (upd Hc pl (.lst (ps.map V.ref ++ [V.ref t]))) pl size (n + 1) (ps ++ [t]) (xs ++ [x]) where
  same := same_upd I.same I.free
  free := I.free
  at' := by
    rw [upd_same]
    simp
  ls := (I.ls.snoc e).upd I.at'
  good := fun y hy => by
    rcases List.mem_append.mp hy with hy | hy
    · exact I.good y hy
    · rw [List.mem_singleton.mp hy]
      exact g
  few := by
    have := I.few
    rw [List.length_append, List.length_singleton]
    omega
theorem PL.fit {H Hc : Hp} {pl : Addr} {size : Int} {n : Nat} {ps : List Addr} {xs : List Lt} (I : PL H Hc pl size n ps xs) (h : n < 1000) : (ps.map V.ref).length < sizeLine := by
  have := I.few
  rw [List.length_map, I.ls.1]
  exact small1000 (by omega)
/-- a fresh statement in a fresh letter -/
theorem lt_new {H : Hp} {q t : Addr} {w : Int} {m : Sm} {vs : List V} (hq : H q = none) (ev : vs = m.vals) (ht : upd H q (.tup vs) t = none) : LtAt (upd (upd H q (.tup vs)) t (.tup [.int w, .ref q])) t ⟨w, m⟩ ∧ Same H (upd (upd H q (.tup vs)) t (.tup [.int w, .ref q])) := by
  have s1 : Same H (upd H q (.tup vs)) := same_new hq
  have s2 : Same (upd H q (.tup vs)) (upd (upd H q (.tup vs)) t (.tup [.int w, .ref q])) := same_new ht
  refine ⟨⟨q, upd_same, s2 _ _ ?_⟩, s1.trans s2⟩
  rw [upd_same, ev]
theorem upd_row {H : Hp} {pl pd : Addr} {o r : HO} (n : pd ≠ pl) (h : H pd = some r) : upd H pl o pd = some r := by
  rw [upd_ne n]
  exact h

/-- the members below n against whom something is due -/
def fnd (xs : List Lt) : Nat → List Int
  | 0 => []
  | n + 1 => if (due (ownOf xs (n : Int))).isSome then fnd xs n ++ [(n : Int)] else fnd xs n
theorem fnd_len (xs : List Lt) : ∀ n, (fnd xs n).length ≤ n
  | 0 => Nat.le_refl _
  | n + 1 => by
    have := fnd_len xs n
    rw [fnd]
    split
    · rw [List.length_append, List.length_singleton]
      omega
    · omega
theorem fnd_due (xs : List Lt) : ∀ n, ∀ w ∈ fnd xs n, 0 ≤ w ∧ w < n ∧ (due (ownOf xs w)).isSome = true
  | 0, w, h => nomatch h
  | n + 1, w, h => by
    rw [fnd] at h
    split at h
    · rename_i c
      rcases List.mem_append.mp h with h | h
      · have := fnd_due xs n w h
        exact ⟨this.1, by omega, this.2.2⟩
      · rw [List.mem_singleton.mp h]
        exact ⟨by omega, by omega, c⟩
    · have := fnd_due xs n w h
      exact ⟨this.1, by omega, this.2.2⟩
theorem fnd_nodup (xs : List Lt) : ∀ n, (fnd xs n).Nodup
  | 0 => List.nodup_nil
  | n + 1 => by
    have ih := fnd_nodup xs n
    rw [fnd]
    split
    · refine List.nodup_append.mpr ⟨ih, List.nodup_cons.mpr ⟨fun h => (nomatch h), List.nodup_nil⟩, fun a ha b hb e => ?_⟩
      rw [List.mem_singleton.mp hb] at e
      have := fnd_due xs n a ha
      omega
    · exact ih
theorem nodup_take {F : List Int} (nd : F.Nodup) {i : Nat} (hi : i < F.length) : F.getD i 0 ∉ F.take i := fun h => by
  have e := take_succ_getD (d := 0) hi
  have nd2 : (F.take (i + 1)).Nodup := nd.sublist (List.take_sublist _ _)
  rw [e, List.nodup_append] at nd2
  exact nd2.2.2 _ h _ (List.mem_singleton.mpr rfl) rfl
theorem any_lt {xs : List Lt} {x : Lt} (h : x ∈ xs) (o : OkS x.m.b) : ((xs.map Lt.dat).any fun z => PyData.eqv z x.dat) = true := List.any_eq_true.mpr ⟨x.dat, List.mem_map.mpr ⟨x, h, rfl⟩, eqv_lt o⟩

/-! ### two commits of different blocks: who is named weighs more than a third -/
theorem row_all {own : List Lt} {a : Nat} : ∀ n, rowDue own a n = none → ∀ k, k < n → clashM (own.getD k default).m (own.getD a default).m = false
  | 0, _, k, hk => absurd hk (Nat.not_lt_zero k)
  | n + 1, h, k, hk => by
    rw [rowDue] at h
    cases e : rowDue own a n with
    | some r =>
      rw [e] at h
      cases h
    | none =>
      rw [e] at h
      rcases Nat.lt_or_ge k n with z | z
      · exact row_all n e k z
      · have ek : k = n := by omega
        subst ek
        cases c : clashM (own.getD k default).m (own.getD a default).m with
        | false => rfl
        | true =>
          have h' : (if clashM (own.getD k default).m (own.getD a default).m = true then some (own.getD k default, own.getD a default) else none) = none := h
          rw [c] at h'
          cases h'
theorem col_all {own : List Lt} : ∀ n, colDue own n = none → ∀ a k, a < n → k < a → clashM (own.getD k default).m (own.getD a default).m = false
  | 0, _, a, k, ha, _ => absurd ha (Nat.not_lt_zero a)
  | n + 1, h, a, k, ha, hk => by
    rw [colDue] at h
    cases e : colDue own n with
    | some r =>
      rw [e] at h
      cases h
    | none =>
      rw [e] at h
      rcases Nat.lt_or_ge a n with z | z
      · exact col_all n e a k z hk
      · have ea : a = n := by omega
        subst ea
        exact row_all a h k hk
theorem clash_irr (m : Sm) : clashM m m = false := by
  unfold clashM
  simp
theorem due_some {own : List Lt} {x y : Lt} (hx : x ∈ own) (hy : y ∈ own) (c : clashM x.m y.m = true) : (due own).isSome = true := by
  cases e : due own with
  | some r => rfl
  | none =>
    exfalso
    obtain ⟨i, hi, rfl⟩ := List.getElem_of_mem hx
    obtain ⟨j, hj, rfl⟩ := List.getElem_of_mem hy
    have gi : own.getD i default = own[i] := by
      rw [List.getD_eq_getElem?_getD, List.getElem?_eq_getElem hi]
      rfl
    have gj : own.getD j default = own[j] := by
      rw [List.getD_eq_getElem?_getD, List.getElem?_eq_getElem hj]
      rfl
    rcases Nat.lt_trichotomy i j with z | z | z
    · have := col_all own.length e j i hj z
      rw [gi, gj, c] at this
      cases this
    · subst z
      rw [clash_irr] at c
      cases c
    · have := col_all own.length e i j hi z
      rw [gi, gj, clashM_comm, c] at this
      cases this
theorem mem_fnd {xs : List Lt} {k : Nat} (d : (due (ownOf xs (k : Int))).isSome = true) : ∀ n, k < n → (k : Int) ∈ fnd xs n
  | 0, h => absurd h (Nat.not_lt_zero k)
  | n + 1, h => by
    rw [fnd]
    rcases Nat.lt_or_ge k n with z | z
    · have ih := mem_fnd d n z
      split
      · exact List.mem_append_left _ ih
      · exact ih
    · have e : k = n := by omega
      subst e
      rw [if_pos d]
      exact List.mem_append_right _ (List.mem_singleton.mpr rfl)
theorem wt_mono (ws : List Int) (f g : Int → Bool) (pos : ∀ k : Nat, 0 ≤ ws.getD k 0) : ∀ n, (∀ k : Nat, k < n → f k = true → g k = true) → wt ws f n ≤ wt ws g n
  | 0, _ => Int.le_refl _
  | n + 1, h => by
    have ih := wt_mono ws f g pos n fun k hk => h k (Nat.lt_succ_of_lt hk)
    have p := pos n
    have hn := h n (Nat.lt_succ_self n)
    rw [wt_succ, wt_succ]
    cases ef : f (n : Int)
    · cases eg : g (n : Int)
      · simp only [Bool.false_eq_true, if_false]
        omega
      · simp only [Bool.false_eq_true, if_false, if_true]
        omega
    · rw [hn ef]
      simp only [if_true]
      omega
theorem common_third {ws ms1 ms2 : List Int} {xs : List Lt} (pos : ∀ k : Nat, 0 ≤ ws.getD k 0) (q1 : qrm ws ms1 = true) (q2 : qrm ws ms2 = true) (h : ∀ k : Nat, (k : Int) ∈ ms1 → (k : Int) ∈ ms2 → (due (ownOf xs (k : Int))).isSome = true) : ws.sum < 3 * wOf ws (fnd xs ws.length) := by
  have c := wOf_common ws ms1 ms2 pos
  have m : wOf ws (ms1.filter fun k => decide (k ∈ ms2)) ≤ wOf ws (fnd xs ws.length) := by
    unfold wOf
    refine wt_mono ws _ _ pos _ fun k hk hf => ?_
    have hm := of_decide_eq_true hf
    rw [List.mem_filter] at hm
    exact decide_eq_true (mem_fnd (h k hm.1 (of_decide_eq_true hm.2)) _ hk)
  have d1 := of_decide_eq_true q1
  have d2 := of_decide_eq_true q2
  omega
theorem mem_memM {xs : List Lt} {h t : Int} {b : Option Str} {L : List Int} {k : Int} (hk : k ∈ memM xs h t b L) : ∃ x ∈ xs, x.w = k ∧ x.m.k = .pre ∧ x.m.h = h ∧ x.m.t = t ∧ x.m.b = b ∧ (x.m.l = none ∨ ∃ l, x.m.l = some l ∧ l ∈ L ∧ l < t) := by
  unfold memM at hk
  obtain ⟨x, hx, e⟩ := List.mem_map.mp hk
  rw [List.mem_filter] at hx
  obtain ⟨hx, c⟩ := hx
  unfold cnt at c
  obtain ⟨c1, c2⟩ := Bool.and_eq_true_iff.mp c
  obtain ⟨a1, a2, a3, a4⟩ := of_decide_eq_true c1
  refine ⟨x, hx, e, a1, a2, a3, a4, ?_⟩
  cases el : x.m.l with
  | none => exact .inl rfl
  | some l =>
    rw [el] at c2
    obtain ⟨c3, c4⟩ := Bool.and_eq_true_iff.mp c2
    exact .inr ⟨l, rfl, of_decide_eq_true c3, of_decide_eq_true c4⟩
theorem mem_comS {xs : List Lt} {h t : Int} {b : Option Str} {k : Int} (hk : k ∈ comS xs h t b) : ∃ x ∈ xs, x.w = k ∧ x.m.k = .com ∧ x.m.h = h ∧ x.m.t = t ∧ x.m.b = b := by
  unfold comS at hk
  obtain ⟨x, hx, e⟩ := List.mem_map.mp hk
  rw [List.mem_filter] at hx
  obtain ⟨a1, a2, a3, a4⟩ := of_decide_eq_true hx.2
  exact ⟨x, hx.1, e, a1, a2, a3, a4⟩
theorem mem_lns {ws : List Int} {xs : List Lt} {h : Int} {b : Option Str} {l : Int} : ∀ n, l ∈ lns ws xs h b n → ∃ k : Nat, l = (k : Int) ∧ k < n ∧ certM ws xs h b k = true
  | 0, hl => nomatch hl
  | n + 1, hl => by
    rw [lns] at hl
    split at hl
    · rename_i c
      rcases List.mem_append.mp hl with hl | hl
      · obtain ⟨k, e, hk, hc⟩ := mem_lns n hl
        exact ⟨k, e, Nat.lt_succ_of_lt hk, hc⟩
      · exact ⟨n, List.mem_singleton.mp hl, Nat.lt_succ_self n, c⟩
    · obtain ⟨k, e, hk, hc⟩ := mem_lns n hl
      exact ⟨k, e, Nat.lt_succ_of_lt hk, hc⟩
theorem own_in {xs : List Lt} {x : Lt} {k : Int} (h : x ∈ xs) (e : x.w = k) : x ∈ ownOf xs k := by
  unfold ownOf
  rw [List.mem_filter]
  exact ⟨h, decide_eq_true e⟩
/-- a commit of one block and a certificate of another one in the same or a later turn -/
theorem safe_up {ws : List Int} {xs : List Lt} {h : Int} {a b : Str} (pos : ∀ k : Nat, 0 ≤ ws.getD k 0) (ne : a ≠ b) {t : Nat} (ca : commM ws xs h (some a) t = true) : ∀ n u : Nat, u ≤ n → t ≤ u → certM ws xs h (some b) u = true → ws.sum < 3 * wOf ws (fnd xs ws.length)
  | n, u, hn, htu, cb => by
    obtain ⟨qa, cta⟩ := Bool.and_eq_true_iff.mp ca
    rcases Nat.lt_or_ge t u with z | z
    · by_cases ex : ∃ v : Nat, t ≤ v ∧ v < u ∧ certM ws xs h (some b) v = true
      · obtain ⟨v, h1, h2, h3⟩ := ex
        exact safe_up pos ne ca (n - 1) v (by omega) h1 h3
      · refine common_third pos qa cb fun k k1 k2 => ?_
        obtain ⟨x, hx, ew, ek, eh, et, eb⟩ := mem_comS k1
        obtain ⟨y, hy, fw, fk, fh, ft, fb, fl⟩ := mem_memM k2
        refine due_some (own_in hx ew) (own_in hy fw) ?_
        have ab : abandM x.m y.m = true := by
          unfold abandM
          rw [if_pos ⟨ek, fk, by rw [eb]; exact fun z => (nomatch z), by rw [fb]; exact fun z => (nomatch z), by rw [eb, fb]; exact fun z => ne (Option.some.inj z), by rw [et, ft]; omega⟩]
          rcases fl with fl | ⟨l0, fl, hl, _⟩
          · rw [fl]
          · rw [fl]
            obtain ⟨v, rfl, hv, cv⟩ := mem_lns u hl
            refine decide_eq_true ?_
            rw [et]
            rcases Nat.lt_or_ge v t with w | w
            · omega
            · exact absurd ⟨v, w, hv, cv⟩ ex
        unfold clashM
        rw [if_neg (by rw [eh, fh]; exact fun z => z rfl), if_neg (by rw [ek, fk]; exact fun z => (nomatch z)), ab]
        rfl
    · have e : u = t := by omega
      subst e
      refine common_third pos cta cb fun k k1 k2 => ?_
      obtain ⟨x, hx, ew, ek, eh, et, eb, _⟩ := mem_memM k1
      obtain ⟨y, hy, fw, fk, fh, ft, fb, _⟩ := mem_memM k2
      refine due_some (own_in hx ew) (own_in hy fw) ?_
      unfold clashM
      rw [if_neg (by rw [eh, fh]; exact fun z => z rfl), if_pos (by rw [ek, fk]), decide_eq_true (show x.m.k ≠ .prop by rw [ek]; exact fun z => (nomatch z)), decide_eq_true (show x.m.t = y.m.t by rw [et, ft]), decide_eq_true (show x.m.b ≠ y.m.b by rw [eb, fb]; exact fun z => ne (Option.some.inj z))]
      rfl
  termination_by n => n
  decreasing_by omega
theorem safety {ws : List Int} {xs : List Lt} {h : Int} {a b : Str} (pos : ∀ k : Nat, 0 ≤ ws.getD k 0) (ne : a ≠ b) {t u : Nat} (ca : commM ws xs h (some a) t = true) (cb : commM ws xs h (some b) u = true) : ws.sum < 3 * wOf ws (fnd xs ws.length) := by
  rcases Nat.le_total t u with z | z
  · exact safe_up pos ne ca u u (Nat.le_refl _) z (Bool.and_eq_true_iff.mp cb).2
  · exact safe_up pos (fun e => ne e.symm) cb t t (Nat.le_refl _) z (Bool.and_eq_true_iff.mp ca).2

/-! ### own errors without an own __init__: caught, asked -/
structure XcC (K : PySem.W.Frag) (D : Addr) : Prop where
  cl : (PySem.W.clsIn K D).isSome = true
  ga : PySem.W.findIn K (.ref D) "__getattribute__" = some (some (.builtin "BaseException.__getattribute__"))
  gt : PySem.W.findIn K (.ref D) "__getattr__" = some Option.none
  sub : PySem.W.subIn K (.ref D) (.type "BaseException") = some true
  has : PySem.W.hasDictIn K D = true
  cls : PySem.W.findIn K (.ref D) "__class__" = some (some (.builtin "object.__class__"))
  get : PySem.W.specialIn K (.builtin "object.__class__") "__get__" = some (some (.builtin "getset_descriptor.__get__"))
  tk : PySem.W.takesIn K (.builtin "object.__class__") = some true
  obj : PySem.W.mroIn K D (.type "object") = some true
def rIsN (K : PySem.W.Frag) (a : Addr) (cls : Value) (d : Option Addr) : List V → Hp → VK → Prop := fun xs H Q => ∃ (D : Addr) (c : V) (cv : Value) (b : Bool), xs = [.ref a, c] ∧ cls = .ref D ∧ d = Option.none ∧ XcC K D ∧ ClsV c cv ∧ PySem.W.kitOne K (.ref D) cv = some b ∧ Q (.bl b) H
theorem call_isN {X : Cx} {a : Addr} {cls : Value} {d : Option Addr} {oe : Obj} {pn : List (Addr × Obj)} (hz : Zc cls d oe) (hf : ∃ vs, oe.data = .fields vs) : CallR (X.suite a ((a, oe) :: pn)) (.builtin "isinstance") (rIsN X.K a cls d) := by
  intro pins sh σ H xs us Q I rel hyp
  obtain ⟨D, c, cv, b, rfl, rfl, rfl, C, hcv, e, q⟩ := hyp
  obtain ⟨u1, u2, rfl, r1, r2⟩ := vals2 rel
  have e2 := hcv.eq r2
  subst e2
  cases r1
  obtain ⟨got, _⟩ := I.pin (a, oe) (List.mem_append_left _ List.mem_cons_self)
  obtain ⟨vs, hv⟩ := hf
  have J : PySem.W.InstAt sh.heap a oe D Option.none := by
    obtain ⟨oc, odd, oda, osl⟩ := oe
    obtain ⟨h1, h2⟩ := hz
    dsimp only at h1 h2 hv
    subst h1 h2 hv
    exact ⟨got, rfl, rfl, trivial⟩
  exact PySem.W.kia_one (PySem.W.kitx_exc C.cl C.ga C.gt C.sub C.cls C.get C.tk C.obj) I.kIn J e (fun z => nomatch z) fun tk => ⟨.bl b, H, I.kept (t' := tk) fun _ _ z => z, rfl, q⟩

/-- e.f where the written part is told -/
theorem pe_fldK {X : Cx} {K : PySem.W.Frag} {e : Expr} {f : Str} {ta : TE} {pos : Pos} (hK : X.K = K) (he : PE X e ta) (hb : attributeBase e f X.env (eval e X.env) = eval e X.env) : PE X (.Attribute e f pos) (tFld K ta f) := by
  subst hK
  exact pe_fld he hb
/-- list(xs) where the written part is told -/
def rListOf (K : PySem.W.Frag) : List V → Hp → VK → Prop := fun zs H Q => ∃ (p : Addr) (ys : List V), zs = [V.ref p] ∧ (SqL K H p ys ∨ SqT K H p ys) ∧ (∀ l : Addr, H l = none → Q (.ref l) (upd H l (.lst ys)))
theorem cr_listK {X : Cx} {K : PySem.W.Frag} (hK : X.K = K) : CallR X (.type "list") (rListOf K) := by
  subst hK
  exact call_list_of

structure TxtE (K : PySem.W.Frag) (mg : Str → Option Value) (a : Ads) : Prop where
  g_BadLine : mg "BadLine" = some (.ref a.C_BadLine)
  g_BadPaper : mg "BadPaper" = some (.ref a.C_BadPaper)
  x_BadPaper : PySem.W.excIn K a.C_BadPaper [.type "ValueError", .type "Exception", .type "BaseException", .type "object"] "ValueError.__new__" = true
  kc_BadPaper : PySem.W.keepIn K (.ref a.C_BadPaper) = true
  b_BadPaper : PySem.W.subIn K (.ref a.C_BadPaper) (.type "BaseException") = some true
  t_BadPaper : PySem.W.typeIn K (.ref a.C_BadPaper) = some (.type "type")
  xc_BadPaper : XcC K a.C_BadPaper
  kt_BadPaper_BadPaper : PySem.W.kitOne K (.ref a.C_BadPaper) (.ref a.C_BadPaper) = some true
  kt_BadPaper_BadLine : PySem.W.kitOne K (.ref a.C_BadPaper) (.ref a.C_BadLine) = some false
  g_TribunalError : mg "TribunalError" = some (.ref a.C_TribunalError)
  exm_TribunalError_BadPaper : PySem.W.exmOne K (.ref a.C_BadPaper) (.ref a.C_TribunalError) = some true

def spFirst (K : PySem.W.Frag) : Sp := fun vs H Q _ => ∃ (p : Addr) (ws : List Int), vs = [.ref p] ∧ SqL K H p (ws.map V.int) ∧ GoodW ws ∧ ∀ H', Same H H' → Q .non H'
def spInit (K : PySem.W.Frag) (C : Addr) : Sp := fun vs H Q _ => ∃ (p dx l : Addr) (ws : List Int), vs = [.ref p, .ref l] ∧ H p = some (.ins C dx []) ∧ SqL K H l (ws.map V.int) ∧ GoodW ws ∧
  ∀ H' : Hp, CommAt C H' p ws → (∀ b o, H b = some o → b ≠ p → H' b = some o) → Q .non H'

def spWof (K : PySem.W.Frag) (C : Addr) : Sp := fun vs H Q _ => ∃ (p l : Addr) (ws ms : List Int), vs = [.ref p, .ref l] ∧ CommAt C H p ws ∧ ws.length ≤ 16 ∧ SqL K H l (ms.map V.int) ∧ ms.length ≤ 1000 ∧ ∀ H', Same H H' → Q (.int (wOf ws ms)) H'
def spQuorum (K : PySem.W.Frag) (C : Addr) : Sp := fun vs H Q _ => ∃ (p l : Addr) (ws ms : List Int), vs = [.ref p, .ref l] ∧ CommAt C H p ws ∧ ws.length ≤ 16 ∧ SqL K H l (ms.map V.int) ∧ ms.length ≤ 1000 ∧ ∀ H', Same H H' → Q (.bl (decide (2 * ws.sum < 3 * wOf ws ms))) H'

/-! ### votes by turn, and the turns that they certify -/
def selV (kd : Kd) (h : Int) (b : Option Str) (x : Lt) : Bool := decide (b ≠ none ∧ x.m.k = kd ∧ x.m.h = h ∧ x.m.b = b)
def inT (kd : Kd) (h : Int) (b : Option Str) (t : Int) (x : Lt) : Bool := selV kd h b x && decide (x.m.t = t)
def vbK (ks : List (Int × Addr)) : List (Key × V) := ks.map fun e => (Sum.inl e.1, V.ref e.2)
structure VbAt (H : Hp) (D : Addr) (xs : List Lt) (kd : Kd) (h : Int) (b : Option Str) (ks : List (Int × Addr)) : Prop where
  here : H D = some (.dK (vbK ks))
  nd : (ks.map (·.1)).Nodup
  nl : (ks.map (·.2)).Nodup
  ls : ∀ e ∈ ks, ∃ qs, H e.2 = some (.lst (qs.map V.ref)) ∧ LsAt H qs (xs.filter (inT kd h b e.1))
  ky : ∀ t : Int, t ∈ ks.map (·.1) ↔ ∃ x ∈ xs, inT kd h b t x = true
  few : ks.length ≤ xs.length
theorem VbAt.same {H H' : Hp} {D : Addr} {xs : List Lt} {kd : Kd} {h : Int} {b : Option Str} {ks : List (Int × Addr)} (v : VbAt H D xs kd h b ks) (s : Same H H') : VbAt H' D xs kd h b ks :=
  ⟨s _ _ v.here, v.nd, v.nl, fun e he => let ⟨qs, h1, h2⟩ := v.ls e he; ⟨qs, s _ _ h1, h2.same s⟩, v.ky, v.few⟩
theorem val_vb {t : Int} : ∀ {ks : List (Int × Addr)}, t ∈ ks.map (·.1) → ∃ l, (t, l) ∈ ks ∧ valV (vbK ks) (Sum.inl t) = some (.ref l)
  | [], h => nomatch h
  | e :: ks, h => by
    by_cases c : e.1 = t
    · exact ⟨e.2, by rw [← c]; exact List.mem_cons_self, valV_pos (p := (Sum.inl e.1, V.ref e.2)) (by rw [c])⟩
    · obtain ⟨l, h1, h2⟩ := val_vb (ks := ks) ((List.mem_cons.mp h).resolve_left fun z => c z.symm)
      exact ⟨l, List.mem_cons_of_mem _ h1, (valV_neg (p := (Sum.inl e.1, V.ref e.2)) (fun z => c (Sum.inl.inj z))).trans h2⟩
theorem val_vbn {t : Int} : ∀ {ks : List (Int × Addr)}, t ∉ ks.map (·.1) → valV (vbK ks) (Sum.inl t) = none
  | [], _ => rfl
  | e :: ks, h => by
    have c : ¬ e.1 = t := fun z => h (by rw [← z]; exact List.mem_cons_self)
    exact (valV_neg (p := (Sum.inl e.1, V.ref e.2)) (fun z => c (Sum.inl.inj z))).trans (val_vbn fun z => h (List.mem_cons_of_mem _ z))
theorem putK_new {kvs : List (Key × V)} {k : Key} {v : V} (h : valV kvs k = none) : putK kvs k v = kvs ++ [(k, v)] := by
  unfold putK
  rw [valV_any, h]
  rfl
theorem filt_no {xs : List Lt} {x : Lt} {p : Lt → Bool} (h : p x = false) : (xs ++ [x]).filter p = xs.filter p := by
  rw [List.filter_append, List.filter_cons_of_neg (by rw [h]; exact Bool.false_ne_true), List.filter_nil, List.append_nil]
theorem filt_yes {xs : List Lt} {x : Lt} {p : Lt → Bool} (h : p x = true) : (xs ++ [x]).filter p = xs.filter p ++ [x] := by
  rw [List.filter_append, List.filter_cons_of_pos h, List.filter_nil]
theorem inT_t {kd : Kd} {h : Int} {b : Option Str} {t : Int} {x : Lt} (c : inT kd h b t x = true) : t = x.m.t := by
  unfold inT at c
  exact (of_decide_eq_true (Bool.and_eq_true_iff.mp c).2).symm
theorem inT_self {kd : Kd} {h : Int} {b : Option Str} {x : Lt} (c : selV kd h b x = true) : inT kd h b x.m.t x = true := by
  unfold inT
  rw [c]
  simp
theorem inT_no {kd : Kd} {h : Int} {b : Option Str} {t : Int} {x : Lt} (c : selV kd h b x = false) : inT kd h b t x = false := by
  unfold inT
  rw [c]
  rfl
theorem VbAt.skip {H : Hp} {D : Addr} {xs : List Lt} {x : Lt} {kd : Kd} {h : Int} {b : Option Str} {ks : List (Int × Addr)} (v : VbAt H D xs kd h b ks) (c : selV kd h b x = false) : VbAt H D (xs ++ [x]) kd h b ks := by
  refine ⟨v.here, v.nd, v.nl, fun e he => ?_, fun t => ?_, ?_⟩
  · rw [filt_no (inT_no c)]
    exact v.ls e he
  · rw [v.ky t]
    constructor
    · rintro ⟨y, hy, z⟩
      exact ⟨y, List.mem_append_left _ hy, z⟩
    · rintro ⟨y, hy, z⟩
      rcases List.mem_append.mp hy with hy | hy
      · exact ⟨y, hy, z⟩
      · rw [List.mem_singleton.mp hy, inT_no c] at z
        cases z
  · have := v.few
    rw [List.length_append]
    omega
theorem ne_dk {H : Hp} {D l : Addr} {kvs : List (Key × V)} {ys : List V} (h : H D = some (.dK kvs)) (hl : H l = some (.lst ys)) : D ≠ l := fun e => by
  rw [e, hl] at h
  cases h
theorem nodup_snd {ks : List (Int × Addr)} {e f : Int × Addr} (nl : (ks.map (·.2)).Nodup) (he : e ∈ ks) (hf : f ∈ ks) (ne : e ≠ f) : e.2 ≠ f.2 := by
  intro z
  induction ks with
  | nil => cases he
  | cons g ks ih =>
    rw [List.map_cons, List.nodup_cons] at nl
    rcases List.mem_cons.mp he with rfl | he' <;> rcases List.mem_cons.mp hf with rfl | hf'
    · exact ne rfl
    · exact nl.1 (by rw [z]; exact List.mem_map.mpr ⟨f, hf', rfl⟩)
    · exact nl.1 (by rw [← z]; exact List.mem_map.mpr ⟨e, he', rfl⟩)
    · exact ih nl.2 he' hf'
theorem nodup_fst {ks : List (Int × Addr)} {e f : Int × Addr} (nd : (ks.map (·.1)).Nodup) (he : e ∈ ks) (hf : f ∈ ks) (q : e.1 = f.1) : e = f := by
  induction ks with
  | nil => cases he
  | cons g ks ih =>
    rw [List.map_cons, List.nodup_cons] at nd
    rcases List.mem_cons.mp he with rfl | he' <;> rcases List.mem_cons.mp hf with rfl | hf'
    · rfl
    · exact (nd.1 (by rw [q]; exact List.mem_map.mpr ⟨f, hf', rfl⟩)).elim
    · exact (nd.1 (by rw [← q]; exact List.mem_map.mpr ⟨e, he', rfl⟩)).elim
    · exact ih nd.2 he' hf'
/-- one more letter in the list that its turn has -/
theorem VbAt.more {H : Hp} {D l p : Addr} {xs : List Lt} {x : Lt} {kd : Kd} {h : Int} {b : Option Str} {ks : List (Int × Addr)} {qs : List Addr} (v : VbAt H D xs kd h b ks) (c : selV kd h b x = true) (hm : (x.m.t, l) ∈ ks)
    (hl : H l = some (.lst (qs.map V.ref))) (hx : LtAt H p x) : VbAt (upd H l (.lst (qs.map V.ref ++ [.ref p]))) D (xs ++ [x]) kd h b ks := by
  refine ⟨by rw [upd_ne (ne_dk v.here hl)]; exact v.here, v.nd, v.nl, fun e he => ?_, fun t => ?_, ?_⟩
  · obtain ⟨rs, h1, h2⟩ := v.ls e he
    by_cases z : e = (x.m.t, l)
    · subst z
      have er : rs.map V.ref = qs.map V.ref := by
        rw [hl] at h1
        injection h1 with h1
        injection h1 with h1
        exact h1.symm
      have er2 : rs = qs := by
        have := congrArg (List.map fun v : V => match v with | .ref a => a | _ => 0) er
        simpa [List.map_map, Function.comp_def] using this
      subst er2
      refine ⟨rs ++ [p], by rw [upd_same]; simp, ?_⟩
      rw [filt_yes (inT_self c)]
      exact (h2.snoc hx).upd hl
    · have n2 := nodup_snd v.nl he hm z
      refine ⟨rs, by rw [upd_ne n2]; exact h1, ?_⟩
      rw [filt_no]
      · exact h2.upd hl
      · cases q : inT kd h b e.1 x with
        | false => rfl
        | true => exact absurd (nodup_fst v.nd he hm (inT_t q)) z
  · rw [v.ky t]
    constructor
    · rintro ⟨y, hy, z⟩
      exact ⟨y, List.mem_append_left _ hy, z⟩
    · rintro ⟨y, hy, z⟩
      rcases List.mem_append.mp hy with hy | hy
      · exact ⟨y, hy, z⟩
      · rw [List.mem_singleton.mp hy] at z
        rw [inT_t z]
        exact (v.ky _).mp (List.mem_map.mpr ⟨_, hm, rfl⟩)
  · have := v.few
    rw [List.length_append]
    omega
/-- the first letter of its turn -/
theorem VbAt.first {H : Hp} {D l p : Addr} {xs : List Lt} {x : Lt} {kd : Kd} {h : Int} {b : Option Str} {ks : List (Int × Addr)} (v : VbAt H D xs kd h b ks) (c : selV kd h b x = true) (hn : x.m.t ∉ ks.map (·.1))
    (hl : H l = some (.lst [])) (nl : l ∉ ks.map (·.2)) (hx : LtAt H p x) : VbAt (upd (upd H D (.dK (vbK (ks ++ [(x.m.t, l)])))) l (.lst [.ref p])) D (xs ++ [x]) kd h b (ks ++ [(x.m.t, l)]) := by
  have nDl : D ≠ l := ne_dk v.here hl
  have hD2 : (upd H D (.dK (vbK (ks ++ [(x.m.t, l)])))) l = some (.lst []) := by rw [upd_ne nDl.symm]; exact hl
  have lk : ∀ {q : Addr} {y : Lt}, LtAt H q y → LtAt (upd (upd H D (.dK (vbK (ks ++ [(x.m.t, l)])))) l (.lst [.ref p])) q y := fun {q y} hy => by
    refine LtAt.upd ?_ hD2
    obtain ⟨r, h1, h2⟩ := hy
    have h2' : H r = some (.tup y.m.vals) := h2
    refine ⟨r, by rw [upd_ne (fun z => by rw [z, v.here] at h1; cases h1)]; exact h1, ?_⟩
    unfold SmAt
    rw [upd_ne (fun z => by rw [z, v.here] at h2'; cases h2')]
    exact h2
  refine ⟨by rw [upd_ne nDl, upd_same], ?_, ?_, fun e he => ?_, fun t => ?_, ?_⟩
  · rw [List.map_append, List.nodup_append]
    refine ⟨v.nd, by simp, fun a ha y hy e => ?_⟩
    rw [List.map_cons, List.map_nil, List.mem_singleton] at hy
    rw [e, hy] at ha
    exact hn ha
  · rw [List.map_append, List.nodup_append]
    refine ⟨v.nl, by simp, fun a ha y hy e => ?_⟩
    rw [List.map_cons, List.map_nil, List.mem_singleton] at hy
    rw [e, hy] at ha
    exact nl ha
  · rcases List.mem_append.mp he with he | he
    · obtain ⟨rs, h1, h2⟩ := v.ls e he
      have n2 : e.2 ≠ l := fun z => nl (by rw [← z]; exact List.mem_map.mpr ⟨e, he, rfl⟩)
      refine ⟨rs, by rw [upd_ne n2, upd_ne (ne_dk v.here h1).symm]; exact h1, ?_⟩
      rw [filt_no]
      · exact ⟨h2.1, fun i hi => lk (h2.2 i hi)⟩
      · cases q : inT kd h b e.1 x with
        | false => rfl
        | true => exact absurd (by rw [← inT_t q]; exact List.mem_map.mpr ⟨e, he, rfl⟩) hn
    · rw [List.mem_singleton.mp he]
      refine ⟨[p], by rw [upd_same]; rfl, ?_⟩
      rw [filt_yes (inT_self c)]
      have e0 : xs.filter (inT kd h b x.m.t) = [] := by
        rw [List.filter_eq_nil_iff]
        intro y hy z
        exact hn ((v.ky _).mpr ⟨y, hy, z⟩)
      rw [e0]
      exact LsAt.nil.snoc (lk hx)
  · rw [List.map_append, List.mem_append, v.ky t]
    constructor
    · rintro (⟨y, hy, z⟩ | z)
      · exact ⟨y, List.mem_append_left _ hy, z⟩
      · rw [List.map_cons, List.map_nil, List.mem_singleton] at z
        exact ⟨x, List.mem_append_right _ (List.mem_singleton.mpr rfl), by rw [z]; exact inT_self c⟩
    · rintro ⟨y, hy, z⟩
      rcases List.mem_append.mp hy with hy | hy
      · exact .inl ⟨y, hy, z⟩
      · rw [List.mem_singleton.mp hy] at z
        exact .inr (by rw [inT_t z]; exact List.mem_singleton.mpr rfl)
  · have := v.few
    rw [List.length_append, List.length_append]
    simp
    omega
def spVbt (K : PySem.W.Frag) : Sp := fun vs H Q _ => ∃ (l : Addr) (ps : List Addr) (xs : List Lt) (kd : Kd) (h : Int) (b : Option Str), vs = [.ref l, .str kd.s, .int h, oS b] ∧ H l = some (.lst (ps.map V.ref)) ∧ LsAt H ps xs ∧ xs.length ≤ 900 ∧
  ∀ (D : Addr) (ks : List (Int × Addr)) H', Same H H' → VbAt H' D xs kd h b ks → Q (.ref D) H'
/-- a dict of turns -/
def tru (L : List Int) : List (Key × V) := L.map fun t => (Sum.inl t, V.bl true)
theorem val_tru {t : Int} : ∀ {L : List Int}, (valV (tru L) (Sum.inl t)).isSome = decide (t ∈ L)
  | [] => by simp [tru, valV]
  | e :: L => by
    have ih := val_tru (t := t) (L := L)
    by_cases c : e = t
    · rw [show valV (tru (e :: L)) (Sum.inl t) = some (.bl true) from valV_pos (p := (Sum.inl e, V.bl true)) (by rw [c])]
      simp [c]
    · rw [show valV (tru (e :: L)) (Sum.inl t) = valV (tru L) (Sum.inl t) from valV_neg (p := (Sum.inl e, V.bl true)) (fun z => c (Sum.inl.inj z)), ih]
      exact decide_eq_decide.mpr ⟨fun m => List.mem_cons_of_mem _ m, fun m => (List.mem_cons.mp m).resolve_left fun z => c z.symm⟩
def cntL (m : Sm) (L : List Int) : Bool := match m.l with | none => true | some l => decide (l < m.t) && decide (l ∈ L)
def spCounts (K : PySem.W.Frag) : Sp := fun vs H Q _ => ∃ (p D : Addr) (m : Sm) (L : List Int), vs = [.ref p, .ref D] ∧ SmAt H p m ∧ m.k = .pre ∧ H D = some (.dK (tru L)) ∧ ∀ H', Same H H' → Q (.bl (cntL m L)) H'
def TB (xs : List Lt) : Prop := ∀ x ∈ xs, 0 ≤ x.m.t ∧ x.m.t < 60
def ctL (ws : List Int) (xs : List Lt) (h : Int) (b : Option Str) : List Int := match b with | none => [] | some _ => lns ws xs h b 60
def spCts (K : PySem.W.Frag) (C : Addr) : Sp := fun vs H Q _ => ∃ (c l : Addr) (ws : List Int) (ps : List Addr) (xs : List Lt) (h : Int) (b : Option Str), vs = [.ref c, .ref l, .int h, oS b] ∧ CommAt C H c ws ∧ GoodW ws ∧ H l = some (.lst (ps.map V.ref)) ∧ LsAt H ps xs ∧ xs.length ≤ 900 ∧ TB xs ∧
  ∀ (R : Addr) H', Same H H' → H R = none → H' R = some (.lst ((ctL ws xs h b).map V.int)) → Q (.ref R) H'
def cmL (ws : List Int) (xs : List Lt) (h : Int) (b : Option Str) : List Int := (ctL ws xs h b).filter fun t => qrm ws (comS xs h t b)
def spCms (K : PySem.W.Frag) (C : Addr) : Sp := fun vs H Q _ => ∃ (c l : Addr) (ws : List Int) (ps : List Addr) (xs : List Lt) (h : Int) (b : Option Str), vs = [.ref c, .ref l, .int h, oS b] ∧ CommAt C H c ws ∧ GoodW ws ∧ H l = some (.lst (ps.map V.ref)) ∧ LsAt H ps xs ∧ xs.length ≤ 900 ∧ TB xs ∧
  ∀ (R : Addr) H', Same H H' → H R = none → H' R = some (.lst ((cmL ws xs h b).map V.int)) → Q (.ref R) H'
theorem mem_lnsI {ws : List Int} {xs : List Lt} {h : Int} {b : Option Str} (t : Int) : ∀ n, t ∈ lns ws xs h b n ↔ 0 ≤ t ∧ t < n ∧ certM ws xs h b t.toNat = true
  | 0 => by
    simp [lns]
    omega
  | n + 1 => by
    have ih := mem_lnsI (ws := ws) (xs := xs) (h := h) (b := b) t n
    by_cases c : certM ws xs h b n = true
    · rw [lns_yes c, List.mem_append, ih, List.mem_singleton]
      constructor
      · rintro (⟨h1, h2, h3⟩ | z)
        · exact ⟨h1, by omega, h3⟩
        · rw [z]
          exact ⟨by omega, by omega, by rw [Int.toNat_natCast]; exact c⟩
      · rintro ⟨h1, h2, h3⟩
        rcases Int.lt_or_le t n with z | z
        · exact .inl ⟨h1, z, h3⟩
        · exact .inr (by omega)
    · rw [lns_no c, ih]
      constructor
      · rintro ⟨h1, h2, h3⟩
        exact ⟨h1, by omega, h3⟩
      · rintro ⟨h1, h2, h3⟩
        refine ⟨h1, ?_, h3⟩
        rcases Int.lt_or_le t n with z | z
        · exact z
        · have e : t.toNat = n := by omega
          rw [e] at h3
          exact absurd h3 c
theorem lns_gap {ws : List Int} {xs : List Lt} {h : Int} {b : Option Str} {a : Nat} : ∀ d, (∀ n, a ≤ n → n < a + d → certM ws xs h b n = false) → lns ws xs h b (a + d) = lns ws xs h b a
  | 0, _ => rfl
  | d + 1, z => by
    have := lns_gap d fun n h1 h2 => z n h1 (by omega)
    rw [← this]
    exact lns_no (n := a + d) (fun y => Bool.false_ne_true ((z (a + d) (by omega) (by omega)).symm.trans y))
theorem wt_none (ws : List Int) : ∀ n, wt ws (fun k => decide (k ∈ ([] : List Int))) n = 0
  | 0 => rfl
  | n + 1 => by
    rw [wt_succ, wt_none ws n]
    simp
theorem good_sum : ∀ {ws : List Int}, (∀ w ∈ ws, 1 ≤ w) → 0 < ws.length → 0 < ws.sum
  | [], _, h => absurd h (Nat.lt_irrefl 0)
  | [w], g, _ => by
    have := g w List.mem_cons_self
    simp
    omega
  | w :: v :: ws, g, _ => by
    have h1 := g w List.mem_cons_self
    have h2 := good_sum (ws := v :: ws) (fun x hx => g x (List.mem_cons_of_mem _ hx)) (by simp)
    rw [List.sum_cons]
    omega
theorem GoodW.sum {ws : List Int} (g : GoodW ws) : 0 < ws.sum := good_sum (fun w hw => (g.2.2 w hw).1) g.1
theorem qrm_nil {ws : List Int} (g : GoodW ws) : qrm ws [] = false := by
  unfold qrm wOf
  rw [wt_none]
  have := g.sum
  exact decide_eq_false (by omega)
theorem cnt_inT {h t : Int} {b : Option Str} {L : List Int} {x : Lt} (nb : b ≠ none) : cnt h t b L x = (inT .pre h b t x && cntL x.m L) := by
  unfold cnt inT selV cntL
  by_cases c : x.m.k = .pre ∧ x.m.h = h ∧ x.m.t = t ∧ x.m.b = b
  · obtain ⟨c1, c2, c3, c4⟩ := c
    simp only [c1, c2, c3, c4, nb, ne_eq, not_false_eq_true, and_self, decide_true, Bool.true_and]
    cases x.m.l with
    | none => rfl
    | some l => exact Bool.and_comm _ _
  · rw [decide_eq_false c, Bool.false_and]
    symm
    rw [Bool.and_eq_false_iff]
    left
    rw [Bool.and_eq_false_iff]
    by_cases c3 : x.m.t = t
    · left
      exact decide_eq_false fun z => c ⟨z.2.1, z.2.2.1, c3, z.2.2.2⟩
    · right
      exact decide_eq_false c3
theorem mem_inT {xs : List Lt} {h t : Int} {b : Option Str} {L : List Int} (nb : b ≠ none) : memM xs h t b L = ((xs.filter (inT .pre h b t)).filter fun x => cntL x.m L).map Lt.w := by
  unfold memM
  rw [List.filter_filter]
  congr 1
  refine List.filter_congr fun x _ => ?_
  rw [cnt_inT nb, Bool.and_comm]
theorem com_inT {xs : List Lt} {h t : Int} {b : Option Str} (nb : b ≠ none) : comS xs h t b = (xs.filter (inT .com h b t)).map Lt.w := by
  unfold comS
  congr 1
  refine List.filter_congr fun x _ => ?_
  unfold inT selV
  rw [Bool.eq_iff_iff, Bool.and_eq_true_iff, decide_eq_true_iff, decide_eq_true_iff, decide_eq_true_iff]
  exact ⟨fun ⟨z1, z2, z3, z4⟩ => ⟨⟨nb, z1, z2, z4⟩, z3⟩, fun ⟨⟨_, z1, z2, z4⟩, z3⟩ => ⟨z1, z2, z3, z4⟩⟩
/-- no prevote in a turn: no certificate -/
theorem cert_none {ws : List Int} {xs : List Lt} {h : Int} {b : Option Str} {n : Nat} (g : GoodW ws) (nb : b ≠ none) (z : ¬ ∃ x ∈ xs, inT .pre h b (n : Int) x = true) : certM ws xs h b n = false := by
  unfold certM
  rw [mem_inT nb]
  have e : xs.filter (inT .pre h b (n : Int)) = [] := List.filter_eq_nil_iff.mpr fun x hx y => z ⟨x, hx, y⟩
  rw [e]
  exact qrm_nil g
theorem nodup_few : ∀ (n : Nat) {L : List Int}, L.Nodup → (∀ t ∈ L, 0 ≤ t ∧ t < n) → L.length ≤ n
  | 0, [], _, _ => Nat.le_refl _
  | 0, t :: L, _, h => by
    have := h t List.mem_cons_self
    omega
  | n + 1, L, nd, h => by
    by_cases c : (n : Int) ∈ L
    · have l1 := List.length_erase_of_mem c
      have ih := nodup_few n (nd.erase (n : Int)) fun t ht => by
        have h2 := (nd.mem_erase_iff).mp ht
        have h3 := h t h2.2
        have h4 := h2.1
        omega
      omega
    · have := nodup_few n nd fun t ht => by
        have h3 := h t ht
        have h4 : t ≠ (n : Int) := fun z => c (z ▸ ht)
        omega
      omega
theorem tru_snoc (L : List Int) (t : Int) : tru (L ++ [t]) = tru L ++ [(Sum.inl t, V.bl true)] := by simp [tru]
theorem take_len {α : Type} (xs : List α) : xs.take xs.length = xs := List.take_length
theorem srt_lt {ts : List Int} (pw : ts.Pairwise (· ≤ ·)) (nd : ts.Nodup) {i j : Nat} (h : i < j) (hj : j < ts.length) : ts.getD i 0 < ts.getD j 0 := by
  have hi : i < ts.length := by omega
  have e1 : ts.getD i 0 = ts[i] := by rw [List.getD_eq_getElem?_getD, List.getElem?_eq_getElem hi]; rfl
  have e2 : ts.getD j 0 = ts[j] := by rw [List.getD_eq_getElem?_getD, List.getElem?_eq_getElem hj]; rfl
  rw [e1, e2]
  have h1 := List.pairwise_iff_getElem.mp pw i j hi hj h
  have h2 := List.pairwise_iff_getElem.mp nd i j hi hj h
  omega
/-- behind the turn before the place i -/
def nxt (ts : List Int) : Nat → Nat
  | 0 => 0
  | i + 1 => (ts.getD i 0 + 1).toNat
theorem gap_gen {ws : List Int} {xs : List Lt} {h : Int} {b : Option Str} {ts : List Int} (g : GoodW ws) (nb : b ≠ none) (ky : ∀ t : Int, t ∈ ts ↔ ∃ x ∈ xs, inT .pre h b t x = true) (pw : ts.Pairwise (· ≤ ·)) (nd : ts.Nodup)
    {i m : Nat} (hi : i ≤ ts.length) (le : nxt ts i ≤ m) (up : ∀ j, i ≤ j → j < ts.length → (m : Int) ≤ ts.getD j 0) : lns ws xs h b m = lns ws xs h b (nxt ts i) := by
  obtain ⟨d, rfl⟩ : ∃ d, m = nxt ts i + d := ⟨m - nxt ts i, by omega⟩
  refine lns_gap d fun n h1 h2 => cert_none g nb fun ex => ?_
  obtain ⟨j, hj, ej⟩ := List.getElem_of_mem ((ky n).mpr ex)
  have ej2 : ts.getD j 0 = (n : Int) := by rw [List.getD_eq_getElem?_getD, List.getElem?_eq_getElem hj]; exact ej
  rcases Nat.lt_or_ge j i with z | z
  · cases i with
    | zero => omega
    | succ k =>
      have h3 : ts.getD j 0 ≤ ts.getD k 0 := by
        rcases Nat.lt_or_ge j k with y | y
        · have := srt_lt pw nd y (by omega)
          omega
        · have : j = k := by omega
          rw [this]
          exact Int.le_refl _
      have h4 : nxt ts (k + 1) = (ts.getD k 0 + 1).toNat := rfl
      omega
  · have := up j z hj
    omega
theorem inT_some {kd : Kd} {h t : Int} {b : Option Str} {x : Lt} (c : inT kd h b t x = true) : b ≠ none ∧ x.m.k = kd := by
  unfold inT selV at c
  have := of_decide_eq_true (Bool.and_eq_true_iff.mp c).1
  exact ⟨this.1, this.2.1⟩
theorem filt_mem {xs : List Lt} {p : Lt → Bool} {i : Nat} (h : i < (xs.filter p).length) : (xs.filter p).getD i default ∈ xs ∧ p ((xs.filter p).getD i default) = true := List.mem_filter.mp (getD_mem2 h)

/-! ### the court: charges -/
def chf (who : Int) (a1 b1 : Addr) : List (Str × V) := putF "second" (.ref b1) (putF "first" (.ref a1) (putF "who" (.int who) []))
def spChI (K : PySem.W.Frag) (C : Addr) : Sp := fun vs H Q _ => ∃ (p dx : Addr) (who : Int) (a1 b1 : Addr), vs = [.ref p, .int who, .ref a1, .ref b1] ∧ H p = some (.ins C dx []) ∧
  ∀ H' : Hp, H' p = some (.ins C dx (chf who a1 b1)) → (∀ b o, H b = some o → b ≠ p → H' b = some o) → Q .non H'
def ChAt (C : Addr) (H : Hp) (v : V) (who : Int) : Option (Lt × Lt) → Prop
  | none => v = .non
  | some r => ∃ p dx a1 b1, v = .ref p ∧ H p = some (.ins C dx (chf who a1 b1)) ∧ LtAt H a1 r.1 ∧ LtAt H b1 r.2
theorem ChAt.same {C : Addr} {H H' : Hp} {v : V} {who : Int} {r : Option (Lt × Lt)} (h : ChAt C H v who r) (s : Same H H') : ChAt C H' v who r := by
  cases r with
  | none => exact h
  | some r =>
    obtain ⟨p, dx, a, b, e, h1, h2, h3⟩ := h
    exact ⟨p, dx, a, b, e, s _ _ h1, h2.same s, h3.same s⟩
theorem ne_wf : ¬ (("who" : Str) = "first") := by decide +kernel
theorem ne_ws2 : ¬ (("who" : Str) = "second") := by decide +kernel
theorem ne_fs : ¬ (("first" : Str) = "second") := by decide +kernel
theorem chf_w (who : Int) (a1 b1 : Addr) : (chf who a1 b1).lookup ("who" : Str) = some (.int who) := by
  unfold chf
  rw [lookup_putF, if_neg ne_ws2, lookup_putF, if_neg ne_wf, lookup_putF, if_pos rfl]
theorem chf_f (who : Int) (a1 b1 : Addr) : (chf who a1 b1).lookup ("first" : Str) = some (.ref a1) := by
  unfold chf
  rw [lookup_putF, if_neg ne_fs, lookup_putF, if_pos rfl]
theorem chf_s (who : Int) (a1 b1 : Addr) : (chf who a1 b1).lookup ("second" : Str) = some (.ref b1) := by
  unfold chf
  rw [lookup_putF, if_pos rfl]
theorem fnd_yes {xs : List Lt} {n : Nat} {r : Lt × Lt} (h : due (ownOf xs (n : Int)) = some r) : fnd xs (n + 1) = fnd xs n ++ [(n : Int)] := by
  rw [fnd, h]
  rfl
theorem fnd_no {xs : List Lt} {n : Nat} (h : due (ownOf xs (n : Int)) = none) : fnd xs (n + 1) = fnd xs n := by
  rw [fnd, h]
  rfl
/-- the first of the earlier letters that clashes with x -/
def FcAt (v : V) (qs : List Addr) (own : List Lt) (x : Lt) : Prop :=
  (v = .non ∧ ∀ j, j < own.length → clashM (own.getD j default).m x.m = false) ∨
  ∃ j, j < own.length ∧ v = .ref (qs.getD j 0) ∧ clashM (own.getD j default).m x.m = true ∧ ∀ i, i < j → clashM (own.getD i default).m x.m = false
def spFc (K : PySem.W.Frag) : Sp := fun vs H Q _ => ∃ (l p : Addr) (qs : List Addr) (own : List Lt) (x : Lt), vs = [.ref l, .ref p] ∧ H l = some (.lst (qs.map V.ref)) ∧ LsAt H qs own ∧ LtAt H p x ∧ ∀ v H', Same H H' → FcAt v qs own x → Q v H'
def spCof (K : PySem.W.Frag) (C : Addr) : Sp := fun vs H Q _ => ∃ (l : Addr) (who : Int) (ps : List Addr) (xs : List Lt), vs = [.ref l, .int who] ∧ H l = some (.lst (ps.map V.ref)) ∧ LsAt H ps xs ∧ xs.length ≤ 900 ∧ ∀ v H', Same H H' → ChAt C H' v who (due (ownOf xs who)) → Q v H'
def spCharges (K : PySem.W.Frag) (C1 C2 : Addr) : Sp := fun vs H Q _ => ∃ (c l : Addr) (ws : List Int) (ps : List Addr) (xs : List Lt), vs = [.ref c, .ref l] ∧ CommAt C1 H c ws ∧ ws.length ≤ 16 ∧ H l = some (.lst (ps.map V.ref)) ∧ LsAt H ps xs ∧ xs.length ≤ 900 ∧
  ∀ (p : Addr) (cs : List Addr) H', Same H H' → H' p = some (.lst (cs.map V.ref)) → cs.length = (fnd xs ws.length).length → (∀ i, i < cs.length → ChAt C2 H' (.ref (cs.getD i 0)) ((fnd xs ws.length).getD i 0) (due (ownOf xs ((fnd xs ws.length).getD i 0)))) → Q (.ref p) H'
theorem row_app {own ys : List Lt} {a : Nat} (ha : a < own.length) : ∀ n, n ≤ own.length → rowDue (own ++ ys) a n = rowDue own a n
  | 0, _ => rfl
  | n + 1, hn => by
    rw [rowDue, rowDue, row_app ha n (Nat.le_of_lt hn), getD_left (show n < own.length from hn), getD_left ha]
theorem col_app {own ys : List Lt} : ∀ n, n ≤ own.length → colDue (own ++ ys) n = colDue own n
  | 0, _ => rfl
  | n + 1, hn => by
    rw [colDue, colDue, col_app n (Nat.le_of_lt hn), row_app (show n < own.length from hn) n (Nat.le_of_lt hn)]
theorem due_app {own ys : List Lt} {r : Lt × Lt} (h : due own = some r) : due (own ++ ys) = some r := by
  unfold due at h ⊢
  have e : colDue (own ++ ys) own.length = some r := by rw [col_app _ (Nat.le_refl _), h]
  have := col_mono e ys.length
  rwa [← List.length_append] at this
theorem row_last_no {own : List Lt} {x : Lt} (h : ∀ j, j < own.length → clashM (own.getD j default).m x.m = false) : ∀ n, n ≤ own.length → rowDue (own ++ [x]) own.length n = none
  | 0, _ => rfl
  | n + 1, hn => by
    refine row_no (row_last_no h n (Nat.le_of_lt hn)) ?_
    rw [getD_last, getD_left (show n < own.length from hn)]
    exact h n hn
theorem due_snoc_no {own : List Lt} {x : Lt} (d : due own = none) (h : ∀ j, j < own.length → clashM (own.getD j default).m x.m = false) : due (own ++ [x]) = none := by
  unfold due at d ⊢
  rw [List.length_append, List.length_singleton]
  refine col_no ?_ (row_last_no h _ (Nat.le_refl _))
  rw [col_app _ (Nat.le_refl _), d]
theorem row_last_before {own : List Lt} {x : Lt} {j : Nat} (hj : j ≤ own.length) (h : ∀ i, i < j → clashM (own.getD i default).m x.m = false) : ∀ n, n ≤ j → rowDue (own ++ [x]) own.length n = none
  | 0, _ => rfl
  | n + 1, hn => by
    refine row_no (row_last_before hj h n (Nat.le_of_lt hn)) ?_
    rw [getD_last, getD_left (show n < own.length by omega)]
    exact h n hn
theorem due_snoc_yes {own : List Lt} {x : Lt} {j : Nat} (d : due own = none) (hj : j < own.length) (c : clashM (own.getD j default).m x.m = true) (h : ∀ i, i < j → clashM (own.getD i default).m x.m = false) : due (own ++ [x]) = some (own.getD j default, x) := by
  have e : (own ++ [x]).getD own.length default = x := getD_last
  have e2 : (own ++ [x]).getD j default = own.getD j default := getD_left hj
  have := due_at (own := own ++ [x]) (a := own.length) (n := j) (by rw [List.length_append, List.length_singleton]; omega) hj (by rw [col_app _ (Nat.le_refl _)]; exact d) (row_last_before (Nat.le_of_lt hj) h j (Nat.le_refl _)) (by rw [e, e2]; exact c)
  rwa [e, e2] at this
theorem own_split (xs : List Lt) (who : Int) (i : Nat) : ownOf xs who = ownOf (xs.take i) who ++ ownOf (xs.drop i) who := by
  unfold ownOf
  rw [← List.filter_append, List.take_append_drop]

/-! ### papers -/
def spShown (K : PySem.W.Frag) (C : Addr) : Sp := fun vs H Q _ => ∃ (c l : Addr) (ws : List Int) (ps : List Addr) (xs : List Lt) (h : Int) (b : Option Str), vs = [.ref c, .int h, oS b, .ref l] ∧ CommAt C H c ws ∧ GoodW ws ∧ H l = some (.lst (ps.map V.ref)) ∧ LsAt H ps xs ∧ xs.length ≤ 900 ∧ TB xs ∧
  ∀ (v : V) H', Same H H' → (cmL ws xs h b = [] → v = .non) → (cmL ws xs h b ≠ [] → ∃ m ∈ cmL ws xs h b, (∀ y ∈ cmL ws xs h b, m ≤ y) ∧ v = .int m) → Q v H'
def shM (ws : List Int) (xs : List Lt) (h : Int) (b : Option Str) : Bool := !(cmL ws xs h b).isEmpty
def spShows (K : PySem.W.Frag) (C : Addr) : Sp := fun vs H Q _ => ∃ (c l : Addr) (ws : List Int) (ps : List Addr) (xs : List Lt) (h : Int) (b : Option Str), vs = [.ref c, .int h, oS b, .ref l] ∧ CommAt C H c ws ∧ GoodW ws ∧ H l = some (.lst (ps.map V.ref)) ∧ LsAt H ps xs ∧ xs.length ≤ 900 ∧ TB xs ∧
  ∀ H', Same H H' → Q (.bl (shM ws xs h b)) H'
def spAcc (K : PySem.W.Frag) (C1 C2 CB : Addr) : Sp := fun vs H Q E => ∃ (c o1 o2 l1 l2 : Addr) (ws : List Int) (h : Int) (b1 b2 : Str) (ps1 ps2 : List Addr) (xs1 xs2 : List Lt), vs = [.ref c, .int h, .ref o1, .ref o2] ∧ CommAt C1 H c ws ∧ GoodW ws ∧
  H o1 = some (.tup [.str b1, .ref l1]) ∧ H o2 = some (.tup [.str b2, .ref l2]) ∧ H l1 = some (.lst (ps1.map V.ref)) ∧ H l2 = some (.lst (ps2.map V.ref)) ∧ LsAt H ps1 xs1 ∧ LsAt H ps2 xs2 ∧ xs1.length ≤ 400 ∧ xs2.length ≤ 400 ∧ TB xs1 ∧ TB xs2 ∧
  (b1 ≠ b2 → shM ws xs1 h (some b1) = true → shM ws xs2 h (some b2) = true →
    ∀ (p : Addr) (cs : List Addr) H', Same H H' → H' p = some (.lst (cs.map V.ref)) → cs.length = (fnd (xs1 ++ xs2) ws.length).length → (∀ i, i < cs.length → ChAt C2 H' (.ref (cs.getD i 0)) ((fnd (xs1 ++ xs2) ws.length).getD i 0) (due (ownOf (xs1 ++ xs2) ((fnd (xs1 ++ xs2) ws.length).getD i 0)))) → Q (.ref p) H') ∧
  (b1 = b2 ∨ shM ws xs1 h (some b1) = false ∨ shM ws xs2 h (some b2) = false → ∀ H', Same H H' → E (.ref CB) none H')
theorem LsAt.app {H : Hp} {ps qs : List Addr} {xs ys : List Lt} (h : LsAt H ps xs) (e : LsAt H qs ys) : LsAt H (ps ++ qs) (xs ++ ys) := by
  refine ⟨by rw [List.length_append, List.length_append, h.1, e.1], fun i hi => ?_⟩
  rw [List.length_append] at hi
  rcases Nat.lt_or_ge i xs.length with z | z
  · rw [getD_left (by rw [h.1]; exact z), getD_left z]
    exact h.2 i z
  · have z' : ps.length ≤ i := by rw [h.1]; exact z
    rw [List.getD_eq_getElem?_getD, List.getD_eq_getElem?_getD, List.getElem?_append_right z', List.getElem?_append_right z, ← List.getD_eq_getElem?_getD, ← List.getD_eq_getElem?_getD, h.1]
    exact e.2 _ (by omega)

def spCell (K : PySem.W.Frag) : Sp := fun vs H Q _ => ∃ (a : Addr) (ns : List Int) (k : Int), vs = [.ref a, .int k] ∧ SqL K H a (ns.map V.int) ∧ ns.length ≤ 63 ∧ 0 ≤ k ∧ Q (.int (ns.getD k.toNat 0)) H
def spRow (K : PySem.W.Frag) : Sp := fun vs H Q _ => ∃ (cell count size : Int), vs = [.int cell, .int count, .int size] ∧ 0 ≤ count ∧ count ≤ 1000 ∧ 0 < size ∧ size < 1000 ∧
  ∀ p (row : List Int) H', Same H H' → H' p = some (.lst (row.map V.int)) → row.length = count.toNat → (∀ x ∈ row, 0 ≤ x ∧ x < size) → H p = none → Q (.ref p) H'
def spWeights (K : PySem.W.Frag) : Sp := fun vs H Q _ => ∃ (cell most : Int), vs = [.int cell, .int most] ∧ 0 < most ∧ most ≤ 16 ∧ ∀ p (ws : List Int) H', Same H H' → H' p = some (.lst (ws.map V.int)) → GoodW ws → ws.length ≤ most.toNat → Q (.ref p) H'
def spWeight (K : PySem.W.Frag) : Sp := fun vs H Q _ => ∃ (p q : Addr) (ws ms : List Int), vs = [.ref p, .ref q] ∧ SqL K H p (ws.map V.int) ∧ SqL K H q (ms.map V.int) ∧ ws.length ≤ 16 ∧ ∀ H', Same H H' → Q (.int (wOf ws ms)) H'
def spLCert (K : PySem.W.Frag) : Sp := fun vs H Q _ => ∃ (pw l : Addr) (ws : List Int) (ps : List Addr) (xs : List Lt) (h t : Int) (b : Option Str), vs = [.ref pw, .ref l, .int h, .int t, oS b] ∧ SqL K H pw (ws.map V.int) ∧ ws.length ≤ 16 ∧ H l = some (.lst (ps.map V.ref)) ∧ LsAt H ps xs ∧ xs.length ≤ 100 ∧
  0 ≤ t ∧ t ≤ 12 ∧ ∀ H', Same H H' → Q (.bl (certM ws xs h b t.toNat)) H'
def spLComm (K : PySem.W.Frag) : Sp := fun vs H Q _ => ∃ (pw l : Addr) (ws : List Int) (ps : List Addr) (xs : List Lt) (h t : Int) (b : Option Str), vs = [.ref pw, .ref l, .int h, .int t, oS b] ∧ SqL K H pw (ws.map V.int) ∧ ws.length ≤ 16 ∧ H l = some (.lst (ps.map V.ref)) ∧ LsAt H ps xs ∧ xs.length ≤ 100 ∧
  0 ≤ t ∧ t ≤ 12 ∧ OkS b ∧ OkL xs ∧ ∀ H', Same H H' → Q (.bl (commM ws xs h b t.toNat)) H'

def spPlanted (K : PySem.W.Frag) : Sp := fun vs H Q _ => ∃ (cell size : Int), vs = [.int cell, .int size] ∧ 0 < size ∧ size ≤ 16 ∧
  ∀ (p : Addr) (ps : List Addr) (xs : List Lt) (H' : Hp), Same H H' → H' p = some (.lst (ps.map V.ref)) → LsAt H' ps xs → xs.length ≤ 5 * size.toNat → (∀ x ∈ xs, GoodLt size x) → H p = none → Q (.ref p) H'
def spCommits (K : PySem.W.Frag) : Sp := fun vs H Q _ => ∃ (pw l : Addr) (ws : List Int) (b : Str) (ps : List Addr) (xs : List Lt), vs = [.ref pw, .str b, .ref l] ∧ SqL K H pw (ws.map V.int) ∧ GoodW ws ∧ H l = some (.lst (ps.map V.ref)) ∧ LsAt H ps xs ∧ xs.length ≤ 100 ∧ OkS (some b) ∧ OkL xs ∧ (∀ x ∈ xs, 0 ≤ x.m.t ∧ x.m.t < 4) ∧
  ∀ H', Same H H' → Q (.bl (shM ws xs 0 (some b))) H'
structure LG (n : Int) (H : Hp) (q : Addr) (qs : List Addr) (ys : List Lt) : Prop where
  here : H q = some (.lst (qs.map V.ref))
  ls : LsAt H qs ys
  few : ys.length ≤ 25
  good : ∀ y ∈ ys, GoodLt n y
theorem LG.same {n : Int} {H H' : Hp} {q : Addr} {qs : List Addr} {ys : List Lt} (g : LG n H q qs ys) (s : Same H H') : LG n H' q qs ys := ⟨s _ _ g.here, g.ls.same s, g.few, g.good⟩
theorem getD_cut {α : Type} {z : α} {xs : List α} {d t i : Nat} (h : i < t) : ((xs.drop d).take t).getD i z = xs.getD (d + i) z := by
  rw [List.getD_eq_getElem?_getD, List.getD_eq_getElem?_getD, List.getElem?_take_of_lt h, List.getElem?_drop]
theorem LG.cut {n : Int} {H : Hp} {q : Addr} {qs : List Addr} {ys : List Lt} (g : LG n H q qs ys) (lo hi : Option Int) : ∃ (qs' : List Addr) (ys' : List Lt), cutV (qs.map V.ref) lo hi = qs'.map V.ref ∧ ∀ (p : Addr), H p = none → LG n (upd H p (.lst (qs'.map V.ref))) p qs' ys' := by
  obtain ⟨d, t, e⟩ : ∃ d t, cutV (qs.map V.ref) lo hi = ((qs.map V.ref).drop d).take t := ⟨_, _, rfl⟩
  refine ⟨(qs.drop d).take t, (ys.drop d).take t, by rw [e, List.map_take, List.map_drop], fun p hp => ⟨upd_same, LsAt.same ⟨?_, fun i hi => ?_⟩ (same_new hp), ?_, fun y hy => g.good y (List.mem_of_mem_drop (List.mem_of_mem_take hy))⟩⟩
  · rw [List.length_take, List.length_take, List.length_drop, List.length_drop, g.ls.1]
  · rw [List.length_take, List.length_drop] at hi
    rw [getD_cut (by omega), getD_cut (by omega)]
    exact g.ls.2 _ (by omega)
  · have := g.few
    rw [List.length_take, List.length_drop]
    omega
theorem LG.ok {n : Int} {H : Hp} {q : Addr} {qs : List Addr} {ys : List Lt} (g : LG n H q qs ys) : OkL ys ∧ TB ys ∧ ∀ x ∈ ys, 0 ≤ x.m.t ∧ x.m.t < 4 := by
  refine ⟨fun x hx => (g.good x hx).1, fun x hx => ?_, fun x hx => (g.good x hx).2.2.2.2.2⟩
  have := (g.good x hx).2.2.2.2.2
  omega

def spLaw (K : PySem.W.Frag) : Sp := fun vs H Q _ => ∃ (a : Addr) (ns : List Int), vs = [.ref a] ∧ SqL K H a (ns.map V.int) ∧ ns.length ≤ 63 ∧ ∀ H', Q (.bl true) H'
section
local macro_rules | `(tactic| walk_at "r1") => `(tactic| first
  | refine ⟨_, rfl, ?_⟩
  | refine ⟨_, _, rfl, rfl, (by show (0 : Int) < _; first | decide | omega), ?_⟩
  | refine ⟨_, _, rfl, rfl, (show CDiv _ _ from ⟨by decide, by decide⟩), ?_⟩
  | refine ⟨_, _, rfl, rfl, (show CMul _ _ from .inl ⟨by decide, by decide⟩), ?_⟩
  | refine ⟨_, _, rfl, rfl, (show CMul _ _ from .inr ⟨by decide, by decide⟩), ?_⟩
  | refine ⟨_, _, rfl, rfl, (show CPow _ _ from ⟨by decide, by decide, by decide⟩), ?_⟩
  | refine ⟨_, _, rfl, rfl, ?_⟩
  | refine ⟨_, _, _, _, rfl, rfl, SqT.of (by assumption), by first | exact at0 _ | exact at1 _ | exact at2 _ | exact at3 _ | exact at4 _ (by assumption), ?_⟩
  | refine ⟨scal_oS _ _, ?_⟩
  | refine .inl ⟨_, rfl, ?_⟩
  | refine ⟨rfl, ?_⟩)
local macro_rules | `(tactic| walk_at "rs") => `(tactic| repeat walk_at "r1")

variable {P : Program} {w : World} {K : PySem.W.Frag} {mg : Str → Option Value} {base : Heap} {a : Ads}
theorem getD_mem {zs : List Int} {i : Nat} (h : i < zs.length) : zs.getD i 0 ∈ zs := by
  rw [List.getD_eq_getElem?_getD, List.getElem?_eq_getElem h]
  exact List.getElem_mem h
theorem at_ints {zs : List Int} {i : Nat} (h : i < zs.length) : (zs.map V.int)[i]? = some (.int (zs.getD i 0)) := by
  rw [List.getElem?_map, List.getD_eq_getElem?_getD, List.getElem?_eq_getElem h]
  rfl

theorem ok_first_wrong (T : Txt K mg a) : ∃ fd, FnOk P w K mg base CX0 1 a.d_first_wrong fd ["weights"] (spFirst K) ∧ Binds K fd ["weights"] [] := by
  obtain ⟨fd, F, b⟩ := T.d_first_wrong.F
  refine ⟨fd, F.ok sc_first_wrong (fun vs H Q E h => ?_) (fun cdv A outer s H vs Q E hr h => ?_), b⟩
  · obtain ⟨_, _, rfl, _⟩ := h
    rfl
  · obtain ⟨p, ws, rfl, hp, gw, k⟩ := h
    refine ⟨_, (pss_cons (ps_for PassesOwn.never rfl (pi_enum (by rfl) T.n_enumerate (pa_cons (pv 0) pa_nil)) (pg_tup rfl (pgs_cons (pg_name (i := 1) sc_first_wrong.nd rfl (Or.inl rfl)) (pgs_cons (pg_name (i := 2) sc_first_wrong.nd rfl (Or.inl rfl)) pgs_nil)))
      (pss_one (ps_if (PW.pt (pw_or (pt_cmpR op_ge (pv 1) (pe_glob (v := (.int 16)) rfl T.c_MOST_MEMBERS.choose_spec ⟨_, rfl⟩) (nomark _)) (pw_or (pt_cmpR op_lt (pv 2) pe_int (nomark _)) (pw_or1 (pt_cmpR op_gt (pv 2) (pe_glob (v := (.int 1000000000000)) rfl T.c_MOST_WEIGHT.choose_spec ⟨_, rfl⟩) (nomark _))))))
        (pss_one (ps_ret (pv 1)))
        pss_nil)))
      (pss_cons (ps_if (pt_cmpR op_eq (pe_callB call_len_seq (by rfl) T.n_len PySem.boot_len (pa_cons (pv 0) pa_nil)) pe_int (nomark _))
      (pss_one (ps_ret pe_int))
      pss_nil)
      (pss_one (ps_ret pe_non)))), ?_⟩
    walk_at "rs"
    refine ⟨p, _, rfl, hp, ?_⟩
    refine for_enumL (K := K) (a := p) (ys := ws.map V.int) (fun i σ H2 => ∃ v1 v2 : Option V, σ = [some (.ref p), v1, v2] ∧ Same H H2) ⟨_, _, rfl, Same.refl H⟩ (fun i σ H2 _ ⟨_, _, _, s2⟩ => s2.seq hp) ?_ ?_
    · rintro i y σ H2 q hy ⟨v1, v2, rfl, s2⟩ hq
      have hi : i < ws.length := by
        have e := (List.getElem?_eq_some_iff.mp hy).1
        rwa [List.length_map] at e
      rw [at_ints hi] at hy
      cases hy
      have g1 := gw.2.2 _ (getD_mem hi)
      have g2 := gw.2.1
      walk_at "rs"
      refine ⟨q, _, rfl, SqT.of upd_same, rfl, ?_⟩
      refine ⟨_, _, rfl, _, _, rfl, rfl, ?_⟩
      walk_at "rs"
      refine ite2 (fun c1 => ?_) (fun c1 => ?_)
      · exfalso
        have := of_decide_eq_true c1
        omega
      walk_at "rs"
      refine ite2 (fun c2 => ?_) (fun c2 => ?_)
      · exfalso
        have := of_decide_eq_true c2
        omega
      walk_at "rs"
      refine ite2 (fun c3 => ?_) (fun c3 => ?_)
      · exfalso
        have := of_decide_eq_true c3
        omega
      exact ⟨_, _, rfl, same_upd s2 (s2.free hq)⟩
    · rintro σ H2 ⟨v1, v2, rfl, s2⟩
      walk_at "rs"
      refine ⟨p, _, rfl, .inl (s2.seq hp), ?_⟩
      walk_at "rs"
      refine ite2 (fun c1 => ?_) (fun c1 => ?_)
      · exfalso
        have g0 := gw.1
        simp at c1
        simp [c1] at g0
      exact k H2 s2
theorem ok_Committee_init (T : Txt K mg a) : ∃ fd, FnOk P w K mg base CX0 2 a.d_Committee_init fd ["self", "weights"] (spInit K a.C_Committee) ∧ Binds K fd ["self", "weights"] [] := by
  obtain ⟨fd, F, b⟩ := T.d_Committee_init.F
  obtain ⟨fd_first_wrong, G_first_wrong, b_first_wrong⟩ := ok_first_wrong (P := P) (w := w) (base := base) T
  refine ⟨fd, F.ok sc_Committee_init (fun vs H Q E h => ?_) (fun cdv A outer s H vs Q E hr h => ?_), b⟩
  · obtain ⟨_, _, _, _, rfl, _⟩ := h
    rfl
  · obtain ⟨p, dx, l, ws, rfl, hp, hl, gw, k⟩ := h
    refine ⟨_, (pss_cons (ps_set (i := 2) sc_Committee_init.nd rfl (Or.inl rfl) (pe_call G_first_wrong (hr.mono (by decide)) rfl T.d_first_wrong.g T.d_first_wrong.kp b_first_wrong .nil pass0 (pa_cons (pv 1) pa_nil)))
      (pss_cons (ps_if (pt_cmpR op_notN (pv 2) pe_non (nomark _))
      (pss_one ps_never)
      pss_nil)
      (pss_cons (ps_fld (pv 0) (pe_callTy call_tuple_of (by rfl) T.n_tuple (by decide +kernel) (pa_cons (pv 1) pa_nil)) rfl)
      (pss_cons (ps_fld (pv 0) (pe_callB call_len_seq (by rfl) T.n_len PySem.boot_len (pa_cons (pe_fld (pv 0) rfl) pa_nil)) rfl)
      (pss_one (ps_fld (pv 0) (pe_callB (cr_sumT rfl) (by rfl) T.n_sum (by decide +kernel) (pa_cons (pe_fld (pv 0) rfl) pa_nil)) rfl)))))), ?_⟩
    walk_at "rs"
    refine ⟨l, ws, rfl, hl, gw, fun H1 s1 => ?_⟩
    walk_at "rs"
    have hp1 := s1 _ _ hp
    refine ⟨l, _, rfl, .inl ⟨s1.seq hl, fun t ht => ?_⟩⟩
    have npt : p ≠ t := ne_of_none hp1 ht
    have hp2 : (upd H1 t (.tup (ws.map V.int))) p = some (.ins a.C_Committee dx []) := by rw [upd_ne npt]; exact hp1
    walk_at "rs"
    refine ⟨p, _, dx, [], rfl, hp2, T.cl_Committee, T.a_Committee_weights, (by show 0 < 1000; decide), ?_⟩
    have ht3 : ∀ o : HO, (upd (upd H1 t (.tup (ws.map V.int))) p o) t = some (.tup (ws.map V.int)) := fun o => by rw [upd_ne npt.symm, upd_same]
    walk_at "rs"
    refine ⟨p, _, dx, _, .ref t, rfl, upd_same, T.cl_Committee, T.a_Committee_weights, by rw [lookup_putF, if_pos rfl], ?_⟩
    walk_at "rs"
    refine ⟨t, _, rfl, .inr (SqT.of (ht3 _)), ?_⟩
    walk_at "rs"
    refine ⟨p, _, dx, _, rfl, upd_same, T.cl_Committee, T.a_Committee_size, (by show 1 < 1000; decide), ?_⟩
    rw [upd_upd]
    walk_at "rs"
    refine ⟨p, _, dx, _, .ref t, rfl, upd_same, T.cl_Committee, T.a_Committee_weights, by rw [lookup_putF, if_neg ne_ws, lookup_putF, if_pos rfl], ?_⟩
    walk_at "rs"
    refine ⟨t, ws, rfl, SqT.of (ht3 _), ?_⟩
    walk_at "rs"
    refine ⟨p, _, dx, _, rfl, upd_same, T.cl_Committee, T.a_Committee_total, (Nat.lt_of_le_of_lt (length_putF _ _ _) (Nat.lt_of_le_of_lt (Nat.add_le_add_right (length_putF _ _ _) 1) (by show 2 < 1000; decide))), ?_⟩
    rw [upd_upd, List.length_map]
    exact k _ ⟨dx, t, upd_same, ht3 _⟩ fun b o e hb => by
      rw [upd_ne hb, upd_ne (ne_of_none (s1 _ _ e) ht)]
      exact s1 _ _ e

theorem ok_is_vote (T : Txt K mg a) : ∃ fd, FnOk P w K mg base CX0 1 a.d_is_vote fd ["statement"] (spVote K) ∧ Binds K fd ["statement"] [] := by
  obtain ⟨fd, F, b⟩ := T.d_is_vote.F
  refine ⟨fd, F.ok sc_is_vote (fun vs H Q E h => ?_) (fun cdv A outer s H vs Q E hr h => ?_), b⟩
  · obtain ⟨p, m, rfl, _⟩ := h
    rfl
  · obtain ⟨p, m, rfl, hp, k⟩ := h
    refine ⟨_, (pss_one (ps_ret (pe_cmpR op_in_seq (pe_ix ix_tup (pv 0) (pe_glob (v := (.int 0)) rfl T.c_KIND.choose_spec ⟨_, rfl⟩) (fun _ _ => rfl)) (pe_tup (pa_cons pe_str (pa_cons pe_str pa_nil))) (by rfl)))), ?_⟩
    refine ⟨_, rfl, p, _, _, _, rfl, rfl, SqT.of hp, at0 m, (by show 2 ≤ sizeLine; decide), fun t ht => ?_⟩
    refine ⟨t, _, rfl, .inr (SqT.of upd_same), rfl, rfl, ?_⟩
    have e : inV (V.str m.k.s) [V.str "prevote", V.str "precommit"] = decide (m.k ≠ .prop) := by
      cases hk : m.k <;> decide +kernel
    show Q (.bl (inV (V.str m.k.s) [V.str "prevote", V.str "precommit"])) _
    rw [e]
    exact k _ (same_new ht)
theorem ok_abandons (T : Txt K mg a) : ∃ fd, FnOk P w K mg base CX0 1 a.d_abandons fd ["one", "other"] (spAband K) ∧ Binds K fd ["one", "other"] [] := by
  obtain ⟨fd, F, b⟩ := T.d_abandons.F
  refine ⟨fd, F.ok sc_abandons (fun vs H Q E h => ?_) (fun cdv A outer s H vs Q E hr h => ?_), b⟩
  · obtain ⟨_, _, _, _, rfl, _⟩ := h
    rfl
  · obtain ⟨p, q, m, n, rfl, hp, hq, k⟩ := h
    have k0 : Q (.bl (abandM m n)) H := k _ (Same.refl H)
    refine ⟨_, (pss_cons (ps_if (PW.pt (pw_or (pt_cmpR op_ne (pe_ix ix_tup (pv 0) (pe_glob (v := (.int 0)) rfl T.c_KIND.choose_spec ⟨_, rfl⟩) (fun _ _ => rfl)) pe_str (nomark _)) (pw_or1 (pt_cmpR op_ne (pe_ix ix_tup (pv 1) (pe_glob (v := (.int 0)) rfl T.c_KIND.choose_spec ⟨_, rfl⟩) (fun _ _ => rfl)) pe_str (nomark _)))))
      (pss_one (ps_ret pe_bl))
      pss_nil)
      (pss_cons (ps_if (PW.pt (pw_or (pt_cmpR op_isN (pe_ix ix_tup (pv 0) (pe_glob (v := (.int 3)) rfl T.c_BLOCK.choose_spec ⟨_, rfl⟩) (fun _ _ => rfl)) pe_non (nomark _)) (pw_or1 (pt_cmpR op_isN (pe_ix ix_tup (pv 1) (pe_glob (v := (.int 3)) rfl T.c_BLOCK.choose_spec ⟨_, rfl⟩) (fun _ _ => rfl)) pe_non (nomark _)))))
      (pss_one (ps_ret pe_bl))
      pss_nil)
      (pss_cons (ps_if (PW.pt (pw_or (pt_cmpR op_eq (pe_ix ix_tup (pv 0) (pe_glob (v := (.int 3)) rfl T.c_BLOCK.choose_spec ⟨_, rfl⟩) (fun _ _ => rfl)) (pe_ix ix_tup (pv 1) (pe_glob (v := (.int 3)) rfl T.c_BLOCK.choose_spec ⟨_, rfl⟩) (fun _ _ => rfl)) (nomark _)) (pw_or1 (pt_cmpR op_ge (pe_ix ix_tup (pv 0) (pe_glob (v := (.int 2)) rfl T.c_TURN.choose_spec ⟨_, rfl⟩) (fun _ _ => rfl)) (pe_ix ix_tup (pv 1) (pe_glob (v := (.int 2)) rfl T.c_TURN.choose_spec ⟨_, rfl⟩) (fun _ _ => rfl)) (nomark _)))))
      (pss_one (ps_ret pe_bl))
      pss_nil)
      (pss_one (ps_ret (pe_or (pe_cmpR op_isN (pe_ix ix_tup (pv 1) (pe_glob (v := (.int 4)) rfl T.c_LEAN.choose_spec ⟨_, rfl⟩) (fun _ _ => rfl)) pe_non (nomark _)) (pe_one (pe_cmpR op_lt (pe_ix ix_tup (pv 1) (pe_glob (v := (.int 4)) rfl T.c_LEAN.choose_spec ⟨_, rfl⟩) (fun _ _ => rfl)) (pe_ix ix_tup (pv 0) (pe_glob (v := (.int 2)) rfl T.c_TURN.choose_spec ⟨_, rfl⟩) (fun _ _ => rfl)) (nomark _))))))))), ?_⟩
    walk_at "rs"
    refine ite2 (fun c1 => ?_) (fun c1 => ?_) <;> simp only [kcom, Bool.not_eq_true', decide_eq_false_iff_not, decide_eq_true_iff, Decidable.not_not] at c1
    · rw [show abandM m n = false from if_neg (fun z => c1 z.1)] at k0
      exact k0
    walk_at "rs"
    refine ite2 (fun c2 => ?_) (fun c2 => ?_) <;> simp only [kpre, Bool.not_eq_true', decide_eq_false_iff_not, decide_eq_true_iff, Decidable.not_not] at c2
    · rw [show abandM m n = false from if_neg (fun z => c2 z.2.1)] at k0
      exact k0
    walk_at "rs"
    refine ite2 (fun c3 => ?_) (fun c3 => ?_) <;> simp only [koSn, decide_eq_true_iff] at c3
    · rw [show abandM m n = false from if_neg (fun z => z.2.2.1 c3)] at k0
      exact k0
    walk_at "rs"
    refine ite2 (fun c4 => ?_) (fun c4 => ?_) <;> simp only [koSn, decide_eq_true_iff] at c4
    · rw [show abandM m n = false from if_neg (fun z => z.2.2.2.1 c4)] at k0
      exact k0
    walk_at "rs"
    refine ite2 (fun c5 => ?_) (fun c5 => ?_) <;> simp only [koS, decide_eq_true_iff] at c5
    · rw [show abandM m n = false from if_neg (fun z => z.2.2.2.2.1 c5)] at k0
      exact k0
    walk_at "rs"
    refine ite2 (fun c6 => ?_) (fun c6 => ?_) <;> simp only [decide_eq_true_iff] at c6
    · rw [show abandM m n = false from if_neg (fun z => by have := z.2.2.2.2.2; omega)] at k0
      exact k0
    have e : abandM m n = (match n.l with | none => true | some l => decide (l < m.t)) := if_pos ⟨c1, c2, c3, c4, c5, by omega⟩
    rw [e] at k0
    clear e
    walk_at "rs"
    refine ite2 (fun c7 => ?_) (fun c7 => ?_) <;> simp only [koIn, decide_eq_true_iff] at c7
    · rw [c7] at k0
      exact k0
    · cases hnl : n.l with
      | none => exact absurd hnl c7
      | some l =>
        rw [hnl] at k0
        refine ⟨_, rfl, _, _, _, _, rfl, rfl, SqT.of hq, (at4 n c2).trans (by rw [hnl]), ?_⟩
        walk_at "rs"
        exact k0
theorem ok_clash (T : Txt K mg a) : ∃ fd, FnOk P w K mg base CX0 2 a.d_clash fd ["one", "other"] (spClash K) ∧ Binds K fd ["one", "other"] [] := by
  obtain ⟨fd, F, b⟩ := T.d_clash.F
  obtain ⟨fd_abandons, G_abandons, b_abandons⟩ := ok_abandons (P := P) (w := w) (base := base) T
  obtain ⟨fd_is_vote, G_is_vote, b_is_vote⟩ := ok_is_vote (P := P) (w := w) (base := base) T
  refine ⟨fd, F.ok sc_clash (fun vs H Q E h => ?_) (fun cdv A outer s H vs Q E hr h => ?_), b⟩
  · obtain ⟨_, _, _, _, rfl, _⟩ := h
    rfl
  · obtain ⟨p, q, m, n, rfl, hp, hq, k⟩ := h
    refine ⟨_, (pss_cons (ps_if (pt_cmpR op_ne (pe_ix ix_tup (pv 0) (pe_glob (v := (.int 1)) rfl T.c_HEIGHT.choose_spec ⟨_, rfl⟩) (fun _ _ => rfl)) (pe_ix ix_tup (pv 1) (pe_glob (v := (.int 1)) rfl T.c_HEIGHT.choose_spec ⟨_, rfl⟩) (fun _ _ => rfl)) (nomark _))
      (pss_one (ps_ret pe_bl))
      pss_nil)
      (pss_cons (ps_if (pt_cmpR op_eq (pe_ix ix_tup (pv 0) (pe_glob (v := (.int 0)) rfl T.c_KIND.choose_spec ⟨_, rfl⟩) (fun _ _ => rfl)) (pe_ix ix_tup (pv 1) (pe_glob (v := (.int 0)) rfl T.c_KIND.choose_spec ⟨_, rfl⟩) (fun _ _ => rfl)) (nomark _))
      (pss_one (ps_ret (pe_and (pe_call G_is_vote (hr.mono (by decide)) rfl T.d_is_vote.g T.d_is_vote.kp b_is_vote .nil pass0 (pa_cons (pv 0) pa_nil)) (pe_and (pe_cmpR op_eq (pe_ix ix_tup (pv 0) (pe_glob (v := (.int 2)) rfl T.c_TURN.choose_spec ⟨_, rfl⟩) (fun _ _ => rfl)) (pe_ix ix_tup (pv 1) (pe_glob (v := (.int 2)) rfl T.c_TURN.choose_spec ⟨_, rfl⟩) (fun _ _ => rfl)) (nomark _)) (pe_one (pe_cmpR op_ne (pe_ix ix_tup (pv 0) (pe_glob (v := (.int 3)) rfl T.c_BLOCK.choose_spec ⟨_, rfl⟩) (fun _ _ => rfl)) (pe_ix ix_tup (pv 1) (pe_glob (v := (.int 3)) rfl T.c_BLOCK.choose_spec ⟨_, rfl⟩) (fun _ _ => rfl)) (nomark _)))))))
      pss_nil)
      (pss_one (ps_ret (pe_or (pe_call G_abandons (hr.mono (by decide)) rfl T.d_abandons.g T.d_abandons.kp b_abandons .nil pass0 (pa_cons (pv 0) (pa_cons (pv 1) pa_nil))) (pe_one (pe_call G_abandons (hr.mono (by decide)) rfl T.d_abandons.g T.d_abandons.kp b_abandons .nil pass0 (pa_cons (pv 1) (pa_cons (pv 0) pa_nil))))))))), ?_⟩
    unfold clashM at k
    walk_at "rs"
    refine ite2 (fun c1 => ?_) (fun c1 => ?_) <;> simp only [dec_int, Bool.not_eq_true', beq_eq_false_iff_ne, Bool.not_eq_false', Bool.not_eq_true, beq_iff_eq, ne_eq, Decidable.not_not] at c1
    · rw [if_pos c1] at k
      exact k _ (Same.refl H)
    rw [if_neg (fun z => z c1)] at k
    walk_at "rs"
    refine ite2 (fun c2 => ?_) (fun c2 => ?_) <;> simp only [dec_kd, decide_eq_true_iff] at c2
    · rw [if_pos c2] at k
      walk_at "rs"
      refine ⟨p, m, rfl, hp, fun H' s1 => ?_⟩
      have hp' : SmAt H' p m := s1 _ _ hp
      have hq' : SmAt H' q n := s1 _ _ hq
      walk_at "rs"
      refine ite2 (fun c3 => ?_) (fun c3 => ?_)
      · rw [c3, Bool.true_and] at k
        walk_at "rs"
        refine ite2 (fun c4 => ?_) (fun c4 => ?_) <;> simp only [dec_int, beq_iff_eq] at c4
        · rw [decide_eq_true c4, Bool.true_and] at k
          walk_at "rs"
          have k' := k H' s1
          rw [show decide (m.b ≠ n.b) = (!decide (oS m.b = oS n.b)) by rw [dec_oS, decide_not]] at k'
          exact k'
        · rw [decide_eq_false c4, Bool.false_and] at k
          exact k H' s1
      · rw [Bool.eq_false_iff.mpr c3, Bool.false_and] at k
        exact k H' s1
    · rw [if_neg c2] at k
      walk_at "rs"
      refine ⟨p, q, m, n, rfl, hp, hq, fun H' s1 => ?_⟩
      have hp' : SmAt H' p m := s1 _ _ hp
      have hq' : SmAt H' q n := s1 _ _ hq
      walk_at "rs"
      refine ite2 (fun c3 => ?_) (fun c3 => ?_)
      · rw [c3, Bool.true_or] at k
        exact k H' s1
      · rw [Bool.eq_false_iff.mpr c3, Bool.false_or] at k
        walk_at "rs"
        exact ⟨q, p, n, m, rfl, hq', hp', fun H2 s2 => k H2 (s1.trans s2)⟩

theorem ok_Charge_init (T : Txt K mg a) : ∃ fd, FnOk P w K mg base CX0 1 a.d_Charge_init fd ["self", "who", "first", "second"] (spChI K a.C_Charge) ∧ Binds K fd ["self", "who", "first", "second"] [] := by
  obtain ⟨fd, F, b⟩ := T.d_Charge_init.F
  refine ⟨fd, F.ok sc_Charge_init (fun vs H Q E h => ?_) (fun cdv A outer s H vs Q E hr h => ?_), b⟩
  · obtain ⟨_, _, _, _, _, rfl, _⟩ := h
    rfl
  · obtain ⟨p, dx, who, a1, b1, rfl, hp, k⟩ := h
    refine ⟨_, (pss_cons (ps_fld (pv 0) (pv 1) rfl)
      (pss_cons (ps_fld (pv 0) (pv 2) rfl)
      (pss_one (ps_fld (pv 0) (pv 3) rfl)))), ?_⟩
    walk_at "rs"
    refine ⟨p, _, dx, [], rfl, hp, T.cl_Charge, T.a_Charge_who, (by show 0 < 1000; decide), ?_⟩
    walk_at "rs"
    refine ⟨p, _, dx, _, rfl, upd_same, T.cl_Charge, T.a_Charge_first, (by show 1 < 1000; decide), ?_⟩
    rw [upd_upd]
    walk_at "rs"
    refine ⟨p, _, dx, _, rfl, upd_same, T.cl_Charge, T.a_Charge_second, (Nat.lt_of_le_of_lt (length_putF _ _ _) (Nat.lt_of_le_of_lt (Nat.add_le_add_right (length_putF _ _ _) 1) (by show 2 < 1000; decide))), ?_⟩
    rw [upd_upd]
    exact k _ upd_same fun b o e hb => by
      rw [upd_ne hb]
      exact e
theorem ok_first_clash (T : Txt K mg a) : ∃ fd, FnOk P w K mg base CX0 3 a.d_first_clash fd ["earlier", "letter"] (spFc K) ∧ Binds K fd ["earlier", "letter"] [] := by
  obtain ⟨fd, F, b⟩ := T.d_first_clash.F
  obtain ⟨fd_clash, G_clash, b_clash⟩ := ok_clash (P := P) (w := w) (base := base) T
  refine ⟨fd, F.ok sc_first_clash (fun vs H Q E h => ?_) (fun cdv A outer s H vs Q E hr h => ?_), b⟩
  · obtain ⟨_, _, _, _, _, rfl, _⟩ := h
    rfl
  · obtain ⟨l, p, qs, own, x, rfl, hl, hq, hx, k⟩ := h
    obtain ⟨px, hpx, hmx⟩ := id hx
    refine ⟨_, (pss_cons (ps_for PassesOwn.never rfl (pi_list (pv 0)) (pg_name (i := 2) sc_first_clash.nd rfl (Or.inl rfl))
      (pss_one (ps_if (pt_val (pe_call G_clash (hr.mono (by decide)) rfl T.d_clash.g T.d_clash.kp b_clash .nil pass0 (pa_cons (pe_ix ix_tup (pv 2) pe_int (fun _ _ => rfl)) (pa_cons (pe_ix ix_tup (pv 1) pe_int (fun _ _ => rfl)) pa_nil))))
        (pss_one (ps_ret (pv 2)))
        pss_nil)))
      (pss_one (ps_ret pe_non))), ?_⟩
    walk_at "rs"
    refine ⟨⟨_, SqL.of hl⟩, for_list (K := K) (a := l) (xs := qs.map V.ref) (fun i σ H2 => ∃ v2 : Option V, σ = [some (.ref l), some (.ref p), v2] ∧ Same H H2 ∧ ∀ j, j < i → clashM (own.getD j default).m x.m = false) ⟨_, rfl, Same.refl H, fun j h => absurd h (Nat.not_lt_zero _)⟩ (fun i σ H2 _ ⟨_, _, s2, _⟩ => SqL.of (s2 _ _ hl)) ?_ ?_⟩
    · rintro i y σ H2 hy ⟨v2, rfl, s2, hno⟩
      have hi : i < qs.length := by
        have e := (List.getElem?_eq_some_iff.mp hy).1
        rwa [List.length_map] at e
      have hi' : i < own.length := by
        rw [← hq.1]
        exact hi
      rw [at_refs hi] at hy
      cases hy
      have hli := (hq.2 i hi').same s2
      obtain ⟨pi, hpi, hmi⟩ := id hli
      walk_at "rs"
      refine ⟨_, _, _, _, rfl, rfl, SqT.of hpi, rfl, ?_⟩
      walk_at "rs"
      refine ⟨_, _, _, _, rfl, rfl, SqT.of (s2 _ _ hpx), rfl, ?_⟩
      walk_at "rs"
      refine ⟨pi, px, _, _, rfl, hmi, s2 _ _ hmx, fun H5 s5 => ?_⟩
      walk_at "rs"
      refine ite2 (fun c1 => ?_) (fun c1 => ?_)
      · walk_at "rs"
        exact k _ _ (s2.trans s5) (.inr ⟨i, hi', rfl, c1, hno⟩)
      · refine ⟨_, rfl, s2.trans s5, fun j hj => ?_⟩
        rcases Nat.lt_or_ge j i with z | z
        · exact hno j z
        · have : j = i := by omega
          rw [this]
          simpa using c1
    · rintro σ H2 ⟨v2, rfl, s2, hno⟩
      walk_at "rs"
      exact k _ _ s2 (.inl ⟨rfl, fun j hj => hno j (by rw [List.length_map, hq.1]; exact hj)⟩)
theorem ok_charge_of (T : Txt K mg a) : ∃ fd, FnOk P w K mg base CX0 4 a.d_charge_of fd ["letters", "who"] (spCof K a.C_Charge) ∧ Binds K fd ["letters", "who"] [] := by
  obtain ⟨fd, F, b⟩ := T.d_charge_of.F
  obtain ⟨fd_first_clash, G_first_clash, b_first_clash⟩ := ok_first_clash (P := P) (w := w) (base := base) T
  obtain ⟨fd_Charge_init, G_Charge_init, b_Charge_init⟩ := ok_Charge_init (P := P) (w := w) (base := base) T
  refine ⟨fd, F.ok sc_charge_of (fun vs H Q E h => ?_) (fun cdv A outer s H vs Q E hr h => ?_), b⟩
  · obtain ⟨_, _, _, _, rfl, _⟩ := h
    rfl
  · obtain ⟨l, who, ps, xs, rfl, hl, hx, few, k⟩ := h
    refine ⟨_, (pss_cons (ps_set (i := 2) sc_charge_of.nd rfl (Or.inl rfl) (pe_lst pa_nil))
      (pss_cons (ps_for PassesOwn.never rfl (pi_list (pv 0)) (pg_name (i := 3) sc_charge_of.nd rfl (Or.inl rfl))
      (pss_one (ps_if (pt_cmpR op_eq (pe_ix ix_tup (pv 3) pe_int (fun _ _ => rfl)) (pv 1) (nomark _))
        (pss_cons (ps_set (i := 4) sc_charge_of.nd rfl (Or.inl rfl) (pe_call G_first_clash (hr.mono (by decide)) rfl T.d_first_clash.g T.d_first_clash.kp b_first_clash .nil pass0 (pa_cons (pv 2) (pa_cons (pv 3) pa_nil))))
          (pss_cons (ps_if (pt_cmpR op_notN (pv 4) pe_non (nomark _))
          (pss_one (ps_ret (pe_make T.m_Charge G_Charge_init (hr.mono (by decide)) (by rfl) T.g_Charge b_Charge_init .nil pass0 (pa_cons (pv 1) (pa_cons (pv 4) (pa_cons (pv 3) pa_nil))))))
          pss_nil)
          (pss_one (ps_expr (pe_bm PySem.F.plainAttrs_list PySem.F.slot_list_append PySem.F.type_list_append mt_append (pv 2) (pa_cons (pv 3) pa_nil))))))
        pss_nil)))
      (pss_one (ps_ret pe_non)))), ?_⟩
    walk_at "rs"
    refine ⟨(by show 0 ≤ sizeLine; decide), fun D hD => ?_⟩
    walk_at "rs"
    have s0 : Same H (upd H D (.lst [])) := same_new hD
    refine ⟨⟨_, SqL.of (s0 _ _ hl)⟩, for_list (K := K) (a := l) (xs := ps.map V.ref) (fun i σ H2 => ∃ v3 v4 : Option V, σ = [some (.ref l), some (.int who), some (.ref D), v3, v4] ∧ Same H H2 ∧ ∃ qs, H2 D = some (.lst (qs.map V.ref)) ∧ LsAt H2 qs (ownOf (xs.take i) who) ∧ due (ownOf (xs.take i) who) = none)
      ⟨_, _, rfl, s0, [], upd_same, LsAt.nil, rfl⟩ (fun i σ H2 _ ⟨_, _, _, s2, _⟩ => SqL.of (s2 _ _ hl)) ?_ ?_⟩
    · rintro i y σ H2 hy ⟨v3, v4, rfl, s2, qs, hd, hqs, hdue⟩
      have hi : i < ps.length := by
        have e := (List.getElem?_eq_some_iff.mp hy).1
        rwa [List.length_map] at e
      have hi' : i < xs.length := by
        rw [← hx.1]
        exact hi
      rw [at_refs hi] at hy
      cases hy
      have hlt := (hx.2 i hi').same s2
      obtain ⟨q, hp, hq⟩ := id hlt
      have ql : qs.length ≤ 900 := by
        have := own_len (xs.take i) who
        rw [hqs.1]
        rw [List.length_take] at this
        omega
      walk_at "rs"
      refine ⟨_, _, _, _, rfl, rfl, SqT.of hp, rfl, ?_⟩
      walk_at "rs"
      refine ite2 (fun c1 => ?_) (fun c1 => ?_) <;> simp only [dec_int, beq_iff_eq] at c1
      · walk_at "rs"
        refine ⟨D, _, qs, _, _, rfl, hd, hqs, hlt, fun v H3 s3 hv => ?_⟩
        have hd3 := s3 _ _ hd
        have hqs3 := hqs.same s3
        have hlt3 := hlt.same s3
        rcases hv with ⟨rfl, hno⟩ | ⟨j, hj, rfl, hc, hno⟩
        · walk_at "rs"
          refine ⟨.inl ⟨rfl, _, SqL.of hd3⟩, ?_⟩
          walk_at "rs"
          refine ⟨D, _, _, rfl, rfl, hd3, by rw [List.length_map]; exact small1000 (by omega), ?_⟩
          refine ⟨_, _, rfl, same_upd (s2.trans s3) hD, qs ++ [ps.getD i 0], by rw [upd_same]; simp, ?_, ?_⟩
          · rw [own_yes hi' c1]
            exact (hqs3.snoc hlt3).upd hd3
          · rw [own_yes hi' c1]
            exact due_snoc_no hdue hno
        · walk_at "rs"
          intro y1 dy1 nx1 ndx1 nex1
          refine ⟨y1, dy1, who, _, _, rfl, upd_same, fun J1 hc1 kp1 => ⟨rfl, ?_⟩⟩
          have sm1 : Same H3 J1 := Same.made nx1 ndx1 kp1
          have e : due (ownOf xs who) = some ((ownOf (xs.take i) who).getD j default, xs.getD i default) := by
            rw [own_split xs who (i + 1)]
            refine due_app ?_
            rw [own_yes hi' c1]
            exact due_snoc_yes hdue hj hc hno
          refine k _ _ ((s2.trans s3).trans sm1) ?_
          rw [e]
          exact ⟨y1, dy1, _, _, rfl, hc1, (hqs3.2 j hj).same sm1, hlt3.same sm1⟩
      · exact ⟨_, _, rfl, s2, qs, hd, by rw [own_no hi' c1]; exact hqs, by rw [own_no hi' c1]; exact hdue⟩
    · rintro σ H2 ⟨v3, v4, rfl, s2, qs, hd, hqs, hdue⟩
      rw [List.length_map, hx.1, List.take_length] at hdue
      walk_at "rs"
      refine k _ _ s2 ?_
      rw [hdue]
      rfl
theorem at_vals {vs : List V} {i : Nat} (h : i < vs.length) : vs[i]? = some (vs.getD i .non) := by
  rw [List.getD_eq_getElem?_getD, List.getElem?_eq_getElem h]
  rfl
theorem ChAt.upd {C : Addr} {H : Hp} {v : V} {who : Int} {r : Option (Lt × Lt)} {l : Addr} {ys : List V} {o : HO} (h : ChAt C H v who r) (hl : H l = some (.lst ys)) : ChAt C (upd H l o) v who r := by
  cases r with
  | none => exact h
  | some r =>
    obtain ⟨p, dx, a, b, e, h1, h2, h3⟩ := h
    refine ⟨p, dx, a, b, e, ?_, h2.upd hl, h3.upd hl⟩
    rw [upd_ne (fun z => by rw [z, hl] at h1; cases h1)]
    exact h1
theorem ok_charges (T : Txt K mg a) : ∃ fd, FnOk P w K mg base CX0 5 a.d_charges fd ["committee", "letters"] (spCharges K a.C_Committee a.C_Charge) ∧ Binds K fd ["committee", "letters"] [] := by
  obtain ⟨fd, F, b⟩ := T.d_charges.F
  obtain ⟨fd_charge_of, G_charge_of, b_charge_of⟩ := ok_charge_of (P := P) (w := w) (base := base) T
  refine ⟨fd, F.ok sc_charges (fun vs H Q E h => ?_) (fun cdv A outer s H vs Q E hr h => ?_), b⟩
  · obtain ⟨_, _, _, _, _, rfl, _⟩ := h
    rfl
  · obtain ⟨c, l, ws, ps, xs, rfl, hc, hw, hl, hx, few, k⟩ := h
    obtain ⟨dx, t, hcp, hct⟩ := id hc
    refine ⟨_, (pss_cons (ps_setLc (i := 2) (own := [("who", 3)]) (g := (gName 3)) (tt := tYes) rfl sc_charges.nd rfl rfl (sw_true rfl rfl rfl (by decide +kernel)) (pi_range1 rfl T.n_range (pa_cons (pe_fld (pv 0) rfl) pa_nil)) (blkOk_by (own := [("who", 3)]) (N := sc_charges_N) (sc := defScope s_charges) (by decide +kernel)) (fun _ _ _ _ _ => (pg_name (i := 3) sc_charges.nd rfl (Or.inl rfl))) (fun _ _ _ _ _ => pts_nil) (fun _ _ _ _ _ => (pe_call G_charge_of (hr.mono (by decide)) rfl T.d_charge_of.g T.d_charge_of.kp b_charge_of .nil pass0 (pa_cons (pv 1) (pa_cons (pv 3) pa_nil)))))
      (pss_one (ps_ret (pe_lc (own := [("charge", 4)]) (g := (gName 4)) rfl sc_charges.nd (pi_list (pv 2)) (blkOk_by (own := [("charge", 4)]) (N := sc_charges_N) (sc := defScope s_charges) (by decide +kernel)) (fun _ _ _ _ _ => (pg_name (i := 4) sc_charges.nd rfl (Or.inl rfl))) (fun _ _ _ _ _ => (pts_one (pt_cmpR op_notN (pv 4) pe_non (nomark _)))) (fun _ _ _ _ _ => (pv 4)))))), ?_⟩
    walk_at "rs"
    refine ⟨c, _, dx, _, .int ws.length, rfl, hcp, T.cl_Committee, T.a_Committee_size, cfs_s _ _, ?_⟩
    walk_at "rs"
    refine ⟨(by show -(2 ^ 62 : Int) ≤ _; omega), (by show _ < (2 ^ 62 : Int); omega), fun D hD => ?_⟩
    refine lc_range (lo := 0) (n := ((ws.length : Int)).toNat) (fun i H2 => Same H H2 ∧ ∃ vs : List V, H2 D = some (.lst vs) ∧ vs.length = i ∧ ∀ j, j < i → ChAt a.C_Charge H2 (vs.getD j .non) (j : Int) (due (ownOf xs (j : Int)))) ⟨same_new hD, [], upd_same, rfl, fun j hj => absurd hj (Nat.not_lt_zero _)⟩ ?_ ?_
    · rintro i H2 hi ⟨s2, vs, hd, hv, hch⟩
      have e0 : (0 : Int) + (i : Int) = (i : Int) := Int.zero_add _
      rw [e0]
      refine ⟨rfl, ?_⟩
      walk_at "rs"
      refine ⟨l, _, ps, xs, rfl, s2 _ _ hl, hx.same s2, few, fun v H3 s3 hv3 => ?_⟩
      have hd3 := s3 _ _ hd
      refine ⟨_, hd3, by rw [hv]; exact small1000 (by omega), same_upd (s2.trans s3) hD, vs ++ [v], upd_same, by rw [List.length_append, hv]; rfl, fun j hj => ?_⟩
      rcases Nat.lt_or_ge j i with z | z
      · rw [getD_left (by omega)]
        exact ((hch j z).same s3).upd hd3
      · have ej : j = i := by omega
        subst ej
        have : (vs ++ [v]).getD j V.non = v := by rw [← hv, getD_last]
        rw [this]
        exact hv3.upd hd3
    · rintro H2 ⟨s2, vs, hd, hv, hch⟩
      rw [Int.toNat_natCast] at hv hch
      walk_at "rs"
      refine ⟨⟨_, SqL.of hd⟩, fun D2 hD2 => ?_⟩
      have s02 := same_new (o := .lst []) hD2
      refine lc_list (K := K) (a := D) (xs := vs) (fun i H3 => Same H2 H3 ∧ ∃ cs : List Addr, H3 D2 = some (.lst (cs.map V.ref)) ∧ cs.length = (fnd xs i).length ∧ ∀ j, j < cs.length → ChAt a.C_Charge H3 (.ref (cs.getD j 0)) ((fnd xs i).getD j 0) (due (ownOf xs ((fnd xs i).getD j 0)))) ⟨s02, [], upd_same, rfl, fun j hj => absurd hj (Nat.not_lt_zero _)⟩ (fun i H3 _ ⟨s3, _⟩ => SqL.of (s3 _ _ hd)) ?_ ?_
      · rintro i y H3 hy ⟨s3, cs, hd3, hcs, hch3⟩
        have hi : i < vs.length := (List.getElem?_eq_some_iff.mp hy).1
        rw [at_vals hi] at hy
        cases hy
        have hci := (hch i (by omega)).same s3
        have fl := fnd_len xs i
        refine ⟨rfl, ?_⟩
        walk_at "rs"
        generalize ed : due (ownOf xs (i : Int)) = r at hci
        generalize vs.getD i V.non = v at hci ⊢
        cases r with
        | none =>
          cases (show v = .non from hci)
          walk_at "rs"
          refine ⟨s3, cs, hd3, by rw [fnd_no ed]; exact hcs, ?_⟩
          rw [fnd_no ed]
          exact hch3
        | some r =>
          have hci2 := hci
          obtain ⟨pd, dd, ad, bd, rfl, _⟩ := hci2
          walk_at "rs"
          refine ⟨_, hd3, by rw [List.length_map]; exact small1000 (by omega), same_upd s3 hD2, cs ++ [pd], by rw [upd_same]; simp, by rw [fnd_yes ed, List.length_append, List.length_append, hcs]; rfl, fun j hj => ?_⟩
          rw [fnd_yes ed]
          rw [List.length_append, List.length_singleton] at hj
          rcases Nat.lt_or_ge j cs.length with z | z
          · rw [getD_left z, getD_left (by omega)]
            exact (hch3 j z).upd hd3
          · have ej : j = cs.length := by omega
            have e1 : (cs ++ [pd]).getD j 0 = pd := by rw [ej, getD_last]
            have e2 : (fnd xs i ++ [(i : Int)]).getD j 0 = (i : Int) := by rw [ej, hcs, getD_last]
            rw [e1, e2, ed]
            exact hci.upd hd3
      · rintro H3 ⟨s3, cs, hd3, hcs, hch3⟩
        rw [hv] at hcs hch3
        walk_at "rs"
        exact k D2 cs H3 (s2.trans s3) hd3 hcs hch3

theorem ok_Committee_weight_of (T : Txt K mg a) : ∃ fd, FnOk P w K mg base CX0 1 a.d_Committee_weight_of fd ["self", "members"] (spWof K a.C_Committee) ∧ Binds K fd ["self", "members"] [] := by
  obtain ⟨fd, F, b⟩ := T.d_Committee_weight_of.F
  refine ⟨fd, F.ok sc_Committee_weight_of (fun vs H Q E h => ?_) (fun cdv A outer s H vs Q E hr h => ?_), b⟩
  · obtain ⟨_, _, _, _, rfl, _⟩ := h
    rfl
  · obtain ⟨p, l, ws, ms, rfl, ⟨dx, t, hp, ht⟩, hlen, hl, hms, k⟩ := h
    refine ⟨_, (pss_cons (ps_set (i := 2) sc_Committee_weight_of.nd rfl (Or.inr rfl) (pe_callTy (cr_set rfl) (by rfl) T.n_set (by decide +kernel) (pa_cons (pv 1) pa_nil)))
      (pss_one (ps_ret (pe_callB (cr_sum rfl) (by rfl) T.n_sum (by decide +kernel) (pa_cons (pe_lc (own := [("member", 3), ("weight", 4)]) (g := (gTup K 2 (gCons (gName 3) (gCons (gName 4) gNil)))) rfl sc_Committee_weight_of.nd (pi_enumT (by rfl) T.n_enumerate (pa_cons (pe_fld (pv 0) rfl) pa_nil)) (blkOk_by (own := [("member", 3), ("weight", 4)]) (N := sc_Committee_weight_of_N) (sc := defScope s_Committee_weight_of) (by decide +kernel)) (fun _ _ _ _ _ => (pg_tup rfl (pgs_cons (pg_name (i := 3) sc_Committee_weight_of.nd rfl (Or.inl rfl)) (pgs_cons (pg_name (i := 4) sc_Committee_weight_of.nd rfl (Or.inl rfl)) pgs_nil)))) (fun _ _ _ _ _ => (pts_one (pt_cmpR op_in_set (pv 3) (pv 2) (by rfl)))) (fun _ _ _ _ _ => (pv 4))) pa_nil))))), ?_⟩
    walk_at "rs"
    refine ⟨l, ms, rfl, hl, hms, fun S n hS => ?_⟩
    have nS : ∀ q o, H q = some o → (upd H S (.set (fun k => decide (k ∈ ms)) n)) q = some o := same_new hS
    walk_at "rs"
    refine ⟨p, _, dx, _, .ref t, rfl, nS _ _ hp, T.cl_Committee, T.a_Committee_weights, cfs_w _ _, ?_⟩
    walk_at "rs"
    refine ⟨t, _, rfl, SqT.of (nS _ _ ht), fun D hD => ?_⟩
    generalize eH : upd H S (.set (fun k => decide (k ∈ ms)) n) = H1 at nS hD
    have hS1 : H1 S = some (.set (fun k => decide (k ∈ ms)) n) := by rw [← eH, upd_same]
    refine lc_enumT (K := K) (a := t) (ys := ws.map V.int) (fun i H2 => Same H1 H2 ∧ H2 D = some (.lst ((pick ws (fun k => decide (k ∈ ms)) i).map V.int))) ⟨same_new hD, upd_same⟩ (fun i H2 _ ⟨s2, _⟩ => SqT.of (s2 _ _ (nS _ _ ht))) ?_ ?_
    · rintro i y H2 q hy ⟨s2, hd⟩ hq
      have hi : i < ws.length := by
        have e := (List.getElem?_eq_some_iff.mp hy).1
        rwa [List.length_map] at e
      rw [at_ints hi] at hy
      cases hy
      have fit : ((pick ws (fun k => decide (k ∈ ms)) i).map V.int).length < sizeLine := by
        have := pick_len ws (fun k => decide (k ∈ ms)) i
        rw [List.length_map]
        exact small1000 (by omega)
      have s3 : Same H2 (upd H2 q (.tup [V.int (i : Nat), V.int (ws.getD i 0)])) := same_new hq
      refine ⟨q, _, rfl, SqT.of upd_same, rfl, ?_⟩
      refine ⟨_, _, rfl, _, _, rfl, rfl, rfl, ?_⟩
      walk_at "rs"
      refine ⟨_, S, _, n, rfl, rfl, s3 _ _ (s2 _ _ hS1), ?_⟩
      rw [if_neg Bool.false_ne_true]
      walk_at "rs"
      refine ite2 (fun c1 => ?_) (fun c1 => ?_)
      · walk_at "rs"
        refine ⟨_, s3 _ _ hd, fit, same_upd (fun b o z => s3 _ _ (s2 _ _ z)) hD, ?_⟩
        rw [upd_same, pick, if_pos c1]
        simp
      · refine ⟨fun b o z => s3 _ _ (s2 _ _ z), ?_⟩
        rw [s3 _ _ hd, pick, if_neg c1]
    · rintro H2 ⟨s2, hd⟩
      rw [List.length_map] at hd
      walk_at "rs"
      exact ⟨D, _, rfl, SqL.of hd, k H2 fun b o z => s2 _ _ (nS _ _ z)⟩
theorem ok_Committee_is_quorum (T : Txt K mg a) : ∃ fd, FnOk P w K mg base CX0 2 a.d_Committee_is_quorum fd ["self", "members"] (spQuorum K a.C_Committee) ∧ Binds K fd ["self", "members"] [] := by
  obtain ⟨fd, F, b⟩ := T.d_Committee_is_quorum.F
  obtain ⟨fd_Committee_weight_of, G_Committee_weight_of, b_Committee_weight_of⟩ := ok_Committee_weight_of (P := P) (w := w) (base := base) T
  refine ⟨fd, F.ok sc_Committee_is_quorum (fun vs H Q E h => ?_) (fun cdv A outer s H vs Q E hr h => ?_), b⟩
  · obtain ⟨_, _, _, _, rfl, _⟩ := h
    rfl
  · obtain ⟨p, l, ws, ms, rfl, hc, hlen, hl, hms, k⟩ := h
    obtain ⟨dx, t, hp, ht⟩ := id hc
    refine ⟨_, (pss_one (ps_ret (pe_cmpR op_gt (pe_op op_mul pe_int (pe_meth (pv 0) T.cl_Committee T.me_Committee_weight_of G_Committee_weight_of (hr.mono (by decide)) b_Committee_weight_of .nil pass0 (pa_cons (pv 1) pa_nil))) (pe_op op_mul pe_int (pe_fld (pv 0) rfl)) (nomark _)))), ?_⟩
    walk_at "rs"
    refine ⟨p, dx, _, rfl, hp, cfs_no _ _ (by decide +kernel) (by decide +kernel) (by decide +kernel), ?_⟩
    walk_at "rs"
    refine ⟨p, l, ws, ms, rfl, hc, hlen, hl, hms, fun H1 s1 => ?_⟩
    walk_at "rs"
    refine ⟨p, _, dx, _, _, rfl, s1 _ _ hp, T.cl_Committee, T.a_Committee_total, cfs_t _ _, ?_⟩
    walk_at "rs"
    exact k H1 s1

theorem vb_nil {H : Hp} {D : Addr} {xs : List Lt} {kd : Kd} {h : Int} {b : Option Str} (hD : H D = some (.dK [])) (z : ∀ x ∈ xs, selV kd h b x = false) : VbAt H D xs kd h b [] :=
  ⟨hD, List.nodup_nil, List.nodup_nil, fun e he => (nomatch he), fun t => ⟨fun q => (nomatch q), fun ⟨x, hx, q⟩ => by rw [inT_no (z x hx)] at q; cases q⟩, Nat.zero_le _⟩
theorem ok_votes_by_turn (T : Txt K mg a) : ∃ fd, FnOk P w K mg base CX0 1 a.d_votes_by_turn fd ["letters", "kind", "height", "block"] (spVbt K) ∧ Binds K fd ["letters", "kind", "height", "block"] [] := by
  obtain ⟨fd, F, b⟩ := T.d_votes_by_turn.F
  refine ⟨fd, F.ok sc_votes_by_turn (fun vs H Q E h => ?_) (fun cdv A outer s H vs Q E hr h => ?_), b⟩
  · obtain ⟨_, _, _, _, _, _, rfl, _⟩ := h
    rfl
  · obtain ⟨l, ps, xs, kd, h, b, rfl, hl, hx, few, k⟩ := h
    refine ⟨_, (pss_cons (ps_set (i := 4) sc_votes_by_turn.nd rfl (Or.inl rfl) pe_dnewK)
      (pss_cons (ps_if (pt_cmpR op_isN (pv 3) pe_non (nomark _))
      (pss_one (ps_ret (pv 4)))
      pss_nil)
      (pss_cons (ps_for PassesOwn.never rfl (pi_list (pv 0)) (pg_name (i := 5) sc_votes_by_turn.nd rfl (Or.inl rfl))
      (pss_cons (ps_set (i := 6) sc_votes_by_turn.nd rfl (Or.inl rfl) (pe_ix ix_tup (pv 5) pe_int (fun _ _ => rfl)))
        (pss_one (ps_if (PW.pt (pw_and (pt_cmpR op_eq (pe_ix ix_tup (pv 6) (pe_glob (v := (.int 0)) rfl T.c_KIND.choose_spec ⟨_, rfl⟩) (fun _ _ => rfl)) (pv 1) (nomark _)) (pw_and (pt_cmpR op_eq (pe_ix ix_tup (pv 6) (pe_glob (v := (.int 1)) rfl T.c_HEIGHT.choose_spec ⟨_, rfl⟩) (fun _ _ => rfl)) (pv 2) (nomark _)) (pw_and1 (pt_cmpR op_eq (pe_ix ix_tup (pv 6) (pe_glob (v := (.int 3)) rfl T.c_BLOCK.choose_spec ⟨_, rfl⟩) (fun _ _ => rfl)) (pv 3) (nomark _))))))
        (pss_one (ps_expr (pe_bm PySem.F.plainAttrs_list PySem.F.slot_list_append PySem.F.type_list_append mt_append (pe_dsetd (pv 4) (pe_ix ix_tup (pv 6) (pe_glob (v := (.int 2)) rfl T.c_TURN.choose_spec ⟨_, rfl⟩) (fun _ _ => rfl)) (pe_lst pa_nil) ⟨rfl, rfl, rfl, rfl⟩) (pa_cons (pv 5) pa_nil))))
        pss_nil))))
      (pss_one (ps_ret (pv 4)))))), ?_⟩
    walk_at "rs"
    intro D hD
    have s0 : Same H (upd H D (.dK [])) := same_new hD
    walk_at "rs"
    refine ite2 (fun c1 => ?_) (fun c1 => ?_) <;> simp only [koSn, decide_eq_true_iff] at c1
    · walk_at "rs"
      refine k D [] _ s0 (vb_nil upd_same fun x _ => ?_)
      unfold selV
      rw [c1]
      simp
    walk_at "rs"
    refine ⟨⟨_, SqL.of (s0 _ _ hl)⟩, for_list (K := K) (a := l) (xs := ps.map V.ref) (fun i σ H2 => ∃ v5 v6 : Option V, σ = [some (.ref l), some (.str kd.s), some (.int h), some (oS b), some (.ref D), v5, v6] ∧ Same H H2 ∧ ∃ ks, VbAt H2 D (xs.take i) kd h b ks ∧ ∀ e ∈ ks, H e.2 = none)
      ⟨_, _, rfl, s0, [], vb_nil upd_same fun x hx => (nomatch hx), fun e he => (nomatch he)⟩ (fun i σ H2 _ ⟨_, _, _, s2, _⟩ => SqL.of (s2 _ _ hl)) ?_ ?_⟩
    · rintro i y σ H2 hy ⟨v5, v6, rfl, s2, ks, hv, hfr⟩
      have hi : i < ps.length := by
        have e := (List.getElem?_eq_some_iff.mp hy).1
        rwa [List.length_map] at e
      have hi' : i < xs.length := by
        rw [← hx.1]
        exact hi
      rw [at_refs hi] at hy
      cases hy
      have hlt := (hx.2 i hi').same s2
      obtain ⟨q, hp, hq⟩ := id hlt
      have et := take_succ_getD (d := default) hi'
      generalize xs.getD i default = x at hlt hq hp et
      walk_at "rs"
      refine ⟨_, _, _, _, rfl, rfl, SqT.of hp, rfl, ?_⟩
      walk_at "rs"
      refine ite2 (fun c2 => ?_) (fun c2 => ?_) <;> simp only [dec_kd, decide_eq_true_iff] at c2
      · walk_at "rs"
        refine ite2 (fun c3 => ?_) (fun c3 => ?_) <;> simp only [dec_int, beq_iff_eq] at c3
        · walk_at "rs"
          refine ite2 (fun c4 => ?_) (fun c4 => ?_) <;> simp only [dec_oS, decide_eq_true_iff] at c4
          · have cs : selV kd h b x = true := decide_eq_true ⟨c1, c2, c3, c4⟩
            walk_at "rs"
            refine ⟨.inl ⟨_, .inl hv.here⟩, ?_⟩
            walk_at "rs"
            refine ⟨(by show 0 ≤ sizeLine; decide), fun z hz => ?_⟩
            have sz : Same H2 (upd H2 z (.lst [])) := same_new hz
            have hv3 := hv.same sz
            have few3 := hv.few
            rw [List.length_take] at few3
            have hHz : H z = none := s2.free hz
            refine ⟨_, Sum.inl x.m.t, hv3.here, rfl, by unfold vbK; rw [List.length_map]; exact small1000 (by omega), fun v hval => ?_, fun hval => ?_⟩
            · have hin : x.m.t ∈ ks.map (·.1) := by
                refine Decidable.byContradiction fun no => ?_
                rw [val_vbn no] at hval
                cases hval
              obtain ⟨l2, hm, e2⟩ := val_vb hin
              rw [e2] at hval
              cases hval
              obtain ⟨qs, hl2, hls⟩ := hv3.ls _ hm
              have lq : qs.length ≤ 900 := by
                have := List.length_filter_le (inT kd h b x.m.t) (xs.take i)
                rw [List.length_take] at this
                have e3 : qs.length = ((xs.take i).filter (inT kd h b x.m.t)).length := hls.1
                omega
              walk_at "rs"
              refine ⟨.inl ⟨rfl, _, SqL.of hl2⟩, ?_⟩
              walk_at "rs"
              refine ⟨l2, _, _, rfl, rfl, hl2, by rw [List.length_map]; exact small1000 (by omega), ?_⟩
              refine ⟨_, _, rfl, same_upd (s2.trans sz) (hfr _ hm), ks, ?_, hfr⟩
              rw [et]
              exact hv3.more cs hm hl2 (hlt.same sz)
            · have hno : x.m.t ∉ ks.map (·.1) := fun hin => by
                obtain ⟨l2, hm, e2⟩ := val_vb hin
                rw [e2] at hval
                cases hval
              have nl : z ∉ ks.map (·.2) := fun hin => by
                obtain ⟨e, he, ez⟩ := List.mem_map.mp hin
                obtain ⟨qs, hl2, _⟩ := hv.ls e he
                rw [ez, hz] at hl2
                cases hl2
              have ekvs : putK (vbK ks) (Sum.inl x.m.t) (V.ref z) = vbK (ks ++ [(x.m.t, z)]) := by
                rw [putK_new hval]
                unfold vbK
                simp
              rw [ekvs]
              have hz3 : (upd H2 z (.lst [])) z = some (.lst []) := upd_same
              have nDz := ne_dk hv3.here hz3
              walk_at "rs"
              refine ⟨.inl ⟨rfl, _, SqL.of (by rw [upd_ne nDz.symm]; exact hz3)⟩, ?_⟩
              walk_at "rs"
              refine ⟨z, _, _, rfl, rfl, (by rw [upd_ne nDz.symm]; exact hz3), by show 0 < sizeLine; decide, ?_⟩
              refine ⟨_, _, rfl, same_upd (same_upd (s2.trans sz) hD) hHz, ks ++ [(x.m.t, z)], ?_, fun e he => ?_⟩
              · rw [et]
                exact hv3.first cs hno hz3 nl (hlt.same sz)
              · rcases List.mem_append.mp he with he | he
                · exact hfr e he
                · rw [List.mem_singleton.mp he]
                  exact hHz
          · exact ⟨_, _, rfl, s2, ks, by rw [et]; exact hv.skip (decide_eq_false fun z => c4 z.2.2.2), hfr⟩
        · exact ⟨_, _, rfl, s2, ks, by rw [et]; exact hv.skip (decide_eq_false fun z => c3 z.2.2.1), hfr⟩
      · exact ⟨_, _, rfl, s2, ks, by rw [et]; exact hv.skip (decide_eq_false fun z => c2 z.2.1), hfr⟩
    · rintro σ H2 ⟨v5, v6, rfl, s2, ks, hv, hfr⟩
      rw [List.length_map, hx.1, List.take_length] at hv
      walk_at "rs"
      exact k D ks _ s2 hv
theorem ok_counts (T : Txt K mg a) : ∃ fd, FnOk P w K mg base CX0 1 a.d_counts fd ["prevote", "turns"] (spCounts K) ∧ Binds K fd ["prevote", "turns"] [] := by
  obtain ⟨fd, F, b⟩ := T.d_counts.F
  refine ⟨fd, F.ok sc_counts (fun vs H Q E h => ?_) (fun cdv A outer s H vs Q E hr h => ?_), b⟩
  · obtain ⟨_, _, _, _, rfl, _⟩ := h
    rfl
  · obtain ⟨p, D, m, L, rfl, hp, hk, hD, k⟩ := h
    have k0 := k H (Same.refl H)
    unfold cntL at k0
    refine ⟨_, (pss_cons (ps_set (i := 2) sc_counts.nd rfl (Or.inl rfl) (pe_ix ix_tup (pv 0) (pe_glob (v := (.int 4)) rfl T.c_LEAN.choose_spec ⟨_, rfl⟩) (fun _ _ => rfl)))
      (pss_one (ps_ret (pe_or (pe_cmpR op_isN (pv 2) pe_non (nomark _)) (pe_one (pe_and (pe_cmpR op_lt (pv 2) (pe_ix ix_tup (pv 0) (pe_glob (v := (.int 2)) rfl T.c_TURN.choose_spec ⟨_, rfl⟩) (fun _ _ => rfl)) (nomark _)) (pe_one (pe_cmp (pc_din (hu_of hr) (pv 2) (pv 1)) rfl)))))))), ?_⟩
    walk_at "rs"
    refine ite2 (fun c1 => ?_) (fun c1 => ?_) <;> simp only [koIn, decide_eq_true_iff] at c1
    · rw [c1] at k0
      exact k0
    obtain ⟨i, hl⟩ : ∃ i, m.l = some i := by
      cases hl : m.l with
      | none => exact absurd hl c1
      | some i => exact ⟨i, rfl⟩
    rw [hl] at k0 ⊢
    have k0 : Q (.bl (decide (i < m.t) && decide (i ∈ L))) H := k0
    refine ⟨_, rfl, ?_⟩
    walk_at "rs"
    refine ite2 (fun c2 => ?_) (fun c2 => ?_) <;> simp only [decide_eq_true_iff] at c2
    · rw [decide_eq_true c2, Bool.true_and] at k0
      walk_at "rs"
      refine ⟨D, _, rfl, DGet.k (k := Sum.inl i) hD, ?_⟩
      rw [val_tru]
      exact k0
    · rw [decide_eq_false c2, Bool.false_and] at k0
      exact k0
theorem ok_certified_turns (T : Txt K mg a) : ∃ fd, FnOk P w K mg base CX0 3 a.d_certified_turns fd ["committee", "letters", "height", "block"] (spCts K a.C_Committee) ∧ Binds K fd ["committee", "letters", "height", "block"] [] := by
  obtain ⟨fd, F, b⟩ := T.d_certified_turns.F
  obtain ⟨fd_votes_by_turn, G_votes_by_turn, b_votes_by_turn⟩ := ok_votes_by_turn (P := P) (w := w) (base := base) T
  obtain ⟨fd_Committee_is_quorum, G_Committee_is_quorum, b_Committee_is_quorum⟩ := ok_Committee_is_quorum (P := P) (w := w) (base := base) T
  obtain ⟨fd_counts, G_counts, b_counts⟩ := ok_counts (P := P) (w := w) (base := base) T
  refine ⟨fd, F.ok sc_certified_turns (fun vs H Q E h => ?_) (fun cdv A outer s H vs Q E hr h => ?_), b⟩
  · obtain ⟨_, _, _, _, _, _, _, rfl, _⟩ := h
    rfl
  · obtain ⟨c, l, ws, ps, xs, h, b, rfl, hc, gw, hl, hx, few, tb, k⟩ := h
    obtain ⟨dx, t, hcp, hct⟩ := id hc
    refine ⟨_, (pss_cons (ps_set (i := 4) sc_certified_turns.nd rfl (Or.inl rfl) (pe_call G_votes_by_turn (hr.mono (by decide)) rfl T.d_votes_by_turn.g T.d_votes_by_turn.kp b_votes_by_turn .nil pass0 (pa_cons (pv 1) (pa_cons pe_str (pa_cons (pv 2) (pa_cons (pv 3) pa_nil))))))
      (pss_cons (ps_set (i := 5) sc_certified_turns.nd rfl (Or.inr rfl) pe_dnewK)
      (pss_cons (ps_for PassesOwn.never rfl (pi_list (pe_callB (call_sortedDI rfl) (by rfl) T.n_sorted (by decide +kernel) (pa_cons (pv 4) pa_nil))) (pg_name (i := 6) sc_certified_turns.nd rfl (Or.inl rfl))
      (pss_cons (ps_setLc (i := 7) (own := [("letter", 8)]) (g := (gName 8)) rfl sc_certified_turns.nd rfl rfl (sw_true rfl rfl rfl (by decide +kernel)) (pi_list (pe_dget (hu_of hr) (pv 4) (pv 6) (fun _ _ => rfl))) (blkOk_by (own := [("letter", 8)]) (N := sc_certified_turns_N) (sc := defScope s_certified_turns) (by decide +kernel)) (fun _ _ _ _ _ => (pg_name (i := 8) sc_certified_turns.nd rfl (Or.inl rfl))) (fun _ _ _ _ _ => (pts_one (pt_val (pe_call G_counts (hr.mono (by decide)) rfl T.d_counts.g T.d_counts.kp b_counts .nil pass0 (pa_cons (pe_ix (r := rIxT K) ix_tup (pv 8) pe_int (fun _ _ => rfl)) (pa_cons (pv 5) pa_nil)))))) (fun _ _ _ _ _ => (pe_ix (r := rIxT K) ix_tup (pv 8) pe_int (fun _ _ => rfl))))
        (pss_one (ps_if (pt_val (pe_meth (pv 0) T.cl_Committee T.me_Committee_is_quorum G_Committee_is_quorum (hr.mono (by decide)) b_Committee_is_quorum .nil pass0 (pa_cons (pv 7) pa_nil)))
        (pss_one (ps_dput (hu_of hr) (pv 5) (pv 6) pe_bl rfl))
        pss_nil))))
      (pss_one (ps_ret (pe_callTy (call_listD rfl) (by rfl) T.n_list (by decide +kernel) (pa_cons (pv 5) pa_nil))))))), ?_⟩
    walk_at "rs"
    refine ⟨l, ps, xs, .pre, h, b, rfl, hl, hx, few, fun D ks H1 s1 hv => ?_⟩
    walk_at "rs"
    intro F1 hF1
    have s2 : Same H1 (upd H1 F1 (.dK [])) := same_new hF1
    have hF2 : (upd H1 F1 (.dK [])) F1 = some (.dK (tru [])) := upd_same
    have hv2 := hv.same s2
    have hFH : H F1 = none := s1.free hF1
    generalize upd H1 F1 (.dK []) = H2 at s2 hF2 hv2 ⊢
    walk_at "rs"
    have kb : ∀ t ∈ ks.map (·.1), 0 ≤ t ∧ t < 60 := fun t ht => by
      obtain ⟨x, hx, z⟩ := (hv.ky t).mp ht
      rw [inT_t z]
      exact tb x hx
    have k60 := nodup_few 60 hv.nd kb
    rw [List.length_map] at k60
    refine ⟨D, _, ks.map (·.1), rfl, .inl hv2.here, by unfold vbK; simp [Function.comp_def], by rw [List.length_map]; omega, fun ts R hp hpw hR => ?_⟩
    have nd := (hp.nodup_iff).mpr hv.nd
    have ky : ∀ t : Int, t ∈ ts ↔ ∃ x ∈ xs, inT .pre h b t x = true := fun t => by rw [hp.mem_iff]; exact hv.ky t
    have tb2 : ∀ t ∈ ts, 0 ≤ t ∧ t < 60 := fun t ht => kb t (hp.mem_iff.mp ht)
    have s3 : Same H2 (upd H2 R (.lst (ts.map V.int))) := same_new hR
    have hF3 := s3 _ _ hF2
    have hR3 : (upd H2 R (.lst (ts.map V.int))) R = some (.lst (ts.map V.int)) := upd_same
    generalize upd H2 R (.lst (ts.map V.int)) = H3 at s3 hF3 hR3 ⊢
    have nF : H1 F1 = none := hF1
    refine ⟨R, rfl, ⟨_, SqL.of hR3⟩, for_list (K := K) (a := R) (xs := ts.map V.int) (fun i σ H4 => ∃ v6 v7 : Option V, σ = [some (.ref c), some (.ref l), some (.int h), some (oS b), some (.ref D), some (.ref F1), v6, v7, none] ∧ Same H1 H4 ∧ H4 R = some (.lst (ts.map V.int)) ∧ H4 F1 = some (.dK (tru (lns ws xs h b (nxt ts i)))))
      ⟨_, _, rfl, s2.trans s3, hR3, hF3⟩ (fun i σ H4 _ ⟨_, _, _, _, hr4, _⟩ => SqL.of hr4) ?_ ?_⟩
    · rintro i y σ H4 hy ⟨v6, v7, rfl, s4, hr4, hf4⟩
      have hi : i < ts.length := by
        have e := (List.getElem?_eq_some_iff.mp hy).1
        rwa [List.length_map] at e
      rw [at_ints hi] at hy
      cases hy
      have ht := getD_mem hi
      have hb := tb2 _ ht
      obtain ⟨x0, hx0, i0⟩ := (ky _).mp ht
      have nb := (inT_some i0).1
      obtain ⟨n, en⟩ := Int.eq_ofNat_of_zero_le hb.1
      have lo : ∀ k, k < i → 0 ≤ ts.getD k 0 := fun k hk => (tb2 _ (getD_mem (by omega))).1
      have eL : lns ws xs h b n = lns ws xs h b (nxt ts i) := by
        refine gap_gen gw nb ky hpw nd (Nat.le_of_lt hi) ?_ fun j h1 h2 => ?_
        · cases i with
          | zero => exact Nat.zero_le _
          | succ k =>
            have h3 := srt_lt hpw nd (show k < k + 1 by omega) hi
            have h4 := lo k (show k < k + 1 by omega)
            have h5 : nxt ts (k + 1) = (ts.getD k 0 + 1).toNat := rfl
            omega
        · rcases Nat.lt_or_ge i j with z | z
          · have := srt_lt hpw nd z h2
            omega
          · have : j = i := by omega
            rw [this]
            omega
      have eN : nxt ts (i + 1) = n + 1 := by
        have h5 : nxt ts (i + 1) = (ts.getD i 0 + 1).toNat := rfl
        omega
      rw [← eL] at hf4
      rw [eN]
      rw [en] at i0 ⊢
      clear eL eN hb en
      have hin : (n : Int) ∈ ks.map (·.1) := (hv.ky _).mpr ⟨x0, hx0, i0⟩
      obtain ⟨lt, hm, e2⟩ := val_vb hin
      have hv4 := hv.same s4
      obtain ⟨qs, hl4, hls⟩ := hv4.ls _ hm
      have hls : LsAt H4 qs (xs.filter (inT .pre h b (n : Int))) := hls
      have lq : qs.length ≤ 900 := by
        have h1 := List.length_filter_le (inT .pre h b (n : Int)) xs
        have h2 := hls.1
        omega
      have eM : memM xs h n b (lns ws xs h b n) = ((xs.filter (inT .pre h b n)).filter fun x => cntL x.m (lns ws xs h b n)).map Lt.w := mem_inT nb
      have eC : certM ws xs h b n = qrm ws (memM xs h n b (lns ws xs h b n)) := rfl
      have lL := lns_len ws xs h b n
      have n60 : n < 60 := by
        have := tb2 _ ht
        have e := tb x0 hx0
        have e3 := inT_t i0
        omega
      have nL : (n : Int) ∉ lns ws xs h b n := fun z => by
        have := ((mem_lnsI (n : Int) n).mp z).2.1
        omega
      have yes := fun q => lns_yes (ws := ws) (xs := xs) (h := h) (b := b) (n := n) q
      have no := fun q => lns_no (ws := ws) (xs := xs) (h := h) (b := b) (n := n) q
      rw [eC, eM] at yes no
      clear eC eM
      generalize lns ws xs h b n = L at hf4 lL nL yes no
      have ysk : ∀ j, j < (xs.filter (inT .pre h b (n : Int))).length → ((xs.filter (inT .pre h b (n : Int))).getD j default).m.k = .pre := fun j hj => (inT_some (filt_mem hj).2).2
      generalize xs.filter (inT .pre h b (n : Int)) = ys at hls yes no ysk
      walk_at "rs"
      refine ⟨D, .ref lt, rfl, by rw [← e2]; exact DGet.k (k := Sum.inl (n : Int)) hv4.here, ?_⟩
      walk_at "rs"
      refine ⟨⟨_, SqL.of hl4⟩, fun D3 hD3 => ?_⟩
      refine lc_list (K := K) (a := lt) (xs := qs.map V.ref) (fun j H5 => Same H4 H5 ∧ H5 D3 = some (.lst ((((ys.take j).filter fun x => cntL x.m L).map Lt.w).map V.int))) ⟨same_new hD3, by rw [upd_same]; simp⟩ (fun j H5 _ ⟨s5, _⟩ => SqL.of (s5 _ _ hl4)) ?_ ?_
      · rintro j y H5 hy ⟨s5, hd5⟩
        have hj : j < qs.length := by
          have e := (List.getElem?_eq_some_iff.mp hy).1
          rwa [List.length_map] at e
        have hj' : j < ys.length := by
          rw [← hls.1]
          exact hj
        rw [at_refs hj] at hy
        cases hy
        have hlt := (hls.2 j hj').same s5
        obtain ⟨q, hp5, hq5⟩ := id hlt
        have hk5 := ysk j hj'
        have et := take_succ_getD (d := default) hj'
        generalize ys.getD j default = x at hlt hp5 hq5 hk5 et
        refine ⟨rfl, ?_⟩
        walk_at "rs"
        refine ⟨_, _, _, _, rfl, rfl, SqT.of hp5, rfl, ?_⟩
        walk_at "rs"
        refine ⟨q, F1, x.m, L, rfl, hq5, hk5, s5 _ _ hf4, fun H6 s6 => ?_⟩
        walk_at "rs"
        refine ite2 (fun c1 => ?_) (fun c1 => ?_)
        · walk_at "rs"
          refine ⟨_, _, _, _, rfl, rfl, SqT.of (s6 _ _ hp5), rfl, ?_⟩
          have l5 := List.length_filter_le (fun x => cntL x.m L) (ys.take j)
          rw [List.length_take] at l5
          have l6 := hls.1
          refine ⟨_, s6 _ _ hd5, by rw [List.length_map, List.length_map]; exact small1000 (by omega), same_upd (s5.trans s6) hD3, ?_⟩
          rw [upd_same, et, List.filter_append, List.filter_cons_of_pos (by exact c1)]
          simp
        · refine ⟨s5.trans s6, ?_⟩
          rw [s6 _ _ hd5, et, List.filter_append, List.filter_cons_of_neg (by exact c1)]
          simp
      · rintro H5 ⟨s5, hd5⟩
        rw [List.length_map, hls.1, List.take_length] at hd5
        have l5 := List.length_filter_le (fun x => cntL x.m L) ys
        have l6 := hls.1
        have s15 := s4.trans s5
        have sH5 := s1.trans s15
        walk_at "rs"
        refine ⟨c, dx, _, rfl, sH5 _ _ hcp, cfs_no _ _ (by decide +kernel) (by decide +kernel) (by decide +kernel), ?_⟩
        walk_at "rs"
        refine ⟨c, D3, ws, _, rfl, hc.same sH5, gw.2.1, SqL.of hd5, by rw [List.length_map]; omega, fun H6 s6 => ?_⟩
        walk_at "rs"
        have hf6 := s6 _ _ (s5 _ _ hf4)
        have s16 := s15.trans s6
        have hr6 := s6 _ _ (s5 _ _ hr4)
        refine ite2 (fun c1 => ?_) (fun c1 => ?_)
        · walk_at "rs"
          refine ⟨F1, _, rfl, DPut.k (k := Sum.inl (n : Int)) hf6 (by unfold tru; rw [List.length_map]; exact small1000 (by omega)), ?_⟩
          refine ⟨_, _, rfl, same_upd s16 nF, ?_, ?_⟩
          · rw [upd_ne (fun z => by rw [← z, hr6] at hf6; cases hf6)]
            exact hr6
          · have ev : valV (tru L) (Sum.inl (n : Int)) = none := by
              have := val_tru (t := (n : Int)) (L := L)
              rw [decide_eq_false nL] at this
              cases q : valV (tru L) (Sum.inl (n : Int)) with
              | none => rfl
              | some v => rw [q] at this; cases this
            rw [upd_same, putK_new ev, yes c1, tru_snoc]
        · refine ⟨_, _, rfl, s16, hr6, ?_⟩
          rw [no c1]
          exact hf6
    · rintro σ H4 ⟨v6, v7, rfl, s4, hr4, hf4⟩
      rw [List.length_map] at hf4
      have eE : lns ws xs h b (nxt ts ts.length) = ctL ws xs h b := by
        cases b with
        | none =>
          have : ts = [] := by
            cases ts with
            | nil => rfl
            | cons t ts =>
              obtain ⟨x, _, z⟩ := (ky t).mp List.mem_cons_self
              exact absurd rfl (inT_some z).1
          rw [this]
          rfl
        | some bb =>
          symm
          refine gap_gen (b := some bb) (h := h) gw (by simp) ky hpw nd (Nat.le_refl _) ?_ fun j h1 h2 => absurd h2 (by omega)
          cases q : ts.length with
          | zero => exact Nat.zero_le _
          | succ k =>
            have h5 : nxt ts (k + 1) = (ts.getD k 0 + 1).toNat := rfl
            have h6 := tb2 _ (getD_mem (show k < ts.length by omega))
            omega
      rw [eE] at hf4
      walk_at "rs"
      refine ⟨F1, _, rfl, .inl hf4, fun R2 hR2 => ?_⟩
      have s5 := same_new (o := .lst ((ctL ws xs h b).map V.int)) hR2
      have e : (tru (ctL ws xs h b)).map (fun kv => kV kv.1) = (ctL ws xs h b).map V.int := by
        unfold tru
        rw [List.map_map]
        rfl
      rw [e]
      exact k R2 _ (s1.trans (s4.trans s5)) (s1.free (s4.free hR2)) upd_same
theorem ok_committed_turns (T : Txt K mg a) : ∃ fd, FnOk P w K mg base CX0 4 a.d_committed_turns fd ["committee", "letters", "height", "block"] (spCms K a.C_Committee) ∧ Binds K fd ["committee", "letters", "height", "block"] [] := by
  obtain ⟨fd, F, b⟩ := T.d_committed_turns.F
  obtain ⟨fd_votes_by_turn, G_votes_by_turn, b_votes_by_turn⟩ := ok_votes_by_turn (P := P) (w := w) (base := base) T
  obtain ⟨fd_certified_turns, G_certified_turns, b_certified_turns⟩ := ok_certified_turns (P := P) (w := w) (base := base) T
  obtain ⟨fd_Committee_is_quorum, G_Committee_is_quorum, b_Committee_is_quorum⟩ := ok_Committee_is_quorum (P := P) (w := w) (base := base) T
  refine ⟨fd, F.ok sc_committed_turns (fun vs H Q E h => ?_) (fun cdv A outer s H vs Q E hr h => ?_), b⟩
  · obtain ⟨_, _, _, _, _, _, _, rfl, _⟩ := h
    rfl
  · obtain ⟨c, l, ws, ps, xs, h, b, rfl, hc, gw, hl, hx, few, tb, k⟩ := h
    obtain ⟨dx, t, hcp, hct⟩ := id hc
    refine ⟨_, (pss_cons (ps_set (i := 4) sc_committed_turns.nd rfl (Or.inl rfl) (pe_call G_votes_by_turn (hr.mono (by decide)) rfl T.d_votes_by_turn.g T.d_votes_by_turn.kp b_votes_by_turn .nil pass0 (pa_cons (pv 1) (pa_cons pe_str (pa_cons (pv 2) (pa_cons (pv 3) pa_nil))))))
      (pss_cons (ps_set (i := 5) sc_committed_turns.nd rfl (Or.inl rfl) (pe_lst pa_nil))
      (pss_cons (ps_for PassesOwn.never rfl (pi_list (pe_call G_certified_turns (hr.mono (by decide)) rfl T.d_certified_turns.g T.d_certified_turns.kp b_certified_turns .nil pass0 (pa_cons (pv 0) (pa_cons (pv 1) (pa_cons (pv 2) (pa_cons (pv 3) pa_nil)))))) (pg_name (i := 6) sc_committed_turns.nd rfl (Or.inl rfl))
      (pss_cons (ps_setLc (i := 7) (own := [("letter", 8)]) (g := (gName 8)) (tt := tYes) rfl sc_committed_turns.nd rfl rfl (sw_true rfl rfl rfl (by decide +kernel)) (pi_list (pe_dget2 (hu_of hr) (pv 4) (pv 6) (pe_lst pa_nil) ⟨rfl, rfl, rfl, rfl⟩)) (blkOk_by (own := [("letter", 8)]) (N := sc_committed_turns_N) (sc := defScope s_committed_turns) (by decide +kernel)) (fun _ _ _ _ _ => (pg_name (i := 8) sc_committed_turns.nd rfl (Or.inl rfl))) (fun _ _ _ _ _ => pts_nil) (fun _ _ _ _ _ => (pe_ix (r := rIxT K) ix_tup (pv 8) pe_int (fun _ _ => rfl))))
        (pss_one (ps_if (pt_val (pe_meth (pv 0) T.cl_Committee T.me_Committee_is_quorum G_Committee_is_quorum (hr.mono (by decide)) b_Committee_is_quorum .nil pass0 (pa_cons (pv 7) pa_nil)))
        (pss_one (ps_expr (pe_bm PySem.F.plainAttrs_list PySem.F.slot_list_append PySem.F.type_list_append mt_append (pv 5) (pa_cons (pv 6) pa_nil))))
        pss_nil))))
      (pss_one (ps_ret (pv 5)))))), ?_⟩
    walk_at "rs"
    refine ⟨l, ps, xs, .com, h, b, rfl, hl, hx, few, fun D ks H1 s1 hv => ?_⟩
    walk_at "rs"
    refine ⟨(by show 0 ≤ sizeLine; decide), fun F1 hF1 => ?_⟩
    have s2 : Same H1 (upd H1 F1 (.lst [])) := same_new hF1
    have hF2 : (upd H1 F1 (.lst [])) F1 = some (.lst (([] : List Int).map V.int)) := upd_same
    have nF : H F1 = none := s1.free hF1
    generalize upd H1 F1 (.lst []) = H2 at s2 hF2 ⊢
    walk_at "rs"
    have s02 := s1.trans s2
    refine ⟨c, l, ws, ps, xs, h, b, rfl, hc.same s02, gw, s02 _ _ hl, hx.same s02, few, tb, fun R H3 s3 hR hR3 => ?_⟩
    have s03 := s02.trans s3
    have hv3 := hv.same (s2.trans s3)
    have hF3 := s3 _ _ hF2
    have s13 := s2.trans s3
    have nRF : R ≠ F1 := fun e => by
      rw [e, hF2] at hR
      cases hR
    have lC : (ctL ws xs h b).length ≤ 60 := by
      unfold ctL
      cases b with
      | none => exact Nat.zero_le _
      | some bb => exact lns_len ws xs h (some bb) 60
    have nbC : ∀ t ∈ ctL ws xs h b, b ≠ none := fun t ht z => by
      rw [z] at ht
      cases ht
    unfold cmL at k
    generalize ctL ws xs h b = C at hR3 lC nbC k
    refine ⟨R, rfl, ⟨_, SqL.of hR3⟩, for_list (K := K) (a := R) (xs := C.map V.int) (fun i σ H4 => ∃ v6 v7 : Option V, σ = [some (.ref c), some (.ref l), some (.int h), some (oS b), some (.ref D), some (.ref F1), v6, v7, none] ∧ Same H1 H4 ∧ H4 R = some (.lst (C.map V.int)) ∧ H4 F1 = some (.lst (((C.take i).filter fun t => qrm ws (comS xs h t b)).map V.int)))
      ⟨_, _, rfl, s13, hR3, hF3⟩ (fun i σ H4 _ ⟨_, _, _, _, hr4, _⟩ => SqL.of hr4) ?_ ?_⟩
    · rintro i y σ H4 hy ⟨v6, v7, rfl, s4, hr4, hf4⟩
      have hi : i < C.length := by
        have e := (List.getElem?_eq_some_iff.mp hy).1
        rwa [List.length_map] at e
      rw [at_ints hi] at hy
      cases hy
      have nb := nbC _ (getD_mem hi)
      have et := take_succ_getD (d := (0 : Int)) hi
      generalize C.getD i 0 = t at et ⊢
      have hv4 := hv.same s4
      have s04 := s1.trans s4
      have eS : comS xs h t b = (xs.filter (inT .com h b t)).map Lt.w := com_inT nb
      have lF := List.length_filter_le (inT .com h b t) xs
      walk_at "rs"
      refine ⟨.inl ⟨_, .inl hv4.here⟩, ?_⟩
      walk_at "rs"
      refine ⟨(by show 0 ≤ sizeLine; decide), fun z hz => ?_⟩
      have sz : Same H4 (upd H4 z (.lst [])) := same_new hz
      have hzz : (upd H4 z (.lst [])) z = some (.lst (([] : List Addr).map V.ref)) := upd_same
      have hv5 := hv4.same sz
      have hr5 := sz _ _ hr4
      have hf5 := sz _ _ hf4
      have s05 := s04.trans sz
      have s15 := s4.trans sz
      generalize upd H4 z (.lst []) = H5 at sz hzz hv5 hr5 hf5 s05 s15 ⊢
      obtain ⟨lt, qs, o, hdg, eo, hlt, hls⟩ : ∃ (lt : Addr) (qs : List Addr) (o : Option V), DGet H5 D (.int t) o ∧ o.getD (.ref z) = .ref lt ∧ H5 lt = some (.lst (qs.map V.ref)) ∧ LsAt H5 qs (xs.filter (inT .com h b t)) := by
        by_cases hin : t ∈ ks.map (·.1)
        · obtain ⟨lt, hm, e2⟩ := val_vb hin
          obtain ⟨qs, h1, h2⟩ := hv5.ls _ hm
          exact ⟨lt, qs, _, DGet.k (k := Sum.inl t) hv5.here, by rw [e2]; rfl, h1, h2⟩
        · refine ⟨z, [], _, DGet.k (k := Sum.inl t) hv5.here, by rw [val_vbn hin]; rfl, hzz, ?_⟩
          have e0 : xs.filter (inT .com h b t) = [] := List.filter_eq_nil_iff.mpr fun x hx y => hin ((hv.ky t).mpr ⟨x, hx, y⟩)
          rw [e0]
          exact LsAt.nil
      refine ⟨o, hdg, ?_⟩
      rw [eo]
      walk_at "rs"
      generalize xs.filter (inT .com h b t) = ys at hls lF eS
      refine ⟨⟨_, SqL.of hlt⟩, fun D3 hD3 => ?_⟩
      refine lc_list (K := K) (a := lt) (xs := qs.map V.ref) (fun j H6 => Same H5 H6 ∧ H6 D3 = some (.lst (((ys.take j).map Lt.w).map V.int))) ⟨same_new hD3, by rw [upd_same]; simp⟩ (fun j H6 _ ⟨s6, _⟩ => SqL.of (s6 _ _ hlt)) ?_ ?_
      · rintro j y H6 hy ⟨s6, hd6⟩
        have hj : j < qs.length := by
          have e := (List.getElem?_eq_some_iff.mp hy).1
          rwa [List.length_map] at e
        have hj' : j < ys.length := by
          rw [← hls.1]
          exact hj
        rw [at_refs hj] at hy
        cases hy
        have hl6 := (hls.2 j hj').same s6
        obtain ⟨q, hp6, hq6⟩ := id hl6
        have ej := take_succ_getD (d := default) hj'
        refine ⟨rfl, ?_⟩
        walk_at "rs"
        refine ⟨_, _, _, _, rfl, rfl, SqT.of hp6, rfl, ?_⟩
        refine ⟨_, hd6, by rw [List.length_map, List.length_map, List.length_take]; exact small1000 (by omega), same_upd s6 hD3, ?_⟩
        rw [upd_same, ej]
        simp
      · rintro H6 ⟨s6, hd6⟩
        rw [List.length_map, hls.1, List.take_length] at hd6
        have s06 := s05.trans s6
        walk_at "rs"
        refine ⟨c, dx, _, rfl, s06 _ _ hcp, cfs_no _ _ (by decide +kernel) (by decide +kernel) (by decide +kernel), ?_⟩
        walk_at "rs"
        refine ⟨c, D3, ws, _, rfl, hc.same s06, gw.2.1, SqL.of hd6, by rw [List.length_map]; omega, fun H7 s7 => ?_⟩
        walk_at "rs"
        have hf7 := s7 _ _ (s6 _ _ hf5)
        have hr7 := s7 _ _ (s6 _ _ hr5)
        have s17 := (s15.trans s6).trans s7
        refine ite2 (fun c1 => ?_) (fun c1 => ?_)
        · walk_at "rs"
          refine ⟨.inl ⟨rfl, _, SqL.of hf7⟩, ?_⟩
          walk_at "rs"
          have l7 := List.length_filter_le (fun t => qrm ws (comS xs h t b)) (C.take i)
          rw [List.length_take] at l7
          refine ⟨F1, _, _, rfl, rfl, hf7, by rw [List.length_map]; exact small1000 (by omega), ?_⟩
          refine ⟨_, _, rfl, same_upd s17 hF1, ?_, ?_⟩
          · rw [upd_ne nRF]
            exact hr7
          · rw [upd_same, et, List.filter_append, List.filter_cons_of_pos (by rw [eS]; exact c1)]
            simp
        · refine ⟨_, _, rfl, s17, hr7, ?_⟩
          rw [hf7, et, List.filter_append, List.filter_cons_of_neg (by rw [eS]; exact c1)]
          simp
    · rintro σ H4 ⟨v6, v7, rfl, s4, hr4, hf4⟩
      rw [List.length_map, List.take_length] at hf4
      walk_at "rs"
      exact k F1 _ (s1.trans s4) nF hf4

theorem ok_shown_turn (T : Txt K mg a) : ∃ fd, FnOk P w K mg base CX0 5 a.d_shown_turn fd ["committee", "height", "block", "letters"] (spShown K a.C_Committee) ∧ Binds K fd ["committee", "height", "block", "letters"] [] := by
  obtain ⟨fd, F, b⟩ := T.d_shown_turn.F
  obtain ⟨fd_committed_turns, G_committed_turns, b_committed_turns⟩ := ok_committed_turns (P := P) (w := w) (base := base) T
  refine ⟨fd, F.ok sc_shown_turn (fun vs H Q E h => ?_) (fun cdv A outer s H vs Q E hr h => ?_), b⟩
  · obtain ⟨_, _, _, _, _, _, _, rfl, _⟩ := h
    rfl
  · obtain ⟨c, l, ws, ps, xs, h, b, rfl, hc, gw, hl, hx, few, tb, k⟩ := h
    refine ⟨_, (pss_one (ps_ret (pe_callBK (cr_mind rfl) (by rfl) T.n_min (by decide +kernel) (pa_cons (pe_call G_committed_turns (hr.mono (by decide)) rfl T.d_committed_turns.g T.d_committed_turns.kp b_committed_turns .nil pass0 (pa_cons (pv 0) (pa_cons (pv 3) (pa_cons (pv 1) (pa_cons (pv 2) pa_nil))))) pa_nil) (pk_cons pe_non pk_nil)))), ?_⟩
    walk_at "rs"
    refine ⟨c, l, ws, ps, xs, h, b, rfl, hc, gw, hl, hx, few, tb, fun R H1 s1 hR hR1 => ?_⟩
    walk_at "rs"
    refine ⟨R, _, rfl, rfl, SqL.of hR1, fun e => ?_, fun m hm lo => ?_⟩
    · exact k _ H1 s1 (fun _ => rfl) (fun z => absurd e z)
    · refine k _ H1 s1 (fun e => ?_) (fun _ => ⟨m, hm, lo, rfl⟩)
      rw [e] at hm
      cases hm
theorem ok_shows (T : Txt K mg a) : ∃ fd, FnOk P w K mg base CX0 6 a.d_shows fd ["committee", "height", "block", "letters"] (spShows K a.C_Committee) ∧ Binds K fd ["committee", "height", "block", "letters"] [] := by
  obtain ⟨fd, F, b⟩ := T.d_shows.F
  obtain ⟨fd_shown_turn, G_shown_turn, b_shown_turn⟩ := ok_shown_turn (P := P) (w := w) (base := base) T
  refine ⟨fd, F.ok sc_shows (fun vs H Q E h => ?_) (fun cdv A outer s H vs Q E hr h => ?_), b⟩
  · obtain ⟨_, _, _, _, _, _, _, rfl, _⟩ := h
    rfl
  · obtain ⟨c, l, ws, ps, xs, h, b, rfl, hc, gw, hl, hx, few, tb, k⟩ := h
    refine ⟨_, (pss_one (ps_ret (pe_cmpR op_notN (pe_call G_shown_turn (hr.mono (by decide)) rfl T.d_shown_turn.g T.d_shown_turn.kp b_shown_turn .nil pass0 (pa_cons (pv 0) (pa_cons (pv 1) (pa_cons (pv 2) (pa_cons (pv 3) pa_nil))))) pe_non (nomark _)))), ?_⟩
    walk_at "rs"
    refine ⟨c, l, ws, ps, xs, h, b, rfl, hc, gw, hl, hx, few, tb, fun v H1 s1 e0 e1 => ?_⟩
    have k1 := k H1 s1
    unfold shM at k1
    cases q : cmL ws xs h b with
    | nil =>
      rw [e0 q]
      rw [q] at k1
      walk_at "rs"
      exact k1
    | cons y ys =>
      obtain ⟨m, _, _, rfl⟩ := e1 (by rw [q]; exact fun z => nomatch z)
      rw [q] at k1
      walk_at "rs"
      exact k1
theorem ok_accuse (TE : TxtE K mg a) (T : Txt K mg a) : ∃ fd, FnOk P w K mg base (L2.CX P w) 7 a.d_accuse fd ["committee", "height", "one", "other"] (spAcc K a.C_Committee a.C_Charge a.C_BadPaper) ∧ Binds K fd ["committee", "height", "one", "other"] [] := by
  obtain ⟨fd, F, b⟩ := T.d_accuse.F
  obtain ⟨fd_charges, G_charges, b_charges⟩ := ok_charges (P := P) (w := w) (base := base) T
  obtain ⟨fd_shows, G_shows, b_shows⟩ := ok_shows (P := P) (w := w) (base := base) T
  refine ⟨fd, F.okX sc_accuse (fun vs H Q E h => ?_) (fun cdv A outer s H vs Q E hr h => ?_), b⟩
  · obtain ⟨_, _, _, _, _, _, _, _, _, _, _, _, _, rfl, _⟩ := h
    rfl
  · obtain ⟨c, o1, o2, l1, l2, ws, h, b1, b2, ps1, ps2, xs1, xs2, rfl, hc, gw, ho1, ho2, hl1, hl2, hx1, hx2, f1, f2, t1, t2, ky, kn⟩ := h
    refine ⟨_, (pss_cons (ps_asg (pv 2) (pg_tup rfl (pgs_cons (pg_name (i := 4) sc_accuse.nd rfl (Or.inl rfl)) (pgs_cons (pg_name (i := 5) sc_accuse.nd rfl (Or.inl rfl)) pgs_nil))))
      (pss_cons (ps_asg (pv 3) (pg_tup rfl (pgs_cons (pg_name (i := 6) sc_accuse.nd rfl (Or.inl rfl)) (pgs_cons (pg_name (i := 7) sc_accuse.nd rfl (Or.inl rfl)) pgs_nil))))
      (pss_cons (ps_if (pt_cmpR op_eq (pv 4) (pv 6) (nomark _))
      (pss_one (ps_raise rfl (takes_of rfl rfl rfl rfl) (pmk_own PySem.F.excBase_ValueError TE.x_BadPaper TE.g_BadPaper TE.kc_BadPaper (raises_own TE.b_BadPaper TE.t_BadPaper) rfl)))
      pss_nil)
      (pss_cons (ps_for (passes_of rfl) rfl (pi_tup (pe_tup (pa_cons (pv 2) (pa_cons (pv 3) pa_nil)))) (pg_tup rfl (pgs_cons (pg_name (i := 8) sc_accuse.nd rfl (Or.inl rfl)) (pgs_cons (pg_name (i := 9) sc_accuse.nd rfl (Or.inl rfl)) pgs_nil)))
      (pss_one (ps_if (pt_not (pt_val (pe_call G_shows (hr.mono (by decide)) rfl T.d_shows.g T.d_shows.kp b_shows .nil pass0 (pa_cons (pv 0) (pa_cons (pv 1) (pa_cons (pv 8) (pa_cons (pv 9) pa_nil)))))))
        (pss_one (ps_raise rfl (takes_of rfl rfl rfl rfl) (pmk_own PySem.F.excBase_ValueError TE.x_BadPaper TE.g_BadPaper TE.kc_BadPaper (raises_own TE.b_BadPaper TE.t_BadPaper) rfl)))
        pss_nil)))
      (pss_one (ps_ret (pe_call G_charges (hr.mono (by decide)) rfl T.d_charges.g T.d_charges.kp b_charges .nil pass0 (pa_cons (pv 0) (pa_cons (pe_op op_cat (pv 5) (pv 7)) pa_nil))))))))), ?_⟩
    walk_at "rs"
    refine ⟨_, _, rfl, SqT.of ho1, rfl, _, _, rfl, _, _, rfl, rfl, ?_⟩
    walk_at "rs"
    refine ⟨_, _, rfl, SqT.of ho2, rfl, _, _, rfl, _, _, rfl, rfl, ?_⟩
    walk_at "rs"
    refine ite2 (fun c1 => ?_) (fun c1 => ?_)
    · have e : b1 = b2 := by
        have := of_decide_eq_true c1
        injection this
      exact kn (.inl e) H (Same.refl H)
    have ne : b1 ≠ b2 := fun z => c1 (decide_eq_true (by rw [z]))
    walk_at "rs"
    refine ⟨(by show 2 ≤ sizeLine; decide), fun tp htp => ?_⟩
    have s0 : Same H (upd H tp (.tup [V.ref o1, V.ref o2])) := same_new htp
    have ht0 : (upd H tp (.tup [V.ref o1, V.ref o2])) tp = some (.tup [V.ref o1, V.ref o2]) := upd_same
    generalize upd H tp (.tup [V.ref o1, V.ref o2]) = H0 at s0 ht0 ⊢
    refine ⟨tp, rfl, ⟨_, SqT.of ht0⟩, for_tup (K := K) (a := tp) (xs := [V.ref o1, V.ref o2]) (fun i σ H2 => ∃ v8 v9 : Option V, σ = [some (.ref c), some (.int h), some (.ref o1), some (.ref o2), some (.str b1), some (.ref l1), some (.str b2), some (.ref l2), v8, v9] ∧ Same H0 H2 ∧
      (1 ≤ i → shM ws xs1 h (some b1) = true) ∧ (2 ≤ i → shM ws xs2 h (some b2) = true)) ⟨_, _, rfl, Same.refl H0, fun z => absurd z (by omega), fun z => absurd z (by omega)⟩ (fun i σ H2 _ ⟨_, _, _, s2, _⟩ => SqT.of (s2 _ _ ht0)) ?_ ?_⟩
    · rintro i y σ H2 hy ⟨v8, v9, rfl, s2, k1, k2⟩
      have s02 := s0.trans s2
      obtain ⟨o, bb, ll, pp, xx, rfl, ho, hll, hxx, fx, tx, more, less⟩ : ∃ (o : Addr) (bb : Str) (ll : Addr) (pp : List Addr) (xx : List Lt), y = V.ref o ∧ H2 o = some (.tup [.str bb, .ref ll]) ∧ H2 ll = some (.lst (pp.map V.ref)) ∧ LsAt H2 pp xx ∧ xx.length ≤ 400 ∧ TB xx ∧
          (shM ws xx h (some bb) = true → (1 ≤ i + 1 → shM ws xs1 h (some b1) = true) ∧ (2 ≤ i + 1 → shM ws xs2 h (some b2) = true)) ∧ (shM ws xx h (some bb) = false → b1 = b2 ∨ shM ws xs1 h (some b1) = false ∨ shM ws xs2 h (some b2) = false) := by
        match i, hy with
        | 0, hy =>
          cases hy
          exact ⟨o1, b1, l1, ps1, xs1, rfl, s02 _ _ ho1, s02 _ _ hl1, hx1.same s02, f1, t1, fun z => ⟨fun _ => z, fun q => absurd q (by omega)⟩, fun z => .inr (.inl z)⟩
        | 1, hy =>
          cases hy
          exact ⟨o2, b2, l2, ps2, xs2, rfl, s02 _ _ ho2, s02 _ _ hl2, hx2.same s02, f2, t2, fun z => ⟨fun _ => k1 (by omega), fun _ => z⟩, fun z => .inr (.inr z)⟩
        | i + 2, hy => simp at hy
      refine ⟨_, _, rfl, SqT.of ho, rfl, _, _, rfl, _, _, rfl, rfl, ?_⟩
      walk_at "rs"
      refine ⟨c, ll, ws, pp, xx, h, some bb, rfl, hc.same s02, gw, hll, hxx, by omega, tx, fun H3 s3 => ?_⟩
      walk_at "rs"
      cases q : shM ws xx h (some bb) with
      | true => exact ⟨_, _, rfl, s2.trans s3, more q⟩
      | false => exact kn (less q) H3 (s02.trans s3)
    · rintro σ H2 ⟨v8, v9, rfl, s2, k1, k2⟩
      have s02 := s0.trans s2
      have n1 := hx1.1
      have n2 := hx2.1
      walk_at "rs"
      refine ⟨l1, l2, _, _, rfl, rfl, s02 _ _ hl1, s02 _ _ hl2, by rw [List.length_map, List.length_map, sizeLine_eq]; omega, fun p4 hp4 => ?_⟩
      have s4 := same_new (o := .lst (ps1.map V.ref ++ ps2.map V.ref)) hp4
      have s04 := s02.trans s4
      refine ⟨c, p4, ws, ps1 ++ ps2, xs1 ++ xs2, rfl, hc.same s04, gw.2.1, by rw [upd_same]; simp, (hx1.app hx2).same s04, by rw [List.length_append]; omega, fun p cs H5 s5 hp5 hl5 hch => ?_⟩
      exact ky ne (k1 (by show 1 ≤ 2; decide)) (k2 (by show 2 ≤ 2; decide)) p cs H5 (s04.trans s5) hp5 hl5 hch

theorem ok_law_cell (T : Txt K mg a) : ∃ fd, FnOk P w K mg base CX0 1 a.d_law_cell fd ["script", "k"] (spCell K) ∧ Binds K fd ["script", "k"] [] := by
  obtain ⟨fd, F, b⟩ := T.d_law_cell.F
  refine ⟨fd, F.ok sc_law_cell (fun vs H Q E h => ?_) (fun cdv A outer s H vs Q E hr h => ?_), b⟩
  · obtain ⟨a, ns, k, rfl, _⟩ := h
    rfl
  · obtain ⟨l, ns, k, rfl, hS, hl, hk, q⟩ := h
    refine ⟨_, (pss_cons (ps_if (pt_cmpR op_lt (pv 1) (pe_callB call_len_seq (by rfl) T.n_len PySem.boot_len (pa_cons (pv 0) pa_nil)) (nomark _))
      (pss_one (ps_ret (pe_ix ix_list (pv 0) (pv 1) (fun _ _ => rfl))))
      pss_nil)
      (pss_one (ps_ret pe_int))), ?_⟩
    refine ⟨_, rfl, _, rfl, l, _, rfl, .inl hS, _, _, rfl, rfl, _, rfl, ?_⟩
    refine ite2 (fun hlt => ?_) (fun hge => ?_)
    · have hlt : k < ((ns.map V.int).length : Int) := of_decide_eq_true hlt
      rw [List.length_map] at hlt
      have hj : k.toNat < ns.length := by omega
      have e : ns.getD k.toNat 0 = ns[k.toNat] := by rw [List.getD_eq_getElem?_getD, List.getElem?_eq_getElem hj]; rfl
      rw [e] at q
      refine ⟨_, rfl, _, rfl, l, _, k, .int ns[k.toNat], rfl, rfl, hS, at_of (j := k.toNat) (by omega) (by rw [List.getElem?_map, List.getElem?_eq_getElem hj]; rfl), q⟩
    · have hge : ¬ k < ((ns.map V.int).length : Int) := fun e => hge (decide_eq_true e)
      rw [List.length_map] at hge
      have e : ns.getD k.toNat 0 = 0 := by rw [List.getD_eq_getElem?_getD, List.getElem?_eq_none (by omega)]; rfl
      rw [e] at q
      exact q

theorem ok_law_row (T : Txt K mg a) : ∃ fd, FnOk P w K mg base CX0 1 a.d_law_row fd ["cell", "count", "size"] (spRow K) ∧ Binds K fd ["cell", "count", "size"] [] := by
  obtain ⟨fd, F, b⟩ := T.d_law_row.F
  refine ⟨fd, F.ok sc_law_row (fun vs H Q E h => ?_) (fun cdv A outer s H vs Q E hr h => ?_), b⟩
  · obtain ⟨_, _, _, rfl, _⟩ := h
    rfl
  · obtain ⟨cell, count, size, rfl, c0, c1, z0, z1, k⟩ := h
    refine ⟨_, (pss_cons (ps_set (i := 3) sc_law_row.nd rfl (Or.inl rfl) (pv 0))
      (pss_cons (ps_set (i := 4) sc_law_row.nd rfl (Or.inl rfl) (pe_lst pa_nil))
      (pss_cons (ps_for PassesOwn.never rfl (pi_range1 rfl T.n_range (pa_cons (pv 1) pa_nil)) (pg_name (i := 5) sc_law_row.nd rfl (Or.inl rfl))
      (pss_one (ps_if (pt_cmpR op_ge (pv 0) (pe_op op_pow pe_int pe_int) (nomark _))
        (pss_cons (ps_expr (pe_bm PySem.F.plainAttrs_list PySem.F.slot_list_append PySem.F.type_list_append mt_append (pv 4) (pa_cons (pe_op op_mod (pe_callTy call_int1 (by rfl) T.n_int (by decide +kernel) (pa_cons (pv 3) pa_nil)) (pv 2)) pa_nil)))
          (pss_one (ps_set (i := 3) sc_law_row.nd rfl (Or.inl rfl) (pe_op op_fdivN (pv 3) (pv 2)))))
        (pss_cons (ps_set (i := 3) sc_law_row.nd rfl (Or.inl rfl) (pe_op op_mod (pe_callTy call_int1 (by rfl) T.n_int (by decide +kernel) (pa_cons (pe_op op_add (pe_op op_mul (pv 3) pe_int) pe_int) pa_nil)) pe_int))
          (pss_one (ps_expr (pe_bm PySem.F.plainAttrs_list PySem.F.slot_list_append PySem.F.type_list_append mt_append (pv 4) (pa_cons (pe_op op_mod (pe_op op_mod (pe_callTy call_int1 (by rfl) T.n_int (by decide +kernel) (pa_cons (pe_op op_add (pe_op op_mul (pv 3) pe_int) (pe_op op_mul (pv 5) pe_int)) pa_nil)) pe_int) (pv 2)) pa_nil))))))))
      (pss_one (ps_ret (pv 4)))))), ?_⟩
    walk_at "rs"
    refine ⟨(by show 0 ≤ sizeLine; decide), fun p hp => ?_⟩
    walk_at "rs"
    refine ⟨(by show -(2 ^ 62 : Int) ≤ _; omega), (by show _ < (2 ^ 62 : Int); omega), ?_⟩
    refine for_range (lo := 0) (n := count.toNat) (fun i σ H2 => ∃ (st : Int) (row : List Int) (v5 : Option V), σ = [some (.int cell), some (.int count), some (.int size), some (.int st), some (.ref p), v5] ∧ Same H H2 ∧
      H2 p = some (.lst (row.map V.int)) ∧ row.length = i ∧ ∀ x ∈ row, 0 ≤ x ∧ x < size) ⟨_, [], _, rfl, same_new hp, upd_same, rfl, fun x hx => nomatch hx⟩ ?_ ?_
    · rintro i σ H2 hi ⟨st, row, v5, rfl, s2, hrow, hlen, hb⟩
      have fit : (row.map V.int).length < sizeLine := by
        rw [List.length_map]
        exact small1000 (by omega)
      have grow : ∀ z : Int, 0 ≤ z → z < size → ∀ x ∈ row ++ [z], 0 ≤ x ∧ x < size := fun z h0 h1 x hx => by
        rcases List.mem_append.mp hx with hx | hx
        · exact hb x hx
        · rw [List.mem_singleton.mp hx]
          exact ⟨h0, h1⟩
      walk_at "rs"
      refine ite2 (fun c1 => ?_) (fun c1 => ?_)
      · walk_at "rs"
        refine ⟨.inl ⟨rfl, _, SqL.of hrow⟩, ?_⟩
        walk_at "rs"
        refine ⟨p, _, _, rfl, rfl, hrow, fit, ?_⟩
        walk_at "rs"
        refine ⟨(show CDivN _ _ from ⟨by omega, by omega⟩), ?_⟩
        exact ⟨_, row ++ [st % size], _, rfl, same_upd s2 hp, by rw [upd_same]; simp, by simp [hlen], grow _ (Int.emod_nonneg _ (by omega)) (Int.emod_lt_of_pos _ z0)⟩
      · walk_at "rs"
        refine ⟨.inl ⟨rfl, _, SqL.of hrow⟩, ?_⟩
        walk_at "rs"
        refine ⟨p, _, _, rfl, rfl, hrow, fit, ?_⟩
        exact ⟨_, row ++ [((st * 48271 + 12345) % 2147483647 * 69621 + (i : Int) * 7919) % 2147483647 % size], _, rfl, same_upd s2 hp, by rw [upd_same]; simp, by simp [hlen], grow _ (Int.emod_nonneg _ (by omega)) (Int.emod_lt_of_pos _ z0)⟩
    · rintro σ H2 ⟨st, row, v5, rfl, s2, hrow, hlen, hb⟩
      walk_at "rs"
      exact k p row H2 s2 hrow hlen hb hp

theorem ok_law_weights (T : Txt K mg a) : ∃ fd, FnOk P w K mg base CX0 2 a.d_law_weights fd ["cell", "most"] (spWeights K) ∧ Binds K fd ["cell", "most"] [] := by
  obtain ⟨fd, F, b⟩ := T.d_law_weights.F
  obtain ⟨fd_law_row, G_law_row, b_law_row⟩ := ok_law_row (P := P) (w := w) (base := base) T
  refine ⟨fd, F.ok sc_law_weights (fun vs H Q E h => ?_) (fun cdv A outer s H vs Q E hr h => ?_), b⟩
  · obtain ⟨_, _, rfl, _⟩ := h
    rfl
  · obtain ⟨cell, most, rfl, m0, m1, k⟩ := h
    refine ⟨_, (pss_cons (ps_set (i := 2) sc_law_weights.nd rfl (Or.inl rfl) (pe_op op_add pe_int (pe_op op_mod (pe_callTy call_int1 (by rfl) T.n_int (by decide +kernel) (pa_cons (pv 0) pa_nil)) (pv 1))))
      (pss_cons (ps_if (pt_cmpR op_eq (pe_op op_mod (pe_op op_fdiv (pv 0) pe_int) pe_int) pe_int (nomark _))
      (pss_one (ps_ret (pe_op op_rep (pe_lst (pa_cons pe_int pa_nil)) (pv 2))))
      pss_nil)
      (pss_one (ps_ret (pe_lc (own := [("value", 3)]) (g := (gName 3)) (tt := tYes) rfl sc_law_weights.nd (pi_list (pe_call G_law_row (hr.mono (by decide)) rfl T.d_law_row.g T.d_law_row.kp b_law_row .nil pass0 (pa_cons (pe_op op_fdiv (pv 0) pe_int) (pa_cons (pv 2) (pa_cons pe_int pa_nil))))) (blkOk_by (own := [("value", 3)]) (N := sc_law_weights_N) (sc := defScope s_law_weights) (by decide +kernel)) (fun _ _ _ _ _ => (pg_name (i := 3) sc_law_weights.nd rfl (Or.inl rfl))) (fun _ _ _ _ _ => pts_nil) (fun _ _ _ _ _ => (pe_op op_add pe_int (pv 3)))))))), ?_⟩
    have c0 : 0 ≤ cell % most := Int.emod_nonneg _ (by omega)
    have c1 : cell % most < most := Int.emod_lt_of_pos _ (by omega)
    walk_at "rs"
    refine ite2 (fun c2 => ?_) (fun c2 => ?_)
    · walk_at "rs"
      refine ⟨(by show 1 ≤ sizeLine; decide), fun p hp => ?_⟩
      walk_at "rs"
      refine ⟨p, _, _, rfl, rfl, upd_same, (by show -(2 ^ 63 : Int) ≤ 1 + cell % most; omega), (by show 1 + cell % most < (2 ^ 63 : Int); omega), (by rw [sizeLine_eq]; show 1 * (1 + cell % most).toNat ≤ _; omega), fun q hq => ?_⟩
      refine k q (List.replicate (1 + cell % most).toNat 1) _ (same_upd (same_new hp) (Same.free (same_new hp) hq)) (by rw [upd_same]; simp) ⟨by rw [List.length_replicate]; omega, by rw [List.length_replicate]; omega, fun x hx => ?_⟩ (by rw [List.length_replicate]; omega)
      rw [(List.mem_replicate.mp hx).2]
      decide
    · walk_at "rs"
      refine ⟨_, _, _, rfl, by omega, by omega, by decide, by decide, fun p row H1 s1 hrow hlen hb hp => ?_⟩
      refine ⟨p, rfl, ⟨_, SqL.of hrow⟩, fun D hD => ?_⟩
      have nDp : D ≠ p := (ne_of_none hrow hD).symm
      refine lc_list (K := K) (a := p) (xs := row.map V.int) (fun i H2 => Same H1 H2 ∧ H2 D = some (.lst (((row.take i).map (1 + ·)).map V.int))) ⟨same_new hD, upd_same⟩ (fun i H2 _ ⟨s2, _⟩ => SqL.of (s2 _ _ hrow)) ?_ ?_
      · rintro i x H2 hx ⟨s2, hd⟩
        have hi : i < row.length := by
          have e := (List.getElem?_eq_some_iff.mp hx).1
          rwa [List.length_map] at e
        rw [at_ints hi] at hx
        cases hx
        refine ⟨rfl, ?_⟩
        walk_at "rs"
        refine ⟨_, hd, by simp only [List.length_map, List.length_take]; exact small1000 (by omega), same_upd s2 hD, ?_⟩
        rw [upd_same, List.take_add_one, List.getElem?_eq_getElem hi, List.getD_eq_getElem?_getD, List.getElem?_eq_getElem hi]
        simp only [Option.toList_some, Option.getD_some, List.map_append, List.map_cons, List.map_nil]
      · rintro H2 ⟨s2, hd⟩
        have e : row.take (row.map V.int).length = row := by rw [List.length_map, List.take_length]
        rw [e] at hd
        refine k D _ H2 (fun b o z => s2 _ _ (s1 _ _ z)) hd ⟨by rw [List.length_map]; omega, by rw [List.length_map]; omega, fun x hx => ?_⟩ (by rw [List.length_map]; omega)
        obtain ⟨y, hy, rfl⟩ := List.mem_map.mp hx
        have := hb y hy
        omega

theorem ok_law_weight (T : Txt K mg a) : ∃ fd, FnOk P w K mg base CX0 1 a.d_law_weight fd ["weights", "members"] (spWeight K) ∧ Binds K fd ["weights", "members"] [] := by
  obtain ⟨fd, F, b⟩ := T.d_law_weight.F
  refine ⟨fd, F.ok sc_law_weight (fun vs H Q E h => ?_) (fun cdv A outer s H vs Q E hr h => ?_), b⟩
  · obtain ⟨_, _, _, _, rfl, _⟩ := h
    rfl
  · obtain ⟨p, q, ws, ms, rfl, hp, hq, hlen, k⟩ := h
    refine ⟨_, (pss_one (ps_ret (pe_callB (cr_sum rfl) (by rfl) T.n_sum (by decide +kernel) (pa_cons (pe_lc (own := [("k", 2)]) (g := (gName 2)) rfl sc_law_weight.nd (pi_range1 rfl T.n_range (pa_cons (pe_callB call_len_seq (by rfl) T.n_len PySem.boot_len (pa_cons (pv 0) pa_nil)) pa_nil)) (blkOk_by (own := [("k", 2)]) (N := sc_law_weight_N) (sc := defScope s_law_weight) (by decide +kernel)) (fun _ _ _ _ _ => (pg_name (i := 2) sc_law_weight.nd rfl (Or.inl rfl))) (fun _ _ _ _ _ => (pts_one (pt_cmpR (r := rIn K false) op_in_seq (pv 2) (pv 1) (by rfl)))) (fun _ _ _ _ _ => (pe_ix (r := rIxL K) ix_list (pv 0) (pv 2) (fun _ _ => rfl)))) pa_nil)))), ?_⟩
    walk_at "rs"
    refine ⟨p, _, rfl, .inl hp, ?_⟩
    walk_at "rs"
    have hN : ((ws.map V.int).length : Int) = ws.length := by rw [List.length_map]
    refine ⟨(by show -(2 ^ 62 : Int) ≤ _; omega), (by show _ < (2 ^ 62 : Int); omega), fun D hD => ?_⟩
    refine lc_range (lo := 0) (n := (((ws.map V.int).length : Int)).toNat) (fun i H2 => Same H H2 ∧ H2 D = some (.lst ((pick ws (fun k => decide (k ∈ ms)) i).map V.int))) ⟨same_new hD, upd_same⟩ ?_ ?_
    · rintro i H2 hi ⟨s2, hd⟩
      have hi' : i < ws.length := by omega
      have fit : ((pick ws (fun k => decide (k ∈ ms)) i).map V.int).length < sizeLine := by
        have := pick_len ws (fun k => decide (k ∈ ms)) i
        rw [List.length_map]
        exact small1000 (by omega)
      refine ⟨rfl, ?_⟩
      walk_at "rs"
      refine ⟨q, _, rfl, .inl (s2.seq hq), rfl, flat_ints ms, ?_⟩
      rw [if_neg Bool.false_ne_true, inV_ints]
      walk_at "rs"
      refine ite2 (fun c1 => ?_) (fun c1 => ?_)
      · walk_at "rs"
        refine ⟨p, _, _, .int (ws.getD i 0), rfl, rfl, s2.seq hp, at_of (j := i) (by omega) (at_ints hi'), ?_⟩
        refine ⟨_, hd, fit, same_upd s2 hD, ?_⟩
        rw [upd_same, pick]
        have c1' : decide ((i : Int) ∈ ms) = true := by simpa using c1
        rw [if_pos c1']
        simp
      · refine ⟨s2, ?_⟩
        have c1' : ¬ decide ((i : Int) ∈ ms) = true := by simpa using c1
        rw [hd, pick, if_neg c1']
    · rintro H2 ⟨s2, hd⟩
      rw [hN, Int.toNat_natCast] at hd
      walk_at "rs"
      exact ⟨D, _, rfl, SqL.of hd, k H2 s2⟩

theorem ok_law_clash (T : Txt K mg a) : ∃ fd, FnOk P w K mg base CX0 1 a.d_law_clash fd ["one", "other"] (spClash K) ∧ Binds K fd ["one", "other"] [] := by
  obtain ⟨fd, F, b⟩ := T.d_law_clash.F
  refine ⟨fd, F.ok sc_law_clash (fun vs H Q E h => ?_) (fun cdv A outer s H vs Q E hr h => ?_), b⟩
  · obtain ⟨_, _, _, _, rfl, _⟩ := h
    rfl
  · obtain ⟨p, q, m, n, rfl, hp, hq, k⟩ := h
    have k0 : Q (.bl (clashM m n)) H := k _ (Same.refl H)
    clear k
    refine ⟨_, (pss_cons (ps_if (PW.pt (pw_or (pt_cmpR op_ne (pe_ix ix_tup (pv 0) pe_int (fun _ _ => rfl)) (pe_ix ix_tup (pv 1) pe_int (fun _ _ => rfl)) (nomark _)) (pw_or (pt_cmpR op_eq (pe_ix ix_tup (pv 0) pe_int (fun _ _ => rfl)) pe_str (nomark _)) (pw_or1 (pt_cmpR op_eq (pe_ix ix_tup (pv 1) pe_int (fun _ _ => rfl)) pe_str (nomark _))))))
      (pss_one (ps_ret pe_bl))
      pss_nil)
      (pss_cons (ps_if (pt_cmpR op_eq (pe_ix ix_tup (pv 0) pe_int (fun _ _ => rfl)) (pe_ix ix_tup (pv 1) pe_int (fun _ _ => rfl)) (nomark _))
      (pss_one (ps_ret (pe_and (pe_cmpR op_eq (pe_ix ix_tup (pv 0) pe_int (fun _ _ => rfl)) (pe_ix ix_tup (pv 1) pe_int (fun _ _ => rfl)) (nomark _)) (pe_one (pe_cmpR op_ne (pe_ix ix_tup (pv 0) pe_int (fun _ _ => rfl)) (pe_ix ix_tup (pv 1) pe_int (fun _ _ => rfl)) (nomark _))))))
      pss_nil)
      (pss_cons (ps_set (i := 2) sc_law_clash.nd rfl (Or.inl rfl) (pv 0))
      (pss_cons (ps_set (i := 3) sc_law_clash.nd rfl (Or.inl rfl) (pv 1))
      (pss_cons (ps_if (pt_cmpR op_eq (pe_ix ix_tup (pv 0) pe_int (fun _ _ => rfl)) pe_str (nomark _))
      (pss_cons (ps_set (i := 2) sc_law_clash.nd rfl (Or.inl rfl) (pv 1))
        (pss_one (ps_set (i := 3) sc_law_clash.nd rfl (Or.inl rfl) (pv 0))))
      pss_nil)
      (pss_cons (ps_if (PW.pt (pw_or (pt_cmpR op_isN (pe_ix ix_tup (pv 2) pe_int (fun _ _ => rfl)) pe_non (nomark _)) (pw_or (pt_cmpR op_isN (pe_ix ix_tup (pv 3) pe_int (fun _ _ => rfl)) pe_non (nomark _)) (pw_or (pt_cmpR op_eq (pe_ix ix_tup (pv 2) pe_int (fun _ _ => rfl)) (pe_ix ix_tup (pv 3) pe_int (fun _ _ => rfl)) (nomark _)) (pw_or1 (pt_cmpR op_le (pe_ix ix_tup (pv 3) pe_int (fun _ _ => rfl)) (pe_ix ix_tup (pv 2) pe_int (fun _ _ => rfl)) (nomark _)))))))
      (pss_one (ps_ret pe_bl))
      pss_nil)
      (pss_one (ps_ret (pe_or (pe_cmpR op_isN (pe_ix ix_tup (pv 3) pe_int (fun _ _ => rfl)) pe_non (nomark _)) (pe_one (pe_cmpR op_lt (pe_ix ix_tup (pv 3) pe_int (fun _ _ => rfl)) (pe_ix ix_tup (pv 2) pe_int (fun _ _ => rfl)) (nomark _)))))))))))), ?_⟩
    walk_at "rs"
    refine ite2 (fun c1 => ?_) (fun c1 => ?_) <;> simp only [dec_int, Bool.not_eq_true', beq_eq_false_iff_ne, Bool.not_eq_false', Bool.not_eq_true, beq_iff_eq, ne_eq, Decidable.not_not] at c1
    · rw [show clashM m n = false from if_pos c1] at k0
      exact k0
    walk_at "rs"
    refine ite2 (fun c2 => ?_) (fun c2 => ?_) <;> simp only [kprop, decide_eq_true_iff] at c2
    · rw [show clashM m n = false by
        unfold clashM abandM
        rw [if_neg (fun z => z c1)]
        by_cases e : m.k = n.k
        · rw [if_pos e, c2]
          rfl
        · rw [if_neg e, c2]
          simp] at k0
      exact k0
    walk_at "rs"
    refine ite2 (fun c3 => ?_) (fun c3 => ?_) <;> simp only [kprop, decide_eq_true_iff] at c3
    · rw [show clashM m n = false by
        unfold clashM abandM
        rw [if_neg (fun z => z c1)]
        by_cases e : m.k = n.k
        · rw [if_pos e, e, c3]
          rfl
        · rw [if_neg e, c3]
          simp] at k0
      exact k0
    walk_at "rs"
    refine ite2 (fun c4 => ?_) (fun c4 => ?_) <;> simp only [dec_kd, decide_eq_true_iff] at c4
    · unfold clashM at k0
      rw [if_neg (fun z => z c1), if_pos c4, decide_eq_true c2, Bool.true_and] at k0
      walk_at "rs"
      refine ite2 (fun c5 => ?_) (fun c5 => ?_) <;> simp only [dec_int, beq_iff_eq] at c5
      · rw [decide_eq_true c5, Bool.true_and] at k0
        walk_at "rs"
        rw [show decide (m.b ≠ n.b) = (!decide (oS m.b = oS n.b)) by rw [dec_oS, decide_not]] at k0
        exact k0
      · rw [decide_eq_false c5, Bool.false_and] at k0
        exact k0
    · unfold clashM at k0
      rw [if_neg (fun z => z c1), if_neg c4] at k0
      walk_at "rs"
      refine ite2 (fun c5 => ?_) (fun c5 => ?_) <;> simp only [kpre, decide_eq_true_iff] at c5
      · have cn : n.k = .com := by
          cases e : n.k with
          | prop => exact absurd e c3
          | pre => exact absurd (c5.trans e.symm) c4
          | com => rfl
        rw [show abandM m n = false from if_neg (fun z => by rw [c5] at z; cases z.1), Bool.false_or] at k0
        walk_at "rs"
        refine ite2 (fun d1 => ?_) (fun d1 => ?_) <;> simp only [koSn, decide_eq_true_iff] at d1
        · rw [show abandM n m = false from if_neg (fun z => z.2.2.1 d1)] at k0
          exact k0
        walk_at "rs"
        refine ite2 (fun d2 => ?_) (fun d2 => ?_) <;> simp only [koSn, decide_eq_true_iff] at d2
        · rw [show abandM n m = false from if_neg (fun z => z.2.2.2.1 d2)] at k0
          exact k0
        walk_at "rs"
        refine ite2 (fun d3 => ?_) (fun d3 => ?_) <;> simp only [koS, decide_eq_true_iff] at d3
        · rw [show abandM n m = false from if_neg (fun z => z.2.2.2.2.1 d3)] at k0
          exact k0
        walk_at "rs"
        refine ite2 (fun d4 => ?_) (fun d4 => ?_) <;> simp only [decide_eq_true_iff] at d4
        · rw [show abandM n m = false from if_neg (fun z => by have := z.2.2.2.2.2; omega)] at k0
          exact k0
        rw [show abandM n m = (match m.l with | none => true | some l => decide (l < n.t)) from if_pos ⟨by assumption, by assumption, d1, d2, d3, by omega⟩] at k0
        walk_at "rs"
        refine ite2 (fun d5 => ?_) (fun d5 => ?_) <;> simp only [koIn, decide_eq_true_iff] at d5
        · rw [d5] at k0
          exact k0
        · cases hnl : m.l with
          | none => exact absurd hnl d5
          | some l =>
            rw [hnl] at k0
            refine ⟨_, rfl, _, _, _, _, rfl, rfl, SqT.of (by assumption), (at4 m (by assumption)).trans (by rw [hnl]), ?_⟩
            walk_at "rs"
            exact k0
      · have cm : m.k = .com := by
          cases e : m.k with
          | prop => exact absurd e c2
          | pre => exact absurd e c5
          | com => rfl
        have cn : n.k = .pre := by
          cases e : n.k with
          | prop => exact absurd e c3
          | pre => rfl
          | com => exact absurd (cm.trans e.symm) c4
        rw [show abandM n m = false from if_neg (fun z => by rw [cn] at z; cases z.1), Bool.or_false] at k0
        walk_at "rs"
        refine ite2 (fun d1 => ?_) (fun d1 => ?_) <;> simp only [koSn, decide_eq_true_iff] at d1
        · rw [show abandM m n = false from if_neg (fun z => z.2.2.1 d1)] at k0
          exact k0
        walk_at "rs"
        refine ite2 (fun d2 => ?_) (fun d2 => ?_) <;> simp only [koSn, decide_eq_true_iff] at d2
        · rw [show abandM m n = false from if_neg (fun z => z.2.2.2.1 d2)] at k0
          exact k0
        walk_at "rs"
        refine ite2 (fun d3 => ?_) (fun d3 => ?_) <;> simp only [koS, decide_eq_true_iff] at d3
        · rw [show abandM m n = false from if_neg (fun z => z.2.2.2.2.1 d3)] at k0
          exact k0
        walk_at "rs"
        refine ite2 (fun d4 => ?_) (fun d4 => ?_) <;> simp only [decide_eq_true_iff] at d4
        · rw [show abandM m n = false from if_neg (fun z => by have := z.2.2.2.2.2; omega)] at k0
          exact k0
        rw [show abandM m n = (match n.l with | none => true | some l => decide (l < m.t)) from if_pos ⟨by assumption, by assumption, d1, d2, d3, by omega⟩] at k0
        walk_at "rs"
        refine ite2 (fun d5 => ?_) (fun d5 => ?_) <;> simp only [koIn, decide_eq_true_iff] at d5
        · rw [d5] at k0
          exact k0
        · cases hnl : n.l with
          | none => exact absurd hnl d5
          | some l =>
            rw [hnl] at k0
            refine ⟨_, rfl, _, _, _, _, rfl, rfl, SqT.of (by assumption), (at4 n (by assumption)).trans (by rw [hnl]), ?_⟩
            walk_at "rs"
            exact k0

theorem ok_law_certified (T : Txt K mg a) : ∃ fd, FnOk P w K mg base CX0 2 a.d_law_certified fd ["weights", "letters", "height", "turn", "block"] (spLCert K) ∧ Binds K fd ["weights", "letters", "height", "turn", "block"] [] := by
  obtain ⟨fd, F, b⟩ := T.d_law_certified.F
  obtain ⟨fd_law_weight, G_law_weight, b_law_weight⟩ := ok_law_weight (P := P) (w := w) (base := base) T
  refine ⟨fd, F.ok sc_law_certified (fun vs H Q E h => ?_) (fun cdv A outer s H vs Q E hr h => ?_), b⟩
  · obtain ⟨_, _, _, _, _, _, _, _, rfl, _⟩ := h
    rfl
  · obtain ⟨pw, l, ws, ps, xs, ht, tn, bb, rfl, hw, wl, hl, hx, few, t0, t12, k⟩ := h
    refine ⟨_, (pss_cons (ps_set (i := 5) sc_law_certified.nd rfl (Or.inl rfl) (pe_lst (pa_cons pe_non pa_nil)))
      (pss_cons (ps_for PassesOwn.never rfl (pi_range1 rfl T.n_range (pa_cons (pe_op op_add (pv 3) pe_int) pa_nil)) (pg_name (i := 6) sc_law_certified.nd rfl (Or.inl rfl))
      (pss_cons (ps_set (i := 7) sc_law_certified.nd rfl (Or.inl rfl) (pe_lst pa_nil))
        (pss_cons (ps_for PassesOwn.never rfl (pi_list (pv 1)) (pg_name (i := 8) sc_law_certified.nd rfl (Or.inl rfl))
        (pss_cons (ps_set (i := 9) sc_law_certified.nd rfl (Or.inl rfl) (pe_ix ix_tup (pv 8) pe_int (fun _ _ => rfl)))
          (pss_one (ps_if (PW.pt (pw_and (pt_cmpR op_eq (pe_ix ix_tup (pv 9) pe_int (fun _ _ => rfl)) pe_str (nomark _)) (pw_and (pt_cmpR op_eq (pe_ix ix_tup (pv 9) pe_int (fun _ _ => rfl)) (pv 2) (nomark _)) (pw_and (pt_cmpR op_eq (pe_ix ix_tup (pv 9) pe_int (fun _ _ => rfl)) (pv 6) (nomark _)) (pw_and1 (pt_cmpR op_eq (pe_ix ix_tup (pv 9) pe_int (fun _ _ => rfl)) (pv 4) (nomark _)))))))
          (pss_one (ps_if (PW.pt (pw_and (pt_cmpR op_in_seq (pe_ix ix_tup (pv 9) pe_int (fun _ _ => rfl)) (pv 5) (by rfl)) (pw_and1 (PW.pt (pw_or (pt_cmpR op_isN (pe_ix ix_tup (pv 9) pe_int (fun _ _ => rfl)) pe_non (nomark _)) (pw_or1 (pt_cmpR op_lt (pe_ix ix_tup (pv 9) pe_int (fun _ _ => rfl)) (pv 6) (nomark _))))))))
            (pss_one (ps_expr (pe_bm PySem.F.plainAttrs_list PySem.F.slot_list_append PySem.F.type_list_append mt_append (pv 7) (pa_cons (pe_ix ix_tup (pv 8) pe_int (fun _ _ => rfl)) pa_nil))))
            pss_nil))
          pss_nil))))
        (pss_cons (ps_set (i := 10) sc_law_certified.nd rfl (Or.inl rfl) (pe_cmpR op_gt (pe_op op_mul pe_int (pe_call G_law_weight (hr.mono (by decide)) rfl T.d_law_weight.g T.d_law_weight.kp b_law_weight .nil pass0 (pa_cons (pv 0) (pa_cons (pv 7) pa_nil)))) (pe_op op_mul pe_int (pe_callB (cr_sum rfl) (by rfl) T.n_sum (by decide +kernel) (pa_cons (pv 0) pa_nil))) (nomark _)))
        (pss_cons (ps_if (pt_cmpR op_eq (pv 6) (pv 3) (nomark _))
        (pss_one (ps_ret (pv 10)))
        pss_nil)
        (pss_one (ps_if (pt_val (pv 10))
        (pss_one (ps_expr (pe_bm PySem.F.plainAttrs_list PySem.F.slot_list_append PySem.F.type_list_append mt_append (pv 5) (pa_cons (pv 6) pa_nil))))
        pss_nil)))))))
      (pss_one (ps_ret pe_bl)))), ?_⟩
    walk_at "rs"
    refine ⟨(by show 1 ≤ sizeLine; decide), fun pn hpn => ?_⟩
    walk_at "rs"
    refine ⟨(by show -(2 ^ 62 : Int) ≤ _; omega), (by show _ < (2 ^ 62 : Int); omega), ?_⟩
    refine for_range (lo := 0) (n := (tn + 1).toNat) (fun i σ H2 => ∃ v6 v7 v8 v9 v10 : Option V, σ = [some (.ref pw), some (.ref l), some (.int ht), some (.int tn), some (oS bb), some (.ref pn), v6, v7, v8, v9, v10] ∧ (i : Int) ≤ tn ∧ Same H H2 ∧ H2 pn = some (.lst (lnV (lns ws xs ht bb i))))
      ⟨_, _, _, _, _, rfl, by omega, same_new hpn, upd_same⟩ ?_ ?_
    · rintro i σ H2 hi ⟨v6, v7, v8, v9, v10, rfl, hit, s2, hn2⟩
      have e0 : (0 : Int) + (i : Int) = (i : Int) := Int.zero_add _
      rw [e0]
      have ll := lns_len ws xs ht bb i
      generalize eL : lns ws xs ht bb i = L at hn2 ll
      have hl2 := s2 _ _ hl
      have hx2 := hx.same s2
      walk_at "rs"
      refine ⟨(by show 0 ≤ sizeLine; decide), fun pm hpm => ?_⟩
      have s23 : Same H2 (upd H2 pm (.lst [])) := same_new hpm
      walk_at "rs"
      refine ⟨⟨_, SqL.of (s23 _ _ hl2)⟩, for_list (K := K) (a := l) (xs := ps.map V.ref) (fun j σ H3 => ∃ v8 v9 : Option V, σ = [some (.ref pw), some (.ref l), some (.int ht), some (.int tn), some (oS bb), some (.ref pn), some (.int (i : Int)), some (.ref pm), v8, v9, v10] ∧ Same H2 H3 ∧ H3 pm = some (.lst ((memM (xs.take j) ht i bb L).map V.int)))
        ⟨_, _, rfl, s23, upd_same⟩ (fun j σ H3 _ ⟨_, _, _, s3, _⟩ => SqL.of (s3 _ _ hl2)) ?_ ?_⟩
      · rintro j y σ H3 hy ⟨v8, v9, rfl, s3, hm3⟩
        have hj : j < ps.length := by
          have e := (List.getElem?_eq_some_iff.mp hy).1
          rwa [List.length_map] at e
        have hj' : j < xs.length := by
          rw [← hx.1]
          exact hj
        rw [at_refs hj] at hy
        cases hy
        obtain ⟨q, hp, hq⟩ := (hx2.2 j hj').same s3
        have ex : ∃ x, xs.getD j default = x := ⟨_, rfl⟩
        obtain ⟨x, ex⟩ := ex
        rw [ex] at hp hq
        have ml := mem_len (xs.take j) ht i bb L
        rw [List.length_take] at ml
        have no : cnt ht i bb L x = false → ∃ v8 v9 : Option V, [some (V.ref pw), some (.ref l), some (.int ht), some (.int tn), some (oS bb), some (.ref pn), some (.int (i : Int)), some (.ref pm), some (.ref (ps.getD j 0)), some (.ref q), v10] = [some (.ref pw), some (.ref l), some (.int ht), some (.int tn), some (oS bb), some (.ref pn), some (.int (i : Int)), some (.ref pm), v8, v9, v10] ∧ Same H2 H3 ∧ H3 pm = some (.lst ((memM (xs.take (j + 1)) ht i bb L).map V.int)) := fun c => ⟨_, _, rfl, s3, by
          rw [mem_no hj' (by rw [ex]; exact c)]
          exact hm3⟩
        walk_at "rs"
        refine ⟨_, _, _, _, rfl, rfl, SqT.of hp, rfl, ?_⟩
        walk_at "rs"
        refine ite2 (fun c1 => ?_) (fun c1 => ?_) <;> simp only [kpre, decide_eq_true_iff] at c1
        · walk_at "rs"
          refine ite2 (fun c2 => ?_) (fun c2 => ?_) <;> simp only [dec_int, beq_iff_eq] at c2
          · walk_at "rs"
            refine ite2 (fun c3 => ?_) (fun c3 => ?_) <;> simp only [dec_int, beq_iff_eq] at c3
            · walk_at "rs"
              refine ite2 (fun c4 => ?_) (fun c4 => ?_) <;> simp only [dec_oS, decide_eq_true_iff] at c4
              · have cT := cnt_t (L := L) ⟨c1, c2, c3, c4⟩
                have hn3 := s3 _ _ hn2
                have yes : cnt ht i bb L x = true → ∃ v8 v9 : Option V, [some (V.ref pw), some (.ref l), some (.int ht), some (.int tn), some (oS bb), some (.ref pn), some (.int (i : Int)), some (.ref pm), some (.ref (ps.getD j 0)), some (.ref q), v10] = [some (.ref pw), some (.ref l), some (.int ht), some (.int tn), some (oS bb), some (.ref pn), some (.int (i : Int)), some (.ref pm), v8, v9, v10] ∧ Same H2 (upd H3 pm (.lst ((memM (xs.take j) ht i bb L).map V.int ++ [V.int x.w]))) ∧
                    (upd H3 pm (.lst ((memM (xs.take j) ht i bb L).map V.int ++ [V.int x.w]))) pm = some (.lst ((memM (xs.take (j + 1)) ht i bb L).map V.int)) := fun c => ⟨_, _, rfl, same_upd s3 hpm, by
                  rw [upd_same, mem_yes hj' (by rw [ex]; exact c), ex]
                  simp⟩
                have fit : ((memM (xs.take j) ht i bb L).map V.int).length < sizeLine := by
                  rw [List.length_map]
                  exact small1000 (by omega)
                obtain ⟨xw, xk, xh, xt, xb, xl⟩ := x
                cases (show xk = .pre from c1)
                walk_at "rs"
                cases xl with
                | none =>
                  refine ⟨pn, _, rfl, .inl (SqL.of hn3), rfl, flat_lnV L, ?_⟩
                  walk_at "rs"
                  refine ⟨.inl ⟨rfl, _, SqL.of hm3⟩, ?_⟩
                  walk_at "rs"
                  refine ⟨_, _, _, _, rfl, rfl, SqT.of hp, rfl, ?_⟩
                  walk_at "rs"
                  refine ⟨pm, _, _, rfl, rfl, hm3, fit, ?_⟩
                  exact yes cT
                | some l0 =>
                  refine ⟨pn, _, rfl, .inl (SqL.of hn3), rfl, flat_lnV L, ?_⟩
                  rw [if_neg Bool.false_ne_true, inV_lnV (some l0)]
                  walk_at "rs"
                  refine ite2 (fun c5 => ?_) (fun c5 => ?_)
                  · have c5 : decide (l0 ∈ L) = true := c5
                    walk_at "rs"
                    refine ite2 (fun c6 => ?_) (fun c6 => ?_)
                    · walk_at "rs"
                      refine ⟨.inl ⟨rfl, _, SqL.of hm3⟩, ?_⟩
                      walk_at "rs"
                      refine ⟨_, _, _, _, rfl, rfl, SqT.of hp, rfl, ?_⟩
                      walk_at "rs"
                      refine ⟨pm, _, _, rfl, rfl, hm3, fit, ?_⟩
                      exact yes (cT.trans (show (decide (l0 ∈ L) && decide (l0 < (i : Int))) = true by rw [c5, c6]; rfl))
                    · exact no (cT.trans (show (decide (l0 ∈ L) && decide (l0 < (i : Int))) = false by rw [Bool.eq_false_iff.mpr c6, Bool.and_false]))
                  · exact no (cT.trans (show (decide (l0 ∈ L) && decide (l0 < (i : Int))) = false by rw [Bool.eq_false_iff.mpr (show ¬ decide (l0 ∈ L) = true from c5), Bool.false_and]))
              · exact no (cnt_f fun y => c4 y.2.2.2)
            · exact no (cnt_f fun y => c3 y.2.2.1)
          · exact no (cnt_f fun y => c2 y.2.1)
        · exact no (cnt_f fun y => c1 y.1)
      · rintro σ H3 ⟨v8, v9, rfl, s3, hm3⟩
        rw [List.length_map, hx.1, List.take_length] at hm3
        have hw3 := (s2.trans s3).seq hw
        have hn3 := s3 _ _ hn2
        walk_at "rs"
        refine ⟨pw, pm, ws, _, rfl, hw3, SqL.of hm3, wl, fun H4 s4 => ?_⟩
        walk_at "rs"
        refine ⟨pw, ws, rfl, s4.seq hw3, ?_⟩
        walk_at "rs"
        have cert : certM ws xs ht bb i = decide (2 * ws.sum < 3 * wOf ws (memM xs ht i bb L)) := by
          unfold certM
          rw [eL]
          rfl
        refine ite2 (fun c1 => ?_) (fun c1 => ?_) <;> simp only [dec_int, beq_iff_eq] at c1
        · walk_at "rs"
          have kk := k H4 (fun b o y => s4 _ _ (s3 _ _ (s2 _ _ y)))
          rw [show tn.toNat = i by omega, cert] at kk
          exact kk
        walk_at "rs"
        refine ite2 (fun c2 => ?_) (fun c2 => ?_)
        · walk_at "rs"
          refine ⟨.inl ⟨rfl, _, SqL.of (s4 _ _ hn3)⟩, ?_⟩
          walk_at "rs"
          refine ⟨pn, _, _, rfl, rfl, s4 _ _ hn3, by show (lnV L).length < sizeLine; rw [lnV, List.length_cons, List.length_map]; exact small1000 (by omega), ?_⟩
          refine ⟨_, _, _, _, _, rfl, by omega, same_upd (fun b o y => s4 _ _ (s3 _ _ (s2 _ _ y))) hpn, ?_⟩
          rw [upd_same, lns_yes (cert.trans c2), eL, lnV_snoc]
        · refine ⟨_, _, _, _, _, rfl, by omega, fun b o y => s4 _ _ (s3 _ _ (s2 _ _ y)), ?_⟩
          rw [s4 _ _ hn3, lns_no (fun y => c2 (cert.symm.trans y)), eL]
    · rintro σ H2 ⟨v6, v7, v8, v9, v10, rfl, hit, s2, hn2⟩
      exfalso
      omega

theorem ok_law_committed (T : Txt K mg a) : ∃ fd, FnOk P w K mg base CX0 3 a.d_law_committed fd ["weights", "letters", "height", "turn", "block"] (spLComm K) ∧ Binds K fd ["weights", "letters", "height", "turn", "block"] [] := by
  obtain ⟨fd, F, b⟩ := T.d_law_committed.F
  obtain ⟨fd_law_certified, G_law_certified, b_law_certified⟩ := ok_law_certified (P := P) (w := w) (base := base) T
  obtain ⟨fd_law_weight, G_law_weight, b_law_weight⟩ := ok_law_weight (P := P) (w := w) (base := base) T
  refine ⟨fd, F.ok sc_law_committed (fun vs H Q E h => ?_) (fun cdv A outer s H vs Q E hr h => ?_), b⟩
  · obtain ⟨_, _, _, _, _, _, _, _, rfl, _⟩ := h
    rfl
  · obtain ⟨pw, l, ws, ps, xs, ht, tn, bb, rfl, hw, wl, hl, hx, few, t0, t12, ob, okl, k⟩ := h
    refine ⟨_, (pss_cons (ps_set (i := 5) sc_law_committed.nd rfl (Or.inl rfl) (pe_lst pa_nil))
      (pss_cons (ps_for PassesOwn.never rfl (pi_list (pv 1)) (pg_name (i := 6) sc_law_committed.nd rfl (Or.inl rfl))
      (pss_one (ps_if (pt_cmpR (op_eqD hr.units) (pe_ix ix_tup (pv 6) pe_int (fun _ _ => rfl)) (pe_tup (pa_cons pe_str (pa_cons (pv 2) (pa_cons (pv 3) (pa_cons (pv 4) pa_nil))))) (nomark _))
        (pss_one (ps_expr (pe_bm PySem.F.plainAttrs_list PySem.F.slot_list_append PySem.F.type_list_append mt_append (pv 5) (pa_cons (pe_ix ix_tup (pv 6) pe_int (fun _ _ => rfl)) pa_nil))))
        pss_nil)))
      (pss_cons (ps_if (pt_cmpR op_le (pe_op op_mul pe_int (pe_call G_law_weight (hr.mono (by decide)) rfl T.d_law_weight.g T.d_law_weight.kp b_law_weight .nil pass0 (pa_cons (pv 0) (pa_cons (pv 5) pa_nil)))) (pe_op op_mul pe_int (pe_callB (cr_sum rfl) (by rfl) T.n_sum (by decide +kernel) (pa_cons (pv 0) pa_nil))) (nomark _))
      (pss_one (ps_ret pe_bl))
      pss_nil)
      (pss_one (ps_ret (pe_call G_law_certified (hr.mono (by decide)) rfl T.d_law_certified.g T.d_law_certified.kp b_law_certified .nil pass0 (pa_cons (pv 0) (pa_cons (pv 1) (pa_cons (pv 2) (pa_cons (pv 3) (pa_cons (pv 4) pa_nil))))))))))), ?_⟩
    walk_at "rs"
    refine ⟨(by show 0 ≤ sizeLine; decide), fun pm hpm => ?_⟩
    have s1 : Same H (upd H pm (.lst [])) := same_new hpm
    walk_at "rs"
    refine ⟨⟨_, SqL.of (s1 _ _ hl)⟩, for_list (K := K) (a := l) (xs := ps.map V.ref) (fun j σ H3 => ∃ v6 : Option V, σ = [some (.ref pw), some (.ref l), some (.int ht), some (.int tn), some (oS bb), some (.ref pm), v6] ∧ Same H H3 ∧ H3 pm = some (.lst ((comS (xs.take j) ht tn bb).map V.int)))
      ⟨_, rfl, s1, upd_same⟩ (fun j σ H3 _ ⟨_, _, s3, _⟩ => SqL.of (s3 _ _ hl)) ?_ ?_⟩
    · rintro j y σ H3 hy ⟨v6, rfl, s3, hm3⟩
      have hj : j < ps.length := by
        have e := (List.getElem?_eq_some_iff.mp hy).1
        rwa [List.length_map] at e
      have hj' : j < xs.length := by
        rw [← hx.1]
        exact hj
      rw [at_refs hj] at hy
      cases hy
      obtain ⟨q, hp, hq⟩ := (hx.2 j hj').same s3
      have ox := okl _ (getD_mem2 (d := default) hj')
      obtain ⟨x, ex⟩ : ∃ x, xs.getD j default = x := ⟨_, rfl⟩
      rw [ex] at hp hq ox
      have ml := com_len (xs.take j) ht tn bb
      rw [List.length_take] at ml
      walk_at "rs"
      refine ⟨_, _, _, _, rfl, rfl, SqT.of hp, rfl, ?_⟩
      walk_at "rs"
      refine ⟨(by show 4 ≤ sizeLine; decide), fun t ht1 => ?_⟩
      have s4 : Same H3 (upd H3 t (.tup [V.str "precommit", V.int ht, V.int tn, oS bb])) := same_new ht1
      have hq' : SmAt (upd H3 t (.tup [V.str "precommit", V.int ht, V.int tn, oS bb])) q x.m := s4 _ _ hq
      have ht' : (upd H3 t (.tup [V.str "precommit", V.int ht, V.int tn, oS bb])) t = some (.tup (Sm.vals ⟨.com, ht, tn, bb, none⟩)) := upd_same
      refine ⟨_, _, dp_sm hq', dp_sm ht', shaped_sm _ ox, shaped_sm ⟨.com, ht, tn, bb, none⟩ ob, ?_⟩
      rw [eqv_com]
      walk_at "rs"
      refine ite2 (fun c1 => ?_) (fun c1 => ?_)
      · have c1 := of_decide_eq_true c1
        walk_at "rs"
        refine ⟨.inl ⟨rfl, _, SqL.of (s4 _ _ hm3)⟩, ?_⟩
        walk_at "rs"
        refine ⟨_, _, _, _, rfl, rfl, SqT.of (s4 _ _ hp), rfl, ?_⟩
        walk_at "rs"
        refine ⟨pm, _, _, rfl, rfl, s4 _ _ hm3, by rw [List.length_map]; exact small1000 (by omega), ?_⟩
        exact ⟨_, rfl, same_upd (s3.trans s4) hpm, by
          rw [upd_same, com_yes hj' (by rw [ex]; exact c1), ex]
          simp⟩
      · have c1 : ¬ _ := fun y => c1 (decide_eq_true y)
        exact ⟨_, rfl, s3.trans s4, by
          rw [com_no hj' (by rw [ex]; exact c1)]
          exact s4 _ _ hm3⟩
    · rintro σ H3 ⟨v6, rfl, s3, hm3⟩
      rw [List.length_map, hx.1, List.take_length] at hm3
      have hw3 := s3.seq hw
      walk_at "rs"
      refine ⟨pw, pm, ws, _, rfl, hw3, SqL.of hm3, wl, fun H4 s4 => ?_⟩
      walk_at "rs"
      refine ⟨pw, ws, rfl, s4.seq hw3, ?_⟩
      walk_at "rs"
      unfold commM at k
      have te : ((tn.toNat : Nat) : Int) = tn := by omega
      rw [te] at k
      refine ite2 (fun c1 => ?_) (fun c1 => ?_)
      · walk_at "rs"
        have kk := k H4 (fun b o y => s4 _ _ (s3 _ _ y))
        have c2 := of_decide_eq_true c1
        rw [show qrm ws (comS xs ht tn bb) = false from decide_eq_false (by omega), Bool.false_and] at kk
        exact kk
      walk_at "rs"
      have c2 : ¬ 3 * wOf ws (comS xs ht tn bb) ≤ 2 * ws.sum := fun y => c1 (decide_eq_true y)
      rw [show qrm ws (comS xs ht tn bb) = true from decide_eq_true (by omega), Bool.true_and] at k
      exact ⟨pw, l, ws, ps, xs, ht, tn, bb, rfl, s4.seq hw3, wl, s4 _ _ (s3 _ _ hl), (hx.same s3).same s4, few, t0, t12, fun H5 s5 => k H5 (fun b o y => s5 _ _ (s4 _ _ (s3 _ _ y)))⟩

theorem ok_law_planted (T : Txt K mg a) : ∃ fd, FnOk P w K mg base CX0 2 a.d_law_planted fd ["cell", "size"] (spPlanted K) ∧ Binds K fd ["cell", "size"] [] := by
  obtain ⟨fd, F, b⟩ := T.d_law_planted.F
  obtain ⟨fd_law_row, G_law_row, b_law_row⟩ := ok_law_row (P := P) (w := w) (base := base) T
  refine ⟨fd, F.ok sc_law_planted (fun vs H Q E h => ?_) (fun cdv A outer s H vs Q E hr h => ?_), b⟩
  · obtain ⟨_, _, rfl, _⟩ := h
    rfl
  · obtain ⟨cell, size, rfl, z0, z16, kk⟩ := h
    refine ⟨_, (pss_cons (ps_set (i := 2) sc_law_planted.nd rfl (Or.inl rfl) (pe_call G_law_row (hr.mono (by decide)) rfl T.d_law_row.g T.d_law_row.kp b_law_row .nil pass0 (pa_cons (pv 0) (pa_cons (pe_op op_add (pe_op op_mul pe_int (pv 1)) pe_int) (pa_cons pe_int pa_nil)))))
      (pss_cons (ps_set (i := 3) sc_law_planted.nd rfl (Or.inl rfl) (pe_lst pa_nil))
      (pss_cons (ps_set (i := 4) sc_law_planted.nd rfl (Or.inl rfl) (pe_op op_mod (pe_callTy call_int1 (by rfl) T.n_int (by decide +kernel) (pa_cons (pe_ix ix_list (pv 2) pe_int (fun _ _ => rfl)) pa_nil)) pe_int))
      (pss_cons (ps_set (i := 5) sc_law_planted.nd rfl (Or.inl rfl) (pe_op op_add (pv 4) (pe_op op_mod (pe_callTy call_int1 (by rfl) T.n_int (by decide +kernel) (pa_cons (pe_ix ix_list (pv 2) pe_int (fun _ _ => rfl)) pa_nil)) pe_int)))
      (pss_cons (ps_set (i := 6) sc_law_planted.nd rfl (Or.inl rfl) (pe_op op_mod (pe_callTy call_int1 (by rfl) T.n_int (by decide +kernel) (pa_cons (pe_ix ix_list (pv 2) pe_int (fun _ _ => rfl)) pa_nil)) pe_int))
      (pss_cons (ps_for PassesOwn.never rfl (pi_range1 rfl T.n_range (pa_cons (pv 1) pa_nil)) (pg_name (i := 7) sc_law_planted.nd rfl (Or.inl rfl))
      (C8.pss_cut (ps_if (pt_cmpR op_ne (pe_op op_mod (pe_callTy call_int1 (by rfl) T.n_int (by decide +kernel) (pa_cons (pe_ix ix_list (pv 2) (pe_op op_add pe_int (pv 7)) (fun _ _ => rfl)) pa_nil)) pe_int) pe_int (nomark _))
        (pss_cons (ps_expr (pe_bm PySem.F.plainAttrs_list PySem.F.slot_list_append PySem.F.type_list_append mt_append (pv 3) (pa_cons (pe_tup (pa_cons (pv 7) (pa_cons (pe_tup (pa_cons pe_str (pa_cons pe_int (pa_cons (pv 4) (pa_cons pe_str (pa_cons pe_non pa_nil)))))) pa_nil))) pa_nil)))
          (pss_one (ps_expr (pe_bm PySem.F.plainAttrs_list PySem.F.slot_list_append PySem.F.type_list_append mt_append (pv 3) (pa_cons (pe_tup (pa_cons (pv 7) (pa_cons (pe_tup (pa_cons pe_str (pa_cons pe_int (pa_cons (pv 4) (pa_cons pe_str pa_nil))))) pa_nil))) pa_nil)))))
        pss_nil)
        (pss_one (ps_if (pt_cmpR op_ne (pe_op op_mod (pe_callTy call_int1 (by rfl) T.n_int (by decide +kernel) (pa_cons (pe_ix ix_list (pv 2) (pe_op op_add (pe_op op_add pe_int (pv 1)) (pv 7)) (fun _ _ => rfl)) pa_nil)) pe_int) pe_int (nomark _))
        (C8.pss_cut (ps_if (PW.pt (pw_and (pt_cmpR op_gt (pv 5) (pv 4) (nomark _)) (pw_and1 (pt_cmpR op_eq (pv 6) pe_int (nomark _)))))
          (pss_cons (ps_expr (pe_bm PySem.F.plainAttrs_list PySem.F.slot_list_append PySem.F.type_list_append mt_append (pv 3) (pa_cons (pe_tup (pa_cons (pv 7) (pa_cons (pe_tup (pa_cons pe_str (pa_cons pe_int (pa_cons (pv 4) (pa_cons pe_str (pa_cons pe_non pa_nil)))))) pa_nil))) pa_nil)))
            (pss_one (ps_expr (pe_bm PySem.F.plainAttrs_list PySem.F.slot_list_append PySem.F.type_list_append mt_append (pv 3) (pa_cons (pe_tup (pa_cons (pv 7) (pa_cons (pe_tup (pa_cons pe_str (pa_cons pe_int (pa_cons (pv 5) (pa_cons pe_str (pa_cons (pv 4) pa_nil)))))) pa_nil))) pa_nil)))))
          (pss_one (ps_expr (pe_bm PySem.F.plainAttrs_list PySem.F.slot_list_append PySem.F.type_list_append mt_append (pv 3) (pa_cons (pe_tup (pa_cons (pv 7) (pa_cons (pe_tup (pa_cons pe_str (pa_cons pe_int (pa_cons (pv 5) (pa_cons pe_str (pa_cons pe_non pa_nil)))))) pa_nil))) pa_nil)))))
          (pss_one (ps_expr (pe_bm PySem.F.plainAttrs_list PySem.F.slot_list_append PySem.F.type_list_append mt_append (pv 3) (pa_cons (pe_tup (pa_cons (pv 7) (pa_cons (pe_tup (pa_cons pe_str (pa_cons pe_int (pa_cons (pv 5) (pa_cons pe_str pa_nil))))) pa_nil))) pa_nil)))))
        pss_nil))))
      (pss_one (ps_ret (pv 3))))))))), ?_⟩
    walk_at "rs"
    refine ⟨_, _, _, rfl, by omega, by omega, by decide, by decide, fun pd row H1 s1 hrow rlen hb hpd => ?_⟩
    walk_at "rs"
    refine ⟨(by show 0 ≤ sizeLine; decide), fun pl hpl => ?_⟩
    have I0 : PL H (upd H1 pl (.lst [])) pl size 0 [] [] := PL.start s1 hpl
    have npd := ne_of_none hrow hpl
    have hrow0 : (upd H1 pl (.lst [])) pd = some (.lst (row.map V.int)) := (same_new hpl) _ _ hrow
    walk_at "rs"
    refine ⟨pd, _, _, .int (row.getD 0 0), rfl, rfl, SqL.of hrow0, at_of (j := 0) rfl (at_ints (by omega)), ?_⟩
    walk_at "rs"
    refine ⟨pd, _, _, .int (row.getD 1 0), rfl, rfl, SqL.of hrow0, at_of (j := 1) rfl (at_ints (by omega)), ?_⟩
    walk_at "rs"
    refine ⟨pd, _, _, .int (row.getD 2 0), rfl, rfl, SqL.of hrow0, at_of (j := 2) rfl (at_ints (by omega)), ?_⟩
    walk_at "rs"
    refine ⟨(by show -(2 ^ 62 : Int) ≤ _; omega), (by show _ < (2 ^ 62 : Int); omega), ?_⟩
    have y0 : 0 ≤ row.getD 0 0 % 3 := Int.emod_nonneg _ (by decide)
    have y3 : row.getD 0 0 % 3 < 3 := Int.emod_lt_of_pos _ (by decide)
    have d0 : 0 ≤ row.getD 1 0 % 2 := Int.emod_nonneg _ (by decide)
    have d2 : row.getD 1 0 % 2 < 2 := Int.emod_lt_of_pos _ (by decide)
    refine for_range (lo := 0) (n := size.toNat) (fun i σ H2 => ∃ v7 : Option V, σ = [some (.int cell), some (.int size), some (.ref pd), some (.ref pl), some (.int (row.getD 0 0 % 3)), some (.int (row.getD 0 0 % 3 + row.getD 1 0 % 2)), some (.int (row.getD 2 0 % 3)), v7] ∧ ∃ ps xs, PL H H2 pl size (5 * i) ps xs ∧ H2 pd = some (.lst (row.map V.int))) ⟨_, rfl, [], [], I0, hrow0⟩ ?_ ?_
    · rintro k σ H2 hi ⟨v7, rfl, ps, xs, I, hrow2⟩
      have e0 : (0 : Int) + (k : Int) = (k : Int) := Int.zero_add _
      rw [e0]
      walk_at "rs"
      refine ⟨fun σ' H' => σ' = [some (.int cell), some (.int size), some (.ref pd), some (.ref pl), some (.int (row.getD 0 0 % 3)), some (.int (row.getD 0 0 % 3 + row.getD 1 0 % 2)), some (.int (row.getD 2 0 % 3)), some (.int (k : Int))] ∧ ∃ ps xs, PL H H' pl size (5 * k + 2) ps xs ∧ H' pd = some (.lst (row.map V.int)), ?_, ?_⟩
      · walk_at "rs"
        refine ⟨pd, _, _, .int (row.getD (8 + k) 0), rfl, rfl, SqL.of hrow2, at_of (j := 8 + k) (by show (8 : Int) + (k : Int) = _; omega) (at_ints (by omega)), ?_⟩
        walk_at "rs"
        refine ite2 (fun c1 => ?_) (fun c1 => ?_)
        · walk_at "rs"
          refine ⟨.inl ⟨rfl, _, SqL.of I.at'⟩, ?_⟩
          walk_at "rs"
          refine ⟨(by show 5 ≤ sizeLine; decide), fun qI1 hqI1 => ?_⟩
          refine ⟨(by show 2 ≤ sizeLine; decide), fun tI1 htI1 => ?_⟩
          obtain ⟨ltI1, sI1⟩ := lt_new (w := (k : Int)) (m := ⟨.pre, 0, row.getD 0 0 % 3, some "a", none⟩) hqI1 rfl htI1
          have JI1 := I.go sI1
          refine ⟨pl, _, _, rfl, rfl, JI1.at', JI1.fit (by omega), ?_⟩
          have I1 := JI1.push ltI1 ⟨okA, (by show (0 : Int) ≤ (k : Int); omega), (by show (k : Int) < size; omega), rfl, fun z => (nomatch z), (by show (0 : Int) ≤ row.getD 0 0 % 3; omega), (by show row.getD 0 0 % 3 < (4 : Int); omega)⟩
          walk_at "rs"
          refine ⟨.inl ⟨rfl, _, SqL.of I1.at'⟩, ?_⟩
          walk_at "rs"
          refine ⟨(by show 4 ≤ sizeLine; decide), fun qI2 hqI2 => ?_⟩
          refine ⟨(by show 2 ≤ sizeLine; decide), fun tI2 htI2 => ?_⟩
          obtain ⟨ltI2, sI2⟩ := lt_new (w := (k : Int)) (m := ⟨.com, 0, row.getD 0 0 % 3, some "a", none⟩) hqI2 rfl htI2
          have JI2 := I1.go sI2
          refine ⟨pl, _, _, rfl, rfl, JI2.at', JI2.fit (by omega), ?_⟩
          have I2 := JI2.push ltI2 ⟨okA, (by show (0 : Int) ≤ (k : Int); omega), (by show (k : Int) < size; omega), rfl, fun z => (nomatch z), (by show (0 : Int) ≤ row.getD 0 0 % 3; omega), (by show row.getD 0 0 % 3 < (4 : Int); omega)⟩
          walk_at "rs"
          exact ⟨_, _, I2.more (by omega), upd_row npd (sI2 _ _ (upd_row npd (sI1 _ _ hrow2)))⟩
        · exact ⟨rfl, _, _, I.more (by omega), hrow2⟩
      · clear I hrow2
        rintro σ' H3 ⟨rfl, ps, xs, I, hrow2⟩
        walk_at "rs"
        refine ⟨pd, _, _, .int (row.getD (8 + size.toNat + k) 0), rfl, rfl, SqL.of hrow2, at_of (j := 8 + size.toNat + k) (by show (8 : Int) + size + (k : Int) = _; omega) (at_ints (by omega)), ?_⟩
        walk_at "rs"
        refine ite2 (fun c1 => ?_) (fun c1 => ?_)
        · walk_at "rs"
          refine ⟨fun σ' H' => σ' = [some (.int cell), some (.int size), some (.ref pd), some (.ref pl), some (.int (row.getD 0 0 % 3)), some (.int (row.getD 0 0 % 3 + row.getD 1 0 % 2)), some (.int (row.getD 2 0 % 3)), some (.int (k : Int))] ∧ ∃ ps xs, PL H H' pl size (5 * k + 4) ps xs ∧ H' pd = some (.lst (row.map V.int)), ?_, ?_⟩
          · walk_at "rs"
            refine ite2 (fun c2 => ?_) (fun c2 => ?_)
            · walk_at "rs"
              refine ite2 (fun c3 => ?_) (fun c3 => ?_)
              · walk_at "rs"
                refine ⟨.inl ⟨rfl, _, SqL.of I.at'⟩, ?_⟩
                walk_at "rs"
                refine ⟨(by show 5 ≤ sizeLine; decide), fun qI1 hqI1 => ?_⟩
                refine ⟨(by show 2 ≤ sizeLine; decide), fun tI1 htI1 => ?_⟩
                obtain ⟨ltI1, sI1⟩ := lt_new (w := (k : Int)) (m := ⟨.pre, 0, row.getD 0 0 % 3, some "b", none⟩) hqI1 rfl htI1
                have JI1 := I.go sI1
                refine ⟨pl, _, _, rfl, rfl, JI1.at', JI1.fit (by omega), ?_⟩
                have I1 := JI1.push ltI1 ⟨okB, (by show (0 : Int) ≤ (k : Int); omega), (by show (k : Int) < size; omega), rfl, fun z => (nomatch z), (by show (0 : Int) ≤ row.getD 0 0 % 3; omega), (by show row.getD 0 0 % 3 < (4 : Int); omega)⟩
                walk_at "rs"
                refine ⟨.inl ⟨rfl, _, SqL.of I1.at'⟩, ?_⟩
                walk_at "rs"
                refine ⟨(by show 5 ≤ sizeLine; decide), fun qI2 hqI2 => ?_⟩
                refine ⟨(by show 2 ≤ sizeLine; decide), fun tI2 htI2 => ?_⟩
                obtain ⟨ltI2, sI2⟩ := lt_new (w := (k : Int)) (m := ⟨.pre, 0, row.getD 0 0 % 3 + row.getD 1 0 % 2, some "b", some (row.getD 0 0 % 3)⟩) hqI2 rfl htI2
                have JI2 := I1.go sI2
                refine ⟨pl, _, _, rfl, rfl, JI2.at', JI2.fit (by omega), ?_⟩
                have I2 := JI2.push ltI2 ⟨okB, (by show (0 : Int) ≤ (k : Int); omega), (by show (k : Int) < size; omega), rfl, fun z => (nomatch z), (by show (0 : Int) ≤ row.getD 0 0 % 3 + row.getD 1 0 % 2; omega), (by show row.getD 0 0 % 3 + row.getD 1 0 % 2 < (4 : Int); omega)⟩
                walk_at "rs"
                exact ⟨_, _, I2.more (by omega), upd_row npd (sI2 _ _ (upd_row npd (sI1 _ _ hrow2)))⟩
              · walk_at "rs"
                refine ⟨.inl ⟨rfl, _, SqL.of I.at'⟩, ?_⟩
                walk_at "rs"
                refine ⟨(by show 5 ≤ sizeLine; decide), fun qI1 hqI1 => ?_⟩
                refine ⟨(by show 2 ≤ sizeLine; decide), fun tI1 htI1 => ?_⟩
                obtain ⟨ltI1, sI1⟩ := lt_new (w := (k : Int)) (m := ⟨.pre, 0, row.getD 0 0 % 3 + row.getD 1 0 % 2, some "b", none⟩) hqI1 rfl htI1
                have JI1 := I.go sI1
                refine ⟨pl, _, _, rfl, rfl, JI1.at', JI1.fit (by omega), ?_⟩
                have I1 := JI1.push ltI1 ⟨okB, (by show (0 : Int) ≤ (k : Int); omega), (by show (k : Int) < size; omega), rfl, fun z => (nomatch z), (by show (0 : Int) ≤ row.getD 0 0 % 3 + row.getD 1 0 % 2; omega), (by show row.getD 0 0 % 3 + row.getD 1 0 % 2 < (4 : Int); omega)⟩
                walk_at "rs"
                exact ⟨_, _, I1.more (by omega), upd_row npd (sI1 _ _ hrow2)⟩
            · walk_at "rs"
              refine ⟨.inl ⟨rfl, _, SqL.of I.at'⟩, ?_⟩
              walk_at "rs"
              refine ⟨(by show 5 ≤ sizeLine; decide), fun qI1 hqI1 => ?_⟩
              refine ⟨(by show 2 ≤ sizeLine; decide), fun tI1 htI1 => ?_⟩
              obtain ⟨ltI1, sI1⟩ := lt_new (w := (k : Int)) (m := ⟨.pre, 0, row.getD 0 0 % 3 + row.getD 1 0 % 2, some "b", none⟩) hqI1 rfl htI1
              have JI1 := I.go sI1
              refine ⟨pl, _, _, rfl, rfl, JI1.at', JI1.fit (by omega), ?_⟩
              have I1 := JI1.push ltI1 ⟨okB, (by show (0 : Int) ≤ (k : Int); omega), (by show (k : Int) < size; omega), rfl, fun z => (nomatch z), (by show (0 : Int) ≤ row.getD 0 0 % 3 + row.getD 1 0 % 2; omega), (by show row.getD 0 0 % 3 + row.getD 1 0 % 2 < (4 : Int); omega)⟩
              walk_at "rs"
              exact ⟨_, _, I1.more (by omega), upd_row npd (sI1 _ _ hrow2)⟩
          · clear I hrow2
            rintro σ' H4 ⟨rfl, ps, xs, I, hrow2⟩
            walk_at "rs"
            refine ⟨.inl ⟨rfl, _, SqL.of I.at'⟩, ?_⟩
            walk_at "rs"
            refine ⟨(by show 4 ≤ sizeLine; decide), fun qI1 hqI1 => ?_⟩
            refine ⟨(by show 2 ≤ sizeLine; decide), fun tI1 htI1 => ?_⟩
            obtain ⟨ltI1, sI1⟩ := lt_new (w := (k : Int)) (m := ⟨.com, 0, row.getD 0 0 % 3 + row.getD 1 0 % 2, some "b", none⟩) hqI1 rfl htI1
            have JI1 := I.go sI1
            refine ⟨pl, _, _, rfl, rfl, JI1.at', JI1.fit (by omega), ?_⟩
            have I1 := JI1.push ltI1 ⟨okB, (by show (0 : Int) ≤ (k : Int); omega), (by show (k : Int) < size; omega), rfl, fun z => (nomatch z), (by show (0 : Int) ≤ row.getD 0 0 % 3 + row.getD 1 0 % 2; omega), (by show row.getD 0 0 % 3 + row.getD 1 0 % 2 < (4 : Int); omega)⟩
            walk_at "rs"
            exact ⟨_, _, I1.more (by omega), upd_row npd (sI1 _ _ hrow2)⟩
        · exact ⟨_, rfl, _, _, I.more (by omega), hrow2⟩
    · rintro σ H2 ⟨v7, rfl, ps, xs, I, hrow2⟩
      walk_at "rs"
      exact kk pl ps xs H2 I.same I.at' I.ls I.few I.good I.free

theorem hu65 {k : Nat} {A : Around} (r : Room k A) : A.units + 65 < cLine := by
  have := r.un
  omega
theorem good_pos {ws : List Int} (gw : GoodW ws) (k : Nat) : 0 ≤ ws.getD k 0 := by
  rcases Nat.lt_or_ge k ws.length with h | h
  · have := gw.2.2 _ (getD_mem h)
    omega
  · rw [List.getD_eq_getElem?_getD, List.getElem?_eq_none h]
    exact Int.le_refl _
theorem wt_mono2 {ws : List Int} {f g : Int → Bool} (pos : ∀ k : Nat, 0 ≤ ws.getD k 0) (h : ∀ k : Int, f k = true → g k = true) : ∀ n, wt ws f n ≤ wt ws g n
  | 0 => Int.le_refl _
  | n + 1 => by
    have ih := wt_mono2 pos h n
    have p := pos n
    have q := h n
    rw [wt_succ, wt_succ]
    cases e : f (n : Int) with
    | true =>
      rw [q e, if_pos rfl]
      omega
    | false =>
      rw [if_neg Bool.false_ne_true]
      split <;> omega
theorem qrm_mono {ws ms ns : List Int} (pos : ∀ k : Nat, 0 ≤ ws.getD k 0) (h : ∀ k ∈ ms, k ∈ ns) (q : qrm ws ms = true) : qrm ws ns = true := by
  have q := of_decide_eq_true q
  have : wOf ws ms ≤ wOf ws ns := wt_mono2 pos (fun k hk => decide_eq_true (h k (of_decide_eq_true hk))) _
  exact decide_eq_true (by omega)
theorem mem_mono {xs ys : List Lt} {h t : Int} {b : Option Str} {L M : List Int} (hxy : ∀ x ∈ xs, x ∈ ys) (hL : ∀ k ∈ L, k ∈ M) : ∀ k ∈ memM xs h t b L, k ∈ memM ys h t b M := fun k hk => by
  unfold memM at hk ⊢
  obtain ⟨x, hx, rfl⟩ := List.mem_map.mp hk
  obtain ⟨h1, h2⟩ := List.mem_filter.mp hx
  refine List.mem_map.mpr ⟨x, List.mem_filter.mpr ⟨hxy x h1, ?_⟩, rfl⟩
  unfold cnt at h2 ⊢
  rw [Bool.and_eq_true_iff] at h2 ⊢
  refine ⟨h2.1, ?_⟩
  have h3 := h2.2
  cases e : x.m.l with
  | none => rfl
  | some l =>
    rw [e] at h3
    have h3 : (decide (l ∈ L) && decide (l < t)) = true := h3
    rw [Bool.and_eq_true_iff] at h3
    show (decide (l ∈ M) && decide (l < t)) = true
    rw [decide_eq_true (hL l (of_decide_eq_true h3.1)), h3.2]
    rfl
theorem lns_mono {ws : List Int} {xs ys : List Lt} {h : Int} {b : Option Str} (pos : ∀ k : Nat, 0 ≤ ws.getD k 0) (hxy : ∀ x ∈ xs, x ∈ ys) : ∀ n, ∀ k ∈ lns ws xs h b n, k ∈ lns ws ys h b n
  | 0, k, hk => hk
  | n + 1, k, hk => by
    have ih := lns_mono (h := h) (b := b) pos hxy n
    by_cases c : certM ws xs h b n = true
    · have c2 : certM ws ys h b n = true := qrm_mono pos (mem_mono hxy ih) c
      rw [lns_yes c] at hk
      rw [lns_yes c2]
      rcases List.mem_append.mp hk with hk | hk
      · exact List.mem_append_left _ (ih k hk)
      · exact List.mem_append_right _ hk
    · rw [lns_no c] at hk
      by_cases c2 : certM ws ys h b n = true
      · rw [lns_yes c2]
        exact List.mem_append_left _ (ih k hk)
      · rw [lns_no c2]
        exact ih k hk
theorem comm_mono {ws : List Int} {xs ys : List Lt} {h : Int} {b : Option Str} {n : Nat} (pos : ∀ k : Nat, 0 ≤ ws.getD k 0) (hxy : ∀ x ∈ xs, x ∈ ys) (c : commM ws xs h b n = true) : commM ws ys h b n = true := by
  unfold commM at c ⊢
  rw [Bool.and_eq_true_iff] at c ⊢
  refine ⟨qrm_mono pos (fun k hk => ?_) c.1, qrm_mono pos (mem_mono hxy (lns_mono pos hxy n)) c.2⟩
  unfold comS at hk ⊢
  obtain ⟨x, hx, rfl⟩ := List.mem_map.mp hk
  obtain ⟨h1, h2⟩ := List.mem_filter.mp hx
  exact List.mem_map.mpr ⟨x, List.mem_filter.mpr ⟨hxy x h1, h2⟩, rfl⟩
theorem sh_some {ws : List Int} {xs : List Lt} {h : Int} {b : Str} : shM ws xs h (some b) = true ↔ ∃ t : Nat, t < 60 ∧ commM ws xs h (some b) t = true := by
  have key : ∀ u, u ∈ cmL ws xs h (some b) ↔ (0 ≤ u ∧ u < 60) ∧ commM ws xs h (some b) u.toNat = true := fun u => by
    show u ∈ (lns ws xs h (some b) 60).filter (fun t => qrm ws (comS xs h t (some b))) ↔ _
    rw [List.mem_filter, mem_lnsI]
    unfold commM
    rw [Bool.and_eq_true_iff]
    constructor
    · rintro ⟨⟨h1, h2, h3⟩, h4⟩
      have et : ((u.toNat : Nat) : Int) = u := Int.toNat_of_nonneg h1
      rw [et]
      exact ⟨⟨h1, h2⟩, h4, h3⟩
    · rintro ⟨⟨h1, h2⟩, h4, h3⟩
      have et : ((u.toNat : Nat) : Int) = u := Int.toNat_of_nonneg h1
      rw [et] at h4
      exact ⟨⟨h1, h2, h3⟩, h4⟩
  unfold shM
  constructor
  · intro z
    cases e : cmL ws xs h (some b) with
    | nil => rw [e] at z; cases z
    | cons y ys =>
      have := (key y).mp (by rw [e]; exact List.mem_cons_self)
      exact ⟨y.toNat, by omega, this.2⟩
  · rintro ⟨t, ht, c⟩
    have := (key (t : Int)).mpr ⟨⟨by omega, by omega⟩, by rw [Int.toNat_natCast]; exact c⟩
    cases e : cmL ws xs h (some b) with
    | nil => rw [e] at this; cases this
    | cons y ys => rfl
theorem sh_four {ws : List Int} {xs : List Lt} {h : Int} {b : Str} (g : GoodW ws) (four : ∀ x ∈ xs, 0 ≤ x.m.t ∧ x.m.t < 4) : shM ws xs h (some b) = true ↔ ∃ t : Nat, t < 5 ∧ commM ws xs h (some b) t = true := by
  rw [sh_some]
  constructor
  · rintro ⟨t, _, c⟩
    refine ⟨t, ?_, c⟩
    refine Nat.lt_of_not_le fun z => ?_
    have : certM ws xs h (some b) t = false := cert_none g (fun z => nomatch z) fun ⟨x, hx, y⟩ => by
      have h1 := inT_t y
      have h2 := four x hx
      omega
    unfold commM at c
    rw [this, Bool.and_false] at c
    cases c
  · rintro ⟨t, h1, c⟩
    exact ⟨t, by omega, c⟩
theorem OkL.app {xs ys : List Lt} (h : OkL xs) (g : OkL ys) : OkL (xs ++ ys) := fun y hy => (List.mem_append.mp hy).elim (h y) (g y)
theorem ok_law_commits (T : Txt K mg a) : ∃ fd, FnOk P w K mg base CX0 4 a.d_law_commits fd ["weights", "block", "letters"] (spCommits K) ∧ Binds K fd ["weights", "block", "letters"] [] := by
  obtain ⟨fd, F, b⟩ := T.d_law_commits.F
  obtain ⟨fd_law_committed, G_law_committed, b_law_committed⟩ := ok_law_committed (P := P) (w := w) (base := base) T
  refine ⟨fd, F.ok sc_law_commits (fun vs H Q E h => ?_) (fun cdv A outer s H vs Q E hr h => ?_), b⟩
  · obtain ⟨_, _, _, _, _, _, rfl, _⟩ := h
    rfl
  · obtain ⟨pw, l, ws, b, ps, xs, rfl, hw, gw, hl, hx, few, ob, ok, four, k⟩ := h
    refine ⟨_, (pss_cons (ps_for PassesOwn.never rfl (pi_range1 rfl T.n_range (pa_cons pe_int pa_nil)) (pg_name (i := 3) sc_law_commits.nd rfl (Or.inl rfl))
      (pss_one (ps_if (pt_val (pe_call G_law_committed (hr.mono (by decide)) rfl T.d_law_committed.g T.d_law_committed.kp b_law_committed .nil pass0 (pa_cons (pv 0) (pa_cons (pv 2) (pa_cons pe_int (pa_cons (pv 3) (pa_cons (pv 1) pa_nil)))))))
        (pss_one (ps_ret pe_bl))
        pss_nil)))
      (pss_one (ps_ret pe_bl))), ?_⟩
    walk_at "rs"
    refine ⟨(by decide), (by decide), ?_⟩
    refine for_range (lo := 0) (n := (5 : Int).toNat) (fun i σ H2 => ∃ v3 : Option V, σ = [some (.ref pw), some (.str b), some (.ref l), v3] ∧ Same H H2 ∧ ∀ t : Nat, t < i → commM ws xs 0 (some b) t = false) ⟨_, rfl, Same.refl H, fun t ht => absurd ht (Nat.not_lt_zero _)⟩ ?_ ?_
    · rintro i σ H2 hi ⟨v3, rfl, s2, no⟩
      have i5 : i < 5 := hi
      have e0 : (0 : Int) + (i : Int) = (i : Int) := Int.zero_add _
      rw [e0]
      walk_at "rs"
      refine ⟨pw, l, ws, ps, xs, 0, _, some b, rfl, s2.seq hw, gw.2.1, s2 _ _ hl, hx.same s2, few, by omega, by omega, ob, ok, fun H3 s3 => ?_⟩
      rw [Int.toNat_natCast]
      walk_at "rs"
      refine ite2 (fun c1 => ?_) (fun c1 => ?_)
      · walk_at "rs"
        have k1 := k H3 (s2.trans s3)
        rw [(sh_four gw four).mpr ⟨i, i5, c1⟩] at k1
        exact k1
      · refine ⟨_, rfl, s2.trans s3, fun t ht => ?_⟩
        rcases Nat.lt_or_ge t i with z | z
        · exact no t z
        · have : t = i := by omega
          rw [this]
          simpa using c1
    · rintro σ H2 ⟨v3, rfl, s2, no⟩
      walk_at "rs"
      have k1 := k H2 s2
      have e : shM ws xs 0 (some b) = false := by
        cases q : shM ws xs 0 (some b) with
        | false => rfl
        | true =>
          obtain ⟨t, h1, h2⟩ := (sh_four gw four).mp q
          rw [no t h1] at h2
          cases h2
      rw [e] at k1
      exact k1

theorem ok_law {f : Addr} {fd : FuncData} (F : Fun K "law" "law" s_law f fd) (TE : TxtE K mg a) (T : Txt K mg a) : FnOk P w K mg base CX0 8 f fd ["script"] (spLaw K) := by
  obtain ⟨fd_law_weights, G_law_weights, b_law_weights⟩ := ok_law_weights (P := P) (w := w) (base := base) T
  obtain ⟨fd_law_planted, G_law_planted, b_law_planted⟩ := ok_law_planted (P := P) (w := w) (base := base) T
  obtain ⟨fd_law_cell, G_law_cell, b_law_cell⟩ := ok_law_cell (P := P) (w := w) (base := base) T
  obtain ⟨fd_law_commits, G_law_commits, b_law_commits⟩ := ok_law_commits (P := P) (w := w) (base := base) T
  obtain ⟨fd_accuse, G_accuse, b_accuse⟩ := ok_accuse (P := P) (w := w) (base := base) TE T
  obtain ⟨fd_Committee_init, G_Committee_init, b_Committee_init⟩ := ok_Committee_init (P := P) (w := w) (base := base) T
  obtain ⟨fd_law_clash, G_law_clash, b_law_clash⟩ := ok_law_clash (P := P) (w := w) (base := base) T
  obtain ⟨fd_law_weight, G_law_weight, b_law_weight⟩ := ok_law_weight (P := P) (w := w) (base := base) T
  refine F.ok sc_law (fun vs H Q E h => ?_) (fun cdv A outer s H vs Q E hr h => ?_)
  · obtain ⟨_, _, rfl, _⟩ := h
    rfl
  · obtain ⟨l, ns, rfl, hS, hl, k⟩ := h
    refine ⟨_, (pss_cons (ps_set (i := 1) sc_law.nd rfl (Or.inl rfl) (pe_call G_law_weights (hr.mono (by decide)) rfl T.d_law_weights.g T.d_law_weights.kp b_law_weights .nil pass0 (pa_cons (pe_call G_law_cell (hr.mono (by decide)) rfl T.d_law_cell.g T.d_law_cell.kp b_law_cell .nil pass0 (pa_cons (pv 0) (pa_cons pe_int pa_nil))) (pa_cons pe_int pa_nil))))
      (pss_cons (ps_set (i := 2) sc_law.nd rfl (Or.inl rfl) (pe_call G_law_planted (hr.mono (by decide)) rfl T.d_law_planted.g T.d_law_planted.kp b_law_planted .nil pass0 (pa_cons (pe_call G_law_cell (hr.mono (by decide)) rfl T.d_law_cell.g T.d_law_cell.kp b_law_cell .nil pass0 (pa_cons (pv 0) (pa_cons pe_int pa_nil))) (pa_cons (pe_callB call_len_seq (by rfl) T.n_len PySem.boot_len (pa_cons (pv 1) pa_nil)) pa_nil))))
      (pss_cons (ps_set (i := 3) sc_law.nd rfl (Or.inl rfl) (pe_call G_law_cell (hr.mono (by decide)) rfl T.d_law_cell.g T.d_law_cell.kp b_law_cell .nil pass0 (pa_cons (pv 0) (pa_cons pe_int pa_nil))))
      (pss_cons (ps_setLc (i := 4) (own := [("letter", 13)]) (g := (gName 13)) rfl sc_law.nd rfl rfl (sw_true rfl rfl rfl (by decide +kernel)) (pi_list (pv 2)) (blkOk_by (own := [("letter", 13)]) (N := sc_law_N) (sc := defScope s_law) (by decide +kernel)) (fun _ _ _ _ _ => (pg_name (i := 13) sc_law.nd rfl (Or.inl rfl))) (fun _ _ _ _ _ => (pts_one (pt_cmpR op_eq (pe_ix (r := rIxT K) ix_tup (pe_ix (r := rIxT K) ix_tup (pv 13) pe_int (fun _ _ => rfl)) pe_int (fun _ _ => rfl)) pe_str (nomark _)))) (fun _ _ _ _ _ => (pv 13)))
      (pss_cons (ps_setLc (i := 5) (own := [("letter", 13)]) (g := (gName 13)) rfl sc_law.nd rfl rfl (sw_true rfl rfl rfl (by decide +kernel)) (pi_list (pv 2)) (blkOk_by (own := [("letter", 13)]) (N := sc_law_N) (sc := defScope s_law) (by decide +kernel)) (fun _ _ _ _ _ => (pg_name (i := 13) sc_law.nd rfl (Or.inl rfl))) (fun _ _ _ _ _ => (pts_one (pt_cmpR op_eq (pe_ix (r := rIxT K) ix_tup (pe_ix (r := rIxT K) ix_tup (pv 13) pe_int (fun _ _ => rfl)) pe_int (fun _ _ => rfl)) pe_str (nomark _)))) (fun _ _ _ _ _ => (pv 13)))
      (C8.pss_cut (ps_if (pt_cmpR op_eq (pe_op op_mod (pe_callTy call_int1 (by rfl) T.n_int (by decide +kernel) (pa_cons (pv 3) pa_nil)) pe_int) pe_int (nomark _))
      (pss_one (ps_set (i := 4) sc_law.nd rfl (Or.inl rfl) (pe_slice sl_list (pv 4) (po_some (pe_op op_mod (pe_op op_fdiv (pv 3) pe_int) pe_int)) po_none)))
      pss_nil)
      (C8.pss_cut (ps_if (pt_cmpR op_eq (pe_op op_mod (pe_callTy call_int1 (by rfl) T.n_int (by decide +kernel) (pa_cons (pv 3) pa_nil)) pe_int) pe_int (nomark _))
      (pss_one (ps_set (i := 5) sc_law.nd rfl (Or.inl rfl) (pe_slice sl_list (pv 5) (po_some (pe_op op_mod (pe_op op_fdiv (pv 3) pe_int) pe_int)) po_none)))
      pss_nil)
      (pss_cons (ps_set (i := 6) sc_law.nd rfl (Or.inl rfl) (pe_tup (pa_cons pe_str (pa_cons (pv 4) pa_nil))))
      (pss_cons (ps_set (i := 7) sc_law.nd rfl (Or.inl rfl) (pe_tup (pa_cons pe_str (pa_cons (pv 5) pa_nil))))
      (C8.pss_cut (ps_if (pt_cmpR op_eq (pe_op op_mod (pe_callTy call_int1 (by rfl) T.n_int (by decide +kernel) (pa_cons (pv 3) pa_nil)) pe_int) pe_int (nomark _))
      (pss_one (ps_set (i := 7) sc_law.nd rfl (Or.inl rfl) (pe_tup (pa_cons pe_str (pa_cons (pv 4) pa_nil)))))
      pss_nil)
      (C8.pss_cut (ps_if (pt_cmpR op_eq (pe_op op_mod (pe_callTy call_int1 (by rfl) T.n_int (by decide +kernel) (pa_cons (pv 3) pa_nil)) pe_int) pe_int (nomark _))
      (pss_one (ps_set (i := 6) sc_law.nd rfl (Or.inl rfl) (pe_tup (pa_cons pe_str (pa_cons (pv 4) pa_nil)))))
      pss_nil)
      (C8.pss_cut (ps_set (i := 8) sc_law.nd rfl (Or.inl rfl) (pe_and (pe_cmpR op_ne (pe_ix ix_tup (pv 6) pe_int (fun _ _ => rfl)) (pe_ix ix_tup (pv 7) pe_int (fun _ _ => rfl)) (nomark _)) (pe_and (pe_call G_law_commits (hr.mono (by decide)) rfl T.d_law_commits.g T.d_law_commits.kp b_law_commits .nil pass0 (pa_cons (pv 1) (pa_cons (pe_ix ix_tup (pv 6) pe_int (fun _ _ => rfl)) (pa_cons (pe_ix ix_tup (pv 6) pe_int (fun _ _ => rfl)) pa_nil)))) (pe_one (pe_call G_law_commits (hr.mono (by decide)) rfl T.d_law_commits.g T.d_law_commits.kp b_law_commits .nil pass0 (pa_cons (pv 1) (pa_cons (pe_ix ix_tup (pv 7) pe_int (fun _ _ => rfl)) (pa_cons (pe_ix ix_tup (pv 7) pe_int (fun _ _ => rfl)) pa_nil))))))))
      (pss_cons (ps_try_as (i := 10) rfl rfl sc_law.nd rfl rfl ⟨rfl, by decide, .inl TE.g_TribunalError⟩ takes0 (fun W pn xe tk _ => (pss_one (ps_set (i := 9) sc_law.nd rfl (Or.inl rfl) (pe_callS G_accuse (hr.mono (by decide)) rfl T.d_accuse.g T.d_accuse.kp b_accuse (fun σ => passAt tk σ) (pa_cons (pe_make T.m_Committee G_Committee_init (hr.mono (by decide)) (by rfl) T.g_Committee b_Committee_init .nil pass0 (pa_cons (pe_callTy (T := "list") (r := rListOf K) (cr_listK rfl) (by rfl) T.n_list (by decide +kernel) (pa_cons (pv 1) pa_nil)) pa_nil)) (pa_cons pe_int (pa_cons (pv 6) (pa_cons (pv 7) pa_nil)))))))) (fun ae oe cls d pn hz hf => (pss_one (ps_ret (pe_and (pe_not (pv 8)) (pe_and (pe_callB (call_isN hz hf) (by rfl) T.n_isinstance (by decide +kernel) (pa_cons (pv 10) (pa_cons (pe_glob (v := .ref a.C_BadPaper) rfl TE.g_BadPaper rfl) pa_nil))) (pe_one (pe_not (pe_callB (call_isN hz hf) (by rfl) T.n_isinstance (by decide +kernel) (pa_cons (pv 10) (pa_cons (pe_glob (v := .ref a.C_BadLine) rfl TE.g_BadLine rfl) pa_nil)))))))))))
      (pss_cons (ps_if (PW.pt (pw_or (pt_not (pt_val (pv 8))) (pw_or1 (pt_not (pt_val (pe_callB call_isi (by rfl) T.n_isinstance (by decide +kernel) (pa_cons (pv 9) (pa_cons (pe_bltn (v := .ty "list") (u := .type "list") (by rfl) T.n_list (by decide +kernel) rfl) pa_nil))))))))
      (pss_one (ps_ret pe_bl))
      pss_nil)
      (pss_cons (ps_set (i := 11) sc_law.nd rfl (Or.inl rfl) (pe_lst pa_nil))
      (pss_cons (ps_for PassesOwn.never rfl (pi_list (pv 9)) (pg_name (i := 12) sc_law.nd rfl (Or.inl rfl))
      (pss_cons (ps_if (PW.pt (pw_or (pt_cmpR op_in_seq (pe_fld (pv 12) rfl) (pv 11) (by rfl)) (pw_or (pt_cmpR op_ne (pe_ix ix_tup (pe_fld (pv 12) rfl) pe_int (fun _ _ => rfl)) (pe_fld (pv 12) rfl) (nomark _)) (pw_or1 (pt_cmpR op_ne (pe_ix ix_tup (pe_fld (pv 12) rfl) pe_int (fun _ _ => rfl)) (pe_fld (pv 12) rfl) (nomark _))))))
        (pss_one (ps_ret pe_bl))
        pss_nil)
        (pss_cons (ps_if (PW.pt (pw_or (pt_cmpR (op_notInD (hu65 hr)) (pe_fld (pv 12) rfl) (pe_op op_cat (pe_ix ix_tup (pv 6) pe_int (fun _ _ => rfl)) (pe_ix ix_tup (pv 7) pe_int (fun _ _ => rfl))) (by rfl)) (pw_or1 (pt_cmpR (op_notInD (hu65 hr)) (pe_fld (pv 12) rfl) (pe_op op_cat (pe_ix ix_tup (pv 6) pe_int (fun _ _ => rfl)) (pe_ix ix_tup (pv 7) pe_int (fun _ _ => rfl))) (by rfl)))))
        (pss_one (ps_ret pe_bl))
        pss_nil)
        (pss_cons (ps_if (pt_not (pt_val (pe_call G_law_clash (hr.mono (by decide)) rfl T.d_law_clash.g T.d_law_clash.kp b_law_clash .nil pass0 (pa_cons (pe_ix ix_tup (pe_fld (pv 12) rfl) pe_int (fun _ _ => rfl)) (pa_cons (pe_ix ix_tup (pe_fld (pv 12) rfl) pe_int (fun _ _ => rfl)) pa_nil)))))
        (pss_one (ps_ret pe_bl))
        pss_nil)
        (pss_one (ps_expr (pe_bm PySem.F.plainAttrs_list PySem.F.slot_list_append PySem.F.type_list_append mt_append (pv 11) (pa_cons (pe_fld (pv 12) rfl) pa_nil))))))))
      (pss_one (ps_ret (pe_cmpR op_gt (pe_op op_mul pe_int (pe_call G_law_weight (hr.mono (by decide)) rfl T.d_law_weight.g T.d_law_weight.kp b_law_weight .nil pass0 (pa_cons (pv 1) (pa_cons (pv 11) pa_nil)))) (pe_callB (cr_sum rfl) (by rfl) T.n_sum (by decide +kernel) (pa_cons (pv 1) pa_nil)) (nomark _)))))))))))))))))))), ?_⟩
    walk_at "rs"
    refine ⟨l, ns, 0, rfl, hS, hl, by decide, ?_⟩
    walk_at "rs"
    refine ⟨_, _, rfl, by decide, by decide, fun pw ws H1 s1 hw1 gw w5 => ?_⟩
    have w5' : ws.length ≤ 5 := w5
    have hS1 := s1.seq hS
    walk_at "rs"
    refine ⟨l, ns, 1, rfl, hS1, hl, by decide, ?_⟩
    walk_at "rs"
    refine ⟨pw, _, rfl, .inl (SqL.of hw1), ?_⟩
    walk_at "rs"
    have wpos := gw.1
    have hN : ((ws.map V.int).length : Int) = ws.length := by rw [List.length_map]
    refine ⟨_, _, rfl, by omega, by omega, fun p2 ps2 xs2 H2 s2 hp2 hx2 len2 good2 _ => ?_⟩
    rw [hN] at len2 good2
    have len25 : xs2.length ≤ 25 := by omega
    have hS2 := s2.seq hS1
    have hw2 := s2 _ _ hw1
    walk_at "rs"
    refine ⟨l, ns, 2, rfl, hS2, hl, by decide, ?_⟩
    obtain ⟨way, ew⟩ : ∃ z : Int, ns.getD (Int.toNat 2) 0 = z := ⟨_, rfl⟩
    rw [ew]
    clear ew
    walk_at "rs"
    refine ⟨⟨_, SqL.of hp2⟩, fun DA hDA => ?_⟩
    refine lc_list (K := K) (a := p2) (xs := ps2.map V.ref) (fun i Hi => Same H2 Hi ∧ ∃ qs ys, Hi DA = some (.lst (qs.map V.ref)) ∧ LsAt Hi qs ys ∧ ys.length ≤ i ∧ ∀ y ∈ ys, GoodLt ws.length y) ⟨same_new hDA, [], [], upd_same, LsAt.nil, Nat.le_refl _, fun y hy => (nomatch hy)⟩ (fun i Hi _ ⟨si, _⟩ => SqL.of (si _ _ hp2)) ?_ ?_
    · rintro i y Hi hy ⟨si, qs, ys, hd, hls, hlen, hgood⟩
      have hi : i < ps2.length := by
        have e := (List.getElem?_eq_some_iff.mp hy).1
        rwa [List.length_map] at e
      have hi' : i < xs2.length := by
        rw [← hx2.1]
        exact hi
      rw [at_refs hi] at hy
      cases hy
      have hlt := (hx2.2 i hi').same si
      have hg := good2 _ (getD_mem2 (d := default) hi')
      obtain ⟨q, hpq, hqq⟩ := id hlt
      refine ⟨rfl, ?_⟩
      walk_at "rs"
      refine ⟨_, _, _, _, rfl, rfl, SqT.of hpq, rfl, ?_⟩
      walk_at "rs"
      refine ⟨scal_oS _ (some "a"), ?_⟩
      walk_at "rs"
      refine ite2 (fun c => ?_) (fun c => ?_)
      · walk_at "rs"
        have lq := hls.1
        refine ⟨_, hd, by rw [List.length_map]; exact small1000 (by omega), same_upd si hDA, qs ++ [ps2.getD i 0], ys ++ [xs2.getD i default], by rw [upd_same]; simp, (hls.snoc hlt).upd hd, by rw [List.length_append, List.length_singleton]; omega, fun y hy => ?_⟩
        rcases List.mem_append.mp hy with hy | hy
        · exact hgood y hy
        · rw [List.mem_singleton.mp hy]
          exact hg
      · exact ⟨si, qs, ys, hd, hls, by omega, hgood⟩
    rintro H3 ⟨s3, qs3, ys3, hd3, hls3, hlen3, hgood3⟩
    rw [List.length_map, hx2.1] at hlen3
    have L3 : LG ws.length H3 DA qs3 ys3 := ⟨hd3, hls3, by omega, hgood3⟩
    have hp3 := s3 _ _ hp2
    have hx3 := hx2.same s3
    clear hd3 hls3 hlen3 hgood3
    walk_at "rs"
    refine ⟨⟨_, SqL.of hp3⟩, fun DB hDB => ?_⟩
    refine lc_list (K := K) (a := p2) (xs := ps2.map V.ref) (fun i Hi => Same H3 Hi ∧ ∃ qs ys, Hi DB = some (.lst (qs.map V.ref)) ∧ LsAt Hi qs ys ∧ ys.length ≤ i ∧ ∀ y ∈ ys, GoodLt ws.length y) ⟨same_new hDB, [], [], upd_same, LsAt.nil, Nat.le_refl _, fun y hy => (nomatch hy)⟩ (fun i Hi _ ⟨si, _⟩ => SqL.of (si _ _ hp3)) ?_ ?_
    · rintro i y Hi hy ⟨si, qs, ys, hd, hls, hlen, hgood⟩
      have hi : i < ps2.length := by
        have e := (List.getElem?_eq_some_iff.mp hy).1
        rwa [List.length_map] at e
      have hi' : i < xs2.length := by
        rw [← hx2.1]
        exact hi
      rw [at_refs hi] at hy
      cases hy
      have hlt := (hx3.2 i hi').same si
      have hg := good2 _ (getD_mem2 (d := default) hi')
      obtain ⟨q, hpq, hqq⟩ := id hlt
      refine ⟨rfl, ?_⟩
      walk_at "rs"
      refine ⟨_, _, _, _, rfl, rfl, SqT.of hpq, rfl, ?_⟩
      walk_at "rs"
      refine ⟨scal_oS _ (some "b"), ?_⟩
      walk_at "rs"
      refine ite2 (fun c => ?_) (fun c => ?_)
      · walk_at "rs"
        have lq := hls.1
        refine ⟨_, hd, by rw [List.length_map]; exact small1000 (by omega), same_upd si hDB, qs ++ [ps2.getD i 0], ys ++ [xs2.getD i default], by rw [upd_same]; simp, (hls.snoc hlt).upd hd, by rw [List.length_append, List.length_singleton]; omega, fun y hy => ?_⟩
        rcases List.mem_append.mp hy with hy | hy
        · exact hgood y hy
        · rw [List.mem_singleton.mp hy]
          exact hg
      · exact ⟨si, qs, ys, hd, hls, by omega, hgood⟩
    rintro H4 ⟨s4, qs4, ys4, hd4, hls4, hlen4, hgood4⟩
    rw [List.length_map, hx2.1] at hlen4
    have L4 : LG ws.length H4 DB qs4 ys4 := ⟨hd4, hls4, by omega, hgood4⟩
    have hp4 := s4 _ _ hp3
    have hx4 := hx3.same s4
    clear hd4 hls4 hlen4 hgood4
    walk_at "rs"
    have LA4 := L3.same s4
    have s24 := s3.trans s4
    refine ⟨fun σ' H' => ∃ (q : Addr) (qs : List Addr) (ys : List Lt), σ' = [some (.ref l), some (.ref pw), some (.ref p2), some (.int way), some (.ref q), some (.ref DB), none, none, none, none, none, none, none, none] ∧ Same H4 H' ∧ LG ws.length H' q qs ys, ?_, ?_⟩
    · walk_at "rs"
      refine ite2 (fun c => ?_) (fun c => ?_)
      · walk_at "rs"
        refine ⟨DA, _, rfl, SqL.of LA4.here, fun p hp => ?_⟩
        obtain ⟨qs', ys', e, g⟩ := LA4.cut (some (way / 5 % 4)) none
        have e2 : cutV (qs3.map V.ref) (some (way / 5 % 4)) none = qs'.map V.ref := e
        exact ⟨p, qs', ys', rfl, same_new hp, by rw [← e2] at g; exact g p hp⟩
      · exact ⟨DA, qs3, ys3, rfl, Same.refl H4, LA4⟩
    rintro σ' H5 ⟨qa, qsa, ysa, rfl, s5, LA⟩
    have LB5 := L4.same s5
    clear LA4 L4 L3
    walk_at "rs"
    refine ⟨fun σ' H' => ∃ (q : Addr) (qs : List Addr) (ys : List Lt), σ' = [some (.ref l), some (.ref pw), some (.ref p2), some (.int way), some (.ref qa), some (.ref q), none, none, none, none, none, none, none, none] ∧ Same H5 H' ∧ LG ws.length H' q qs ys, ?_, ?_⟩
    · walk_at "rs"
      refine ite2 (fun c => ?_) (fun c => ?_)
      · walk_at "rs"
        refine ⟨DB, _, rfl, SqL.of LB5.here, fun p hp => ?_⟩
        obtain ⟨qs', ys', e, g⟩ := LB5.cut (some (way / 5 % 4)) none
        have e2 : cutV (qs4.map V.ref) (some (way / 5 % 4)) none = qs'.map V.ref := e
        exact ⟨p, qs', ys', rfl, same_new hp, by rw [← e2] at g; exact g p hp⟩
      · exact ⟨DB, qs4, ys4, rfl, Same.refl H5, LB5⟩
    rintro σ' H6 ⟨qb, qsb, ysb, rfl, s6, LB⟩
    have LA6 := LA.same s6
    clear LB5 LA
    walk_at "rs"
    refine ⟨(by show 2 ≤ sizeLine; decide), fun oa hoa => ?_⟩
    have b1 := same_new (o := .tup [V.str "a", V.ref qa]) hoa
    walk_at "rs"
    refine ⟨(by show 2 ≤ sizeLine; decide), fun ob hob => ?_⟩
    have b2 := same_new (o := .tup [V.str "b", V.ref qb]) hob
    have f1 := b2 _ _ (upd_same : (upd H6 oa (.tup [V.str "a", V.ref qa])) oa = _)
    have f2 := (upd_same : (upd (upd H6 oa (.tup [V.str "a", V.ref qa])) ob (.tup [V.str "b", V.ref qb])) ob = _)
    have s7 := b1.trans b2
    clear b1 b2
    generalize upd (upd H6 oa (.tup [V.str "a", V.ref qa])) ob (.tup [V.str "b", V.ref qb]) = H7 at s7 f1 f2 ⊢
    have LA7 := LA6.same s7
    have LB7 := LB.same s7
    clear LA6 LB
    walk_at "rs"
    refine ⟨fun σ' H' => ∃ (o : Addr) (bb : Str) (q : Addr) (qs : List Addr) (ys : List Lt), σ' = [some (.ref l), some (.ref pw), some (.ref p2), some (.int way), some (.ref qa), some (.ref qb), some (.ref oa), some (.ref o), none, none, none, none, none, none] ∧ Same H7 H' ∧ H' o = some (.tup [.str bb, .ref q]) ∧ OkS (some bb) ∧ LG ws.length H' q qs ys, ?_, ?_⟩
    · walk_at "rs"
      refine ite2 (fun c => ?_) (fun c => ?_)
      · walk_at "rs"
        refine ⟨(by show 2 ≤ sizeLine; decide), fun o ho => ?_⟩
        have b1 := same_new (o := .tup [V.str "a", V.ref qa]) ho
        exact ⟨o, "a", qa, qsa, ysa, rfl, b1, upd_same, okA, LA7.same b1⟩
      · exact ⟨ob, "b", qb, qsb, ysb, rfl, Same.refl H7, f2, okB, LB7⟩
    rintro σ' H8 ⟨o2, b2, q2, qs2, ys2, rfl, s8, ho2, ok2, L2'⟩
    have LA8 := LA7.same s8
    have f18 := s8 _ _ f1
    clear LA7 LB7 f1 f2
    walk_at "rs"
    refine ⟨fun σ' H' => ∃ (o : Addr) (bb : Str) (q : Addr) (qs : List Addr) (ys : List Lt), σ' = [some (.ref l), some (.ref pw), some (.ref p2), some (.int way), some (.ref qa), some (.ref qb), some (.ref o), some (.ref o2), none, none, none, none, none, none] ∧ Same H8 H' ∧ H' o = some (.tup [.str bb, .ref q]) ∧ OkS (some bb) ∧ LG ws.length H' q qs ys, ?_, ?_⟩
    · walk_at "rs"
      refine ite2 (fun c => ?_) (fun c => ?_)
      · walk_at "rs"
        refine ⟨(by show 2 ≤ sizeLine; decide), fun o ho => ?_⟩
        have b1 := same_new (o := .tup [V.str "b", V.ref qa]) ho
        exact ⟨o, "b", qa, qsa, ysa, rfl, b1, upd_same, okB, LA8.same b1⟩
      · exact ⟨oa, "a", qa, qsa, ysa, rfl, Same.refl H8, f18, okA, LA8⟩
    rintro σ' H9 ⟨o1, b1, q1, qs1, ys1, rfl, s9, ho1, ok1, L1'⟩
    have ho2 := s9 _ _ ho2
    have L2' := L2'.same s9
    have hw9 : H9 pw = some (.lst (ws.map V.int)) := s9 _ _ (s8 _ _ (s7 _ _ (s6 _ _ (s5 _ _ (s24 _ _ hw2)))))
    clear LA8 f18 s9 s8 s7 s6 s5 s24 s4 s3 hp3 hp4 hx3 hx4 hw2 hp2 hx2
    obtain ⟨okl1, tb1, fo1⟩ := L1'.ok
    obtain ⟨okl2, tb2, fo2⟩ := L2'.ok
    have c1 := L1'.few
    have c2 := L2'.few
    walk_at "rs"
    have n1 := L1'.ls.1
    have n2 := L2'.ls.1
    refine ⟨fun σ' H' => ∃ R : Bool, σ' = [some (.ref l), some (.ref pw), some (.ref p2), some (.int way), some (.ref qa), some (.ref qb), some (.ref o1), some (.ref o2), some (.bl R), none, none, none, none, none] ∧ Same H9 H' ∧ R = (decide (b1 ≠ b2) && (shM ws ys1 0 (some b1) && shM ws ys2 0 (some b2))), ?_, ?_⟩
    · walk_at "rs"
      refine ⟨o1, _, _, .str b1, rfl, rfl, SqT.of ho1, rfl, ?_⟩
      walk_at "rs"
      refine ⟨o2, _, _, .str b2, rfl, rfl, SqT.of ho2, rfl, ?_⟩
      walk_at "rs"
      refine ite2 (fun c => ?_) (fun c => ?_)
      · have ne : b1 ≠ b2 := fun z => by rw [z] at c; simp at c
        walk_at "rs"
        refine ⟨o1, _, _, .str b1, rfl, rfl, SqT.of ho1, rfl, ?_⟩
        walk_at "rs"
        refine ⟨o1, _, _, .ref q1, rfl, rfl, SqT.of ho1, rfl, ?_⟩
        refine ⟨pw, q1, ws, b1, qs1, ys1, rfl, SqL.of hw9, gw, L1'.here, L1'.ls, by omega, ok1, okl1, fo1, fun HA sA => ?_⟩
        walk_at "rs"
        refine ite2 (fun c => ?_) (fun c => ?_)
        · walk_at "rs"
          refine ⟨o2, _, _, .str b2, rfl, rfl, SqT.of (sA _ _ ho2), rfl, ?_⟩
          walk_at "rs"
          refine ⟨o2, _, _, .ref q2, rfl, rfl, SqT.of (sA _ _ ho2), rfl, ?_⟩
          refine ⟨pw, q2, ws, b2, qs2, ys2, rfl, SqL.of (sA _ _ hw9), gw, sA _ _ L2'.here, L2'.ls.same sA, by omega, ok2, okl2, fo2, fun HB sB => ?_⟩
          exact ⟨_, rfl, sA.trans sB, by rw [decide_eq_true ne, c]; rfl⟩
        · exact ⟨false, rfl, sA, by rw [Bool.eq_false_iff.mpr c, Bool.false_and, Bool.and_false]⟩
      · have e : b1 = b2 := by
          refine Decidable.byContradiction fun z => c ?_
          have : ¬ V.str b1 = V.str b2 := fun q => z (by injection q)
          rw [decide_eq_false this]
          rfl
        exact ⟨false, rfl, Same.refl H9, by rw [decide_eq_false (fun z : b1 ≠ b2 => z e), Bool.false_and]⟩
    rintro σ' HR ⟨R, rfl, sR, rr⟩
    have hwR := sR _ _ hw9
    have ho1 := sR _ _ ho1
    have ho2 := sR _ _ ho2
    have L1' := L1'.same sR
    have L2' := L2'.same sR
    clear sR hw9
    walk_at "rs"
    refine ⟨pw, _, rfl, .inl (SqL.of hwR), fun q6 hq6 => ?_⟩
    have sq : Same HR (upd HR q6 (.lst (ws.map V.int))) := same_new hq6
    intro x dx nx ndx nex
    have sm : Same (upd HR q6 (.lst (ws.map V.int))) (upd (upd (upd HR q6 (.lst (ws.map V.int))) dx (.own x)) x (.ins a.C_Committee dx [])) := same_upd (same_new ndx) nx
    refine ⟨x, dx, q6, ws, rfl, upd_same, SqL.of (sm _ _ upd_same), gw, fun H6 hc kp => ⟨rfl, ?_⟩⟩
    have s6 : Same HR H6 := sq.trans (Same.made nx ndx kp)
    walk_at "rs"
    refine ⟨x, o1, o2, q1, q2, ws, 0, b1, b2, qs1, qs2, ys1, ys2, rfl, hc, gw, s6 _ _ ho1, s6 _ _ ho2, s6 _ _ L1'.here, s6 _ _ L2'.here, L1'.ls.same s6, L2'.ls.same s6, by omega, by omega, tb1, tb2, fun d1 d2 d3 pt cs H9' s9 hp9 lc9 ch9 => ?_, fun dd H9' s9 => ?_⟩
    · have eR : R = true := by rw [rr, d2, d3, decide_eq_true d1]; rfl
      subst eR
      walk_at "rs"
      have s59 := s6.trans s9
      refine ⟨_, _, .type "list", .type "list", true, rfl, .ty _, .base (.lst hp9), kit_ty (by decide +kernel), ?_⟩
      walk_at "rs"
      refine ⟨(by show 0 ≤ sizeLine; decide), fun pm hpm => ?_⟩
      have sM : Same H9' (upd H9' pm (.lst [])) := same_new hpm
      have ho1 := s59 _ _ ho1
      have ho2 := s59 _ _ ho2
      have hq1 := s59 _ _ L1'.here
      have hq2 := s59 _ _ L2'.here
      have hwR := s59 _ _ hwR
      have hX := (L1'.ls.app L2'.ls).same s59
      have okX := okl1.app okl2
      have safe : ws.sum < 3 * wOf ws (fnd (ys1 ++ ys2) ws.length) := by
        obtain ⟨t, _, h1⟩ := (sh_four gw fo1).mp d2
        obtain ⟨u, _, h2⟩ := (sh_four gw fo2).mp d3
        exact safety (good_pos gw) d1 (comm_mono (good_pos gw) (fun x hx => List.mem_append_left _ hx) h1) (comm_mono (good_pos gw) (fun x hx => List.mem_append_right _ hx) h2)
      have fdue := fnd_due (ys1 ++ ys2) ws.length
      have fl := fnd_len (ys1 ++ ys2) ws.length
      have nd := fnd_nodup (ys1 ++ ys2) ws.length
      generalize ys1 ++ ys2 = X at hX okX safe lc9 ch9 fdue fl nd
      generalize fnd X ws.length = F at lc9 ch9 fdue fl nd safe
      walk_at "rs"
      refine ⟨⟨_, SqL.of (sM _ _ hp9)⟩, for_list (K := K) (a := pt) (xs := cs.map V.ref) (fun i σ Hi => ∃ v12 : Option V, σ = [some (.ref l), some (.ref pw), some (.ref p2), some (.int way), some (.ref qa), some (.ref qb), some (.ref o1), some (.ref o2), some (.bl true), some (.ref pt), none, some (.ref pm), v12, none] ∧ Same H9' Hi ∧ Hi pm = some (.lst ((F.take i).map V.int)))
        ⟨_, rfl, sM, upd_same⟩ (fun i σ Hi _ ⟨_, _, si, _⟩ => SqL.of (si _ _ hp9)) ?_ ?_⟩
      · rintro i y σ Hi hy ⟨v12, rfl, si, hm⟩
        have hi : i < cs.length := by
          have e := (List.getElem?_eq_some_iff.mp hy).1
          rwa [List.length_map] at e
        rw [at_refs hi] at hy
        cases hy
        have hiF : i < F.length := by omega
        have hdu := (fdue _ (getD_mem hiF)).2.2
        have hch9 := (ch9 i hi).same si
        generalize ew : F.getD i 0 = who at hdu hch9
        obtain ⟨⟨f1, g1⟩, ed⟩ := Option.isSome_iff_exists.mp hdu
        obtain ⟨m1, m2, cl⟩ := due_ok ed
        obtain ⟨n1', w1⟩ := own_mem m1
        obtain ⟨n2', w2⟩ := own_mem m2
        rw [ed] at hch9
        obtain ⟨pc, dc, ac, bc, e1, hpc, hfc, hgc⟩ := hch9
        have e1 := V.ref.inj e1
        subst e1
        have n3 : who ∉ F.take i := by
          rw [← ew]
          exact nodup_take nd hiF
        obtain ⟨qf, hpf, hmf⟩ := id hfc
        obtain ⟨qg, hpg, hmg⟩ := id hgc
        walk_at "rs"
        refine ⟨_, _, dc, _, .int who, rfl, hpc, T.cl_Charge, T.a_Charge_who, chf_w _ _ _, ?_⟩
        walk_at "rs"
        refine ⟨pm, _, rfl, .inl (SqL.of hm), rfl, flat_ints _, ?_⟩
        rw [if_neg Bool.false_ne_true, inV_ints, decide_eq_false n3]
        walk_at "rs"
        refine ⟨_, _, dc, _, .ref ac, rfl, hpc, T.cl_Charge, T.a_Charge_first, chf_f _ _ _, ?_⟩
        walk_at "rs"
        refine ⟨_, _, _, _, rfl, rfl, SqT.of hpf, rfl, ?_⟩
        walk_at "rs"
        refine ⟨_, _, dc, _, .int who, rfl, hpc, T.cl_Charge, T.a_Charge_who, chf_w _ _ _, ?_⟩
        walk_at "rs"
        refine ite2 (fun c => ?_) (fun c => ?_)
        · exfalso
          simp [w1] at c
        walk_at "rs"
        refine ⟨_, _, dc, _, .ref bc, rfl, hpc, T.cl_Charge, T.a_Charge_second, chf_s _ _ _, ?_⟩
        walk_at "rs"
        refine ⟨_, _, _, _, rfl, rfl, SqT.of hpg, rfl, ?_⟩
        walk_at "rs"
        refine ⟨_, _, dc, _, .int who, rfl, hpc, T.cl_Charge, T.a_Charge_who, chf_w _ _ _, ?_⟩
        walk_at "rs"
        refine ite2 (fun c => ?_) (fun c => ?_)
        · exfalso
          simp [w2] at c
        walk_at "rs"
        refine ⟨_, _, dc, _, .ref ac, rfl, hpc, T.cl_Charge, T.a_Charge_first, chf_f _ _ _, ?_⟩
        walk_at "rs"
        refine ⟨o1, _, _, .ref q1, rfl, rfl, SqT.of (si _ _ ho1), rfl, ?_⟩
        walk_at "rs"
        refine ⟨o2, _, _, .ref q2, rfl, rfl, SqT.of (si _ _ ho2), rfl, ?_⟩
        refine ⟨q1, q2, _, _, rfl, rfl, si _ _ hq1, si _ _ hq2, by rw [List.length_map, List.length_map, sizeLine_eq]; omega, fun pX1 hpX1 => ?_⟩
        have sX1 := same_new (o := .lst (qs1.map V.ref ++ qs2.map V.ref)) hpX1
        have hX1 : (upd Hi pX1 (.lst (qs1.map V.ref ++ qs2.map V.ref))) pX1 = some (.lst ((qs1 ++ qs2).map V.ref)) := by rw [upd_same]; simp
        refine ⟨_, _, dp_lt (hfc.same sX1), .lst (SqL.of hX1) (dp_lts ((hX.same si).same sX1)), shaped_lt (okX _ n1'), shaped_lts okX, ?_⟩
        rw [any_lt n1' (okX _ n1')]
        have hpc := sX1 _ _ hpc
        have hgc := hgc.same sX1
        have hfc := hfc.same sX1
        have hpf := sX1 _ _ hpf
        have hpg := sX1 _ _ hpg
        have hmf := sX1 _ _ hmf
        have hmg := sX1 _ _ hmg
        have si1 := si.trans sX1
        have hm1 := sX1 _ _ hm
        generalize upd Hi pX1 (.lst (qs1.map V.ref ++ qs2.map V.ref)) = Hj at *
        walk_at "rs"
        refine ⟨_, _, dc, _, .ref bc, rfl, hpc, T.cl_Charge, T.a_Charge_second, chf_s _ _ _, ?_⟩
        walk_at "rs"
        refine ⟨o1, _, _, .ref q1, rfl, rfl, SqT.of (si1 _ _ ho1), rfl, ?_⟩
        walk_at "rs"
        refine ⟨o2, _, _, .ref q2, rfl, rfl, SqT.of (si1 _ _ ho2), rfl, ?_⟩
        refine ⟨q1, q2, _, _, rfl, rfl, si1 _ _ hq1, si1 _ _ hq2, by rw [List.length_map, List.length_map, sizeLine_eq]; omega, fun pX2 hpX2 => ?_⟩
        have sX2 := same_new (o := .lst (qs1.map V.ref ++ qs2.map V.ref)) hpX2
        have hX2 : (upd Hj pX2 (.lst (qs1.map V.ref ++ qs2.map V.ref))) pX2 = some (.lst ((qs1 ++ qs2).map V.ref)) := by rw [upd_same]; simp
        refine ⟨_, _, dp_lt (hgc.same sX2), .lst (SqL.of hX2) (dp_lts ((hX.same si1).same sX2)), shaped_lt (okX _ n2'), shaped_lts okX, ?_⟩
        rw [any_lt n2' (okX _ n2')]
        have hpc := sX2 _ _ hpc
        have hpf := sX2 _ _ hpf
        have hpg := sX2 _ _ hpg
        have hmf := sX2 _ _ hmf
        have hmg := sX2 _ _ hmg
        have si2 := si1.trans sX2
        have hm2 := sX2 _ _ hm1
        generalize upd Hj pX2 (.lst (qs1.map V.ref ++ qs2.map V.ref)) = Hk at *
        walk_at "rs"
        refine ⟨_, _, dc, _, .ref ac, rfl, hpc, T.cl_Charge, T.a_Charge_first, chf_f _ _ _, ?_⟩
        walk_at "rs"
        refine ⟨_, _, _, _, rfl, rfl, SqT.of hpf, rfl, ?_⟩
        walk_at "rs"
        refine ⟨_, _, dc, _, .ref bc, rfl, hpc, T.cl_Charge, T.a_Charge_second, chf_s _ _ _, ?_⟩
        walk_at "rs"
        refine ⟨_, _, _, _, rfl, rfl, SqT.of hpg, rfl, ?_⟩
        walk_at "rs"
        refine ⟨qf, qg, _, _, rfl, hmf, hmg, fun HA sA => ?_⟩
        rw [cl]
        walk_at "rs"
        have hpc := sA _ _ hpc
        have hm := sA _ _ hm2
        refine ⟨.inl ⟨rfl, _, SqL.of hm⟩, ?_⟩
        walk_at "rs"
        refine ⟨_, _, dc, _, .int who, rfl, hpc, T.cl_Charge, T.a_Charge_who, chf_w _ _ _, ?_⟩
        walk_at "rs"
        refine ⟨pm, _, _, rfl, rfl, hm, by rw [List.length_map, List.length_take]; exact small1000 (by omega), ?_⟩
        refine ⟨_, rfl, same_upd (si2.trans sA) hpm, ?_⟩
        rw [upd_same, take_succ_getD (d := 0) hiF, ew]
        simp
      · rintro σ Hi ⟨v12, rfl, si, hm⟩
        rw [List.length_map, lc9, List.take_length] at hm
        walk_at "rs"
        refine ⟨pw, pm, ws, F, rfl, SqL.of (si _ _ hwR), SqL.of hm, gw.2.1, fun HA sA => ?_⟩
        walk_at "rs"
        refine ⟨pw, ws, rfl, SqL.of (sA _ _ (si _ _ hwR)), ?_⟩
        walk_at "rs"
        have k1 := k HA
        rw [← decide_eq_true safe] at k1
        exact k1
    · have eR : R = false := by
        rw [rr]
        rcases dd with z | z | z
        · rw [decide_eq_false (fun q : b1 ≠ b2 => q z)]
          rfl
        · rw [z, Bool.false_and, Bool.and_false]
        · rw [z, Bool.and_false, Bool.and_false]
      subst eR
      refine ⟨true, TE.exm_TribunalError_BadPaper, fun _ ex hex => ?_, fun z => nomatch z⟩
      walk_at "rs"
      refine ⟨a.C_BadPaper, .ref a.C_BadPaper, .ref a.C_BadPaper, true, rfl, rfl, rfl, TE.xc_BadPaper, .own _, TE.kt_BadPaper_BadPaper, ?_⟩
      walk_at "rs"
      refine ⟨a.C_BadPaper, .ref a.C_BadLine, .ref a.C_BadLine, false, rfl, rfl, rfl, TE.xc_BadPaper, .own _, TE.kt_BadPaper_BadLine, ?_⟩
      walk_at "rs"
      exact k H9'

end

theorem all_mk {l : PySem.W.OpenLaw} {w : World} {K : PySem.W.Frag} {h : Heap} {mg : Str → Option Value} {fa : Addr} (X : K.In h) (G : h.Ns mainGlobals mg) (hfa : mg "law" = some (.ref fa))
    {t_KIND : Tok} {t_HEIGHT : Tok} {t_TURN : Tok} {t_BLOCK : Tok} {t_LEAN : Tok} {t_MOST_MEMBERS : Tok} {t_MOST_WEIGHT : Tok} {C_Committee : Addr} {C_Charge : Addr} {f_is_vote : Addr} {od_is_vote an_is_vote : Option Addr} {sl_is_vote : Array (Option Value)} {oc_is_vote kV_is_vote dc_is_vote pm_is_vote cd_is_vote ct_is_vote : Value} {f_clash : Addr} {od_clash an_clash : Option Addr} {sl_clash : Array (Option Value)} {oc_clash kV_clash dc_clash pm_clash cd_clash ct_clash : Value} {f_abandons : Addr} {od_abandons an_abandons : Option Addr} {sl_abandons : Array (Option Value)} {oc_abandons kV_abandons dc_abandons pm_abandons cd_abandons ct_abandons : Value} {f_Charge_init : Addr} {od_Charge_init an_Charge_init : Option Addr} {sl_Charge_init : Array (Option Value)} {oc_Charge_init kV_Charge_init dc_Charge_init pm_Charge_init cd_Charge_init ct_Charge_init : Value} {f_first_clash : Addr} {od_first_clash an_first_clash : Option Addr} {sl_first_clash : Array (Option Value)} {oc_first_clash kV_first_clash dc_first_clash pm_first_clash cd_first_clash ct_first_clash : Value} {f_charge_of : Addr} {od_charge_of an_charge_of : Option Addr} {sl_charge_of : Array (Option Value)} {oc_charge_of kV_charge_of dc_charge_of pm_charge_of cd_charge_of ct_charge_of : Value} {f_charges : Addr} {od_charges an_charges : Option Addr} {sl_charges : Array (Option Value)} {oc_charges kV_charges dc_charges pm_charges cd_charges ct_charges : Value} {f_first_wrong : Addr} {od_first_wrong an_first_wrong : Option Addr} {sl_first_wrong : Array (Option Value)} {oc_first_wrong kV_first_wrong dc_first_wrong pm_first_wrong cd_first_wrong ct_first_wrong : Value} {f_Committee_init : Addr} {od_Committee_init an_Committee_init : Option Addr} {sl_Committee_init : Array (Option Value)} {oc_Committee_init kV_Committee_init dc_Committee_init pm_Committee_init cd_Committee_init ct_Committee_init : Value} {f_Committee_weight_of : Addr} {od_Committee_weight_of an_Committee_weight_of : Option Addr} {sl_Committee_weight_of : Array (Option Value)} {oc_Committee_weight_of kV_Committee_weight_of dc_Committee_weight_of pm_Committee_weight_of cd_Committee_weight_of ct_Committee_weight_of : Value} {f_Committee_is_quorum : Addr} {od_Committee_is_quorum an_Committee_is_quorum : Option Addr} {sl_Committee_is_quorum : Array (Option Value)} {oc_Committee_is_quorum kV_Committee_is_quorum dc_Committee_is_quorum pm_Committee_is_quorum cd_Committee_is_quorum ct_Committee_is_quorum : Value} {f_votes_by_turn : Addr} {od_votes_by_turn an_votes_by_turn : Option Addr} {sl_votes_by_turn : Array (Option Value)} {oc_votes_by_turn kV_votes_by_turn dc_votes_by_turn pm_votes_by_turn cd_votes_by_turn ct_votes_by_turn : Value} {f_counts : Addr} {od_counts an_counts : Option Addr} {sl_counts : Array (Option Value)} {oc_counts kV_counts dc_counts pm_counts cd_counts ct_counts : Value} {f_certified_turns : Addr} {od_certified_turns an_certified_turns : Option Addr} {sl_certified_turns : Array (Option Value)} {oc_certified_turns kV_certified_turns dc_certified_turns pm_certified_turns cd_certified_turns ct_certified_turns : Value} {f_committed_turns : Addr} {od_committed_turns an_committed_turns : Option Addr} {sl_committed_turns : Array (Option Value)} {oc_committed_turns kV_committed_turns dc_committed_turns pm_committed_turns cd_committed_turns ct_committed_turns : Value} {f_shown_turn : Addr} {od_shown_turn an_shown_turn : Option Addr} {sl_shown_turn : Array (Option Value)} {oc_shown_turn kV_shown_turn dc_shown_turn pm_shown_turn cd_shown_turn ct_shown_turn : Value} {f_shows : Addr} {od_shows an_shows : Option Addr} {sl_shows : Array (Option Value)} {oc_shows kV_shows dc_shows pm_shows cd_shows ct_shows : Value} {f_accuse : Addr} {od_accuse an_accuse : Option Addr} {sl_accuse : Array (Option Value)} {oc_accuse kV_accuse dc_accuse pm_accuse cd_accuse ct_accuse : Value} {f_law_cell : Addr} {od_law_cell an_law_cell : Option Addr} {sl_law_cell : Array (Option Value)} {oc_law_cell kV_law_cell dc_law_cell pm_law_cell cd_law_cell ct_law_cell : Value} {f_law_row : Addr} {od_law_row an_law_row : Option Addr} {sl_law_row : Array (Option Value)} {oc_law_row kV_law_row dc_law_row pm_law_row cd_law_row ct_law_row : Value} {f_law_weights : Addr} {od_law_weights an_law_weights : Option Addr} {sl_law_weights : Array (Option Value)} {oc_law_weights kV_law_weights dc_law_weights pm_law_weights cd_law_weights ct_law_weights : Value} {f_law_weight : Addr} {od_law_weight an_law_weight : Option Addr} {sl_law_weight : Array (Option Value)} {oc_law_weight kV_law_weight dc_law_weight pm_law_weight cd_law_weight ct_law_weight : Value} {f_law_clash : Addr} {od_law_clash an_law_clash : Option Addr} {sl_law_clash : Array (Option Value)} {oc_law_clash kV_law_clash dc_law_clash pm_law_clash cd_law_clash ct_law_clash : Value} {f_law_certified : Addr} {od_law_certified an_law_certified : Option Addr} {sl_law_certified : Array (Option Value)} {oc_law_certified kV_law_certified dc_law_certified pm_law_certified cd_law_certified ct_law_certified : Value} {f_law_committed : Addr} {od_law_committed an_law_committed : Option Addr} {sl_law_committed : Array (Option Value)} {oc_law_committed kV_law_committed dc_law_committed pm_law_committed cd_law_committed ct_law_committed : Value} {f_law_planted : Addr} {od_law_planted an_law_planted : Option Addr} {sl_law_planted : Array (Option Value)} {oc_law_planted kV_law_planted dc_law_planted pm_law_planted cd_law_planted ct_law_planted : Value} {f_law_commits : Addr} {od_law_commits an_law_commits : Option Addr} {sl_law_commits : Array (Option Value)} {oc_law_commits kV_law_commits dc_law_commits pm_law_commits cd_law_commits ct_law_commits : Value} {f_law : Addr} {od_law an_law : Option Addr} {sl_law : Array (Option Value)} {oc_law kV_law dc_law pm_law cd_law ct_law : Value} {C_BadLine : Addr} {C_BadPaper : Addr} {C_TribunalError : Addr}
    (c_KIND : PySem.W.nsIn K mainGlobals "KIND" = some (some (.int 0 t_KIND)))
    (c_HEIGHT : PySem.W.nsIn K mainGlobals "HEIGHT" = some (some (.int 1 t_HEIGHT)))
    (c_TURN : PySem.W.nsIn K mainGlobals "TURN" = some (some (.int 2 t_TURN)))
    (c_BLOCK : PySem.W.nsIn K mainGlobals "BLOCK" = some (some (.int 3 t_BLOCK)))
    (c_LEAN : PySem.W.nsIn K mainGlobals "LEAN" = some (some (.int 4 t_LEAN)))
    (c_MOST_MEMBERS : PySem.W.nsIn K mainGlobals "MOST_MEMBERS" = some (some (.int 16 t_MOST_MEMBERS)))
    (c_MOST_WEIGHT : PySem.W.nsIn K mainGlobals "MOST_WEIGHT" = some (some (.int 1000000000000 t_MOST_WEIGHT)))
    (n_len : PySem.W.nsIn K mainGlobals "len" = some none)
    (n_range : PySem.W.nsIn K mainGlobals "range" = some none)
    (n_isinstance : PySem.W.nsIn K mainGlobals "isinstance" = some none)
    (n_int : PySem.W.nsIn K mainGlobals "int" = some none)
    (n_bool : PySem.W.nsIn K mainGlobals "bool" = some none)
    (n_list : PySem.W.nsIn K mainGlobals "list" = some none)
    (n_tuple : PySem.W.nsIn K mainGlobals "tuple" = some none)
    (n_sum : PySem.W.nsIn K mainGlobals "sum" = some none)
    (n_enumerate : PySem.W.nsIn K mainGlobals "enumerate" = some none)
    (n_set : PySem.W.nsIn K mainGlobals "set" = some none)
    (n_sorted : PySem.W.nsIn K mainGlobals "sorted" = some none)
    (n_min : PySem.W.nsIn K mainGlobals "min" = some none)
    (n_abs : PySem.W.nsIn K mainGlobals "abs" = some none)
    (g_Committee : PySem.W.nsIn K mainGlobals "Committee" = some (some (.ref C_Committee)))
    (g_Charge : PySem.W.nsIn K mainGlobals "Charge" = some (some (.ref C_Charge)))
    (a_is_vote : PySem.W.nsIn K mainGlobals "is_vote" = some (some (.ref f_is_vote)))
    (l_is_vote : K.lookup f_is_vote = some ⟨oc_is_vote, od_is_vote, .func (PySem.W.fnOf "is_vote" "is_vote" (defArgs s_is_vote) (defBody s_is_vote) (defScope s_is_vote) .none kV_is_vote dc_is_vote pm_is_vote an_is_vote cd_is_vote ct_is_vote), sl_is_vote⟩)
    (q_is_vote : PySem.W.codeIn K cd_is_vote "is_vote" = true)
    (k_is_vote : PySem.W.keepIn K (.ref f_is_vote) = true)
    (a_clash : PySem.W.nsIn K mainGlobals "clash" = some (some (.ref f_clash)))
    (l_clash : K.lookup f_clash = some ⟨oc_clash, od_clash, .func (PySem.W.fnOf "clash" "clash" (defArgs s_clash) (defBody s_clash) (defScope s_clash) .none kV_clash dc_clash pm_clash an_clash cd_clash ct_clash), sl_clash⟩)
    (q_clash : PySem.W.codeIn K cd_clash "clash" = true)
    (k_clash : PySem.W.keepIn K (.ref f_clash) = true)
    (a_abandons : PySem.W.nsIn K mainGlobals "_abandons" = some (some (.ref f_abandons)))
    (l_abandons : K.lookup f_abandons = some ⟨oc_abandons, od_abandons, .func (PySem.W.fnOf "_abandons" "_abandons" (defArgs s_abandons) (defBody s_abandons) (defScope s_abandons) .none kV_abandons dc_abandons pm_abandons an_abandons cd_abandons ct_abandons), sl_abandons⟩)
    (q_abandons : PySem.W.codeIn K cd_abandons "_abandons" = true)
    (k_abandons : PySem.W.keepIn K (.ref f_abandons) = true)
    (a_Charge_init : PySem.W.findIn K (.ref C_Charge) "__init__" = some (some (.ref f_Charge_init)))
    (i_Charge_init : PySem.W.isFn K (.ref f_Charge_init) = true)
    (l_Charge_init : K.lookup f_Charge_init = some ⟨oc_Charge_init, od_Charge_init, .func (PySem.W.fnOf "__init__" "Charge.__init__" (defArgs s_Charge_init) (defBody s_Charge_init) (defScope s_Charge_init) .none kV_Charge_init dc_Charge_init pm_Charge_init an_Charge_init cd_Charge_init ct_Charge_init), sl_Charge_init⟩)
    (q_Charge_init : PySem.W.codeIn K cd_Charge_init "Charge.__init__" = true)
    (k_Charge_init : PySem.W.keepIn K (.ref f_Charge_init) = true)
    (a_first_clash : PySem.W.nsIn K mainGlobals "_first_clash" = some (some (.ref f_first_clash)))
    (l_first_clash : K.lookup f_first_clash = some ⟨oc_first_clash, od_first_clash, .func (PySem.W.fnOf "_first_clash" "_first_clash" (defArgs s_first_clash) (defBody s_first_clash) (defScope s_first_clash) .none kV_first_clash dc_first_clash pm_first_clash an_first_clash cd_first_clash ct_first_clash), sl_first_clash⟩)
    (q_first_clash : PySem.W.codeIn K cd_first_clash "_first_clash" = true)
    (k_first_clash : PySem.W.keepIn K (.ref f_first_clash) = true)
    (a_charge_of : PySem.W.nsIn K mainGlobals "charge_of" = some (some (.ref f_charge_of)))
    (l_charge_of : K.lookup f_charge_of = some ⟨oc_charge_of, od_charge_of, .func (PySem.W.fnOf "charge_of" "charge_of" (defArgs s_charge_of) (defBody s_charge_of) (defScope s_charge_of) .none kV_charge_of dc_charge_of pm_charge_of an_charge_of cd_charge_of ct_charge_of), sl_charge_of⟩)
    (q_charge_of : PySem.W.codeIn K cd_charge_of "charge_of" = true)
    (k_charge_of : PySem.W.keepIn K (.ref f_charge_of) = true)
    (a_charges : PySem.W.nsIn K mainGlobals "charges" = some (some (.ref f_charges)))
    (l_charges : K.lookup f_charges = some ⟨oc_charges, od_charges, .func (PySem.W.fnOf "charges" "charges" (defArgs s_charges) (defBody s_charges) (defScope s_charges) .none kV_charges dc_charges pm_charges an_charges cd_charges ct_charges), sl_charges⟩)
    (q_charges : PySem.W.codeIn K cd_charges "charges" = true)
    (k_charges : PySem.W.keepIn K (.ref f_charges) = true)
    (a_first_wrong : PySem.W.nsIn K mainGlobals "_first_wrong" = some (some (.ref f_first_wrong)))
    (l_first_wrong : K.lookup f_first_wrong = some ⟨oc_first_wrong, od_first_wrong, .func (PySem.W.fnOf "_first_wrong" "_first_wrong" (defArgs s_first_wrong) (defBody s_first_wrong) (defScope s_first_wrong) .none kV_first_wrong dc_first_wrong pm_first_wrong an_first_wrong cd_first_wrong ct_first_wrong), sl_first_wrong⟩)
    (q_first_wrong : PySem.W.codeIn K cd_first_wrong "_first_wrong" = true)
    (k_first_wrong : PySem.W.keepIn K (.ref f_first_wrong) = true)
    (a_Committee_init : PySem.W.findIn K (.ref C_Committee) "__init__" = some (some (.ref f_Committee_init)))
    (i_Committee_init : PySem.W.isFn K (.ref f_Committee_init) = true)
    (l_Committee_init : K.lookup f_Committee_init = some ⟨oc_Committee_init, od_Committee_init, .func (PySem.W.fnOf "__init__" "Committee.__init__" (defArgs s_Committee_init) (defBody s_Committee_init) (defScope s_Committee_init) .none kV_Committee_init dc_Committee_init pm_Committee_init an_Committee_init cd_Committee_init ct_Committee_init), sl_Committee_init⟩)
    (q_Committee_init : PySem.W.codeIn K cd_Committee_init "Committee.__init__" = true)
    (k_Committee_init : PySem.W.keepIn K (.ref f_Committee_init) = true)
    (a_Committee_weight_of : PySem.W.findIn K (.ref C_Committee) "weight_of" = some (some (.ref f_Committee_weight_of)))
    (i_Committee_weight_of : PySem.W.isFn K (.ref f_Committee_weight_of) = true)
    (l_Committee_weight_of : K.lookup f_Committee_weight_of = some ⟨oc_Committee_weight_of, od_Committee_weight_of, .func (PySem.W.fnOf "weight_of" "Committee.weight_of" (defArgs s_Committee_weight_of) (defBody s_Committee_weight_of) (defScope s_Committee_weight_of) .none kV_Committee_weight_of dc_Committee_weight_of pm_Committee_weight_of an_Committee_weight_of cd_Committee_weight_of ct_Committee_weight_of), sl_Committee_weight_of⟩)
    (q_Committee_weight_of : PySem.W.codeIn K cd_Committee_weight_of "Committee.weight_of" = true)
    (k_Committee_weight_of : PySem.W.keepIn K (.ref f_Committee_weight_of) = true)
    (a_Committee_is_quorum : PySem.W.findIn K (.ref C_Committee) "is_quorum" = some (some (.ref f_Committee_is_quorum)))
    (i_Committee_is_quorum : PySem.W.isFn K (.ref f_Committee_is_quorum) = true)
    (l_Committee_is_quorum : K.lookup f_Committee_is_quorum = some ⟨oc_Committee_is_quorum, od_Committee_is_quorum, .func (PySem.W.fnOf "is_quorum" "Committee.is_quorum" (defArgs s_Committee_is_quorum) (defBody s_Committee_is_quorum) (defScope s_Committee_is_quorum) .none kV_Committee_is_quorum dc_Committee_is_quorum pm_Committee_is_quorum an_Committee_is_quorum cd_Committee_is_quorum ct_Committee_is_quorum), sl_Committee_is_quorum⟩)
    (q_Committee_is_quorum : PySem.W.codeIn K cd_Committee_is_quorum "Committee.is_quorum" = true)
    (k_Committee_is_quorum : PySem.W.keepIn K (.ref f_Committee_is_quorum) = true)
    (a_votes_by_turn : PySem.W.nsIn K mainGlobals "votes_by_turn" = some (some (.ref f_votes_by_turn)))
    (l_votes_by_turn : K.lookup f_votes_by_turn = some ⟨oc_votes_by_turn, od_votes_by_turn, .func (PySem.W.fnOf "votes_by_turn" "votes_by_turn" (defArgs s_votes_by_turn) (defBody s_votes_by_turn) (defScope s_votes_by_turn) .none kV_votes_by_turn dc_votes_by_turn pm_votes_by_turn an_votes_by_turn cd_votes_by_turn ct_votes_by_turn), sl_votes_by_turn⟩)
    (q_votes_by_turn : PySem.W.codeIn K cd_votes_by_turn "votes_by_turn" = true)
    (k_votes_by_turn : PySem.W.keepIn K (.ref f_votes_by_turn) = true)
    (a_counts : PySem.W.nsIn K mainGlobals "counts" = some (some (.ref f_counts)))
    (l_counts : K.lookup f_counts = some ⟨oc_counts, od_counts, .func (PySem.W.fnOf "counts" "counts" (defArgs s_counts) (defBody s_counts) (defScope s_counts) .none kV_counts dc_counts pm_counts an_counts cd_counts ct_counts), sl_counts⟩)
    (q_counts : PySem.W.codeIn K cd_counts "counts" = true)
    (k_counts : PySem.W.keepIn K (.ref f_counts) = true)
    (a_certified_turns : PySem.W.nsIn K mainGlobals "certified_turns" = some (some (.ref f_certified_turns)))
    (l_certified_turns : K.lookup f_certified_turns = some ⟨oc_certified_turns, od_certified_turns, .func (PySem.W.fnOf "certified_turns" "certified_turns" (defArgs s_certified_turns) (defBody s_certified_turns) (defScope s_certified_turns) .none kV_certified_turns dc_certified_turns pm_certified_turns an_certified_turns cd_certified_turns ct_certified_turns), sl_certified_turns⟩)
    (q_certified_turns : PySem.W.codeIn K cd_certified_turns "certified_turns" = true)
    (k_certified_turns : PySem.W.keepIn K (.ref f_certified_turns) = true)
    (a_committed_turns : PySem.W.nsIn K mainGlobals "committed_turns" = some (some (.ref f_committed_turns)))
    (l_committed_turns : K.lookup f_committed_turns = some ⟨oc_committed_turns, od_committed_turns, .func (PySem.W.fnOf "committed_turns" "committed_turns" (defArgs s_committed_turns) (defBody s_committed_turns) (defScope s_committed_turns) .none kV_committed_turns dc_committed_turns pm_committed_turns an_committed_turns cd_committed_turns ct_committed_turns), sl_committed_turns⟩)
    (q_committed_turns : PySem.W.codeIn K cd_committed_turns "committed_turns" = true)
    (k_committed_turns : PySem.W.keepIn K (.ref f_committed_turns) = true)
    (a_shown_turn : PySem.W.nsIn K mainGlobals "shown_turn" = some (some (.ref f_shown_turn)))
    (l_shown_turn : K.lookup f_shown_turn = some ⟨oc_shown_turn, od_shown_turn, .func (PySem.W.fnOf "shown_turn" "shown_turn" (defArgs s_shown_turn) (defBody s_shown_turn) (defScope s_shown_turn) .none kV_shown_turn dc_shown_turn pm_shown_turn an_shown_turn cd_shown_turn ct_shown_turn), sl_shown_turn⟩)
    (q_shown_turn : PySem.W.codeIn K cd_shown_turn "shown_turn" = true)
    (k_shown_turn : PySem.W.keepIn K (.ref f_shown_turn) = true)
    (a_shows : PySem.W.nsIn K mainGlobals "shows" = some (some (.ref f_shows)))
    (l_shows : K.lookup f_shows = some ⟨oc_shows, od_shows, .func (PySem.W.fnOf "shows" "shows" (defArgs s_shows) (defBody s_shows) (defScope s_shows) .none kV_shows dc_shows pm_shows an_shows cd_shows ct_shows), sl_shows⟩)
    (q_shows : PySem.W.codeIn K cd_shows "shows" = true)
    (k_shows : PySem.W.keepIn K (.ref f_shows) = true)
    (a_accuse : PySem.W.nsIn K mainGlobals "accuse" = some (some (.ref f_accuse)))
    (l_accuse : K.lookup f_accuse = some ⟨oc_accuse, od_accuse, .func (PySem.W.fnOf "accuse" "accuse" (defArgs s_accuse) (defBody s_accuse) (defScope s_accuse) .none kV_accuse dc_accuse pm_accuse an_accuse cd_accuse ct_accuse), sl_accuse⟩)
    (q_accuse : PySem.W.codeIn K cd_accuse "accuse" = true)
    (k_accuse : PySem.W.keepIn K (.ref f_accuse) = true)
    (a_law_cell : PySem.W.nsIn K mainGlobals "_law_cell" = some (some (.ref f_law_cell)))
    (l_law_cell : K.lookup f_law_cell = some ⟨oc_law_cell, od_law_cell, .func (PySem.W.fnOf "_law_cell" "_law_cell" (defArgs s_law_cell) (defBody s_law_cell) (defScope s_law_cell) .none kV_law_cell dc_law_cell pm_law_cell an_law_cell cd_law_cell ct_law_cell), sl_law_cell⟩)
    (q_law_cell : PySem.W.codeIn K cd_law_cell "_law_cell" = true)
    (k_law_cell : PySem.W.keepIn K (.ref f_law_cell) = true)
    (a_law_row : PySem.W.nsIn K mainGlobals "_law_row" = some (some (.ref f_law_row)))
    (l_law_row : K.lookup f_law_row = some ⟨oc_law_row, od_law_row, .func (PySem.W.fnOf "_law_row" "_law_row" (defArgs s_law_row) (defBody s_law_row) (defScope s_law_row) .none kV_law_row dc_law_row pm_law_row an_law_row cd_law_row ct_law_row), sl_law_row⟩)
    (q_law_row : PySem.W.codeIn K cd_law_row "_law_row" = true)
    (k_law_row : PySem.W.keepIn K (.ref f_law_row) = true)
    (a_law_weights : PySem.W.nsIn K mainGlobals "_law_weights" = some (some (.ref f_law_weights)))
    (l_law_weights : K.lookup f_law_weights = some ⟨oc_law_weights, od_law_weights, .func (PySem.W.fnOf "_law_weights" "_law_weights" (defArgs s_law_weights) (defBody s_law_weights) (defScope s_law_weights) .none kV_law_weights dc_law_weights pm_law_weights an_law_weights cd_law_weights ct_law_weights), sl_law_weights⟩)
    (q_law_weights : PySem.W.codeIn K cd_law_weights "_law_weights" = true)
    (k_law_weights : PySem.W.keepIn K (.ref f_law_weights) = true)
    (a_law_weight : PySem.W.nsIn K mainGlobals "_law_weight" = some (some (.ref f_law_weight)))
    (l_law_weight : K.lookup f_law_weight = some ⟨oc_law_weight, od_law_weight, .func (PySem.W.fnOf "_law_weight" "_law_weight" (defArgs s_law_weight) (defBody s_law_weight) (defScope s_law_weight) .none kV_law_weight dc_law_weight pm_law_weight an_law_weight cd_law_weight ct_law_weight), sl_law_weight⟩)
    (q_law_weight : PySem.W.codeIn K cd_law_weight "_law_weight" = true)
    (k_law_weight : PySem.W.keepIn K (.ref f_law_weight) = true)
    (a_law_clash : PySem.W.nsIn K mainGlobals "_law_clash" = some (some (.ref f_law_clash)))
    (l_law_clash : K.lookup f_law_clash = some ⟨oc_law_clash, od_law_clash, .func (PySem.W.fnOf "_law_clash" "_law_clash" (defArgs s_law_clash) (defBody s_law_clash) (defScope s_law_clash) .none kV_law_clash dc_law_clash pm_law_clash an_law_clash cd_law_clash ct_law_clash), sl_law_clash⟩)
    (q_law_clash : PySem.W.codeIn K cd_law_clash "_law_clash" = true)
    (k_law_clash : PySem.W.keepIn K (.ref f_law_clash) = true)
    (a_law_certified : PySem.W.nsIn K mainGlobals "_law_certified" = some (some (.ref f_law_certified)))
    (l_law_certified : K.lookup f_law_certified = some ⟨oc_law_certified, od_law_certified, .func (PySem.W.fnOf "_law_certified" "_law_certified" (defArgs s_law_certified) (defBody s_law_certified) (defScope s_law_certified) .none kV_law_certified dc_law_certified pm_law_certified an_law_certified cd_law_certified ct_law_certified), sl_law_certified⟩)
    (q_law_certified : PySem.W.codeIn K cd_law_certified "_law_certified" = true)
    (k_law_certified : PySem.W.keepIn K (.ref f_law_certified) = true)
    (a_law_committed : PySem.W.nsIn K mainGlobals "_law_committed" = some (some (.ref f_law_committed)))
    (l_law_committed : K.lookup f_law_committed = some ⟨oc_law_committed, od_law_committed, .func (PySem.W.fnOf "_law_committed" "_law_committed" (defArgs s_law_committed) (defBody s_law_committed) (defScope s_law_committed) .none kV_law_committed dc_law_committed pm_law_committed an_law_committed cd_law_committed ct_law_committed), sl_law_committed⟩)
    (q_law_committed : PySem.W.codeIn K cd_law_committed "_law_committed" = true)
    (k_law_committed : PySem.W.keepIn K (.ref f_law_committed) = true)
    (a_law_planted : PySem.W.nsIn K mainGlobals "_law_planted" = some (some (.ref f_law_planted)))
    (l_law_planted : K.lookup f_law_planted = some ⟨oc_law_planted, od_law_planted, .func (PySem.W.fnOf "_law_planted" "_law_planted" (defArgs s_law_planted) (defBody s_law_planted) (defScope s_law_planted) .none kV_law_planted dc_law_planted pm_law_planted an_law_planted cd_law_planted ct_law_planted), sl_law_planted⟩)
    (q_law_planted : PySem.W.codeIn K cd_law_planted "_law_planted" = true)
    (k_law_planted : PySem.W.keepIn K (.ref f_law_planted) = true)
    (a_law_commits : PySem.W.nsIn K mainGlobals "_law_commits" = some (some (.ref f_law_commits)))
    (l_law_commits : K.lookup f_law_commits = some ⟨oc_law_commits, od_law_commits, .func (PySem.W.fnOf "_law_commits" "_law_commits" (defArgs s_law_commits) (defBody s_law_commits) (defScope s_law_commits) .none kV_law_commits dc_law_commits pm_law_commits an_law_commits cd_law_commits ct_law_commits), sl_law_commits⟩)
    (q_law_commits : PySem.W.codeIn K cd_law_commits "_law_commits" = true)
    (k_law_commits : PySem.W.keepIn K (.ref f_law_commits) = true)
    (a_law : PySem.W.nsIn K mainGlobals "law" = some (some (.ref f_law)))
    (l_law : K.lookup f_law = some ⟨oc_law, od_law, .func (PySem.W.fnOf "law" "law" (defArgs s_law) (defBody s_law) (defScope s_law) .none kV_law dc_law pm_law an_law cd_law ct_law), sl_law⟩)
    (q_law : PySem.W.codeIn K cd_law "law" = true)
    (k_law : PySem.W.keepIn K (.ref f_law) = true)
    (pg_Committee : PySem.W.plainGet K C_Committee Str.empty = true)
    (hd_Committee : PySem.W.hasDictIn K C_Committee = true)
    (po_Committee : PySem.W.plainOver K C_Committee = true)
    (sa_Committee : PySem.W.findIn K (.ref C_Committee) "__setattr__" = some (some (.builtin "object.__setattr__")))
    (mk_Committee : PySem.W.makesIn K C_Committee = true)
    (kc_Committee : PySem.W.keepIn K (.ref C_Committee) = true)
    (no_Committee_weights : PySem.W.findIn K (.ref C_Committee) "weights" = some none)
    (no_Committee_size : PySem.W.findIn K (.ref C_Committee) "size" = some none)
    (no_Committee_total : PySem.W.findIn K (.ref C_Committee) "total" = some none)
    (pg_Charge : PySem.W.plainGet K C_Charge Str.empty = true)
    (hd_Charge : PySem.W.hasDictIn K C_Charge = true)
    (po_Charge : PySem.W.plainOver K C_Charge = true)
    (sa_Charge : PySem.W.findIn K (.ref C_Charge) "__setattr__" = some (some (.builtin "object.__setattr__")))
    (mk_Charge : PySem.W.makesIn K C_Charge = true)
    (kc_Charge : PySem.W.keepIn K (.ref C_Charge) = true)
    (no_Charge_who : PySem.W.findIn K (.ref C_Charge) "who" = some none)
    (no_Charge_first : PySem.W.findIn K (.ref C_Charge) "first" = some none)
    (no_Charge_second : PySem.W.findIn K (.ref C_Charge) "second" = some none)
    (g_BadLine : PySem.W.nsIn K mainGlobals "BadLine" = some (some (.ref C_BadLine)))
    (g_BadPaper : PySem.W.nsIn K mainGlobals "BadPaper" = some (some (.ref C_BadPaper)))
    (x_BadPaper : PySem.W.excIn K C_BadPaper [.type "ValueError", .type "Exception", .type "BaseException", .type "object"] "ValueError.__new__" = true)
    (kc_BadPaper : PySem.W.keepIn K (.ref C_BadPaper) = true)
    (b_BadPaper : PySem.W.subIn K (.ref C_BadPaper) (.type "BaseException") = some true)
    (t_BadPaper : PySem.W.typeIn K (.ref C_BadPaper) = some (.type "type"))
    (xga_BadPaper : PySem.W.findIn K (.ref C_BadPaper) "__getattribute__" = some (some (.builtin "BaseException.__getattribute__")))
    (xgt_BadPaper : PySem.W.findIn K (.ref C_BadPaper) "__getattr__" = some none)
    (xhd_BadPaper : PySem.W.hasDictIn K C_BadPaper = true)
    (xcc_BadPaper : PySem.W.findIn K (.ref C_BadPaper) "__class__" = some (some (.builtin "object.__class__")))
    (xsp_BadPaper : PySem.W.specialIn K (.builtin "object.__class__") "__get__" = some (some (.builtin "getset_descriptor.__get__")))
    (xtk_BadPaper : PySem.W.takesIn K (.builtin "object.__class__") = some true)
    (xmo_BadPaper : PySem.W.mroIn K C_BadPaper (.type "object") = some true)
    (kt_BadPaper_BadPaper : PySem.W.kitOne K (.ref C_BadPaper) (.ref C_BadPaper) = some true)
    (kt_BadPaper_BadLine : PySem.W.kitOne K (.ref C_BadPaper) (.ref C_BadLine) = some false)
    (g_TribunalError : PySem.W.nsIn K mainGlobals "TribunalError" = some (some (.ref C_TribunalError)))
    (te1_TribunalError : PySem.W.subIn K (.ref C_TribunalError) (.type "BaseException") = some true)
    (te2_TribunalError : PySem.W.hasDictIn K C_TribunalError = true)
    (te3_TribunalError : PySem.W.typeIn K (.ref C_TribunalError) = some (.type "type"))
    (te4_TribunalError_BadPaper : PySem.W.subIn K (.ref C_BadPaper) (.ref C_TribunalError) = some true) :
    ∃ fd : FuncData, (∀ (s : Shared) (v : Value), BindsTo s fd ⟨[v], []⟩ [("script", v)]) ∧ ∀ base : Heap, K.In base → base.Ns mainGlobals mg → FnOk l.prog w K mg base CX0 8 fa fd ["script"] (spLaw K) := by
  have e := hfa.symm.trans (PySem.W.mg_of X G a_law)
  cases e
  have T : Txt K mg ⟨C_Committee, C_Charge, f_is_vote, f_clash, f_abandons, f_Charge_init, f_first_clash, f_charge_of, f_charges, f_first_wrong, f_Committee_init, f_Committee_weight_of, f_Committee_is_quorum, f_votes_by_turn, f_counts, f_certified_turns, f_committed_turns, f_shown_turn, f_shows, f_accuse, f_law_cell, f_law_row, f_law_weights, f_law_weight, f_law_clash, f_law_certified, f_law_committed, f_law_planted, f_law_commits, C_BadPaper, C_TribunalError, C_BadLine⟩ := {
    n_len := mg_no X G n_len
    n_range := mg_no X G n_range
    n_isinstance := mg_no X G n_isinstance
    n_int := mg_no X G n_int
    n_bool := mg_no X G n_bool
    n_list := mg_no X G n_list
    n_tuple := mg_no X G n_tuple
    n_sum := mg_no X G n_sum
    n_enumerate := mg_no X G n_enumerate
    n_set := mg_no X G n_set
    n_sorted := mg_no X G n_sorted
    n_min := mg_no X G n_min
    n_abs := mg_no X G n_abs
    c_KIND := ⟨_, PySem.W.mg_of X G c_KIND⟩
    c_HEIGHT := ⟨_, PySem.W.mg_of X G c_HEIGHT⟩
    c_TURN := ⟨_, PySem.W.mg_of X G c_TURN⟩
    c_BLOCK := ⟨_, PySem.W.mg_of X G c_BLOCK⟩
    c_LEAN := ⟨_, PySem.W.mg_of X G c_LEAN⟩
    c_MOST_MEMBERS := ⟨_, PySem.W.mg_of X G c_MOST_MEMBERS⟩
    c_MOST_WEIGHT := ⟨_, PySem.W.mg_of X G c_MOST_WEIGHT⟩
    g_Committee := PySem.W.mg_of X G g_Committee
    cl_Committee := ⟨pg_Committee, hd_Committee, po_Committee, sa_Committee⟩
    kc_Committee := kc_Committee
    mk_Committee := mk_Committee
    a_Committee_weights := no_Committee_weights
    a_Committee_size := no_Committee_size
    a_Committee_total := no_Committee_total
    g_Charge := PySem.W.mg_of X G g_Charge
    cl_Charge := ⟨pg_Charge, hd_Charge, po_Charge, sa_Charge⟩
    kc_Charge := kc_Charge
    mk_Charge := mk_Charge
    a_Charge_who := no_Charge_who
    a_Charge_first := no_Charge_first
    a_Charge_second := no_Charge_second
    d_is_vote := ⟨def_mk l_is_vote q_is_vote k_is_vote (fun _ _ _ _ _ _ us hl => match us, hl with | [_], _ => rfl), PySem.W.mg_of X G a_is_vote, k_is_vote⟩
    d_clash := ⟨def_mk l_clash q_clash k_clash (fun _ _ _ _ _ _ us hl => match us, hl with | [_, _], _ => rfl), PySem.W.mg_of X G a_clash, k_clash⟩
    d_abandons := ⟨def_mk l_abandons q_abandons k_abandons (fun _ _ _ _ _ _ us hl => match us, hl with | [_, _], _ => rfl), PySem.W.mg_of X G a_abandons, k_abandons⟩
    d_Charge_init := ⟨def_mk l_Charge_init q_Charge_init k_Charge_init (fun _ _ _ _ _ _ us hl => match us, hl with | [_, _, _, _], _ => rfl), a_Charge_init, i_Charge_init, k_Charge_init⟩
    d_first_clash := ⟨def_mk l_first_clash q_first_clash k_first_clash (fun _ _ _ _ _ _ us hl => match us, hl with | [_, _], _ => rfl), PySem.W.mg_of X G a_first_clash, k_first_clash⟩
    d_charge_of := ⟨def_mk l_charge_of q_charge_of k_charge_of (fun _ _ _ _ _ _ us hl => match us, hl with | [_, _], _ => rfl), PySem.W.mg_of X G a_charge_of, k_charge_of⟩
    d_charges := ⟨def_mk l_charges q_charges k_charges (fun _ _ _ _ _ _ us hl => match us, hl with | [_, _], _ => rfl), PySem.W.mg_of X G a_charges, k_charges⟩
    d_first_wrong := ⟨def_mk l_first_wrong q_first_wrong k_first_wrong (fun _ _ _ _ _ _ us hl => match us, hl with | [_], _ => rfl), PySem.W.mg_of X G a_first_wrong, k_first_wrong⟩
    d_Committee_init := ⟨def_mk l_Committee_init q_Committee_init k_Committee_init (fun _ _ _ _ _ _ us hl => match us, hl with | [_, _], _ => rfl), a_Committee_init, i_Committee_init, k_Committee_init⟩
    d_Committee_weight_of := ⟨def_mk l_Committee_weight_of q_Committee_weight_of k_Committee_weight_of (fun _ _ _ _ _ _ us hl => match us, hl with | [_, _], _ => rfl), a_Committee_weight_of, i_Committee_weight_of, k_Committee_weight_of⟩
    d_Committee_is_quorum := ⟨def_mk l_Committee_is_quorum q_Committee_is_quorum k_Committee_is_quorum (fun _ _ _ _ _ _ us hl => match us, hl with | [_, _], _ => rfl), a_Committee_is_quorum, i_Committee_is_quorum, k_Committee_is_quorum⟩
    d_votes_by_turn := ⟨def_mk l_votes_by_turn q_votes_by_turn k_votes_by_turn (fun _ _ _ _ _ _ us hl => match us, hl with | [_, _, _, _], _ => rfl), PySem.W.mg_of X G a_votes_by_turn, k_votes_by_turn⟩
    d_counts := ⟨def_mk l_counts q_counts k_counts (fun _ _ _ _ _ _ us hl => match us, hl with | [_, _], _ => rfl), PySem.W.mg_of X G a_counts, k_counts⟩
    d_certified_turns := ⟨def_mk l_certified_turns q_certified_turns k_certified_turns (fun _ _ _ _ _ _ us hl => match us, hl with | [_, _, _, _], _ => rfl), PySem.W.mg_of X G a_certified_turns, k_certified_turns⟩
    d_committed_turns := ⟨def_mk l_committed_turns q_committed_turns k_committed_turns (fun _ _ _ _ _ _ us hl => match us, hl with | [_, _, _, _], _ => rfl), PySem.W.mg_of X G a_committed_turns, k_committed_turns⟩
    d_shown_turn := ⟨def_mk l_shown_turn q_shown_turn k_shown_turn (fun _ _ _ _ _ _ us hl => match us, hl with | [_, _, _, _], _ => rfl), PySem.W.mg_of X G a_shown_turn, k_shown_turn⟩
    d_shows := ⟨def_mk l_shows q_shows k_shows (fun _ _ _ _ _ _ us hl => match us, hl with | [_, _, _, _], _ => rfl), PySem.W.mg_of X G a_shows, k_shows⟩
    d_accuse := ⟨def_mk l_accuse q_accuse k_accuse (fun _ _ _ _ _ _ us hl => match us, hl with | [_, _, _, _], _ => rfl), PySem.W.mg_of X G a_accuse, k_accuse⟩
    d_law_cell := ⟨def_mk l_law_cell q_law_cell k_law_cell (fun _ _ _ _ _ _ us hl => match us, hl with | [_, _], _ => rfl), PySem.W.mg_of X G a_law_cell, k_law_cell⟩
    d_law_row := ⟨def_mk l_law_row q_law_row k_law_row (fun _ _ _ _ _ _ us hl => match us, hl with | [_, _, _], _ => rfl), PySem.W.mg_of X G a_law_row, k_law_row⟩
    d_law_weights := ⟨def_mk l_law_weights q_law_weights k_law_weights (fun _ _ _ _ _ _ us hl => match us, hl with | [_, _], _ => rfl), PySem.W.mg_of X G a_law_weights, k_law_weights⟩
    d_law_weight := ⟨def_mk l_law_weight q_law_weight k_law_weight (fun _ _ _ _ _ _ us hl => match us, hl with | [_, _], _ => rfl), PySem.W.mg_of X G a_law_weight, k_law_weight⟩
    d_law_clash := ⟨def_mk l_law_clash q_law_clash k_law_clash (fun _ _ _ _ _ _ us hl => match us, hl with | [_, _], _ => rfl), PySem.W.mg_of X G a_law_clash, k_law_clash⟩
    d_law_certified := ⟨def_mk l_law_certified q_law_certified k_law_certified (fun _ _ _ _ _ _ us hl => match us, hl with | [_, _, _, _, _], _ => rfl), PySem.W.mg_of X G a_law_certified, k_law_certified⟩
    d_law_committed := ⟨def_mk l_law_committed q_law_committed k_law_committed (fun _ _ _ _ _ _ us hl => match us, hl with | [_, _, _, _, _], _ => rfl), PySem.W.mg_of X G a_law_committed, k_law_committed⟩
    d_law_planted := ⟨def_mk l_law_planted q_law_planted k_law_planted (fun _ _ _ _ _ _ us hl => match us, hl with | [_, _], _ => rfl), PySem.W.mg_of X G a_law_planted, k_law_planted⟩
    d_law_commits := ⟨def_mk l_law_commits q_law_commits k_law_commits (fun _ _ _ _ _ _ us hl => match us, hl with | [_, _, _], _ => rfl), PySem.W.mg_of X G a_law_commits, k_law_commits⟩ }
  have TE : TxtE K mg ⟨C_Committee, C_Charge, f_is_vote, f_clash, f_abandons, f_Charge_init, f_first_clash, f_charge_of, f_charges, f_first_wrong, f_Committee_init, f_Committee_weight_of, f_Committee_is_quorum, f_votes_by_turn, f_counts, f_certified_turns, f_committed_turns, f_shown_turn, f_shows, f_accuse, f_law_cell, f_law_row, f_law_weights, f_law_weight, f_law_clash, f_law_certified, f_law_committed, f_law_planted, f_law_commits, C_BadPaper, C_TribunalError, C_BadLine⟩ := {
    g_BadLine := PySem.W.mg_of X G g_BadLine
    g_BadPaper := PySem.W.mg_of X G g_BadPaper
    x_BadPaper := x_BadPaper
    kc_BadPaper := kc_BadPaper
    b_BadPaper := b_BadPaper
    t_BadPaper := t_BadPaper
    xc_BadPaper := ⟨(PySem.W.any_some xhd_BadPaper).elim fun cd h => by rw [h.1]; rfl, xga_BadPaper, xgt_BadPaper, b_BadPaper, xhd_BadPaper, xcc_BadPaper, xsp_BadPaper, xtk_BadPaper, xmo_BadPaper⟩
    kt_BadPaper_BadPaper := kt_BadPaper_BadPaper
    kt_BadPaper_BadLine := kt_BadPaper_BadLine
    g_TribunalError := PySem.W.mg_of X G g_TribunalError
    exm_TribunalError_BadPaper := PySem.W.exm_ref te1_TribunalError te2_TribunalError te3_TribunalError te4_TribunalError_BadPaper }
  have F5 := fun_mk (st := s_law) l_law q_law k_law
  exact ⟨PySem.W.fnOf "law" "law" (defArgs s_law) (defBody s_law) (defScope s_law) .none kV_law dc_law pm_law an_law cd_law ct_law, fun s v => .of_eq rfl, fun base _ _ => ok_law F5 TE T⟩
theorem walk {l : PySem.W.OpenLaw} {q : Program} {loose : List Str} {XP : (Str → Option Value) → Heap → Prop} {YP : World → Heap → Prop} {d : DefRec} {K : Params → PySem.W.Frag} (hn : l.most = some 63) (hdf : d.params.defaults = [])
    (hY : ∀ (w : World) (h : Heap), YP w h → (K w.params).In h)
    (F : ∀ (w : World) (mg : Str → Option Value) (fa : Addr) (h : Heap), (K w.params).In h → h.Ns mainGlobals mg → mg d.name = some (.ref fa) →
      ∃ fd : FuncData, (∀ (s : Shared) (u : Value), BindsTo s fd ⟨[u], []⟩ [("script", u)]) ∧ ∀ base : Heap, (K w.params).In base → base.Ns mainGlobals mg → FnOk l.prog w (K w.params) mg base CX0 8 fa fd ["script"] (spLaw (K w.params))) :
    PySem.W.WalkO q loose XP YP l.row.toRowW d [] (fun f vs => PySem.call f vs) :=
  L2.walk_of (n := 63) (k := 8) (x := "script") (CX := fun _ => CX0) (sp := fun w => spLaw (K w.params)) hn (by decide) hdf ⟨rfl, by decide, by decide⟩ hY F (fun _ _ a ns hl _ hS => ⟨a, ns, rfl, hS, hl, fun _ => rfl⟩) fun _ _ _ _ _ z => z
end Toy
open PySem PySem.W PyProof.Rows
set_option maxRecDepth 100000 in
set_option maxHeartbeats 0 in
theorem PySem.Challenge.cw_tribunal_k12_two_papers_accuse_holds : PySem.Challenge.rw_tribunal_k12_two_papers_accuse.Holds := by
  w_on; o_law; k_head; (case hw => w_witness2)
  k_fill
  refine Toy.walk (l := PySem.Challenge.rw_tribunal_k12_two_papers_accuse) rfl rfl (fun w h Y => PySem.W.kIn_of Y) ?F
  case F =>
    intro w mg fa h KX G hmg
    refine' Toy.all_mk KX G hmg ?c_KIND ?c_HEIGHT ?c_TURN ?c_BLOCK ?c_LEAN ?c_MOST_MEMBERS ?c_MOST_WEIGHT ?n_len ?n_range ?n_isinstance ?n_int ?n_bool ?n_list ?n_tuple ?n_sum ?n_enumerate ?n_set ?n_sorted ?n_min ?n_abs ?g_Committee ?g_Charge ?a_is_vote ?l_is_vote ?q_is_vote ?k_is_vote ?a_clash ?l_clash ?q_clash ?k_clash ?a_abandons ?l_abandons ?q_abandons ?k_abandons ?a_Charge_init ?i_Charge_init ?l_Charge_init ?q_Charge_init ?k_Charge_init ?a_first_clash ?l_first_clash ?q_first_clash ?k_first_clash ?a_charge_of ?l_charge_of ?q_charge_of ?k_charge_of ?a_charges ?l_charges ?q_charges ?k_charges ?a_first_wrong ?l_first_wrong ?q_first_wrong ?k_first_wrong ?a_Committee_init ?i_Committee_init ?l_Committee_init ?q_Committee_init ?k_Committee_init ?a_Committee_weight_of ?i_Committee_weight_of ?l_Committee_weight_of ?q_Committee_weight_of ?k_Committee_weight_of ?a_Committee_is_quorum ?i_Committee_is_quorum ?l_Committee_is_quorum ?q_Committee_is_quorum ?k_Committee_is_quorum ?a_votes_by_turn ?l_votes_by_turn ?q_votes_by_turn ?k_votes_by_turn ?a_counts ?l_counts ?q_counts ?k_counts ?a_certified_turns ?l_certified_turns ?q_certified_turns ?k_certified_turns ?a_committed_turns ?l_committed_turns ?q_committed_turns ?k_committed_turns ?a_shown_turn ?l_shown_turn ?q_shown_turn ?k_shown_turn ?a_shows ?l_shows ?q_shows ?k_shows ?a_accuse ?l_accuse ?q_accuse ?k_accuse ?a_law_cell ?l_law_cell ?q_law_cell ?k_law_cell ?a_law_row ?l_law_row ?q_law_row ?k_law_row ?a_law_weights ?l_law_weights ?q_law_weights ?k_law_weights ?a_law_weight ?l_law_weight ?q_law_weight ?k_law_weight ?a_law_clash ?l_law_clash ?q_law_clash ?k_law_clash ?a_law_certified ?l_law_certified ?q_law_certified ?k_law_certified ?a_law_committed ?l_law_committed ?q_law_committed ?k_law_committed ?a_law_planted ?l_law_planted ?q_law_planted ?k_law_planted ?a_law_commits ?l_law_commits ?q_law_commits ?k_law_commits ?a_law ?l_law ?q_law ?k_law ?pg_Committee ?hd_Committee ?po_Committee ?sa_Committee ?mk_Committee ?kc_Committee ?no_Committee_weights ?no_Committee_size ?no_Committee_total ?pg_Charge ?hd_Charge ?po_Charge ?sa_Charge ?mk_Charge ?kc_Charge ?no_Charge_who ?no_Charge_first ?no_Charge_second ?g_BadLine ?g_BadPaper ?x_BadPaper ?kc_BadPaper ?b_BadPaper ?t_BadPaper ?xga_BadPaper ?xgt_BadPaper ?xhd_BadPaper ?xcc_BadPaper ?xsp_BadPaper ?xtk_BadPaper ?xmo_BadPaper ?kt_BadPaper_BadPaper ?kt_BadPaper_BadLine ?g_TribunalError ?te1_TribunalError ?te2_TribunalError ?te3_TribunalError ?te4_TribunalError_BadPaper
    (case c_KIND => k_is)
    (case c_HEIGHT => k_is)
    (case c_TURN => k_is)
    (case c_BLOCK => k_is)
    (case c_LEAN => k_is)
    (case c_MOST_MEMBERS => k_is)
    (case c_MOST_WEIGHT => k_is)
    (case n_len => k_is)
    (case n_range => k_is)
    (case n_isinstance => k_is)
    (case n_int => k_is)
    (case n_bool => k_is)
    (case n_list => k_is)
    (case n_tuple => k_is)
    (case n_sum => k_is)
    (case n_enumerate => k_is)
    (case n_set => k_is)
    (case n_sorted => k_is)
    (case n_min => k_is)
    (case n_abs => k_is)
    (case g_Committee => k_is)
    (case g_Charge => k_is)
    (case a_is_vote => k_is)
    (case l_is_vote => k_is)
    (case q_is_vote => k_is)
    (case k_is_vote => k_is)
    (case a_clash => k_is)
    (case l_clash => k_is)
    (case q_clash => k_is)
    (case k_clash => k_is)
    (case a_abandons => k_is)
    (case l_abandons => k_is)
    (case q_abandons => k_is)
    (case k_abandons => k_is)
    (case a_Charge_init => k_is)
    (case i_Charge_init => k_is)
    (case l_Charge_init => k_is)
    (case q_Charge_init => k_is)
    (case k_Charge_init => k_is)
    (case a_first_clash => k_is)
    (case l_first_clash => k_is)
    (case q_first_clash => k_is)
    (case k_first_clash => k_is)
    (case a_charge_of => k_is)
    (case l_charge_of => k_is)
    (case q_charge_of => k_is)
    (case k_charge_of => k_is)
    (case a_charges => k_is)
    (case l_charges => k_is)
    (case q_charges => k_is)
    (case k_charges => k_is)
    (case a_first_wrong => k_is)
    (case l_first_wrong => k_is)
    (case q_first_wrong => k_is)
    (case k_first_wrong => k_is)
    (case a_Committee_init => k_is)
    (case i_Committee_init => k_is)
    (case l_Committee_init => k_is)
    (case q_Committee_init => k_is)
    (case k_Committee_init => k_is)
    (case a_Committee_weight_of => k_is)
    (case i_Committee_weight_of => k_is)
    (case l_Committee_weight_of => k_is)
    (case q_Committee_weight_of => k_is)
    (case k_Committee_weight_of => k_is)
    (case a_Committee_is_quorum => k_is)
    (case i_Committee_is_quorum => k_is)
    (case l_Committee_is_quorum => k_is)
    (case q_Committee_is_quorum => k_is)
    (case k_Committee_is_quorum => k_is)
    (case a_votes_by_turn => k_is)
    (case l_votes_by_turn => k_is)
    (case q_votes_by_turn => k_is)
    (case k_votes_by_turn => k_is)
    (case a_counts => k_is)
    (case l_counts => k_is)
    (case q_counts => k_is)
    (case k_counts => k_is)
    (case a_certified_turns => k_is)
    (case l_certified_turns => k_is)
    (case q_certified_turns => k_is)
    (case k_certified_turns => k_is)
    (case a_committed_turns => k_is)
    (case l_committed_turns => k_is)
    (case q_committed_turns => k_is)
    (case k_committed_turns => k_is)
    (case a_shown_turn => k_is)
    (case l_shown_turn => k_is)
    (case q_shown_turn => k_is)
    (case k_shown_turn => k_is)
    (case a_shows => k_is)
    (case l_shows => k_is)
    (case q_shows => k_is)
    (case k_shows => k_is)
    (case a_accuse => k_is)
    (case l_accuse => k_is)
    (case q_accuse => k_is)
    (case k_accuse => k_is)
    (case a_law_cell => k_is)
    (case l_law_cell => k_is)
    (case q_law_cell => k_is)
    (case k_law_cell => k_is)
    (case a_law_row => k_is)
    (case l_law_row => k_is)
    (case q_law_row => k_is)
    (case k_law_row => k_is)
    (case a_law_weights => k_is)
    (case l_law_weights => k_is)
    (case q_law_weights => k_is)
    (case k_law_weights => k_is)
    (case a_law_weight => k_is)
    (case l_law_weight => k_is)
    (case q_law_weight => k_is)
    (case k_law_weight => k_is)
    (case a_law_clash => k_is)
    (case l_law_clash => k_is)
    (case q_law_clash => k_is)
    (case k_law_clash => k_is)
    (case a_law_certified => k_is)
    (case l_law_certified => k_is)
    (case q_law_certified => k_is)
    (case k_law_certified => k_is)
    (case a_law_committed => k_is)
    (case l_law_committed => k_is)
    (case q_law_committed => k_is)
    (case k_law_committed => k_is)
    (case a_law_planted => k_is)
    (case l_law_planted => k_is)
    (case q_law_planted => k_is)
    (case k_law_planted => k_is)
    (case a_law_commits => k_is)
    (case l_law_commits => k_is)
    (case q_law_commits => k_is)
    (case k_law_commits => k_is)
    (case a_law => k_is)
    (case l_law => k_is)
    (case q_law => k_is)
    (case k_law => k_is)
    (case pg_Committee => k_is)
    (case hd_Committee => k_is)
    (case po_Committee => k_is)
    (case sa_Committee => k_is)
    (case mk_Committee => k_is)
    (case kc_Committee => k_is)
    (case no_Committee_weights => k_is)
    (case no_Committee_size => k_is)
    (case no_Committee_total => k_is)
    (case pg_Charge => k_is)
    (case hd_Charge => k_is)
    (case po_Charge => k_is)
    (case sa_Charge => k_is)
    (case mk_Charge => k_is)
    (case kc_Charge => k_is)
    (case no_Charge_who => k_is)
    (case no_Charge_first => k_is)
    (case no_Charge_second => k_is)
    (case g_BadLine => k_is)
    (case g_BadPaper => k_is)
    (case x_BadPaper => k_exc)
    (case kc_BadPaper => k_is)
    (case b_BadPaper => k_is)
    (case t_BadPaper => k_is)
    (case xga_BadPaper => k_is)
    (case xgt_BadPaper => k_is)
    (case xhd_BadPaper => k_is)
    (case xcc_BadPaper => k_is)
    (case xsp_BadPaper => k_is)
    (case xtk_BadPaper => k_is)
    (case xmo_BadPaper => k_is)
    (case kt_BadPaper_BadPaper => kit_is)
    (case kt_BadPaper_BadLine => kit_is)
    (case g_TribunalError => k_is)
    (case te1_TribunalError => k_is)
    (case te2_TribunalError => k_is)
    (case te3_TribunalError => k_is)
    (case te4_TribunalError_BadPaper => k_is)
