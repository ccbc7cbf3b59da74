import PyProof.Rows.All
import Wide.All
import OpenK.AllK
import Wide.FinOn
import HandS.ForMost
import HandS.IsInst
import HandS.TupLe
import HandS.Codes
import HandS.More
import HandS.TupAny
import HandS.SetKeys
import HandS.SortKw
import HandS.SortRule
import HandS.Conv
import HandS.Deep
import HandS.Exc
import HandS.ExcInit
import HandS.ExcSuper
import HandS.FStr
import HandS.ExcCtx
import HandS.HotCalls
import HandS.ExcInitHot
import HandS.ExcIs
import HandS.ExcField
import HandS.ExcOwn
import HandS.WordsExc
import HandS.RaiseMore
import HandS.RaiseFrom
import HandS.SuiteRaise
import HandS.TupMul
import HandS.TryOnly
import HandS.Text
import KE.IntTextText
import KE.IntTextLaws
import KE.KMinBuiltin
import KE.GoesMore
import KE.GoesEnum
import KE.KTupSum
import KE.KeyNested
import KE.KDictKeyed
import KE.KSortTupG
import KE.KExcIs
import KE.KExcSuper
import PySem.Challenge.RW_tribunal_k13_keepers_that_hear_nothing
set_option Elab.async false
set_option pp.maxSteps 300
set_option pp.deepTerms.threshold 6
set_option linter.all false
set_option maxRecDepth 100000
set_option maxHeartbeats 4000000
namespace Toy
open PySem L2
def top (i : Nat) : Stmt := PySem.Challenge.pw_tribunal_k13_keepers_that_hear_nothing.main.body.getD i (.Pass ⟨0, 0, 0, 0⟩)
abbrev s_proposal : Stmt := (top 7)
abbrev s_prevote : Stmt := (top 8)
abbrev s_precommit : Stmt := (top 9)
abbrev s_is_vote : Stmt := (top 10)
abbrev s_clash : Stmt := (top 11)
abbrev s_abandons : Stmt := (top 12)
abbrev s_first_wrong : Stmt := (top 65)
abbrev s_Committee_init : Stmt := (inClass (top 64) 0)
abbrev s_Committee_weight_of : Stmt := (inClass (top 64) 1)
abbrev s_Committee_is_quorum : Stmt := (inClass (top 64) 2)
abbrev s_Committee_leader : Stmt := (inClass (top 64) 4)
abbrev s_votes_by_turn : Stmt := (top 16)
abbrev s_counts : Stmt := (top 17)
abbrev s_certified_turns : Stmt := (top 14)
abbrev s_committed_turns : Stmt := (top 15)
abbrev s_missing : Stmt := (top 20)
abbrev s_Book_init : Stmt := (inClass (top 19) 0)
abbrev s_Book_belongs : Stmt := (inClass (top 19) 5)
abbrev s_Book_enter : Stmt := (inClass (top 19) 6)
abbrev s_Book_add : Stmt := (inClass (top 19) 1)
abbrev s_Book_latest : Stmt := (inClass (top 19) 4)
abbrev s_Journal_init : Stmt := (inClass (top 81) 0)
abbrev s_Journal_sign : Stmt := (inClass (top 81) 1)
abbrev s_Journal_last_turn : Stmt := (inClass (top 81) 2)
abbrev s_Ledger_init : Stmt := (inClass (top 67) 0)
abbrev s_first_ledger : Stmt := (top 68)
abbrev s_Chain_init : Stmt := (inClass (top 78) 0)
abbrev s_Chain_height : Stmt := (inClass (top 78) 1)
abbrev s_Chain_committee : Stmt := (inClass (top 78) 2)
abbrev s_block_of : Stmt := (top 55)
abbrev s_Pool_init : Stmt := (inClass (top 58) 0)
abbrev s_Pool_block : Stmt := (inClass (top 58) 2)
abbrev s_Replica_init : Stmt := (inClass (top 60) 0)
abbrev s_Replica_start : Stmt := (inClass (top 60) 1)
abbrev s_Replica_timeout : Stmt := (inClass (top 60) 3)
abbrev s_Replica_begin_call : Stmt := (inClass (top 60) 6)
abbrev s_Replica_go_on : Stmt := (inClass (top 60) 7)
abbrev s_Replica_do_first : Stmt := (inClass (top 60) 8)
abbrev s_Replica_reach : Stmt := (inClass (top 60) 10)
abbrev s_Replica_enter_first_turn : Stmt := (inClass (top 60) 11)
abbrev s_Replica_enter : Stmt := (inClass (top 60) 12)
abbrev s_Replica_choice : Stmt := (inClass (top 60) 13)
abbrev s_Replica_certified : Stmt := (inClass (top 60) 14)
abbrev s_Replica_prevote : Stmt := (inClass (top 60) 15)
abbrev s_Replica_sign : Stmt := (inClass (top 60) 16)
abbrev s_Replica_take_in : Stmt := (inClass (top 60) 17)
abbrev s_Replica_is_leader : Stmt := (inClass (top 60) 18)
abbrev s_law_cell : Stmt := (top 83)
abbrev s_law_entered : Stmt := (top 86)
abbrev s_law : Stmt := (top 87)
abbrev s_Refused_init : Stmt := (inClass (top 25) 0)
abbrev sc_proposal_N : List Str := ["height", "turn", "block"]
theorem sc_proposal : FnScope sc_proposal_N ["height", "turn", "block"] (defScope s_proposal) := ⟨rfl, rfl, rfl, by decide +kernel, rfl, by decide +kernel, by decide +kernel⟩
abbrev sc_prevote_N : List Str := ["height", "turn", "block", "lean"]
theorem sc_prevote : FnScope sc_prevote_N ["height", "turn", "block", "lean"] (defScope s_prevote) := ⟨rfl, rfl, rfl, by decide +kernel, rfl, by decide +kernel, by decide +kernel⟩
abbrev sc_precommit_N : List Str := ["height", "turn", "block"]
theorem sc_precommit : FnScope sc_precommit_N ["height", "turn", "block"] (defScope s_precommit) := ⟨rfl, rfl, rfl, by decide +kernel, rfl, by decide +kernel, by decide +kernel⟩
abbrev sc_is_vote_N : List Str := ["statement"]
theorem sc_is_vote : FnScope sc_is_vote_N ["statement"] (defScope s_is_vote) := ⟨rfl, rfl, rfl, by decide +kernel, rfl, by decide +kernel, by decide +kernel⟩
abbrev sc_clash_N : List Str := ["one", "other"]
theorem sc_clash : FnScope sc_clash_N ["one", "other"] (defScope s_clash) := ⟨rfl, rfl, rfl, by decide +kernel, rfl, by decide +kernel, by decide +kernel⟩
abbrev sc_abandons_N : List Str := ["one", "other"]
theorem sc_abandons : FnScope sc_abandons_N ["one", "other"] (defScope s_abandons) := ⟨rfl, rfl, rfl, by decide +kernel, rfl, by decide +kernel, by decide +kernel⟩
abbrev sc_first_wrong_N : List Str := ["weights", "at", "weight"]
theorem sc_first_wrong : FnScope sc_first_wrong_N ["weights"] (defScope s_first_wrong) := ⟨rfl, rfl, rfl, by decide +kernel, rfl, by decide +kernel, by decide +kernel⟩
abbrev sc_Committee_init_N : List Str := ["self", "weights", "wrong"]
theorem sc_Committee_init : FnScope sc_Committee_init_N ["self", "weights"] (defScope s_Committee_init) := ⟨rfl, rfl, rfl, by decide +kernel, rfl, by decide +kernel, by decide +kernel⟩
abbrev sc_Committee_weight_of_N : List Str := ["self", "members", "listed", "member", "weight"]
theorem sc_Committee_weight_of : FnScope sc_Committee_weight_of_N ["self", "members"] (defScope s_Committee_weight_of) := ⟨rfl, rfl, rfl, by decide +kernel, rfl, by decide +kernel, by decide +kernel⟩
abbrev sc_Committee_is_quorum_N : List Str := ["self", "members"]
theorem sc_Committee_is_quorum : FnScope sc_Committee_is_quorum_N ["self", "members"] (defScope s_Committee_is_quorum) := ⟨rfl, rfl, rfl, by decide +kernel, rfl, by decide +kernel, by decide +kernel⟩
abbrev sc_Committee_leader_N : List Str := ["self", "height", "turn"]
theorem sc_Committee_leader : FnScope sc_Committee_leader_N ["self", "height", "turn"] (defScope s_Committee_leader) := ⟨rfl, rfl, rfl, by decide +kernel, rfl, by decide +kernel, by decide +kernel⟩
abbrev sc_votes_by_turn_N : List Str := ["letters", "kind", "height", "block", "found", "letter", "vote"]
theorem sc_votes_by_turn : FnScope sc_votes_by_turn_N ["letters", "kind", "height", "block"] (defScope s_votes_by_turn) := ⟨rfl, rfl, rfl, by decide +kernel, rfl, by decide +kernel, by decide +kernel⟩
abbrev sc_counts_N : List Str := ["prevote", "turns", "lean"]
theorem sc_counts : FnScope sc_counts_N ["prevote", "turns"] (defScope s_counts) := ⟨rfl, rfl, rfl, by decide +kernel, rfl, by decide +kernel, by decide +kernel⟩
abbrev sc_certified_turns_N : List Str := ["committee", "letters", "height", "block", "prevotes", "found", "turn", "members", "letter"]
theorem sc_certified_turns : FnScope sc_certified_turns_N ["committee", "letters", "height", "block"] (defScope s_certified_turns) := ⟨rfl, rfl, rfl, by decide +kernel, rfl, by decide +kernel, by decide +kernel⟩
abbrev sc_committed_turns_N : List Str := ["committee", "letters", "height", "block", "precommits", "found", "turn", "members", "letter"]
theorem sc_committed_turns : FnScope sc_committed_turns_N ["committee", "letters", "height", "block"] (defScope s_committed_turns) := ⟨rfl, rfl, rfl, by decide +kernel, rfl, by decide +kernel, by decide +kernel⟩
abbrev sc_missing_N : List Str := ["turns", "block", "pairs", "turn"]
theorem sc_missing : FnScope sc_missing_N ["turns", "block", "pairs"] (defScope s_missing) := ⟨rfl, rfl, rfl, by decide +kernel, rfl, by decide +kernel, by decide +kernel⟩
abbrev sc_Book_init_N : List Str := ["self", "committee", "height"]
theorem sc_Book_init : FnScope sc_Book_init_N ["self", "committee", "height"] (defScope s_Book_init) := ⟨rfl, rfl, rfl, by decide +kernel, rfl, by decide +kernel, by decide +kernel⟩
abbrev sc_Book_belongs_N : List Str := ["self", "letter", "sender", "statement", "is_member"]
theorem sc_Book_belongs : FnScope sc_Book_belongs_N ["self", "letter"] (defScope s_Book_belongs) := ⟨rfl, rfl, rfl, by decide +kernel, rfl, by decide +kernel, by decide +kernel⟩
abbrev sc_Book_enter_N : List Str := ["self", "block", "letters", "certified", "committed", "certificates", "commits"]
theorem sc_Book_enter : FnScope sc_Book_enter_N ["self", "block"] (defScope s_Book_enter) := ⟨rfl, rfl, rfl, by decide +kernel, rfl, by decide +kernel, by decide +kernel⟩
abbrev sc_Book_add_N : List Str := ["self", "letter", "block"]
theorem sc_Book_add : FnScope sc_Book_add_N ["self", "letter"] (defScope s_Book_add) := ⟨rfl, rfl, rfl, by decide +kernel, rfl, by decide +kernel, by decide +kernel⟩
abbrev sc_Book_latest_N : List Str := ["self", "block", "turn", "turns", "found", "of"]
theorem sc_Book_latest : FnScope sc_Book_latest_N ["self", "block", "turn"] (defScope s_Book_latest) := ⟨rfl, rfl, rfl, by decide +kernel, rfl, by decide +kernel, by decide +kernel⟩
abbrev sc_Journal_init_N : List Str := ["self", "who"]
theorem sc_Journal_init : FnScope sc_Journal_init_N ["self", "who"] (defScope s_Journal_init) := ⟨rfl, rfl, rfl, by decide +kernel, rfl, by decide +kernel, by decide +kernel⟩
abbrev sc_Journal_sign_N : List Str := ["self", "statement", "earlier"]
theorem sc_Journal_sign : FnScope sc_Journal_sign_N ["self", "statement"] (defScope s_Journal_sign) := ⟨rfl, rfl, rfl, by decide +kernel, rfl, by decide +kernel, by decide +kernel⟩
abbrev sc_Journal_last_turn_N : List Str := ["self", "height", "turns", "statement"]
theorem sc_Journal_last_turn : FnScope sc_Journal_last_turn_N ["self", "height"] (defScope s_Journal_last_turn) := ⟨rfl, rfl, rfl, by decide +kernel, rfl, by decide +kernel, by decide +kernel⟩
abbrev sc_Ledger_init_N : List Str := ["self", "balances", "codes", "stores"]
theorem sc_Ledger_init : FnScope sc_Ledger_init_N ["self", "balances", "codes", "stores"] (defScope s_Ledger_init) := ⟨rfl, rfl, rfl, by decide +kernel, rfl, by decide +kernel, by decide +kernel⟩
abbrev sc_first_ledger_N : List Str := ["grants", "balances"]
theorem sc_first_ledger : FnScope sc_first_ledger_N ["grants"] (defScope s_first_ledger) := ⟨rfl, rfl, rfl, by decide +kernel, rfl, by decide +kernel, by decide +kernel⟩
abbrev sc_Chain_init_N : List Str := ["self", "weights", "grants"]
theorem sc_Chain_init : FnScope sc_Chain_init_N ["self", "weights", "grants"] (defScope s_Chain_init) := ⟨rfl, rfl, rfl, by decide +kernel, rfl, by decide +kernel, by decide +kernel⟩
abbrev sc_Chain_height_N : List Str := ["self"]
theorem sc_Chain_height : FnScope sc_Chain_height_N ["self"] (defScope s_Chain_height) := ⟨rfl, rfl, rfl, by decide +kernel, rfl, by decide +kernel, by decide +kernel⟩
abbrev sc_Chain_committee_N : List Str := ["self"]
theorem sc_Chain_committee : FnScope sc_Chain_committee_N ["self"] (defScope s_Chain_committee) := ⟨rfl, rfl, rfl, by decide +kernel, rfl, by decide +kernel, by decide +kernel⟩
abbrev sc_block_of_N : List Str := ["commands", "block", "many", "command", "longer"]
theorem sc_block_of : FnScope sc_block_of_N ["commands"] (defScope s_block_of) := ⟨rfl, rfl, rfl, by decide +kernel, rfl, by decide +kernel, by decide +kernel⟩
abbrev sc_Pool_init_N : List Str := ["self"]
theorem sc_Pool_init : FnScope sc_Pool_init_N ["self"] (defScope s_Pool_init) := ⟨rfl, rfl, rfl, by decide +kernel, rfl, by decide +kernel, by decide +kernel⟩
abbrev sc_Pool_block_N : List Str := ["self", "block", "_"]
theorem sc_Pool_block : FnScope sc_Pool_block_N ["self"] (defScope s_Pool_block) := ⟨rfl, rfl, rfl, by decide +kernel, rfl, by decide +kernel, by decide +kernel⟩
abbrev sc_Replica_init_N : List Str := ["self", "who", "chain", "journal"]
theorem sc_Replica_init : FnScope sc_Replica_init_N ["self", "who", "chain", "journal"] (defScope s_Replica_init) := ⟨rfl, rfl, rfl, by decide +kernel, rfl, by decide +kernel, by decide +kernel⟩
abbrev sc_Replica_start_N : List Str := ["self"]
theorem sc_Replica_start : FnScope sc_Replica_start_N ["self"] (defScope s_Replica_start) := ⟨rfl, rfl, rfl, by decide +kernel, rfl, by decide +kernel, by decide +kernel⟩
abbrev sc_Replica_timeout_N : List Str := ["self"]
theorem sc_Replica_timeout : FnScope sc_Replica_timeout_N ["self"] (defScope s_Replica_timeout) := ⟨rfl, rfl, rfl, by decide +kernel, rfl, by decide +kernel, by decide +kernel⟩
abbrev sc_Replica_begin_call_N : List Str := ["self"]
theorem sc_Replica_begin_call : FnScope sc_Replica_begin_call_N ["self"] (defScope s_Replica_begin_call) := ⟨rfl, rfl, rfl, by decide +kernel, rfl, by decide +kernel, by decide +kernel⟩
abbrev sc_Replica_go_on_N : List Str := ["self"]
theorem sc_Replica_go_on : FnScope sc_Replica_go_on_N ["self"] (defScope s_Replica_go_on) := ⟨rfl, rfl, rfl, by decide +kernel, rfl, by decide +kernel, by decide +kernel⟩
abbrev sc_Replica_do_first_N : List Str := ["self", "_", "block", "certified"]
theorem sc_Replica_do_first : FnScope sc_Replica_do_first_N ["self"] (defScope s_Replica_do_first) := ⟨rfl, rfl, rfl, by decide +kernel, rfl, by decide +kernel, by decide +kernel⟩
abbrev sc_Replica_reach_N : List Str := ["self"]
theorem sc_Replica_reach : FnScope sc_Replica_reach_N ["self"] (defScope s_Replica_reach) := ⟨rfl, rfl, rfl, by decide +kernel, rfl, by decide +kernel, by decide +kernel⟩
abbrev sc_Replica_enter_first_turn_N : List Str := ["self"]
theorem sc_Replica_enter_first_turn : FnScope sc_Replica_enter_first_turn_N ["self"] (defScope s_Replica_enter_first_turn) := ⟨rfl, rfl, rfl, by decide +kernel, rfl, by decide +kernel, by decide +kernel⟩
abbrev sc_Replica_enter_N : List Str := ["self", "turn"]
theorem sc_Replica_enter : FnScope sc_Replica_enter_N ["self", "turn"] (defScope s_Replica_enter) := ⟨rfl, rfl, rfl, by decide +kernel, rfl, by decide +kernel, by decide +kernel⟩
abbrev sc_Replica_choice_N : List Str := ["self", "waiting", "turn", "_"]
theorem sc_Replica_choice : FnScope sc_Replica_choice_N ["self"] (defScope s_Replica_choice) := ⟨rfl, rfl, rfl, by decide +kernel, rfl, by decide +kernel, by decide +kernel⟩
abbrev sc_Replica_certified_N : List Str := ["self", "turn", "found", "block"]
theorem sc_Replica_certified : FnScope sc_Replica_certified_N ["self", "turn"] (defScope s_Replica_certified) := ⟨rfl, rfl, rfl, by decide +kernel, rfl, by decide +kernel, by decide +kernel⟩
abbrev sc_Replica_prevote_N : List Str := ["self", "block", "lean"]
theorem sc_Replica_prevote : FnScope sc_Replica_prevote_N ["self", "block"] (defScope s_Replica_prevote) := ⟨rfl, rfl, rfl, by decide +kernel, rfl, by decide +kernel, by decide +kernel⟩
abbrev sc_Replica_sign_N : List Str := ["self", "statement", "letter"]
theorem sc_Replica_sign : FnScope sc_Replica_sign_N ["self", "statement"] (defScope s_Replica_sign) := ⟨rfl, rfl, rfl, by decide +kernel, rfl, by decide +kernel, by decide +kernel⟩
abbrev sc_Replica_take_in_N : List Str := ["self", "letter", "sender", "statement"]
theorem sc_Replica_take_in : FnScope sc_Replica_take_in_N ["self", "letter"] (defScope s_Replica_take_in) := ⟨rfl, rfl, rfl, by decide +kernel, rfl, by decide +kernel, by decide +kernel⟩
abbrev sc_Replica_is_leader_N : List Str := ["self", "who", "turn"]
theorem sc_Replica_is_leader : FnScope sc_Replica_is_leader_N ["self", "who", "turn"] (defScope s_Replica_is_leader) := ⟨rfl, rfl, rfl, by decide +kernel, rfl, by decide +kernel, by decide +kernel⟩
abbrev sc_law_cell_N : List Str := ["script", "k"]
theorem sc_law_cell : FnScope sc_law_cell_N ["script", "k"] (defScope s_law_cell) := ⟨rfl, rfl, rfl, by decide +kernel, rfl, by decide +kernel, by decide +kernel⟩
abbrev sc_law_entered_N : List Str := ["who", "size", "turn", "block"]
theorem sc_law_entered : FnScope sc_law_entered_N ["who", "size", "turn"] (defScope s_law_entered) := ⟨rfl, rfl, rfl, by decide +kernel, rfl, by decide +kernel, by decide +kernel⟩
abbrev sc_law_N : List Str := ["script", "size", "who", "count", "keeper", "turn", "due", "step", "told", "k", "entered"]
theorem sc_law : FnScope sc_law_N ["script"] (defScope s_law) := ⟨rfl, rfl, rfl, by decide +kernel, rfl, by decide +kernel, by decide +kernel⟩
/-! ### what stands where -/
structure DefAt (K : PySem.W.Frag) (mg : Str → Option Value) (x : Str) (st : Stmt) (ps : List Str) (f : Addr) : Prop where
  F : ∃ fd, Fun K x x st f fd ∧ Binds K fd ps []
  g : mg x = some (.ref f)
  kp : PySem.W.keepIn K (.ref f) = true
structure MethAt (K : PySem.W.Frag) (C : Addr) (x qual : Str) (st : Stmt) (ps : List Str) (f : Addr) : Prop where
  F : ∃ fd, Fun K x qual st f fd ∧ Binds K fd ps []
  fi : PySem.W.findIn K (.ref C) x = some (some (.ref f))
  isf : PySem.W.isFn K (.ref f) = true
  kp : PySem.W.keepIn K (.ref f) = true
theorem def_mk {K : PySem.W.Frag} {x qual : Str} {st : Stmt} {f : Addr} {ps : List Str} {oc : Value} {od an : Option Addr} {osl : Array (Option Value)} {kV doc pm cdv ct : Value}
    (l : K.lookup f = some ⟨oc, od, .func (PySem.W.fnOf x qual (defArgs st) (defBody st) (defScope st) .none kV doc pm an cdv ct), osl⟩)
    (c : PySem.W.codeIn K cdv qual = true) (k : PySem.W.keepIn K (.ref f) = true)
    (h : ∀ (kV doc pm : Value) (an : Option Addr) (cdv ct : Value) (us : List Value), us.length = ps.length → bindArgs (PySem.W.fnOf x qual (defArgs st) (defBody st) (defScope st) .none kV doc pm an cdv ct) ⟨us, []⟩ = pure (ps.zip us)) :
    ∃ fd, Fun K x qual st f fd ∧ Binds K fd ps [] := by
  have F := fun_mk (st := st) l c k
  exact ⟨_, F, F.binds h⟩
theorem mg_no {K : PySem.W.Frag} {h : Heap} {mg : Str → Option Value} {n : Str} (X : K.In h) (G : h.Ns mainGlobals mg) (e : PySem.W.nsIn K mainGlobals n = some none) : mg n = none := PySem.W.mg_none_of X G e
theorem same_new {H : Hp} {p : Addr} {o : HO} (n : H p = Option.none) : Same H (upd H p o) := fun b u e => by
  rw [upd_ne (ne_of_none e n)]
  exact e
theorem same_upd {H H2 : Hp} {p : Addr} {o : HO} (s : Same H H2) (n : H p = Option.none) : Same H (upd H2 p o) := fun b u e => by
  rw [upd_ne (ne_of_none e n)]
  exact s b u e
structure Ads where
  C_Committee : Addr
  C_Book : Addr
  C_Journal : Addr
  C_Ledger : Addr
  C_Chain : Addr
  C_Pool : Addr
  C_Replica : Addr
  d_proposal : Addr
  d_prevote : Addr
  d_precommit : Addr
  d_is_vote : Addr
  d_clash : Addr
  d_abandons : Addr
  d_first_wrong : Addr
  d_Committee_init : Addr
  d_Committee_weight_of : Addr
  d_Committee_is_quorum : Addr
  d_Committee_leader : Addr
  d_votes_by_turn : Addr
  d_counts : Addr
  d_certified_turns : Addr
  d_committed_turns : Addr
  d_missing : Addr
  d_Book_init : Addr
  d_Book_belongs : Addr
  d_Book_enter : Addr
  d_Book_add : Addr
  d_Book_latest : Addr
  d_Journal_init : Addr
  d_Journal_sign : Addr
  d_Journal_last_turn : Addr
  d_Ledger_init : Addr
  d_first_ledger : Addr
  d_Chain_init : Addr
  d_Chain_height : Addr
  d_Chain_committee : Addr
  d_block_of : Addr
  d_Pool_init : Addr
  d_Pool_block : Addr
  d_Replica_init : Addr
  d_Replica_start : Addr
  d_Replica_timeout : Addr
  d_Replica_begin_call : Addr
  d_Replica_go_on : Addr
  d_Replica_do_first : Addr
  d_Replica_reach : Addr
  d_Replica_enter_first_turn : Addr
  d_Replica_enter : Addr
  d_Replica_choice : Addr
  d_Replica_certified : Addr
  d_Replica_prevote : Addr
  d_Replica_sign : Addr
  d_Replica_take_in : Addr
  d_Replica_is_leader : Addr
  d_law_cell : Addr
  d_law_entered : Addr
  C_Refused : Addr
  d_Refused_init : Addr
structure Txt (K : PySem.W.Frag) (mg : Str → Option Value) (a : Ads) : Prop where
  n_len : mg "len" = none
  n_range : mg "range" = none
  n_isinstance : mg "isinstance" = none
  n_int : mg "int" = none
  n_bool : mg "bool" = none
  n_list : mg "list" = none
  n_tuple : mg "tuple" = none
  n_sum : mg "sum" = none
  n_enumerate : mg "enumerate" = none
  n_set : mg "set" = none
  n_sorted : mg "sorted" = none
  n_max : mg "max" = none
  n_str : mg "str" = none
  n_super : mg "super" = none
  n_ValueError : mg "ValueError" = none
  c_KIND : ∃ t, mg "KIND" = some (.int 0 t)
  c_HEIGHT : ∃ t, mg "HEIGHT" = some (.int 1 t)
  c_TURN : ∃ t, mg "TURN" = some (.int 2 t)
  c_BLOCK : ∃ t, mg "BLOCK" = some (.int 3 t)
  c_LEAN : ∃ t, mg "LEAN" = some (.int 4 t)
  c_MOST_MEMBERS : ∃ t, mg "MOST_MEMBERS" = some (.int 16 t)
  c_MOST_WEIGHT : ∃ t, mg "MOST_WEIGHT" = some (.int 1000000000000 t)
  g_Committee : mg "Committee" = some (.ref a.C_Committee)
  cl_Committee : Cls K a.C_Committee
  kc_Committee : PySem.W.keepIn K (.ref a.C_Committee) = true
  mk_Committee : PySem.W.makesIn K a.C_Committee = true
  a_Committee_weights : NoAttr K a.C_Committee "weights"
  a_Committee_size : NoAttr K a.C_Committee "size"
  a_Committee_total : NoAttr K a.C_Committee "total"
  g_Book : mg "Book" = some (.ref a.C_Book)
  cl_Book : Cls K a.C_Book
  kc_Book : PySem.W.keepIn K (.ref a.C_Book) = true
  mk_Book : PySem.W.makesIn K a.C_Book = true
  a_Book_committee : NoAttr K a.C_Book "committee"
  a_Book_height : NoAttr K a.C_Book "height"
  a_Book_certificates : NoAttr K a.C_Book "certificates"
  a_Book_commits : NoAttr K a.C_Book "commits"
  a_Book__kept : NoAttr K a.C_Book "_kept"
  a_Book__by_block : NoAttr K a.C_Book "_by_block"
  g_Journal : mg "Journal" = some (.ref a.C_Journal)
  cl_Journal : Cls K a.C_Journal
  kc_Journal : PySem.W.keepIn K (.ref a.C_Journal) = true
  mk_Journal : PySem.W.makesIn K a.C_Journal = true
  a_Journal_who : NoAttr K a.C_Journal "who"
  a_Journal_signed : NoAttr K a.C_Journal "signed"
  g_Ledger : mg "Ledger" = some (.ref a.C_Ledger)
  cl_Ledger : Cls K a.C_Ledger
  kc_Ledger : PySem.W.keepIn K (.ref a.C_Ledger) = true
  mk_Ledger : PySem.W.makesIn K a.C_Ledger = true
  a_Ledger_balances : NoAttr K a.C_Ledger "balances"
  a_Ledger_codes : NoAttr K a.C_Ledger "codes"
  a_Ledger_stores : NoAttr K a.C_Ledger "stores"
  g_Chain : mg "Chain" = some (.ref a.C_Chain)
  cl_Chain : Cls K a.C_Chain
  kc_Chain : PySem.W.keepIn K (.ref a.C_Chain) = true
  mk_Chain : PySem.W.makesIn K a.C_Chain = true
  a_Chain_blocks : NoAttr K a.C_Chain "blocks"
  a_Chain_receipts : NoAttr K a.C_Chain "receipts"
  a_Chain_committees : NoAttr K a.C_Chain "committees"
  a_Chain_ledgers : NoAttr K a.C_Chain "ledgers"
  g_Pool : mg "Pool" = some (.ref a.C_Pool)
  cl_Pool : Cls K a.C_Pool
  kc_Pool : PySem.W.keepIn K (.ref a.C_Pool) = true
  mk_Pool : PySem.W.makesIn K a.C_Pool = true
  a_Pool_waiting : NoAttr K a.C_Pool "waiting"
  g_Replica : mg "Replica" = some (.ref a.C_Replica)
  cl_Replica : Cls K a.C_Replica
  kc_Replica : PySem.W.keepIn K (.ref a.C_Replica) = true
  mk_Replica : PySem.W.makesIn K a.C_Replica = true
  a_Replica_who : NoAttr K a.C_Replica "who"
  a_Replica_chain : NoAttr K a.C_Replica "chain"
  a_Replica_journal : NoAttr K a.C_Replica "journal"
  a_Replica_papers : NoAttr K a.C_Replica "papers"
  a_Replica_pool : NoAttr K a.C_Replica "pool"
  a_Replica_later : NoAttr K a.C_Replica "later"
  a_Replica_sent : NoAttr K a.C_Replica "sent"
  a_Replica_committed : NoAttr K a.C_Replica "committed"
  a_Replica_height : NoAttr K a.C_Replica "height"
  a_Replica_book : NoAttr K a.C_Replica "book"
  a_Replica_proposals : NoAttr K a.C_Replica "proposals"
  a_Replica_turn : NoAttr K a.C_Replica "turn"
  a_Replica_step : NoAttr K a.C_Replica "step"
  d_proposal : DefAt K mg "proposal" s_proposal ["height", "turn", "block"] a.d_proposal
  d_prevote : DefAt K mg "prevote" s_prevote ["height", "turn", "block", "lean"] a.d_prevote
  d_precommit : DefAt K mg "precommit" s_precommit ["height", "turn", "block"] a.d_precommit
  d_is_vote : DefAt K mg "is_vote" s_is_vote ["statement"] a.d_is_vote
  d_clash : DefAt K mg "clash" s_clash ["one", "other"] a.d_clash
  d_abandons : DefAt K mg "_abandons" s_abandons ["one", "other"] a.d_abandons
  d_first_wrong : DefAt K mg "_first_wrong" s_first_wrong ["weights"] a.d_first_wrong
  d_Committee_init : MethAt K a.C_Committee "__init__" "Committee.__init__" s_Committee_init ["self", "weights"] a.d_Committee_init
  d_Committee_weight_of : MethAt K a.C_Committee "weight_of" "Committee.weight_of" s_Committee_weight_of ["self", "members"] a.d_Committee_weight_of
  d_Committee_is_quorum : MethAt K a.C_Committee "is_quorum" "Committee.is_quorum" s_Committee_is_quorum ["self", "members"] a.d_Committee_is_quorum
  d_Committee_leader : MethAt K a.C_Committee "leader" "Committee.leader" s_Committee_leader ["self", "height", "turn"] a.d_Committee_leader
  d_votes_by_turn : DefAt K mg "votes_by_turn" s_votes_by_turn ["letters", "kind", "height", "block"] a.d_votes_by_turn
  d_counts : DefAt K mg "counts" s_counts ["prevote", "turns"] a.d_counts
  d_certified_turns : DefAt K mg "certified_turns" s_certified_turns ["committee", "letters", "height", "block"] a.d_certified_turns
  d_committed_turns : DefAt K mg "committed_turns" s_committed_turns ["committee", "letters", "height", "block"] a.d_committed_turns
  d_missing : DefAt K mg "_missing" s_missing ["turns", "block", "pairs"] a.d_missing
  d_Book_init : MethAt K a.C_Book "__init__" "Book.__init__" s_Book_init ["self", "committee", "height"] a.d_Book_init
  d_Book_belongs : MethAt K a.C_Book "_belongs" "Book._belongs" s_Book_belongs ["self", "letter"] a.d_Book_belongs
  d_Book_enter : MethAt K a.C_Book "_enter" "Book._enter" s_Book_enter ["self", "block"] a.d_Book_enter
  d_Book_add : MethAt K a.C_Book "add" "Book.add" s_Book_add ["self", "letter"] a.d_Book_add
  d_Book_latest : MethAt K a.C_Book "latest" "Book.latest" s_Book_latest ["self", "block", "turn"] a.d_Book_latest
  d_Journal_init : MethAt K a.C_Journal "__init__" "Journal.__init__" s_Journal_init ["self", "who"] a.d_Journal_init
  d_Journal_sign : MethAt K a.C_Journal "sign" "Journal.sign" s_Journal_sign ["self", "statement"] a.d_Journal_sign
  d_Journal_last_turn : MethAt K a.C_Journal "last_turn" "Journal.last_turn" s_Journal_last_turn ["self", "height"] a.d_Journal_last_turn
  d_Ledger_init : MethAt K a.C_Ledger "__init__" "Ledger.__init__" s_Ledger_init ["self", "balances", "codes", "stores"] a.d_Ledger_init
  d_first_ledger : DefAt K mg "first_ledger" s_first_ledger ["grants"] a.d_first_ledger
  d_Chain_init : MethAt K a.C_Chain "__init__" "Chain.__init__" s_Chain_init ["self", "weights", "grants"] a.d_Chain_init
  d_Chain_height : MethAt K a.C_Chain "height" "Chain.height" s_Chain_height ["self"] a.d_Chain_height
  d_Chain_committee : MethAt K a.C_Chain "committee" "Chain.committee" s_Chain_committee ["self"] a.d_Chain_committee
  d_block_of : DefAt K mg "block_of" s_block_of ["commands"] a.d_block_of
  d_Pool_init : MethAt K a.C_Pool "__init__" "Pool.__init__" s_Pool_init ["self"] a.d_Pool_init
  d_Pool_block : MethAt K a.C_Pool "block" "Pool.block" s_Pool_block ["self"] a.d_Pool_block
  d_Replica_init : MethAt K a.C_Replica "__init__" "Replica.__init__" s_Replica_init ["self", "who", "chain", "journal"] a.d_Replica_init
  d_Replica_start : MethAt K a.C_Replica "start" "Replica.start" s_Replica_start ["self"] a.d_Replica_start
  d_Replica_timeout : MethAt K a.C_Replica "timeout" "Replica.timeout" s_Replica_timeout ["self"] a.d_Replica_timeout
  d_Replica_begin_call : MethAt K a.C_Replica "_begin_call" "Replica._begin_call" s_Replica_begin_call ["self"] a.d_Replica_begin_call
  d_Replica_go_on : MethAt K a.C_Replica "_go_on" "Replica._go_on" s_Replica_go_on ["self"] a.d_Replica_go_on
  d_Replica_do_first : MethAt K a.C_Replica "_do_first" "Replica._do_first" s_Replica_do_first ["self"] a.d_Replica_do_first
  d_Replica_reach : MethAt K a.C_Replica "_reach" "Replica._reach" s_Replica_reach ["self"] a.d_Replica_reach
  d_Replica_enter_first_turn : MethAt K a.C_Replica "_enter_first_turn" "Replica._enter_first_turn" s_Replica_enter_first_turn ["self"] a.d_Replica_enter_first_turn
  d_Replica_enter : MethAt K a.C_Replica "_enter" "Replica._enter" s_Replica_enter ["self", "turn"] a.d_Replica_enter
  d_Replica_choice : MethAt K a.C_Replica "_choice" "Replica._choice" s_Replica_choice ["self"] a.d_Replica_choice
  d_Replica_certified : MethAt K a.C_Replica "_certified" "Replica._certified" s_Replica_certified ["self", "turn"] a.d_Replica_certified
  d_Replica_prevote : MethAt K a.C_Replica "_prevote" "Replica._prevote" s_Replica_prevote ["self", "block"] a.d_Replica_prevote
  d_Replica_sign : MethAt K a.C_Replica "_sign" "Replica._sign" s_Replica_sign ["self", "statement"] a.d_Replica_sign
  d_Replica_take_in : MethAt K a.C_Replica "_take_in" "Replica._take_in" s_Replica_take_in ["self", "letter"] a.d_Replica_take_in
  d_Replica_is_leader : MethAt K a.C_Replica "_is_leader" "Replica._is_leader" s_Replica_is_leader ["self", "who", "turn"] a.d_Replica_is_leader
  d_law_cell : DefAt K mg "_law_cell" s_law_cell ["script", "k"] a.d_law_cell
  d_law_entered : DefAt K mg "_law_entered" s_law_entered ["who", "size", "turn"] a.d_law_entered
theorem Txt.m_Committee {K : PySem.W.Frag} {mg : Str → Option Value} {a : Ads} (T : Txt K mg a) : Mk K a.C_Committee a.d_Committee_init := ⟨T.mk_Committee, T.d_Committee_init.fi, T.d_Committee_init.isf, T.kc_Committee⟩
theorem Txt.me_Committee_weight_of {K : PySem.W.Frag} {mg : Str → Option Value} {a : Ads} (T : Txt K mg a) : Meth K a.C_Committee "weight_of" a.d_Committee_weight_of := ⟨T.d_Committee_weight_of.fi, T.d_Committee_weight_of.isf, T.d_Committee_weight_of.kp⟩
theorem Txt.me_Committee_is_quorum {K : PySem.W.Frag} {mg : Str → Option Value} {a : Ads} (T : Txt K mg a) : Meth K a.C_Committee "is_quorum" a.d_Committee_is_quorum := ⟨T.d_Committee_is_quorum.fi, T.d_Committee_is_quorum.isf, T.d_Committee_is_quorum.kp⟩
theorem Txt.me_Committee_leader {K : PySem.W.Frag} {mg : Str → Option Value} {a : Ads} (T : Txt K mg a) : Meth K a.C_Committee "leader" a.d_Committee_leader := ⟨T.d_Committee_leader.fi, T.d_Committee_leader.isf, T.d_Committee_leader.kp⟩
theorem Txt.m_Book {K : PySem.W.Frag} {mg : Str → Option Value} {a : Ads} (T : Txt K mg a) : Mk K a.C_Book a.d_Book_init := ⟨T.mk_Book, T.d_Book_init.fi, T.d_Book_init.isf, T.kc_Book⟩
theorem Txt.me_Book_belongs {K : PySem.W.Frag} {mg : Str → Option Value} {a : Ads} (T : Txt K mg a) : Meth K a.C_Book "_belongs" a.d_Book_belongs := ⟨T.d_Book_belongs.fi, T.d_Book_belongs.isf, T.d_Book_belongs.kp⟩
theorem Txt.me_Book_enter {K : PySem.W.Frag} {mg : Str → Option Value} {a : Ads} (T : Txt K mg a) : Meth K a.C_Book "_enter" a.d_Book_enter := ⟨T.d_Book_enter.fi, T.d_Book_enter.isf, T.d_Book_enter.kp⟩
theorem Txt.me_Book_add {K : PySem.W.Frag} {mg : Str → Option Value} {a : Ads} (T : Txt K mg a) : Meth K a.C_Book "add" a.d_Book_add := ⟨T.d_Book_add.fi, T.d_Book_add.isf, T.d_Book_add.kp⟩
theorem Txt.me_Book_latest {K : PySem.W.Frag} {mg : Str → Option Value} {a : Ads} (T : Txt K mg a) : Meth K a.C_Book "latest" a.d_Book_latest := ⟨T.d_Book_latest.fi, T.d_Book_latest.isf, T.d_Book_latest.kp⟩
theorem Txt.m_Journal {K : PySem.W.Frag} {mg : Str → Option Value} {a : Ads} (T : Txt K mg a) : Mk K a.C_Journal a.d_Journal_init := ⟨T.mk_Journal, T.d_Journal_init.fi, T.d_Journal_init.isf, T.kc_Journal⟩
theorem Txt.me_Journal_sign {K : PySem.W.Frag} {mg : Str → Option Value} {a : Ads} (T : Txt K mg a) : Meth K a.C_Journal "sign" a.d_Journal_sign := ⟨T.d_Journal_sign.fi, T.d_Journal_sign.isf, T.d_Journal_sign.kp⟩
theorem Txt.me_Journal_last_turn {K : PySem.W.Frag} {mg : Str → Option Value} {a : Ads} (T : Txt K mg a) : Meth K a.C_Journal "last_turn" a.d_Journal_last_turn := ⟨T.d_Journal_last_turn.fi, T.d_Journal_last_turn.isf, T.d_Journal_last_turn.kp⟩
theorem Txt.m_Ledger {K : PySem.W.Frag} {mg : Str → Option Value} {a : Ads} (T : Txt K mg a) : Mk K a.C_Ledger a.d_Ledger_init := ⟨T.mk_Ledger, T.d_Ledger_init.fi, T.d_Ledger_init.isf, T.kc_Ledger⟩
theorem Txt.m_Chain {K : PySem.W.Frag} {mg : Str → Option Value} {a : Ads} (T : Txt K mg a) : Mk K a.C_Chain a.d_Chain_init := ⟨T.mk_Chain, T.d_Chain_init.fi, T.d_Chain_init.isf, T.kc_Chain⟩
theorem Txt.me_Chain_height {K : PySem.W.Frag} {mg : Str → Option Value} {a : Ads} (T : Txt K mg a) : Meth K a.C_Chain "height" a.d_Chain_height := ⟨T.d_Chain_height.fi, T.d_Chain_height.isf, T.d_Chain_height.kp⟩
theorem Txt.me_Chain_committee {K : PySem.W.Frag} {mg : Str → Option Value} {a : Ads} (T : Txt K mg a) : Meth K a.C_Chain "committee" a.d_Chain_committee := ⟨T.d_Chain_committee.fi, T.d_Chain_committee.isf, T.d_Chain_committee.kp⟩
theorem Txt.m_Pool {K : PySem.W.Frag} {mg : Str → Option Value} {a : Ads} (T : Txt K mg a) : Mk K a.C_Pool a.d_Pool_init := ⟨T.mk_Pool, T.d_Pool_init.fi, T.d_Pool_init.isf, T.kc_Pool⟩
theorem Txt.me_Pool_block {K : PySem.W.Frag} {mg : Str → Option Value} {a : Ads} (T : Txt K mg a) : Meth K a.C_Pool "block" a.d_Pool_block := ⟨T.d_Pool_block.fi, T.d_Pool_block.isf, T.d_Pool_block.kp⟩
theorem Txt.m_Replica {K : PySem.W.Frag} {mg : Str → Option Value} {a : Ads} (T : Txt K mg a) : Mk K a.C_Replica a.d_Replica_init := ⟨T.mk_Replica, T.d_Replica_init.fi, T.d_Replica_init.isf, T.kc_Replica⟩
theorem Txt.me_Replica_start {K : PySem.W.Frag} {mg : Str → Option Value} {a : Ads} (T : Txt K mg a) : Meth K a.C_Replica "start" a.d_Replica_start := ⟨T.d_Replica_start.fi, T.d_Replica_start.isf, T.d_Replica_start.kp⟩
theorem Txt.me_Replica_timeout {K : PySem.W.Frag} {mg : Str → Option Value} {a : Ads} (T : Txt K mg a) : Meth K a.C_Replica "timeout" a.d_Replica_timeout := ⟨T.d_Replica_timeout.fi, T.d_Replica_timeout.isf, T.d_Replica_timeout.kp⟩
theorem Txt.me_Replica_begin_call {K : PySem.W.Frag} {mg : Str → Option Value} {a : Ads} (T : Txt K mg a) : Meth K a.C_Replica "_begin_call" a.d_Replica_begin_call := ⟨T.d_Replica_begin_call.fi, T.d_Replica_begin_call.isf, T.d_Replica_begin_call.kp⟩
theorem Txt.me_Replica_go_on {K : PySem.W.Frag} {mg : Str → Option Value} {a : Ads} (T : Txt K mg a) : Meth K a.C_Replica "_go_on" a.d_Replica_go_on := ⟨T.d_Replica_go_on.fi, T.d_Replica_go_on.isf, T.d_Replica_go_on.kp⟩
theorem Txt.me_Replica_do_first {K : PySem.W.Frag} {mg : Str → Option Value} {a : Ads} (T : Txt K mg a) : Meth K a.C_Replica "_do_first" a.d_Replica_do_first := ⟨T.d_Replica_do_first.fi, T.d_Replica_do_first.isf, T.d_Replica_do_first.kp⟩
theorem Txt.me_Replica_reach {K : PySem.W.Frag} {mg : Str → Option Value} {a : Ads} (T : Txt K mg a) : Meth K a.C_Replica "_reach" a.d_Replica_reach := ⟨T.d_Replica_reach.fi, T.d_Replica_reach.isf, T.d_Replica_reach.kp⟩
theorem Txt.me_Replica_enter_first_turn {K : PySem.W.Frag} {mg : Str → Option Value} {a : Ads} (T : Txt K mg a) : Meth K a.C_Replica "_enter_first_turn" a.d_Replica_enter_first_turn := ⟨T.d_Replica_enter_first_turn.fi, T.d_Replica_enter_first_turn.isf, T.d_Replica_enter_first_turn.kp⟩
theorem Txt.me_Replica_enter {K : PySem.W.Frag} {mg : Str → Option Value} {a : Ads} (T : Txt K mg a) : Meth K a.C_Replica "_enter" a.d_Replica_enter := ⟨T.d_Replica_enter.fi, T.d_Replica_enter.isf, T.d_Replica_enter.kp⟩
theorem Txt.me_Replica_choice {K : PySem.W.Frag} {mg : Str → Option Value} {a : Ads} (T : Txt K mg a) : Meth K a.C_Replica "_choice" a.d_Replica_choice := ⟨T.d_Replica_choice.fi, T.d_Replica_choice.isf, T.d_Replica_choice.kp⟩
theorem Txt.me_Replica_certified {K : PySem.W.Frag} {mg : Str → Option Value} {a : Ads} (T : Txt K mg a) : Meth K a.C_Replica "_certified" a.d_Replica_certified := ⟨T.d_Replica_certified.fi, T.d_Replica_certified.isf, T.d_Replica_certified.kp⟩
theorem Txt.me_Replica_prevote {K : PySem.W.Frag} {mg : Str → Option Value} {a : Ads} (T : Txt K mg a) : Meth K a.C_Replica "_prevote" a.d_Replica_prevote := ⟨T.d_Replica_prevote.fi, T.d_Replica_prevote.isf, T.d_Replica_prevote.kp⟩
theorem Txt.me_Replica_sign {K : PySem.W.Frag} {mg : Str → Option Value} {a : Ads} (T : Txt K mg a) : Meth K a.C_Replica "_sign" a.d_Replica_sign := ⟨T.d_Replica_sign.fi, T.d_Replica_sign.isf, T.d_Replica_sign.kp⟩
theorem Txt.me_Replica_take_in {K : PySem.W.Frag} {mg : Str → Option Value} {a : Ads} (T : Txt K mg a) : Meth K a.C_Replica "_take_in" a.d_Replica_take_in := ⟨T.d_Replica_take_in.fi, T.d_Replica_take_in.isf, T.d_Replica_take_in.kp⟩
theorem Txt.me_Replica_is_leader {K : PySem.W.Frag} {mg : Str → Option Value} {a : Ads} (T : Txt K mg a) : Meth K a.C_Replica "_is_leader" a.d_Replica_is_leader := ⟨T.d_Replica_is_leader.fi, T.d_Replica_is_leader.isf, T.d_Replica_is_leader.kp⟩
/-! ### max and min with default=None -/
end Toy
namespace Toy0
open PySem

section
variable {prog : Program} {w : World} {A : Around} {R : Result → Shared → Prop} {I : Addr} {fp wr : List Addr} {n : Nat} {P : Nat → Value → Prop} {St : Nat → Heap → Prop}
/-- the turns of max with keywords, from the place behind j on -/
theorem maxd_run (W : Walks prog w A.in1 I fp wr n P St) (up : Nat → Nat → Bool) (cm : CmpOf prog w A.in1 .Gt P up) (Z : Addr) (nZ : Z ∉ fp) (kw : List (Str × Value)) : ∀ (k j : Nat) (s : Shared) (b0 : Value) (c : Nat), n = j + 1 + k → St (j + 1) s.heap → P (argBest up j) b0 →
    s.heap.get? Z = some { cls := .type "list", dict := none, data := .seq #[b0, b0] c, slots := #[] } → (∀ v h2 t2, P (argBest up (n - 1)) v → (∀ x o, x ∉ wr → x ≠ Z → s.heap.get? x = some o → h2.get? x = some o) → R (.ok (.ret v)) { s with heap := h2, toks := t2 }) →
    codeAny (model prog w) A (.builtin "max.loop" ⟨[.ref I, .none, .ref Z], kw⟩) R s
  | 0, j, s, b0, c, hn, st, hP, hZ, q => by
    have nw : Z ∉ wr := fun z => nZ (W.sub _ z)
    have hin : j + 1 = n := hn.symm
    refine codeAny_builtin PySem.F.entry_max_loop (by
      rw [Around.under_plainId PySem.F.plain_max_loop _]
      show wpAny _ A.in1 (seqItems? (.ref Z) >>= _) _ _ s
      refine wpAny_bind (wpAny_seqItems hZ rfl ?_)
      show wpAny _ A.in1 (tryCatch (pyNext (.ref I)) _ >>= _) _ _ s
      refine wpAny_bind (wpAny_tryCatch (W.done s _ _ (by rw [← hin]; exact st) fun h2 t2 kp => ?_))
      have hZ2 := kp Z _ nw hZ
      show wpAny _ A.in1 (updateSeq Z (fun _ => #[]) >>= _) _ _ _
      refine wpAny_bind (wpAny_updateSeq hZ2 rfl (wpAny_bind (wpAny_letGo (wpAny_pure ?_))))
      exact q b0 _ t2 (by rw [show n - 1 = j by omega]; exact hP) fun x o xw xz e => (Heap.get?_update_other _ _ (fun z => xz z.symm)).trans (kp x o xw e))
  | k + 1, j, s, b0, c, hn, st, hP, hZ, q => by
    have nw : Z ∉ wr := fun z => nZ (W.sub _ z)
    have nm : (toString "max" ++ toString ".loop" : String) = "max.loop" := by decide
    refine codeAny_builtin PySem.F.entry_max_loop (by
      rw [Around.under_plainId PySem.F.plain_max_loop _]
      show wpAny _ A.in1 (seqItems? (.ref Z) >>= _) _ _ s
      refine wpAny_bind (wpAny_seqItems hZ rfl ?_)
      show wpAny _ A.in1 (tryCatch (pyNext (.ref I)) _ >>= _) _ _ s
      refine wpAny_bind (wpAny_tryCatch (W.item (j + 1) s _ _ (by omega) st fun v h2 t2 pv st2 kp => ?_))
      have hZ2 := kp Z _ nw hZ
      show wpAny _ A.in1 (tryCatch (holding [v, v] (richCompare .Gt v b0 >>= _)) _ >>= _) _ _ _
      refine wpAny_bind (wpAny_tryCatch (wpAny_holding (wpAny_bind (cm (j + 1) (argBest up j) v b0 _ _ _ pv hP ?_))))
      refine wpAny_bind (wpAny_holding (wpAny_truthy_bool (wpAny_bind (wpAny_letGo (wpAny_pure ?_)))))
      cases eb : up (j + 1) (argBest up j) with
      | true =>
        simp only [if_true]
        refine wpAny_bind (wpAny_updateSeq hZ2 rfl (wpAny_bind (wpAny_letGo ?_)))
        rw [nm]
        refine wpAny_pure ⟨plainId_quiet PySem.F.plain_max_loop _, maxd_run W up cm Z nZ kw k (j + 1) _ v _ (by omega) (W.frame _ _ _ st2 fun x hx o e => ?_) (by simp only [argBest, eb, if_true]; exact pv) (Heap.get?_update_self _ hZ2 rfl) fun v3 h3 t3 p3 kp3 => ?_⟩
        · exact (Heap.get?_update_other _ _ (fun z : Z = x => nZ (by rw [z]; exact hx))).trans e
        · exact q v3 h3 t3 p3 fun x o xw xz e => kp3 x o xw xz ((Heap.get?_update_other _ _ (fun z => xz z.symm)).trans (kp x o xw e))
      | false =>
        simp only [Bool.false_eq_true, if_false]
        refine wpAny_bind (wpAny_letGo ?_)
        rw [nm]
        refine wpAny_pure ⟨plainId_quiet PySem.F.plain_max_loop _, maxd_run W up cm Z nZ kw k (j + 1) _ b0 c (by omega) st2 (by simp only [argBest, eb, Bool.false_eq_true, if_false]; exact hP) hZ2 fun v3 h3 t3 p3 kp3 => ?_⟩
        exact q v3 h3 t3 p3 fun x o xw xz e => kp3 x o xw xz (kp x o xw e))
/-- its first turn -/
theorem maxd_start (W : Walks prog w A.in1 I fp wr n P St) (up : Nat → Nat → Bool) (cm : CmpOf prog w A.in1 .Gt P up) (Z : Addr) (nZ : Z ∉ fp) (d : Value) {s : Shared} {c : Nat} (st : St 0 s.heap) (hZ : s.heap.get? Z = some { cls := .type "list", dict := none, data := .seq #[] c, slots := #[] })
    (q0 : n = 0 → ∀ h2 t2, (∀ x o, x ∉ wr → x ≠ Z → s.heap.get? x = some o → h2.get? x = some o) → R (.ok (.ret d)) { s with heap := h2, toks := t2 })
    (q : 0 < n → ∀ v h2 t2, P (argBest up (n - 1)) v → (∀ x o, x ∉ wr → x ≠ Z → s.heap.get? x = some o → h2.get? x = some o) → R (.ok (.ret v)) { s with heap := h2, toks := t2 }) :
    codeAny (model prog w) A (.builtin "max.loop" ⟨[.ref I, .none, .ref Z], [(Str.ofString "default", d)]⟩) R s := by
  have nw : Z ∉ wr := fun z => nZ (W.sub _ z)
  have nm : (toString "max" ++ toString ".loop" : String) = "max.loop" := by decide
  refine codeAny_builtin PySem.F.entry_max_loop (by
    rw [Around.under_plainId PySem.F.plain_max_loop _]
    show wpAny _ A.in1 (seqItems? (.ref Z) >>= _) _ _ s
    refine wpAny_bind (wpAny_seqItems hZ rfl ?_)
    show wpAny _ A.in1 (tryCatch (pyNext (.ref I)) _ >>= _) _ _ s
    rcases Nat.eq_zero_or_pos n with n0 | n0
    · refine wpAny_bind (wpAny_tryCatch (W.done s _ _ (by rw [n0]; exact st) fun h2 t2 kp => ?_))
      show wpAny _ A.in1 (rule _ >>= _) _ _ _
      exact wpAny_bind (wpAny_rule (wpAny_pure (q0 n0 h2 t2 fun x o xw _ e => kp x o xw e)))
    · refine wpAny_bind (wpAny_tryCatch (W.item 0 s _ _ n0 st fun v h2 t2 pv st2 kp => ?_))
      have hZ2 := kp Z _ nw hZ
      show wpAny _ A.in1 (updateSeq Z (fun _ => #[v, v]) >>= _) _ _ _
      refine wpAny_bind (wpAny_updateSeq hZ2 rfl ?_)
      rw [nm]
      refine wpAny_pure ⟨plainId_quiet PySem.F.plain_max_loop _, maxd_run W up cm Z nZ _ (n - 1) 0 _ v _ (by omega) (W.frame _ _ _ st2 fun x hx o e => ?_) pv (Heap.get?_update_self _ hZ2 rfl) fun v3 h3 t3 p3 kp3 => ?_⟩
      · exact (Heap.get?_update_other _ _ (fun z : Z = x => nZ (by rw [z]; exact hx))).trans e
      · exact q n0 v3 h3 t3 p3 fun x o xw xz e => kp3 x o xw xz ((Heap.get?_update_other _ _ (fun z => xz z.symm)).trans (kp x o xw e)))
end
section
variable {prog : Program} {w : World} {A : Around} {E : Value → Shared → Prop} {s : Shared} {l : Addr} {xs : Array (Int × Tok)}
theorem maxd_args (a d : Value) : argsOk "max" ⟨[a], [(Str.ofString "default", d)]⟩ := by
  unfold argsOk
  kernel_rfl
theorem maxd_call {d : Value} {Q : Value → Shared → Prop} (hh : A.handled = none) (hl : s.heap.IsList l (intItems xs)) (q0 : xs.size = 0 → ∀ h2 t2, (∀ b o, s.heap.get? b = some o → h2.get? b = some o) → Q d { s with heap := h2, toks := t2 })
    (q : 0 < xs.size → ∀ v h2 t2, (intItems xs)[argBest (fun i j => decide (numAt xs i > numAt xs j)) (xs.size - 1)]? = some v → (∀ b o, s.heap.get? b = some o → h2.get? b = some o) → Q v { s with heap := h2, toks := t2 }) :
    wpAny (model prog w) A (call (.builtin "max") [.ref l] [(Str.ofString "default", d)]) Q E s := by
  have nm : (toString "max" ++ toString ".loop" : String) = "max.loop" := by decide
  refine PyProof.Rows.kmb_tree PySem.F.kind_max PySem.F.plain_max PySem.F.entry_max (maxd_args _ _) ?_
  show wpAny _ A.in1 (Builtin.Builtins.bindParams "max" ["key", "default"] 0 ⟨[], [(Str.ofString "default", d)]⟩ >>= _) _ _ s
  refine wpAny_bind (wpAny_of_eq (show Builtin.Builtins.bindParams "max" ["key", "default"] 0 ⟨[], [(Str.ofString "default", d)]⟩ = pure [none, some d] from rfl) ?_)
  refine wpAny_bind (wpAny_pure (wpAny_bind (iter_intList hl fun s2 e st hfp ne => ?_)))
  subst e
  refine wpAny_bind (wpAny_newObj_type ?_)
  have W := Walks.list (prog := prog) (w := w) (A := A.in1) hh s.heap.objs.size l ne (intItems xs)
  have hsz : (intItems xs).size = xs.size := by simp [intItems]
  rw [nm]
  have nS := fun hm => Nat.lt_irrefl _ (hfp _ hm)
  refine wpAny_pure ⟨plainId_quiet PySem.F.plain_max_loop _, ?_⟩
  refine maxd_start (c := 0) W (fun i j => decide (numAt xs i > numAt xs j)) (CmpOf.ints_gt (numAt xs) (fun _ _ => intItems_at)) _ nS d ?_ ?_ (fun n0 h2 t2 kp => ?_) fun n0 v h2 t2 p kp => ?_
  · exact W.frame _ _ _ st fun b _ o e => Heap.get?_push_of_some _ e
  · exact Heap.get?_push_size _ rfl
  · exact q0 (hsz ▸ n0) h2 t2 (old_kept fun b o nb e => kp b o nb (Nat.ne_of_lt (Heap.lt_size e)) (Heap.get?_push_of_some _ e))
  · rw [hsz] at n0 p
    exact q n0 v h2 t2 p (old_kept fun b o nb e => kp b o nb (Nat.ne_of_lt (Heap.lt_size e)) (Heap.get?_push_of_some _ e))
end

section
variable {prog : Program} {w : World} {A : Around} {R : Result → Shared → Prop} {I : Addr} {fp wr : List Addr} {n : Nat} {P : Nat → Value → Prop} {St : Nat → Heap → Prop}
/-- the turns of min with keywords, from the place behind j on -/
theorem mind_run (W : Walks prog w A.in1 I fp wr n P St) (up : Nat → Nat → Bool) (cm : CmpOf prog w A.in1 .Lt P up) (Z : Addr) (nZ : Z ∉ fp) (kw : List (Str × Value)) : ∀ (k j : Nat) (s : Shared) (b0 : Value) (c : Nat), n = j + 1 + k → St (j + 1) s.heap → P (argBest up j) b0 →
    s.heap.get? Z = some { cls := .type "list", dict := none, data := .seq #[b0, b0] c, slots := #[] } → (∀ v h2 t2, P (argBest up (n - 1)) v → (∀ x o, x ∉ wr → x ≠ Z → s.heap.get? x = some o → h2.get? x = some o) → R (.ok (.ret v)) { s with heap := h2, toks := t2 }) →
    codeAny (model prog w) A (.builtin "min.loop" ⟨[.ref I, .none, .ref Z], kw⟩) R s
  | 0, j, s, b0, c, hn, st, hP, hZ, q => by
    have nw : Z ∉ wr := fun z => nZ (W.sub _ z)
    have hin : j + 1 = n := hn.symm
    refine codeAny_builtin PySem.F.entry_min_loop (by
      rw [Around.under_plainId PySem.F.plain_min_loop _]
      show wpAny _ A.in1 (seqItems? (.ref Z) >>= _) _ _ s
      refine wpAny_bind (wpAny_seqItems hZ rfl ?_)
      show wpAny _ A.in1 (tryCatch (pyNext (.ref I)) _ >>= _) _ _ s
      refine wpAny_bind (wpAny_tryCatch (W.done s _ _ (by rw [← hin]; exact st) fun h2 t2 kp => ?_))
      have hZ2 := kp Z _ nw hZ
      show wpAny _ A.in1 (updateSeq Z (fun _ => #[]) >>= _) _ _ _
      refine wpAny_bind (wpAny_updateSeq hZ2 rfl (wpAny_bind (wpAny_letGo (wpAny_pure ?_))))
      exact q b0 _ t2 (by rw [show n - 1 = j by omega]; exact hP) fun x o xw xz e => (Heap.get?_update_other _ _ (fun z => xz z.symm)).trans (kp x o xw e))
  | k + 1, j, s, b0, c, hn, st, hP, hZ, q => by
    have nw : Z ∉ wr := fun z => nZ (W.sub _ z)
    have nm : (toString "min" ++ toString ".loop" : String) = "min.loop" := by decide
    refine codeAny_builtin PySem.F.entry_min_loop (by
      rw [Around.under_plainId PySem.F.plain_min_loop _]
      show wpAny _ A.in1 (seqItems? (.ref Z) >>= _) _ _ s
      refine wpAny_bind (wpAny_seqItems hZ rfl ?_)
      show wpAny _ A.in1 (tryCatch (pyNext (.ref I)) _ >>= _) _ _ s
      refine wpAny_bind (wpAny_tryCatch (W.item (j + 1) s _ _ (by omega) st fun v h2 t2 pv st2 kp => ?_))
      have hZ2 := kp Z _ nw hZ
      show wpAny _ A.in1 (tryCatch (holding [v, v] (richCompare .Lt v b0 >>= _)) _ >>= _) _ _ _
      refine wpAny_bind (wpAny_tryCatch (wpAny_holding (wpAny_bind (cm (j + 1) (argBest up j) v b0 _ _ _ pv hP ?_))))
      refine wpAny_bind (wpAny_holding (wpAny_truthy_bool (wpAny_bind (wpAny_letGo (wpAny_pure ?_)))))
      cases eb : up (j + 1) (argBest up j) with
      | true =>
        simp only [if_true]
        refine wpAny_bind (wpAny_updateSeq hZ2 rfl (wpAny_bind (wpAny_letGo ?_)))
        rw [nm]
        refine wpAny_pure ⟨plainId_quiet PySem.F.plain_min_loop _, mind_run W up cm Z nZ kw k (j + 1) _ v _ (by omega) (W.frame _ _ _ st2 fun x hx o e => ?_) (by simp only [argBest, eb, if_true]; exact pv) (Heap.get?_update_self _ hZ2 rfl) fun v3 h3 t3 p3 kp3 => ?_⟩
        · exact (Heap.get?_update_other _ _ (fun z : Z = x => nZ (by rw [z]; exact hx))).trans e
        · exact q v3 h3 t3 p3 fun x o xw xz e => kp3 x o xw xz ((Heap.get?_update_other _ _ (fun z => xz z.symm)).trans (kp x o xw e))
      | false =>
        simp only [Bool.false_eq_true, if_false]
        refine wpAny_bind (wpAny_letGo ?_)
        rw [nm]
        refine wpAny_pure ⟨plainId_quiet PySem.F.plain_min_loop _, mind_run W up cm Z nZ kw k (j + 1) _ b0 c (by omega) st2 (by simp only [argBest, eb, Bool.false_eq_true, if_false]; exact hP) hZ2 fun v3 h3 t3 p3 kp3 => ?_⟩
        exact q v3 h3 t3 p3 fun x o xw xz e => kp3 x o xw xz (kp x o xw e))
/-- its first turn -/
theorem mind_start (W : Walks prog w A.in1 I fp wr n P St) (up : Nat → Nat → Bool) (cm : CmpOf prog w A.in1 .Lt P up) (Z : Addr) (nZ : Z ∉ fp) (d : Value) {s : Shared} {c : Nat} (st : St 0 s.heap) (hZ : s.heap.get? Z = some { cls := .type "list", dict := none, data := .seq #[] c, slots := #[] })
    (q0 : n = 0 → ∀ h2 t2, (∀ x o, x ∉ wr → x ≠ Z → s.heap.get? x = some o → h2.get? x = some o) → R (.ok (.ret d)) { s with heap := h2, toks := t2 })
    (q : 0 < n → ∀ v h2 t2, P (argBest up (n - 1)) v → (∀ x o, x ∉ wr → x ≠ Z → s.heap.get? x = some o → h2.get? x = some o) → R (.ok (.ret v)) { s with heap := h2, toks := t2 }) :
    codeAny (model prog w) A (.builtin "min.loop" ⟨[.ref I, .none, .ref Z], [(Str.ofString "default", d)]⟩) R s := by
  have nw : Z ∉ wr := fun z => nZ (W.sub _ z)
  have nm : (toString "min" ++ toString ".loop" : String) = "min.loop" := by decide
  refine codeAny_builtin PySem.F.entry_min_loop (by
    rw [Around.under_plainId PySem.F.plain_min_loop _]
    show wpAny _ A.in1 (seqItems? (.ref Z) >>= _) _ _ s
    refine wpAny_bind (wpAny_seqItems hZ rfl ?_)
    show wpAny _ A.in1 (tryCatch (pyNext (.ref I)) _ >>= _) _ _ s
    rcases Nat.eq_zero_or_pos n with n0 | n0
    · refine wpAny_bind (wpAny_tryCatch (W.done s _ _ (by rw [n0]; exact st) fun h2 t2 kp => ?_))
      show wpAny _ A.in1 (rule _ >>= _) _ _ _
      exact wpAny_bind (wpAny_rule (wpAny_pure (q0 n0 h2 t2 fun x o xw _ e => kp x o xw e)))
    · refine wpAny_bind (wpAny_tryCatch (W.item 0 s _ _ n0 st fun v h2 t2 pv st2 kp => ?_))
      have hZ2 := kp Z _ nw hZ
      show wpAny _ A.in1 (updateSeq Z (fun _ => #[v, v]) >>= _) _ _ _
      refine wpAny_bind (wpAny_updateSeq hZ2 rfl ?_)
      rw [nm]
      refine wpAny_pure ⟨plainId_quiet PySem.F.plain_min_loop _, mind_run W up cm Z nZ _ (n - 1) 0 _ v _ (by omega) (W.frame _ _ _ st2 fun x hx o e => ?_) pv (Heap.get?_update_self _ hZ2 rfl) fun v3 h3 t3 p3 kp3 => ?_⟩
      · exact (Heap.get?_update_other _ _ (fun z : Z = x => nZ (by rw [z]; exact hx))).trans e
      · exact q n0 v3 h3 t3 p3 fun x o xw xz e => kp3 x o xw xz ((Heap.get?_update_other _ _ (fun z => xz z.symm)).trans (kp x o xw e)))
end
section
variable {prog : Program} {w : World} {A : Around} {E : Value → Shared → Prop} {s : Shared} {l : Addr} {xs : Array (Int × Tok)}
theorem mind_args (a d : Value) : argsOk "min" ⟨[a], [(Str.ofString "default", d)]⟩ := by
  unfold argsOk
  kernel_rfl
theorem mind_call {d : Value} {Q : Value → Shared → Prop} (hh : A.handled = none) (hl : s.heap.IsList l (intItems xs)) (q0 : xs.size = 0 → ∀ h2 t2, (∀ b o, s.heap.get? b = some o → h2.get? b = some o) → Q d { s with heap := h2, toks := t2 })
    (q : 0 < xs.size → ∀ v h2 t2, (intItems xs)[argBest (fun i j => decide (numAt xs i < numAt xs j)) (xs.size - 1)]? = some v → (∀ b o, s.heap.get? b = some o → h2.get? b = some o) → Q v { s with heap := h2, toks := t2 }) :
    wpAny (model prog w) A (call (.builtin "min") [.ref l] [(Str.ofString "default", d)]) Q E s := by
  have nm : (toString "min" ++ toString ".loop" : String) = "min.loop" := by decide
  refine PyProof.Rows.kmb_tree PySem.F.kind_min PySem.F.plain_min PySem.F.entry_min (mind_args _ _) ?_
  show wpAny _ A.in1 (Builtin.Builtins.bindParams "min" ["key", "default"] 0 ⟨[], [(Str.ofString "default", d)]⟩ >>= _) _ _ s
  refine wpAny_bind (wpAny_of_eq (show Builtin.Builtins.bindParams "min" ["key", "default"] 0 ⟨[], [(Str.ofString "default", d)]⟩ = pure [none, some d] from rfl) ?_)
  refine wpAny_bind (wpAny_pure (wpAny_bind (iter_intList hl fun s2 e st hfp ne => ?_)))
  subst e
  refine wpAny_bind (wpAny_newObj_type ?_)
  have W := Walks.list (prog := prog) (w := w) (A := A.in1) hh s.heap.objs.size l ne (intItems xs)
  have hsz : (intItems xs).size = xs.size := by simp [intItems]
  rw [nm]
  have nS := fun hm => Nat.lt_irrefl _ (hfp _ hm)
  refine wpAny_pure ⟨plainId_quiet PySem.F.plain_min_loop _, ?_⟩
  refine mind_start (c := 0) W (fun i j => decide (numAt xs i < numAt xs j)) (CmpOf.ints_lt (numAt xs) (fun _ _ => intItems_at)) _ nS d ?_ ?_ (fun n0 h2 t2 kp => ?_) fun n0 v h2 t2 p kp => ?_
  · exact W.frame _ _ _ st fun b _ o e => Heap.get?_push_of_some _ e
  · exact Heap.get?_push_size _ rfl
  · exact q0 (hsz ▸ n0) h2 t2 (old_kept fun b o nb e => kp b o nb (Nat.ne_of_lt (Heap.lt_size e)) (Heap.get?_push_of_some _ e))
  · rw [hsz] at n0 p
    exact q n0 v h2 t2 p (old_kept fun b o nb e => kp b o nb (Nat.ne_of_lt (Heap.lt_size e)) (Heap.get?_push_of_some _ e))
end
end Toy0
namespace Toy
open PySem L2
section
open PyProof.Rows

/-- max(xs, default=d) of a list of ints -/
def rmaxd (K : PySem.W.Frag) : List V → List V → Hp → VK → Prop := fun vs zs H Q => ∃ (a : Addr) (ns : List Int) (d : V), vs = [V.ref a] ∧ zs = [d] ∧ SqL K H a (ns.map V.int) ∧ (ns = [] → Q d H) ∧ ∀ m, m ∈ ns → (∀ y, y ∈ ns → y ≤ m) → Q (.int m) H
theorem cr_maxd {X : Cx} (hc : X.calm = true) : CallRK X (.builtin "max") [Str.ofString "default"] (rmaxd X.K) := by
  intro pins s σ H vs zs us wz Q I r rz h
  obtain ⟨a, ns, d, rfl, rfl, hs, q0, q⟩ := h
  obtain ⟨its, rv, hl, _⟩ := I.list hs
  obtain rfl := Vals.ref1 r
  obtain ⟨w1, rfl, e1⟩ := vals1 rz
  obtain ⟨xs, e⟩ := rv.ints.allInts.items
  have hn : numsOf (intItems xs).toList = ns := by rw [← e]; exact rv.ints.numsOf
  rw [nums_intItems] at hn
  have hl2 := hl.isList
  rw [e] at hl2
  have hlen : ns.length = xs.size := by rw [← hn, List.length_map, Array.length_toList]
  refine Toy0.maxd_call (I.ok.hd hc) hl2 (fun n0 h2 t2 kp => ?_) fun n0 v h2 t2 hv kp => ?_
  · exact ⟨d, H, I.kept kp, e1, q0 (List.eq_nil_of_length_eq_zero (by omega))⟩
  · obtain ⟨t, rfl⟩ := intItems_at hv
    obtain ⟨h1, h3⟩ := argBest_gt (numAt xs) (xs.size - 1)
    refine ⟨.int _, H, I.kept kp, ⟨_, rfl⟩, q _ ?_ fun y hy => ?_⟩
    · rw [← hn, numAt_eq]
      exact PySem.getD_mem (by rw [List.length_map, Array.length_toList]; omega)
    · rw [← hn] at hy
      obtain ⟨j, hj, rfl⟩ := mem_getD hy
      rw [List.length_map, Array.length_toList] at hj
      have := h3 j (by omega)
      rwa [← numAt_eq]

/-- min(xs, default=d) of a list of ints -/
def rmind (K : PySem.W.Frag) : List V → List V → Hp → VK → Prop := fun vs zs H Q => ∃ (a : Addr) (ns : List Int) (d : V), vs = [V.ref a] ∧ zs = [d] ∧ SqL K H a (ns.map V.int) ∧ (ns = [] → Q d H) ∧ ∀ m, m ∈ ns → (∀ y, y ∈ ns → m ≤ y) → Q (.int m) H
theorem cr_mind {X : Cx} (hc : X.calm = true) : CallRK X (.builtin "min") [Str.ofString "default"] (rmind X.K) := by
  intro pins s σ H vs zs us wz Q I r rz h
  obtain ⟨a, ns, d, rfl, rfl, hs, q0, q⟩ := h
  obtain ⟨its, rv, hl, _⟩ := I.list hs
  obtain rfl := Vals.ref1 r
  obtain ⟨w1, rfl, e1⟩ := vals1 rz
  obtain ⟨xs, e⟩ := rv.ints.allInts.items
  have hn : numsOf (intItems xs).toList = ns := by rw [← e]; exact rv.ints.numsOf
  rw [nums_intItems] at hn
  have hl2 := hl.isList
  rw [e] at hl2
  have hlen : ns.length = xs.size := by rw [← hn, List.length_map, Array.length_toList]
  refine Toy0.mind_call (I.ok.hd hc) hl2 (fun n0 h2 t2 kp => ?_) fun n0 v h2 t2 hv kp => ?_
  · exact ⟨d, H, I.kept kp, e1, q0 (List.eq_nil_of_length_eq_zero (by omega))⟩
  · obtain ⟨t, rfl⟩ := intItems_at hv
    obtain ⟨h1, h3⟩ := argBest_lt (numAt xs) (xs.size - 1)
    refine ⟨.int _, H, I.kept kp, ⟨_, rfl⟩, q _ ?_ fun y hy => ?_⟩
    · rw [← hn, numAt_eq]
      exact PySem.getD_mem (by rw [List.length_map, Array.length_toList]; omega)
    · rw [← hn] at hy
      obtain ⟨j, hj, rfl⟩ := mem_getD hy
      rw [List.length_map, Array.length_toList] at hj
      have := h3 j (by omega)
      rwa [← numAt_eq]
end

section
open PyProof.Rows
/-! ### own rules: set(list of ints), k in that set; enumerate(a tuple) -/
theorem any_firstMet (zs : List Int) (k : Int) : (PyProof.Rows.firstMet (fun i => zs.getD i 0) zs.length).any (· == k) = decide (k ∈ zs) := by
  rw [PyProof.Rows.firstMet_any, Bool.eq_iff_iff, List.any_eq_true, decide_eq_true_iff]
  constructor
  · rintro ⟨y, hy, e⟩
    obtain ⟨i, hi, rfl⟩ := List.mem_map.mp hy
    have hi' : i < zs.length := List.mem_range.mp hi
    have e' : zs.getD i 0 = k := by simpa using e
    rw [← e', List.getD_eq_getElem?_getD, List.getElem?_eq_getElem hi']
    exact List.getElem_mem hi'
  · intro hk
    obtain ⟨i, hi, e⟩ := List.getElem_of_mem hk
    refine ⟨k, List.mem_map.mpr ⟨i, List.mem_range.mpr hi, ?_⟩, by simp⟩
    show zs.getD i 0 = k
    rw [List.getD_eq_getElem?_getD, List.getElem?_eq_getElem hi]
    exact e
/-- set(xs), xs a list of ints -/
def rSetOfL (K : PySem.W.Frag) : List V → Hp → VK → Prop := fun vs H Q => ∃ (l : Addr) (zs : List Int), vs = [V.ref l] ∧ SqL K H l (zs.map V.int) ∧ zs.length ≤ 1000 ∧
  ∀ (p : Addr) (n : Nat), H p = Option.none → Q (.ref p) (upd H p (.set (fun k => decide (k ∈ zs)) n))
theorem cr_set {X : Cx} (calm : X.calm = true) : CallR X (.type "set") (rSetOfL X.K) := by
  intro pins sh σ H vs us Q I rel hyp
  obtain ⟨l, zs, rfl, hl, few, q⟩ := hyp
  rw [Vals.ref1 rel]
  obtain ⟨its, rv, pl, _⟩ := I.list hl
  have isI := ints_of_vals rv
  have same : its.toArray.size = zs.length := by
    have e := rv.length
    rw [List.length_map] at e
    rw [List.size_toArray]
    exact e.symm
  refine PySem.call_set_list (items := its.toArray) (ns := zs) (I.ok.hd calm) pl.isList (by simpa using isI) (by rw [same]; unfold scanBound; omega) fun h' tk S kp => ?_
  have fresh : H sh.heap.objs.size = Option.none := I.hok.fresh (Nat.le_refl _)
  have e : (fun k => (PyProof.Rows.firstMet (fun i => zs.getD i 0) its.toArray.size).any (· == k)) = fun k => decide (k ∈ zs) := by
    funext k
    rw [same]
    exact any_firstMet zs k
  rw [e] at S
  exact ⟨.ref sh.heap.objs.size, upd H sh.heap.objs.size (.set (fun k => decide (k ∈ zs)) _), I.laid (t' := tk) (fun b o ho => kp b o (Heap.lt_size ho) ho) (Nat.le_refl _) S, rfl, q _ _ fresh⟩
/-- k in such a set -/
def rInSt (neg : Bool) : R2 := fun x y H Q => ∃ (k : Int) (b : Addr) (S : Int → Bool) (n : Nat), x = V.int k ∧ y = V.ref b ∧ H b = some (.set S n) ∧ Q (.bl (if neg then !S k else S k)) H
theorem op_in_set {X : Cx} : OpR X (compareOp .In) (rInSt false) := by
  intro pins sh σ H x y v u Q I r1 r2 hyp
  obtain ⟨k, b, S, n, rfl, rfl, hb, q⟩ := hyp
  obtain ⟨tk, rfl⟩ := r1
  cases r2
  have hS : sh.heap.SetOf (intKind X.prog X.w) b S n := I.hok b _ hb
  exact PySem.wpAny_inSet_of (PySem.intKind_is _ _ _ _) rfl hS ⟨.bl (S k), H, I.tok _, rfl, q⟩
/-- the pairs of enumerate over the tuple at a -/
def Itu (K : PySem.W.Frag) (a : Addr) : It where
  go i H := ∃ (ys : List V) (y : V), SqT K H a ys ∧ ys[i]? = some y
  yld i H v H' := ∃ (p : Addr) (y : V), v = .ref p ∧ H p = Option.none ∧ H' = upd H p (.tup [.int (i : Nat), y]) ∧ ∀ ys, SqT K H a ys → ys[i]? = some y
  stop i H := ∃ ys : List V, SqT K H a ys ∧ ys.length = i
theorem turn_enumT {P : Program} {w : World} {K : PySem.W.Frag} {elts : List Expr} {kk : Nat} {tpos : Pos} (a en it : Addr) (na : a ≠ it) (ne : en ≠ it) (nea : en ≠ a) :
    Turn P w K (.Tuple elts kk tpos) (Itu K a) [en, it] en (fun i h => (∃ old, IsEnum h en it ((i : Nat) : Int) old) ∧ h.IsTupleIter it a i) where
  mem := List.mem_cons_self
  obj := by
    rintro i h ⟨⟨old, he⟩, ⟨o, ho, hc, hd⟩⟩ b hb
    rcases List.mem_cons.mp hb with rfl | hb
    · exact ⟨_, he, fun v z => nomatch z⟩
    · rw [List.mem_singleton.mp hb]
      exact ⟨o, ho, fun v z => by rw [hd] at z; cases z⟩
  keep := by
    rintro i h h' ⟨⟨old, he⟩, hi⟩ kp
    exact ⟨⟨old, kp en List.mem_cons_self _ he⟩, hi.at fun o z => kp it (List.mem_cons_of_mem _ List.mem_cons_self) o z⟩
  item := by
    intro X hP hw hK calm i pins sh σ H E I fp st hg
    subst hP hw hK
    obtain ⟨⟨old, he⟩, hit⟩ := st
    obtain ⟨ys, y, hy, hix⟩ := hg
    obtain ⟨its, rv, tp, _⟩ := I.tuple hy
    obtain ⟨u, hu, ru⟩ := rv.get hix
    have hT : sh.heap.IsTuple a its.toArray := tp
    have hlen : i < its.toArray.size := by
      rw [List.size_toArray]
      exact (List.getElem?_eq_some_iff.mp hu).1
    have len : en < sh.heap.objs.size := Heap.lt_size he
    have lit : it < sh.heap.objs.size := by
      obtain ⟨_, z, _⟩ := hit
      exact Heap.lt_size z
    refine wpAny_pyNext_enum_itemD (Draws.tuple (by simp [I.ok.hd calm]) it a na its.toArray) he ⟨hit, hT⟩ hlen ne (by simp [ne, nea]) fun x h' tk hx ho hst hnew hsz kp => ?_
    have ex : x = u := by
      rw [List.getElem?_toArray, hu] at hx
      exact (Option.some.inj hx).symm
    subst ex
    refine ⟨_, rfl, wpAny_letOwnedTupleGo_enum (s := { sh with heap := h', toks := tk + 1 }) ho fun h2 he2 sb => ?_⟩
    have new2 : h2.get? sh.heap.objs.size = some { cls := .type "tuple", data := .seq #[.int i tk, x] } := (sb.2 _ (Nat.ne_of_gt len)).trans hnew
    have okN : ObjOk X.prog X.w (upd H sh.heap.objs.size (.tup [.int (i : Nat), y])) h2 sh.heap.objs.size (.tup [.int (i : Nat), y]) := by
      refine ⟨(by show 2 ≤ sizeLine; decide), [.int i tk, x], .cons ⟨_, rfl⟩ (.cons ru .nil), ?_⟩
      exact ⟨_, new2, rfl, _, rfl⟩
    have I2 : Inv X pins σ (upd H sh.heap.objs.size (.tup [.int (i : Nat), y])) { sh with heap := h2, toks := tk + 1 } := by
      refine I.turnedNew (ch := [en, it]) (fun b ob hb z => ?_) fp (Nat.le_refl _) okN
      have b1 : b ≠ en := fun q => hb (by rw [q]; exact List.mem_cons_self)
      have b2 : b ≠ it := fun q => hb (by rw [q]; exact List.mem_cons_of_mem _ List.mem_cons_self)
      exact (sb.2 b b1).trans (kp b ob b1 b2 z)
    refine ⟨.ref sh.heap.objs.size, _, I2, rfl, ⟨_, y, rfl, I.hok.fresh (Nat.le_refl _), rfl, fun zs hz => ?_⟩, ⟨⟨x, ?_⟩, hst.1.at fun o z => (sb.2 it (Ne.symm ne)).trans z⟩, fun b hb => ?_⟩
    · rw [I.tuple_inj hz hy]
      exact hix
    · have e1 : ((i + 1 : Nat) : Int) = (i : Int) + 1 := by omega
      rw [e1]
      exact he2
    · have lb : b < sh.heap.objs.size := by
        rcases List.mem_cons.mp hb with rfl | hb
        · exact len
        · rw [List.mem_singleton.mp hb]
          exact lit
      rw [upd_ne (Nat.ne_of_lt lb)]
      exact (fp b hb).1
  done := by
    intro X hP hw hK calm i pins sh σ H E I fp st hg
    subst hP hw hK
    obtain ⟨⟨old, he⟩, hit⟩ := st
    obtain ⟨ys, hy, rfl⟩ := hg
    obtain ⟨its, rv, tp, _⟩ := I.tuple hy
    have hT : sh.heap.IsTuple a its.toArray := tp
    have e : ys.length = its.toArray.size := by
      rw [List.size_toArray]
      exact rv.length
    rw [e] at hit
    obtain ⟨g0, g1, g2, g3, g4, g5⟩ := fp it (List.mem_cons_of_mem _ List.mem_cons_self)
    exact wpAny_pyNext_enum_endD (Draws.tuple (by simp [I.ok.hd calm]) it a na its.toArray) he ⟨hit, hT⟩ fun h' eb => ⟨rfl, I.turned (t' := sh.toks) (fun b o hb z => eb b o hb z) g0 g1 g3 g4 g5⟩
  self := by
    rintro A i s Q E ⟨⟨_, he⟩, _⟩ h
    exact wpAny_pyIter_enum he h
theorem meets_enum1 {v : Value} {o : Obj} {Z : Heap → Prop} (B : Begins v o Z) :
    Meets (Builtin.«enumerate.__new__» ⟨[.type "enumerate", v], []⟩) (fun _ R s => Z s.heap ∧
      R (.ok (.ret (.ref (s.heap.push o).objs.size))) { s with heap := (s.heap.push o).push { cls := .type "enumerate", data := .fields #[.none, .bool false, .ref s.heap.objs.size, rawInt 0, .none, .none] } }) :=
  .of_wp fun prog w A R s hyp => by
    obtain ⟨hp, g, d, tk, os⟩ := s
    obtain ⟨hz, hyp⟩ := hyp
    have sube := sub_enumerate
    have step : ∀ {A' : Around} {E' : Value → Shared → Prop} {Q' : Value → Shared → Prop}, Q' (.ref hp.objs.size) ⟨hp.push o, g, d, tk, os⟩ → wpAny (model prog w) A' (pyIter v) Q' E' ⟨hp, g, d, tk, os⟩ :=
      fun z => B.iter prog w _ _ ⟨hp, g, d, tk, os⟩ _ hz z
    wp_walk using step
    refine wpAny_stack_any fun st => wpAny_pure ?_
    split
    · rename_i c _ _ _ _ _
      cases (c == Value.type "enumerate") <;> (wp_walk using step; exact ⟨_, rfl, hyp⟩)
    · wp_walk using step
      exact ⟨_, rfl, hyp⟩
theorem call_enum1 {prog : Program} {w : World} {A : Around} {E : Value → Shared → Prop} {s : Shared} {v : Value} {o : Obj} {Z : Heap → Prop} {Q : Value → Shared → Prop} (B : Begins v o Z) (hz : Z s.heap)
    (fin : ∀ h', IsEnum h' (s.heap.objs.size + 1) s.heap.objs.size 0 .none → h'.get? s.heap.objs.size = some o → (∀ b u, s.heap.get? b = some u → h'.get? b = some u) → Q (.ref (s.heap.objs.size + 1)) { s with heap := h' }) :
    wpAny (model prog w) A (call (.type "enumerate") [v]) Q E s := by
  have size1 : (s.heap.push o).objs.size = s.heap.objs.size + 1 := Heap.size_push ..
  refine callType_new F.called_enumerate (by decide) (F.typeCall_enumerate_1 _) (F.newCall_enumerate_1 _) (fun obj => F.args_object_init_2 obj _) F.entry_enumerate_new (meets_enum1 B) ⟨hz, ?_⟩
  rw [size1]
  have isE : IsEnum ((s.heap.push o).push { cls := .type "enumerate", data := .fields #[.none, .bool false, .ref s.heap.objs.size, rawInt 0, .none, .none] }) (s.heap.objs.size + 1) s.heap.objs.size 0 .none := by
    have z := Heap.get?_push_size (s.heap.push o) (o := { cls := .type "enumerate", data := .fields #[.none, .bool false, .ref s.heap.objs.size, rawInt 0, .none, .none] }) rfl
    rwa [size1] at z
  exact ⟨⟨_, isE, rfl⟩, fin _ isE (Heap.get?_push_of_some _ (Heap.get?_push_size _ B.free)) fun b u z => Heap.get?_push_of_some _ (Heap.get?_push_of_some _ z)⟩
def iEnumT (K : PySem.W.Frag) (ta : TA) : TI := fun σ H R => ta σ H fun vs H1 => ∃ (a : Addr) (ys : List V), vs = [.ref a] ∧ SqT K H1 a ys ∧ R (Itu K a) H1
theorem pi_enumT {X : Cx} {e : Expr} {ta : TA} {p pos tpos : Pos} {elts : List Expr} {kk : Nat} (gl : Gl X "enumerate") (no : X.mg "enumerate" = none) (pa : PA X [e] ta) (plain : starEach [e] X.env = [(false, eval e X.env)] := by rfl) :
    PI X (.Tuple elts kk tpos) (.Call (.Name "enumerate" p) [e] [] pos) (iEnumT X.K ta) := by
  constructor
  intro pins s σ H R I hyp
  refine PyProof.Rows.Call_ (ld_blt I gl no boot_enumerate (PyProof.Rows.callWith_type1 (thn (pa.run pos pins s σ H _ I hyp) fun us s1 got => ?_) plain rfl))
  obtain ⟨vs, H1, I1, rel, a, ys, rfl, hy, q⟩ := got
  rw [Vals.ref1 rel]
  obtain ⟨its, rv, tp, _⟩ := I1.tuple hy
  have hT : s1.heap.IsTuple a its.toArray := tp
  have la : a < s1.heap.objs.size := by
    obtain ⟨_, z, _⟩ := hT
    exact Heap.lt_size z
  refine call_enum1 (begins_tuple a its.toArray) hT fun h' isE hit kp => wpAny_pyIter_enum isE ?_
  have I2 : Inv X pins σ H1 { s1 with heap := h' } := I1.kept (t' := s1.toks) kp
  refine ⟨s1.heap.objs.size + 1, [s1.heap.objs.size + 1, s1.heap.objs.size], _, _, H1, rfl, I2, turn_enumT a (s1.heap.objs.size + 1) s1.heap.objs.size (Nat.ne_of_lt la) (Nat.succ_ne_self _) (Nat.ne_of_gt (Nat.lt_succ_of_lt la)), ⟨⟨.none, isE⟩, _, hit, rfl, rfl⟩, fun b hb => ?_, q⟩
  have le : s1.heap.objs.size ≤ b := by
    rcases List.mem_cons.mp hb with rfl | hb
    · exact Nat.le_succ _
    · rw [List.mem_singleton.mp hb]
      exact Nat.le_refl _
  exact I1.fpOk le (I1.hok.fresh le)
/-- the forms that one uses: a word by the turn -/
theorem for_enumT {K : PySem.W.Frag} {a : Addr} {ys : List V} {g : TG} {tb : TS} {D : Ends} {σ : L2.St} {H : Hp} (Pv : Nat → L2.St → Hp → Prop) (h0 : Pv 0 σ H) (src : ∀ i σ H, i ≤ ys.length → Pv i σ H → SqT K H a ys)
    (turn : ∀ i y σ H p, ys[i]? = some y → Pv i σ H → H p = Option.none → g (.ref p) σ (upd H p (.tup [.int (i : Nat), y])) fun σ2 H2 => tb { D with nx := Pv (i + 1), ct := Pv (i + 1), bk := D.nx } σ2 H2) (fin : ∀ σ H, Pv ys.length σ H → D.nx σ H) :
    ∃ W : Nat → Nat → L2.St → Hp → Prop, (∃ m, W 0 m σ H) ∧ ∀ i m σ H, W i m σ H →
      ((Itu K a).stop i H ∧ D.nx σ H) ∨ ((Itu K a).go i H ∧ ∃ N : L2.St → Hp → Prop, (∀ σ' H', N σ' H' → ∃ m', m' < m ∧ W (i + 1) m' σ' H') ∧ ∀ x H', (Itu K a).yld i H x H' → g x σ H' fun σ2 H2 => tb { D with nx := N, ct := N, bk := D.nx } σ2 H2) := by
  refine ⟨fun i m σ H => m + i = ys.length ∧ Pv i σ H, ⟨ys.length, Nat.add_zero _, h0⟩, ?_⟩
  rintro i m σ H ⟨em, pv⟩
  have s := src i σ H (by omega) pv
  rcases Nat.lt_or_ge i ys.length with lt | ge
  · refine .inr ⟨⟨ys, ys[i], s, List.getElem?_eq_getElem lt⟩, Pv (i + 1), fun σ' H' z => ⟨m - 1, by omega, by omega, z⟩, ?_⟩
    rintro x H' ⟨p, y, rfl, hp, rfl, hy⟩
    exact turn i y σ H p (hy ys s) pv hp
  · have e : i = ys.length := by omega
    subst e
    exact .inl ⟨⟨ys, s, rfl⟩, fin σ H pv⟩
theorem lc_enumT {K : PySem.W.Frag} {a : Addr} {ys : List V} {g : TG} {tt : TT} {te : TE} {vs : List Nat} {σ : L2.St} {H1 : Hp} {D : Addr} {Qd : Hp → Prop} (Pv : Nat → Hp → Prop) (h0 : Pv 0 (upd H1 D (.lst []))) (src : ∀ i H, i ≤ ys.length → Pv i H → SqT K H a ys)
    (turn : ∀ i y H p, ys[i]? = some y → Pv i H → H p = Option.none → g (.ref p) (wipe σ vs) (upd H p (.tup [.int (i : Nat), y])) fun σ2 H2 => wipe σ2 vs = wipe σ vs ∧ tt σ2 H2 fun b H3 =>
      if b = true then te σ2 H3 fun y H4 => ∃ acc, H4 D = some (.lst acc) ∧ acc.length < sizeLine ∧ Pv (i + 1) (upd H4 D (.lst (acc ++ [y]))) else Pv (i + 1) H3) (fin : ∀ H, Pv ys.length H → Qd H) :
    ∃ W : Nat → Nat → Hp → Prop, (∃ m, W 0 m (upd H1 D (.lst []))) ∧ ∀ i m H, W i m H →
      ((Itu K a).stop i H ∧ Qd H) ∨ ((Itu K a).go i H ∧ ∃ Nx : Hp → Prop, (∀ H', Nx H' → ∃ m', m' < m ∧ W (i + 1) m' H') ∧ ∀ x H', (Itu K a).yld i H x H' → g x (wipe σ vs) H' fun σ2 H2 => wipe σ2 vs = wipe σ vs ∧ tt σ2 H2 fun b H3 =>
        if b = true then te σ2 H3 fun y H4 => ∃ acc, H4 D = some (.lst acc) ∧ acc.length < sizeLine ∧ Nx (upd H4 D (.lst (acc ++ [y]))) else Nx H3) := by
  refine ⟨fun i m H => m + i = ys.length ∧ Pv i H, ⟨ys.length, Nat.add_zero _, h0⟩, ?_⟩
  rintro i m H ⟨em, pv⟩
  have s := src i H (by omega) pv
  rcases Nat.lt_or_ge i ys.length with lt | ge
  · refine .inr ⟨⟨ys, ys[i], s, List.getElem?_eq_getElem lt⟩, Pv (i + 1), fun H' z => ⟨m - 1, by omega, by omega, z⟩, ?_⟩
    rintro x H' ⟨p, y, rfl, hp, rfl, hy⟩
    exact turn i y H p (hy ys s) pv hp
  · have e : i = ys.length := by omega
    subst e
    exact .inl ⟨⟨ys, s, rfl⟩, fin H pv⟩
/-- sum(t), t a tuple of ints -/
def rSumT (K : PySem.W.Frag) : List V → Hp → VK → Prop := fun vs H Q => ∃ (a : Addr) (zs : List Int), vs = [V.ref a] ∧ SqT K H a (zs.map V.int) ∧ Q (.int zs.sum) H
theorem cr_sumT {X : Cx} (calm : X.calm = true) : CallR X (.builtin "sum") (rSumT X.K) := by
  intro pins sh σ H vs us Q I rel hyp
  obtain ⟨a, zs, rfl, hz, q⟩ := hyp
  rw [Vals.ref1 rel]
  obtain ⟨its, rv, tp, _⟩ := I.tuple hz
  have hT : sh.heap.IsTuple a its.toArray := tp
  have isI : IntsAre its zs := Vals.ints rv
  obtain ⟨xs, ex⟩ := isI.allInts.items
  have en : numsOf (intItems xs).toList = zs := by
    rw [← ex]
    exact isI.numsOf
  rw [nums_intItems] at en
  rw [ex] at hT
  refine PySem.W.ktm_sumG (I.ok.hd calm) hT fun h' tk t' kp => ?_
  rw [preSum_eq, List.take_of_length_le (by simp), en]
  exact ⟨.int zs.sum, H, I.kept kp, ⟨_, rfl⟩, q⟩
/-- enumerate over a list, by a word -/
theorem for_enumL {K : PySem.W.Frag} {a : Addr} {ys : List V} {g : TG} {tb : TS} {D : Ends} {σ : L2.St} {H : Hp} (Pv : Nat → L2.St → Hp → Prop) (h0 : Pv 0 σ H) (src : ∀ i σ H, i ≤ ys.length → Pv i σ H → SqL K H a ys)
    (turn : ∀ i y σ H p, ys[i]? = some y → Pv i σ H → H p = Option.none → g (.ref p) σ (upd H p (.tup [.int (i : Nat), y])) fun σ2 H2 => tb { D with nx := Pv (i + 1), ct := Pv (i + 1), bk := D.nx } σ2 H2) (fin : ∀ σ H, Pv ys.length σ H → D.nx σ H) :
    ∃ W : Nat → Nat → L2.St → Hp → Prop, (∃ m, W 0 m σ H) ∧ ∀ i m σ H, W i m σ H →
      ((Ite K a).stop i H ∧ D.nx σ H) ∨ ((Ite K a).go i H ∧ ∃ N : L2.St → Hp → Prop, (∀ σ' H', N σ' H' → ∃ m', m' < m ∧ W (i + 1) m' σ' H') ∧ ∀ x H', (Ite K a).yld i H x H' → g x σ H' fun σ2 H2 => tb { D with nx := N, ct := N, bk := D.nx } σ2 H2) := by
  refine ⟨fun i m σ H => m + i = ys.length ∧ Pv i σ H, ⟨ys.length, Nat.add_zero _, h0⟩, ?_⟩
  rintro i m σ H ⟨em, pv⟩
  have s := src i σ H (by omega) pv
  rcases Nat.lt_or_ge i ys.length with lt | ge
  · refine .inr ⟨⟨ys, ys[i], s, List.getElem?_eq_getElem lt⟩, Pv (i + 1), fun σ' H' z => ⟨m - 1, by omega, by omega, z⟩, ?_⟩
    rintro x H' ⟨p, y, rfl, hp, rfl, hy⟩
    exact turn i y σ H p (hy ys s) pv hp
  · have e : i = ys.length := by omega
    subst e
    exact .inl ⟨⟨ys, s, Nat.le_refl _⟩, fin σ H pv⟩
/-- k in xs, xs a list of ints -/
theorem inV_ints (zs : List Int) (k : Int) : inV (V.int k) (zs.map V.int) = decide (k ∈ zs) := by
  induction zs with
  | nil => rfl
  | cons a r ih =>
    have e : inV (V.int k) ((a :: r).map V.int) = (eqV (V.int a) (V.int k) || inV (V.int k) (r.map V.int)) := rfl
    rw [e, ih]
    by_cases h : a = k
    · subst h
      simp [eqV]
    · have h' : ¬ k = a := fun z => h z.symm
      simp [eqV, h, h']
theorem flat_ints (zs : List Int) : (zs.map V.int).all flatV = true := by
  rw [List.all_eq_true]
  intro x hx
  obtain ⟨z, _, rfl⟩ := List.mem_map.mp hx
  rfl
end

/-! ### sorted(a list of pairs of an int and a text) whose ints ascend already -/
section
open PyProof.Rows PyProof.Rows.G
theorem zip_selfV : ∀ l : List Value, l.zip l = l.map fun v => (v, v)
  | [] => rfl
  | v :: l => by rw [List.zip_cons_cons, zip_selfV l]; rfl
def tsShape : Nat → Bool := fun i => decide (i = 1)
theorem ts_key {h : Heap} {p : Addr} {o : Obj} {n : Nat} {t : Int} {b : Str} {u v : Tok} (g : h.get? p = some o) (c : o.cls = .type "tuple") (d : o.data = .seq #[.int t u, .str b v] n) :
    tupKeyC h tsShape (.ref p) = some [Sum.inl t, Sum.inr b.cps.toList] := by
  unfold tupKeyC
  have e : isTupObj h (.ref p) = true := by simp [isTupObj, g, c]
  rw [if_pos e]
  simp [tupKey, g, d, tupItems, tsShape]
theorem ts_tup {h : Heap} {p : Addr} {o : Obj} {n : Nat} {t : Int} {b : Str} {u v : Tok} (g : h.get? p = some o) (c : o.cls = .type "tuple") (d : o.data = .seq #[.int t u, .str b v] n) :
    TupOf h tsShape (.ref p) (.int t u) := ⟨p, o, _, n, rfl, g, c, d, rfl, fun _ => ⟨t, u, rfl⟩, fun e => by simp [tsShape] at e⟩
def TsAt (H : Hp) (ps : List Addr) (ts : List (Int × Str)) : Prop := ps.length = ts.length ∧ ∀ i, i < ts.length → H (ps.getD i 0) = some (.tup [.int (ts.getD i default).1, .str (ts.getD i default).2])
def rSortTS (K : PySem.W.Frag) : List V → Hp → VK → Prop := fun vs H Q => ∃ (a : Addr) (ps : List Addr) (ts : List (Int × Str)), vs = [V.ref a] ∧ SqL K H a (ps.map V.ref) ∧ TsAt H ps ts ∧ (∀ i j, i < j → j < ts.length → (ts.getD i default).1 < (ts.getD j default).1) ∧
  ∀ q, H q = none → Q (.ref q) (upd H q (.lst (ps.map V.ref)))
theorem refs_vals : ∀ {ps : List Addr} {us : List Value}, Vals (ps.map V.ref) us → us = ps.map Value.ref
  | [], _, .nil => rfl
  | p :: ps, _, .cons r rs => by
    obtain rfl := refs_vals rs
    cases r
    rfl
theorem ts_all {P : Program} {w : World} {H : Hp} {h : Heap} (ok : HOk P w H h) : ∀ {ps : List Addr} {ts : List (Int × Str)}, TsAt H ps ts → ∃ fs, TupsOf h tsShape (ps.map Value.ref) fs
  | [], _, _ => ⟨[], .nil⟩
  | p :: ps, [], l => nomatch l.1
  | p :: ps, x :: ts, l => by
    obtain ⟨fs, r⟩ := ts_all ok (ps := ps) (ts := ts) ⟨Nat.succ.inj l.1, fun i hi => l.2 (i + 1) (Nat.succ_lt_succ hi)⟩
    obtain ⟨_, its, rv, o, g, c, n, d⟩ := ok _ _ (l.2 0 (Nat.succ_pos _))
    obtain ⟨u1, u2, rfl, ⟨t1, rfl⟩, q2⟩ := vals2 rv
    obtain ⟨t2, rfl⟩ := q2
    exact ⟨_, .cons (ts_tup g c d) r⟩
theorem ts_keys {P : Program} {w : World} {H : Hp} {h : Heap} (ok : HOk P w H h) {ps : List Addr} {ts : List (Int × Str)} (l : TsAt H ps ts) (i : Nat) (hi : i < ts.length) :
    tupKeyC h tsShape (.ref (ps.getD i 0)) = some [Sum.inl (ts.getD i default).1, Sum.inr (ts.getD i default).2.cps.toList] := by
  obtain ⟨_, its, rv, o, g, c, n, d⟩ := ok _ _ (l.2 i hi)
  obtain ⟨u1, u2, rfl, ⟨t1, rfl⟩, q2⟩ := vals2 rv
  obtain ⟨t2, rfl⟩ := q2
  exact ts_key g c d
theorem cr_sortTS {X : Cx} : CallR X (.builtin "sorted") (rSortTS X.K) := by
  intro pins s σ H vs us Q I r h
  obtain ⟨a, ps, ts, rfl, hs, hx, asc, q⟩ := h
  obtain ⟨its, rv, hl, hz⟩ := I.list hs
  obtain ⟨u, rfl, ru⟩ := vals1 r
  obtain rfl : u = Value.ref a := ru
  obtain rfl := refs_vals rv
  obtain ⟨fs, tf⟩ := ts_all I.hok hx
  have hlen := hx.1
  have key := ts_keys I.hok hx
  have at_ : ∀ i, i < ts.length → (pairsOf (ps.map Value.ref))[i]? = some (.ref (ps.getD i 0), .ref (ps.getD i 0)) := fun i hi => by
    rw [← Array.getElem?_toList, pairsOf_toList, zip_selfV, List.getElem?_map, List.getElem?_map, List.getElem?_eq_getElem (by omega)]
    simp [List.getD_eq_getElem?_getD, List.getElem?_eq_getElem (show i < ps.length by omega)]
  have ks : ∀ v, v ∈ ps.map Value.ref → ∃ l, tupKeyC s.heap tsShape v = some l := fun v hv => by
    obtain ⟨p, hp, rfl⟩ := List.mem_map.mp hv
    obtain ⟨i, hi, rfl⟩ := List.getElem_of_mem hp
    have := key i (by omega)
    rw [List.getD_eq_getElem?_getD, List.getElem?_eq_getElem hi] at this
    exact ⟨_, this⟩
  have kk : ∀ i, i < ts.length → KK (tupKindC s.heap tsShape) (pairsOf (ps.map Value.ref)) i = [Sum.inl (ts.getD i default).1, Sum.inr (ts.getD i default).2.cps.toList] := fun i hi => by
    unfold KK
    rw [at_ i hi]
    show (tupKeyC s.heap tsShape _).getD _ = _
    rw [key i hi]
    rfl
  have so : SortedToK (tupKindC s.heap tsShape) (pairsOf (ps.map Value.ref)) (pairsOf (ps.map Value.ref)).size := by
    intro i j ij hj
    rw [pairsOf_size, List.length_map, hlen] at hj
    rcases Nat.lt_or_ge i j with c | c
    · refine PyProof.Rows.KeyOrd.kle_of_klt ?_
      rw [kk i (by omega), kk j hj]
      show lexLt itemOrd _ _ = true
      exact lex_true.mpr (.inl (decide_eq_true (asc i j c hj)))
    · have : i = j := by omega
      subst this
      exact PyProof.Rows.KeyOrd.kle_refl _
  refine sorted_tups hl.isList tf ks (by rw [List.length_map]; rw [List.length_map] at hz; exact hz) fun st' pe sr sb => ?_
  have e := sorted_stable_unique (κ := tupKindC s.heap tsShape) (tupKeys ks) pe (.refl _) sr so sb (.refl _)
  rw [e]
  have e2 : (pairsOf (ps.map Value.ref)).map (·.2) = (ps.map Value.ref).toArray := by
    apply Array.toList_inj.mp
    rw [Array.toList_map, pairsOf_toList, zip_selfV, List.map_map]
    simp
  rw [e2]
  obtain ⟨n, hn⟩ := sortedAll_at s.heap (ps.map Value.ref) (ps.map Value.ref).toArray
  refine ⟨.ref _, upd H _ (.lst (ps.map V.ref)), I.laid (t' := s.toks) (fun b o e => sortedAll_old e) (Nat.le_succ _) ⟨?_, ps.map Value.ref, n, ?_, hn⟩, rfl, q _ (I.hok.fresh (Nat.le_succ _))⟩
  · rw [List.length_map]
    rw [List.length_map] at hz
    exact hz
  · exact rv
end

/-! ### the mathematics of weights -/
/-- the weights at the places below n that f lists, in order -/
def pick (ws : List Int) (f : Int → Bool) : Nat → List Int
  | 0 => []
  | n + 1 => if f (n : Int) then pick ws f n ++ [ws.getD n 0] else pick ws f n
def wt (ws : List Int) (f : Int → Bool) (n : Nat) : Int := (pick ws f n).sum
theorem wt_succ (ws : List Int) (f : Int → Bool) (n : Nat) : wt ws f (n + 1) = wt ws f n + (if f (n : Int) then ws.getD n 0 else 0) := by
  unfold wt
  rw [pick]
  split
  · rw [List.sum_append, List.sum_cons, List.sum_nil, Int.add_zero]
  · rw [Int.add_zero]
theorem pick_len (ws : List Int) (f : Int → Bool) : ∀ n, (pick ws f n).length ≤ n
  | 0 => Nat.le_refl _
  | n + 1 => by
    have ih := pick_len ws f n
    rw [pick]
    split
    · rw [List.length_append, List.length_singleton]
      omega
    · omega
theorem wt_congr (ws : List Int) (f g : Int → Bool) : ∀ n, (∀ k : Nat, k < n → f k = g k) → wt ws f n = wt ws g n
  | 0, _ => rfl
  | n + 1, h => by
    rw [wt_succ, wt_succ, wt_congr ws f g n fun k hk => h k (Nat.lt_succ_of_lt hk), h n (Nat.lt_succ_self n)]
theorem wt_take (ws : List Int) : ∀ n, n ≤ ws.length → wt ws (fun _ => true) n = (ws.take n).sum
  | 0, _ => by simp [wt, pick]
  | n + 1, h => by
    have hn : n < ws.length := h
    rw [wt_succ, wt_take ws n (Nat.le_of_lt hn), if_pos rfl, sum_take (List.getElem?_eq_getElem hn), List.getD_eq_getElem?_getD, List.getElem?_eq_getElem hn]
    rfl
theorem wt_all (ws : List Int) : wt ws (fun _ => true) ws.length = ws.sum := by
  rw [wt_take ws _ (Nat.le_refl _), List.take_length]
theorem wt_not (ws : List Int) (f : Int → Bool) : ∀ n, wt ws f n + wt ws (fun k => !f k) n = wt ws (fun _ => true) n
  | 0 => rfl
  | n + 1 => by
    have ih := wt_not ws f n
    rw [wt_succ, wt_succ, wt_succ, if_pos rfl]
    cases f (n : Int)
    · simp
      omega
    · simp
      omega
theorem wt_both (ws : List Int) (f g : Int → Bool) (pos : ∀ k : Nat, 0 ≤ ws.getD k 0) : ∀ n, wt ws f n + wt ws g n ≤ wt ws (fun k => f k && g k) n + wt ws (fun _ => true) n
  | 0 => Int.le_refl _
  | n + 1 => by
    have ih := wt_both ws f g pos n
    have p := pos n
    rw [wt_succ, wt_succ, wt_succ, wt_succ, if_pos rfl]
    cases f (n : Int) <;> cases g (n : Int) <;> simp only [Bool.and_self, Bool.and_true, Bool.and_false, Bool.true_and, Bool.false_and, if_true, Bool.false_eq_true, if_false] <;> omega
/-- the weight of some listed members -/
def wOf (ws ms : List Int) : Int := wt ws (fun k => decide (k ∈ ms)) ws.length
/-- the places below n that f lists -/
def sel (f : Int → Bool) : Nat → List Int
  | 0 => []
  | n + 1 => if f (n : Int) then sel f n ++ [(n : Int)] else sel f n
theorem sel_len (f : Int → Bool) : ∀ n, (sel f n).length ≤ n
  | 0 => Nat.le_refl _
  | n + 1 => by
    have ih := sel_len f n
    rw [sel]
    split
    · rw [List.length_append, List.length_singleton]
      omega
    · omega
theorem mem_sel (f : Int → Bool) (k : Nat) : ∀ n, (k : Int) ∈ sel f n ↔ k < n ∧ f k = true
  | 0 => by simp [sel]
  | n + 1 => by
    have ih := mem_sel f k n
    rw [sel]
    split
    · rename_i h
      rw [List.mem_append, ih, List.mem_singleton]
      constructor
      · rintro (⟨h1, h2⟩ | h1)
        · exact ⟨by omega, h2⟩
        · have e : k = n := by omega
          subst e
          exact ⟨Nat.lt_succ_self _, h⟩
      · rintro ⟨h1, h2⟩
        rcases Nat.lt_or_ge k n with h3 | h3
        · exact .inl ⟨h3, h2⟩
        · exact .inr (by omega)
    · rename_i h
      rw [ih]
      constructor
      · rintro ⟨h1, h2⟩
        exact ⟨by omega, h2⟩
      · rintro ⟨h1, h2⟩
        refine ⟨?_, h2⟩
        rcases Nat.lt_or_ge k n with h3 | h3
        · exact h3
        · have e : k = n := by omega
          subst e
          exact absurd h2 h
/-- who is not listed weighs what is left -/
theorem wOf_rest (ws ms : List Int) : wOf ws ms + wOf ws (sel (fun k => !decide (k ∈ ms)) ws.length) = ws.sum := by
  unfold wOf
  rw [wt_congr ws (fun k => decide (k ∈ sel (fun k => !decide (k ∈ ms)) ws.length)) (fun k => !decide (k ∈ ms)) ws.length fun k hk => ?_]
  · rw [wt_not, wt_all]
  · rw [Bool.eq_iff_iff, decide_eq_true_iff, mem_sel]
    exact ⟨fun z => z.2, fun z => ⟨hk, z⟩⟩
theorem wOf_common (ws ms ns : List Int) (pos : ∀ k : Nat, 0 ≤ ws.getD k 0) : wOf ws ms + wOf ws ns ≤ wOf ws (ms.filter fun k => decide (k ∈ ns)) + ws.sum := by
  unfold wOf
  have h := wt_both ws (fun k => decide (k ∈ ms)) (fun k => decide (k ∈ ns)) pos ws.length
  rw [wt_all] at h
  rw [wt_congr ws (fun k => decide (k ∈ ms.filter fun k => decide (k ∈ ns))) (fun k => decide (k ∈ ms) && decide (k ∈ ns)) ws.length fun k _ => ?_]
  · exact h
  · rw [Bool.eq_iff_iff]
    simp [List.mem_filter]

/-! ### a committee as it stands -/
theorem ne_ws : ¬ (("weights" : Str) = "size") := by decide +kernel
theorem ne_wt : ¬ (("weights" : Str) = "total") := by decide +kernel
theorem ne_st : ¬ (("size" : Str) = "total") := by decide +kernel
def cfs (t : Addr) (ws : List Int) : List (Str × V) := putF "total" (.int ws.sum) (putF "size" (.int ws.length) (putF "weights" (.ref t) []))
theorem cfs_w (t : Addr) (ws : List Int) : (cfs t ws).lookup ("weights" : Str) = some (.ref t) := by
  unfold cfs
  rw [lookup_putF, if_neg ne_wt, lookup_putF, if_neg ne_ws, lookup_putF, if_pos rfl]
theorem cfs_s (t : Addr) (ws : List Int) : (cfs t ws).lookup ("size" : Str) = some (.int ws.length) := by
  unfold cfs
  rw [lookup_putF, if_neg ne_st, lookup_putF, if_pos rfl]
theorem cfs_t (t : Addr) (ws : List Int) : (cfs t ws).lookup ("total" : Str) = some (.int ws.sum) := by
  unfold cfs
  rw [lookup_putF, if_pos rfl]
theorem cfs_no (t : Addr) (ws : List Int) {m : Str} (h1 : ¬ m = "weights") (h2 : ¬ m = "size") (h3 : ¬ m = "total") : (cfs t ws).lookup m = none := by
  unfold cfs
  rw [lookup_putF, if_neg h3, lookup_putF, if_neg h2, lookup_putF, if_neg h1]
  all_goals rfl
def CommAt (C : Addr) (H : Hp) (p : Addr) (ws : List Int) : Prop := ∃ dx t, H p = some (.ins C dx (cfs t ws)) ∧ H t = some (.tup (ws.map V.int))
theorem CommAt.same {C : Addr} {H H' : Hp} {p : Addr} {ws : List Int} (h : CommAt C H p ws) (s : Same H H') : CommAt C H' p ws := by
  obtain ⟨dx, t, h1, h2⟩ := h
  exact ⟨dx, t, s _ _ h1, s _ _ h2⟩
/-- weights that a committee takes -/
def GoodW (ws : List Int) : Prop := 0 < ws.length ∧ ws.length ≤ 16 ∧ ∀ w ∈ ws, 1 ≤ w ∧ w ≤ 1000000000000

/-! ### the data: a statement as the tuple that it is -/
inductive Kd where
  | prop | pre | com
  deriving DecidableEq
def Kd.s : Kd → Str
  | .prop => "proposal"
  | .pre => "prevote"
  | .com => "precommit"
structure Sm where
  k : Kd
  h : Int
  t : Int
  b : Option Str
  l : Option Int
def oS : Option Str → V
  | none => .non
  | some x => .str x
def oI : Option Int → V
  | none => .non
  | some x => .int x
def Sm.vals (m : Sm) : List V := match m.k with
  | .pre => [.str m.k.s, .int m.h, .int m.t, oS m.b, oI m.l]
  | _ => [.str m.k.s, .int m.h, .int m.t, oS m.b]
def SmAt (H : Hp) (p : Addr) (m : Sm) : Prop := H p = some (.tup m.vals)
theorem at0 (m : Sm) : atI m.vals 0 = some (.str m.k.s) := by
  cases m with | mk k h t b l => cases k <;> rfl
theorem at1 (m : Sm) : atI m.vals 1 = some (.int m.h) := by
  cases m with | mk k h t b l => cases k <;> rfl
theorem at2 (m : Sm) : atI m.vals 2 = some (.int m.t) := by
  cases m with | mk k h t b l => cases k <;> rfl
theorem at3 (m : Sm) : atI m.vals 3 = some (oS m.b) := by
  cases m with | mk k h t b l => cases k <;> rfl
theorem at4 (m : Sm) (e : m.k = .pre) : atI m.vals 4 = some (oI m.l) := by
  cases m with | mk k h t b l => cases k <;> first | rfl | cases e
theorem ks_pp : ¬ (("proposal" : Str) = "prevote") := by decide +kernel
theorem ks_pc : ¬ (("proposal" : Str) = "precommit") := by decide +kernel
theorem ks_vc : ¬ (("prevote" : Str) = "precommit") := by decide +kernel
theorem ks_vp : ¬ (("prevote" : Str) = "proposal") := fun e => ks_pp e.symm
theorem ks_cp : ¬ (("precommit" : Str) = "proposal") := fun e => ks_pc e.symm
theorem ks_cv : ¬ (("precommit" : Str) = "prevote") := fun e => ks_vc e.symm
theorem kd_inj (a b : Kd) : a.s = b.s ↔ a = b := by
  cases a <;> cases b <;> simp [Kd.s, ks_pp, ks_pc, ks_vc, ks_vp, ks_cp, ks_cv]
theorem dec_kd (a b : Kd) : decide (V.str a.s = V.str b.s) = decide (a = b) := by
  rw [Bool.eq_iff_iff, decide_eq_true_iff, decide_eq_true_iff]
  constructor
  · intro e
    injection e with e
    exact (kd_inj a b).mp e
  · intro e
    rw [e]
theorem kprop (a : Kd) : (V.str a.s = V.str "proposal") = (a = .prop) := propext (by simpa [Kd.s] using decide_eq_decide.mp (dec_kd a .prop))
theorem kpre (a : Kd) : (V.str a.s = V.str "prevote") = (a = .pre) := propext (by simpa [Kd.s] using decide_eq_decide.mp (dec_kd a .pre))
theorem kcom (a : Kd) : (V.str a.s = V.str "precommit") = (a = .com) := propext (by simpa [Kd.s] using decide_eq_decide.mp (dec_kd a .com))
theorem koS (a b : Option Str) : (oS a = oS b) = (a = b) := propext (by
  cases a <;> cases b <;> simp [oS])
theorem koSn (a : Option Str) : (oS a = V.non) = (a = none) := koS a none
theorem koIn (a : Option Int) : (oI a = V.non) = (a = none) := by cases a <;> simp [oI]
theorem dec_oS (a b : Option Str) : decide (oS a = oS b) = decide (a = b) := by
  rw [Bool.eq_iff_iff, decide_eq_true_iff, decide_eq_true_iff]
  constructor
  · intro e
    cases a <;> cases b <;> first | rfl | cases e
    rfl
  · intro e
    rw [e]
theorem dec_oSn (a : Option Str) : decide (oS a = V.non) = decide (a = none) := dec_oS a none
theorem dec_oIn (a : Option Int) : decide (oI a = V.non) = decide (a = none) := by
  cases a <;> rfl
theorem scal_oS (a b : Option Str) : scal (oS a) (oS b) = true := by
  cases a <;> cases b <;> rfl
/-! ### the mirror -/
def abandM (x y : Sm) : Bool :=
  if x.k = .com ∧ y.k = .pre ∧ x.b ≠ none ∧ y.b ≠ none ∧ x.b ≠ y.b ∧ x.t < y.t then (match y.l with | none => true | some l => decide (l < x.t)) else false
def clashM (x y : Sm) : Bool :=
  if x.h ≠ y.h then false
  else if x.k = y.k then (decide (x.k ≠ .prop) && (decide (x.t = y.t) && decide (x.b ≠ y.b)))
  else (abandM x y || abandM y x)
theorem clashM_comm (x y : Sm) : clashM x y = clashM y x := by
  unfold clashM
  by_cases h1 : x.h = y.h
  · by_cases h2 : x.k = y.k
    · simp only [h1, h2, ne_eq, not_true_eq_false, if_false, if_true]
      congr 1
      congr 1
      · exact decide_eq_decide.mpr ⟨Eq.symm, Eq.symm⟩
      · exact decide_eq_decide.mpr ⟨Ne.symm, Ne.symm⟩
    · have h3 : ¬ y.k = x.k := fun e => h2 e.symm
      simp only [h1, h2, h3, ne_eq, not_true_eq_false, if_false, Bool.or_comm]
  · have h3 : ¬ y.h = x.h := fun e => h1 e.symm
    simp only [h1, h3, ne_eq, not_false_eq_true, if_true]
def OkS (b : Option Str) : Prop := ∀ x, b = some x → PyData.strOk x = true
theorem okA : OkS (some "a") := fun x e => by
  cases e
  decide +kernel
theorem okB : OkS (some "b") := fun x e => by
  cases e
  decide +kernel
theorem okN : OkS none := fun x e => nomatch e
theorem pick5 {i : Int} (h0 : 0 ≤ i) (h5 : i < 5) : ∃ b : Option Str, atI [V.str "a", V.str "b", V.str "a", V.str "b", V.non] i = some (oS b) ∧ OkS b := by
  have h : i = 0 ∨ i = 1 ∨ i = 2 ∨ i = 3 ∨ i = 4 := by omega
  rcases h with rfl | rfl | rfl | rfl | rfl
  · exact ⟨some "a", rfl, okA⟩
  · exact ⟨some "b", rfl, okB⟩
  · exact ⟨some "a", rfl, okA⟩
  · exact ⟨some "b", rfl, okB⟩
  · exact ⟨none, rfl, okN⟩
def Sm.dat (m : Sm) : List PyData := match m.k with
  | .pre => [.str m.k.s, .int m.h, .int m.t, (match m.b with | none => .none | some x => .str x), (match m.l with | none => .none | some x => .int x)]
  | _ => [.str m.k.s, .int m.h, .int m.t, (match m.b with | none => .none | some x => .str x)]
theorem dp_oS {K : PySem.W.Frag} {H : Hp} (b : Option Str) : Dp K H (oS b) (match b with | none => .none | some x => .str x) := by
  cases b with
  | none => exact .non
  | some x => exact .str x
theorem dp_oI {K : PySem.W.Frag} {H : Hp} (b : Option Int) : Dp K H (oI b) (match b with | none => .none | some x => .int x) := by
  cases b with
  | none => exact .non
  | some x => exact .int x
theorem dp_sm {K : PySem.W.Frag} {H : Hp} {p : Addr} {m : Sm} (h : H p = some (.tup m.vals)) : Dp K H (.ref p) (.tuple m.dat) := by
  refine .tup (SqT.of h) ?_
  obtain ⟨mk, mh, mt, mb, ml⟩ := m
  cases mk
  · exact .cons (.str _) (.cons (.int _) (.cons (.int _) (.cons (dp_oS _) .nil)))
  · exact .cons (.str _) (.cons (.int _) (.cons (.int _) (.cons (dp_oS _) (.cons (dp_oI _) .nil))))
  · exact .cons (.str _) (.cons (.int _) (.cons (.int _) (.cons (dp_oS _) .nil)))
theorem ks_ok (k : Kd) : PyData.strOk k.s = true := by
  cases k <;> decide +kernel
theorem shaped_sm (m : Sm) (o : OkS m.b) : SeqAt.shaped (.tuple m.dat) = true := by
  obtain ⟨mk, mh, mt, mb, ml⟩ := m
  cases mk <;> cases mb <;> cases ml <;> simp [Sm.dat, SeqAt.shaped, PyData.canLay0, PyData.canLayAll0, PyData.depth, PyData.depthAll, ks_ok] <;> exact o _ rfl
theorem eqv_sm (m : Sm) (o : OkS m.b) : PyData.eqv (.tuple m.dat) (.tuple m.dat) = true := SeqAt.eqv_refl _ (by
  obtain ⟨mk, mh, mt, mb, ml⟩ := m
  cases mk <;> cases mb <;> cases ml <;> simp [Sm.dat, PyData.canLay0, PyData.canLayAll0, ks_ok] <;> exact o _ rfl)
def spVote (K : PySem.W.Frag) : Sp := fun vs H Q _ => ∃ (p : Addr) (m : Sm), vs = [.ref p] ∧ SmAt H p m ∧ ∀ H', Same H H' → Q (.bl (decide (m.k ≠ .prop))) H'
def spAband (K : PySem.W.Frag) : Sp := fun vs H Q _ => ∃ (p q : Addr) (m n : Sm), vs = [.ref p, .ref q] ∧ SmAt H p m ∧ SmAt H q n ∧ ∀ H', Same H H' → Q (.bl (abandM m n)) H'
def spClash (K : PySem.W.Frag) : Sp := fun vs H Q _ => ∃ (p q : Addr) (m n : Sm), vs = [.ref p, .ref q] ∧ SmAt H p m ∧ SmAt H q n ∧ ∀ H', Same H H' → Q (.bl (clashM m n)) H'

/-! ### letters, lists of letters, what is due -/
structure Lt where
  w : Int
  m : Sm
instance : Inhabited Lt := ⟨⟨0, ⟨.prop, 0, 0, none, none⟩⟩⟩
def LtAt (H : Hp) (p : Addr) (x : Lt) : Prop := ∃ q, H p = some (.tup [.int x.w, .ref q]) ∧ SmAt H q x.m
theorem LtAt.same {H H' : Hp} {p : Addr} {x : Lt} (h : LtAt H p x) (s : Same H H') : LtAt H' p x := by
  obtain ⟨q, h1, h2⟩ := h
  exact ⟨q, s _ _ h1, s _ _ h2⟩
theorem ne_lst {H : Hp} {p l : Addr} {xs ys : List V} (h : H p = some (.tup xs)) (hl : H l = some (.lst ys)) : p ≠ l := fun e => by
  rw [e, hl] at h
  cases h
theorem LtAt.upd {H : Hp} {p l : Addr} {x : Lt} {ys : List V} {o : HO} (h : LtAt H p x) (hl : H l = some (.lst ys)) : LtAt (upd H l o) p x := by
  obtain ⟨q, h1, h2⟩ := h
  have h2' : H q = some (.tup x.m.vals) := h2
  refine ⟨q, ?_, ?_⟩
  · rw [upd_ne (ne_lst h1 hl)]
    exact h1
  · unfold SmAt
    rw [upd_ne (ne_lst h2' hl)]
    exact h2
def LsAt (H : Hp) (ps : List Addr) (xs : List Lt) : Prop := ps.length = xs.length ∧ ∀ i, i < xs.length → LtAt H (ps.getD i 0) (xs.getD i default)
theorem LsAt.nil {H : Hp} : LsAt H [] [] := ⟨rfl, fun i h => absurd h (Nat.not_lt_zero i)⟩
theorem LsAt.same {H H' : Hp} {ps : List Addr} {xs : List Lt} (h : LsAt H ps xs) (s : Same H H') : LsAt H' ps xs := ⟨h.1, fun i hi => (h.2 i hi).same s⟩
theorem LsAt.upd {H : Hp} {ps : List Addr} {xs : List Lt} {l : Addr} {ys : List V} {o : HO} (h : LsAt H ps xs) (hl : H l = some (.lst ys)) : LsAt (upd H l o) ps xs := ⟨h.1, fun i hi => (h.2 i hi).upd hl⟩
theorem getD_left {α : Type} {d : α} {xs ys : List α} {i : Nat} (h : i < xs.length) : (xs ++ ys).getD i d = xs.getD i d := by
  rw [List.getD_eq_getElem?_getD, List.getD_eq_getElem?_getD, List.getElem?_append_left h]
theorem getD_last {α : Type} {d : α} {xs : List α} {x : α} : (xs ++ [x]).getD xs.length d = x := by
  rw [List.getD_eq_getElem?_getD, List.getElem?_append_right (Nat.le_refl _), Nat.sub_self]
  rfl
theorem LsAt.snoc {H : Hp} {ps : List Addr} {xs : List Lt} {p : Addr} {x : Lt} (h : LsAt H ps xs) (e : LtAt H p x) : LsAt H (ps ++ [p]) (xs ++ [x]) := by
  refine ⟨by rw [List.length_append, List.length_append, h.1]; rfl, fun i hi => ?_⟩
  rw [List.length_append, List.length_singleton] at hi
  rcases Nat.lt_or_ge i xs.length with z | z
  · rw [getD_left (by rw [h.1]; exact z), getD_left z]
    exact h.2 i z
  · have ei : i = xs.length := by omega
    subst ei
    rw [getD_last]
    have : (ps ++ [p]).getD xs.length 0 = p := by rw [← h.1, getD_last]
    rw [this]
    exact e
theorem at_refs {ps : List Addr} {i : Nat} (h : i < ps.length) : (ps.map V.ref)[i]? = some (.ref (ps.getD i 0)) := by
  rw [List.getElem?_map, List.getD_eq_getElem?_getD, List.getElem?_eq_getElem h]
  rfl
def ownOf (xs : List Lt) (who : Int) : List Lt := xs.filter fun x => decide (x.w = who)
theorem take_succ_getD {α : Type} {d : α} {xs : List α} {i : Nat} (h : i < xs.length) : xs.take (i + 1) = xs.take i ++ [xs.getD i d] := by
  rw [List.take_add_one, List.getElem?_eq_getElem h, List.getD_eq_getElem?_getD, List.getElem?_eq_getElem h]
  rfl
theorem own_yes {xs : List Lt} {who : Int} {i : Nat} (h : i < xs.length) (e : (xs.getD i default).w = who) : ownOf (xs.take (i + 1)) who = ownOf (xs.take i) who ++ [xs.getD i default] := by
  unfold ownOf
  rw [take_succ_getD (d := default) h, List.filter_append, List.filter_cons_of_pos (by exact decide_eq_true e)]
  rfl
theorem own_no {xs : List Lt} {who : Int} {i : Nat} (h : i < xs.length) (e : ¬ (xs.getD i default).w = who) : ownOf (xs.take (i + 1)) who = ownOf (xs.take i) who := by
  unfold ownOf
  rw [take_succ_getD (d := default) h, List.filter_append, List.filter_cons_of_neg (by simpa using e), List.filter_nil, List.append_nil]
theorem own_len (xs : List Lt) (who : Int) : (ownOf xs who).length ≤ xs.length := List.length_filter_le _ _
theorem own_mem {xs : List Lt} {who : Int} {x : Lt} (h : x ∈ ownOf xs who) : x ∈ xs ∧ x.w = who := by
  unfold ownOf at h
  rw [List.mem_filter] at h
  exact ⟨h.1, of_decide_eq_true h.2⟩
theorem getD_mem2 {α : Type} {d : α} {xs : List α} {i : Nat} (h : i < xs.length) : xs.getD i d ∈ xs := by
  rw [List.getD_eq_getElem?_getD, List.getElem?_eq_getElem h]
  exact List.getElem_mem h
/-- the first letter before place n with which the one at place a clashes -/
def rowDue (own : List Lt) (a : Nat) : Nat → Option (Lt × Lt)
  | 0 => none
  | n + 1 => match rowDue own a n with
    | some r => some r
    | none => if clashM (own.getD n default).m (own.getD a default).m then some (own.getD n default, own.getD a default) else none
def colDue (own : List Lt) : Nat → Option (Lt × Lt)
  | 0 => none
  | n + 1 => match colDue own n with
    | some r => some r
    | none => rowDue own n n
def due (own : List Lt) : Option (Lt × Lt) := colDue own own.length
theorem row_mono {own : List Lt} {a i : Nat} {r : Lt × Lt} (h : rowDue own a i = some r) : ∀ d, rowDue own a (i + d) = some r
  | 0 => h
  | d + 1 => by
    show rowDue own a (i + d + 1) = some r
    rw [rowDue, row_mono h d]
theorem col_mono {own : List Lt} {i : Nat} {r : Lt × Lt} (h : colDue own i = some r) : ∀ d, colDue own (i + d) = some r
  | 0 => h
  | d + 1 => by
    show colDue own (i + d + 1) = some r
    rw [colDue, col_mono h d]
theorem row_no {own : List Lt} {a n : Nat} (h : rowDue own a n = none) (c : clashM (own.getD n default).m (own.getD a default).m = false) : rowDue own a (n + 1) = none := by
  rw [rowDue, h]
  show (if _ then _ else _) = _
  rw [c]
  rfl
theorem due_at {own : List Lt} {a n : Nat} (ha : a < own.length) (hn : n < a) (hc : colDue own a = none) (h : rowDue own a n = none) (c : clashM (own.getD n default).m (own.getD a default).m = true) :
    due own = some (own.getD n default, own.getD a default) := by
  have h1 : rowDue own a (n + 1) = some (own.getD n default, own.getD a default) := by
    rw [rowDue, h]
    show (if _ then _ else _) = _
    rw [c]
    rfl
  have h2 : rowDue own a a = some (own.getD n default, own.getD a default) := by
    have := row_mono h1 (a - (n + 1))
    rwa [Nat.add_sub_cancel' hn] at this
  have h3 : colDue own (a + 1) = some (own.getD n default, own.getD a default) := by
    rw [colDue, hc]
    exact h2
  have := col_mono h3 (own.length - (a + 1))
  rw [Nat.add_sub_cancel' ha] at this
  exact this
theorem col_no {own : List Lt} {a : Nat} (hc : colDue own a = none) (h : rowDue own a a = none) : colDue own (a + 1) = none := by
  rw [colDue, hc]
  exact h
theorem row_ok {own : List Lt} {a : Nat} (ha : a < own.length) : ∀ n, n ≤ own.length → ∀ f s, rowDue own a n = some (f, s) → f ∈ own ∧ s ∈ own ∧ clashM f.m s.m = true
  | 0, _, f, s, h => nomatch h
  | n + 1, hn, f, s, h => by
    rw [rowDue] at h
    split at h
    · rename_i r e
      cases h
      exact row_ok ha n (Nat.le_of_lt hn) f s e
    · split at h
      · rename_i c
        cases h
        exact ⟨getD_mem2 hn, getD_mem2 ha, c⟩
      · cases h
theorem col_ok {own : List Lt} : ∀ n, n ≤ own.length → ∀ f s, colDue own n = some (f, s) → f ∈ own ∧ s ∈ own ∧ clashM f.m s.m = true
  | 0, _, f, s, h => nomatch h
  | n + 1, hn, f, s, h => by
    rw [colDue] at h
    split at h
    · rename_i r e
      cases h
      exact col_ok n (Nat.le_of_lt hn) f s e
    · exact row_ok hn n (Nat.le_of_lt hn) f s h
theorem due_ok {own : List Lt} {f s : Lt} (h : due own = some (f, s)) : f ∈ own ∧ s ∈ own ∧ clashM f.m s.m = true := col_ok _ (Nat.le_refl _) f s h
def DueAt (H : Hp) (v : V) : Option (Lt × Lt) → Prop
  | none => v = .non
  | some r => ∃ p a b, v = .ref p ∧ H p = some (.tup [.ref a, .ref b]) ∧ LtAt H a r.1 ∧ LtAt H b r.2
def OkL (xs : List Lt) : Prop := ∀ x ∈ xs, OkS x.m.b
def Lt.dat (x : Lt) : PyData := .tuple [.int x.w, .tuple x.m.dat]
theorem dp_lt {K : PySem.W.Frag} {H : Hp} {p : Addr} {x : Lt} (h : LtAt H p x) : Dp K H (.ref p) x.dat := by
  obtain ⟨q, h1, h2⟩ := h
  exact .tup (SqT.of h1) (.cons (.int _) (.cons (dp_sm h2) .nil))
theorem lay_sm (m : Sm) (o : OkS m.b) : PyData.canLay0 (.tuple m.dat) = true := by
  have h := shaped_sm m o
  exact (Bool.and_eq_true_iff.mp h).1
theorem depth_sm (m : Sm) : PyData.depth (.tuple m.dat) = 1 := by
  obtain ⟨mk, mh, mt, mb, ml⟩ := m
  cases mk <;> cases mb <;> cases ml <;> simp [Sm.dat, PyData.depth, PyData.depthAll]
theorem lay_lt {x : Lt} (o : OkS x.m.b) : PyData.canLay0 x.dat = true := by
  simp only [Lt.dat, PyData.canLay0, PyData.canLayAll0, Bool.true_and, Bool.and_true]
  exact lay_sm x.m o
theorem depth_lt (x : Lt) : PyData.depth x.dat = 2 := by
  have h := depth_sm x.m
  simp only [Lt.dat, PyData.depth, PyData.depthAll] at h ⊢
  omega
theorem shaped_lt {x : Lt} (o : OkS x.m.b) : SeqAt.shaped x.dat = true := by
  unfold SeqAt.shaped
  rw [lay_lt o, depth_lt]
  rfl
theorem eqv_lt {x : Lt} (o : OkS x.m.b) : PyData.eqv x.dat x.dat = true := SeqAt.eqv_refl _ (lay_lt o)
theorem LsAt.cons {H : Hp} {p : Addr} {ps : List Addr} {x : Lt} {xs : List Lt} (h : LsAt H (p :: ps) (x :: xs)) : LtAt H p x ∧ LsAt H ps xs :=
  ⟨h.2 0 (Nat.succ_pos _), Nat.succ.inj h.1, fun i hi => h.2 (i + 1) (Nat.succ_lt_succ hi)⟩
theorem dp_lts {K : PySem.W.Frag} {H : Hp} : ∀ {ps : List Addr} {xs : List Lt}, LsAt H ps xs → DpAll K H (ps.map V.ref) (xs.map Lt.dat)
  | [], [], _ => .nil
  | p :: ps, x :: xs, h => .cons (dp_lt h.cons.1) (dp_lts h.cons.2)
  | [], x :: xs, h => nomatch h.1
  | p :: ps, [], h => nomatch h.1
theorem lay_lts : ∀ {xs : List Lt}, OkL xs → PyData.canLayAll0 (xs.map Lt.dat) = true
  | [], _ => by simp [PyData.canLayAll0]
  | x :: xs, o => by
    simp only [List.map_cons, PyData.canLayAll0]
    rw [lay_lt (o x List.mem_cons_self), lay_lts fun y hy => o y (List.mem_cons_of_mem _ hy)]
    rfl
theorem depth_lts : ∀ xs : List Lt, PyData.depthAll (xs.map Lt.dat) ≤ 2
  | [] => by simp [PyData.depthAll]
  | x :: xs => by
    have := depth_lts xs
    have := depth_lt x
    simp only [List.map_cons, PyData.depthAll]
    omega
theorem shaped_lts {xs : List Lt} (o : OkL xs) : SeqAt.shaped (.list (xs.map Lt.dat)) = true := by
  have h := depth_lts xs
  unfold SeqAt.shaped
  have e : PyData.depth (.list (xs.map Lt.dat)) = PyData.depthAll (xs.map Lt.dat) + 1 := by simp only [PyData.depth]
  have l : PyData.canLay0 (.list (xs.map Lt.dat)) = true := by simp only [PyData.canLay0, lay_lts o]
  rw [l, e, decide_eq_true (show PyData.depthAll (xs.map Lt.dat) + 1 ≤ 64 by omega)]
  rfl
theorem eqv_lts {xs : List Lt} (o : OkL xs) : PyData.eqv (.list (xs.map Lt.dat)) (.list (xs.map Lt.dat)) = true := SeqAt.eqv_refl _ (by
  simp only [PyData.canLay0, lay_lts o])

/-! ### dicts whose keys are letters (tuples of an int and a tuple) -/
section
open PyProof.Rows
def vKey : V → NestedKey
  | .int i => .num i
  | .str x => .text x
  | _ => .none
def ltKey (x : Lt) : NestedKey := .tup [.num x.w, .tup (x.m.vals.map vKey)]
def FlatK : V → Prop
  | .non => True
  | .int _ => True
  | .str _ => True
  | _ => False
theorem vals_flatK (m : Sm) : ∀ v ∈ m.vals, FlatK v := by
  have hb : FlatK (oS m.b) := by cases m.b <;> exact True.intro
  have hl : FlatK (oI m.l) := by cases m.l <;> exact True.intro
  intro v hv
  obtain ⟨mk, mh, mt, mb, ml⟩ := m
  cases mk <;> simp only [Sm.vals, List.mem_cons, List.not_mem_nil, or_false] at hv <;> (rcases hv with rfl | rfl | rfl | rfl | rfl <;> first | assumption | exact True.intro)
theorem nested_vals {h : Heap} : ∀ {xs : List V} {us : List Value}, (∀ v ∈ xs, FlatK v) → Vals xs us → NestedAll h (xs.map vKey) us
  | _, _, _, .nil => .nil
  | v :: xs, u :: us, f, .cons r rs => by
    refine .cons ?_ (nested_vals (fun w hw => f w (List.mem_cons_of_mem _ hw)) rs)
    have fv := f v List.mem_cons_self
    cases v with
    | non =>
      cases r
      exact .none
    | int i =>
      obtain ⟨t, rfl⟩ := r
      exact .int i t
    | str x =>
      obtain ⟨t, rfl⟩ := r
      exact .text x t
    | _ => exact fv.elim
theorem depth_flat : ∀ xs : List V, NestedKey.depthAll (xs.map vKey) = 0
  | [] => rfl
  | v :: xs => by
    have h := depth_flat xs
    have e : (vKey v).depth = 0 := by cases v <;> rfl
    simp only [List.map_cons, NestedKey.depthAll, h, e]
    rfl
theorem ltKey_depth (x : Lt) : (ltKey x).depth ≤ 8 := by
  have h := depth_flat x.m.vals
  simp only [ltKey, NestedKey.depth, NestedKey.depthAll, h]
  decide
/-- a letter in the heap is its key -/
theorem nested_lt {P : Program} {w : World} {H : Hp} {h : Heap} {p : Addr} {x : Lt} (ok : HOk P w H h) (e : LtAt H p x) : (nestedKind P w).is h (ltKey x) p := by
  obtain ⟨q, e1, e2⟩ := e
  have e2 : H q = some (.tup x.m.vals) := e2
  obtain ⟨_, its1, r1, o1, g1, c1, n1, d1⟩ := ok p _ e1
  obtain ⟨_, its2, r2, o2, g2, c2, n2, d2⟩ := ok q _ e2
  refine ⟨?_, ltKey_depth x⟩
  obtain ⟨u1, u2, rfl, ⟨t, rfl⟩, q2⟩ := vals2 r1
  cases q2
  exact .tup g1 c1 d1 (.cons (.int _ _) (.cons (.tup g2 c2 d2 (nested_vals (vals_flatK x.m) r2)) .nil))
/-- the entries of such a dict -/
def ndEnt (w : World) (ps : List Addr) (xs : List Lt) : List DictEntry := (ps.zip xs).map fun q => ⟨(ltKey q.2).hash w, .ref q.1, .bool true⟩
def ndPhi (w : World) (d : Addr) (ps : List Addr) (xs : List Lt) : Heap → Prop := fun h => (d == sysModules) = false ∧ ∃ o es ep, h.get? d = some o ∧ o.ExactDict ∧ o.data = .dict es ep ∧ es.toList = ndEnt w ps xs
/-- at d a dict that keeps the letters xs, in order, each with True -/
structure NdAt (w : World) (H : Hp) (d : Addr) (ps : List Addr) (xs : List Lt) : Prop where
  at_ : (ps = [] ∧ H d = some (.dK [])) ∨ H d = some (.ext (ndPhi w d ps xs))
  ls : LsAt H ps xs
  nd : (xs.map ltKey).Nodup
  few : xs.length < 1000
def ndKeys (ps : List Addr) (xs : List Lt) : List (NestedKey × Addr × Value) := (ps.zip xs).map fun q => (ltKey q.2, q.1, .bool true)
theorem ndKeys_fst : ∀ {ps : List Addr} {xs : List Lt}, ps.length = xs.length → (ndKeys ps xs).map (·.1) = xs.map ltKey
  | [], [], _ => rfl
  | p :: ps, x :: xs, h => by
    have := ndKeys_fst (ps := ps) (xs := xs) (Nat.succ.inj h)
    show ltKey x :: (ndKeys ps xs).map (·.1) = _
    rw [this]
    rfl
  | [], x :: xs, h => nomatch h
  | p :: ps, [], h => nomatch h
theorem nd_keys_is {P : Program} {w : World} {H : Hp} {h : Heap} (ok : HOk P w H h) : ∀ {ps : List Addr} {xs : List Lt}, LsAt H ps xs → ∀ q ∈ ndKeys ps xs, (nestedKind P w).is h q.1 q.2.1
  | [], _, _, q, hq => nomatch hq
  | p :: ps, [], l, q, hq => nomatch l.1
  | p :: ps, x :: xs, l, q, hq => by
    rcases List.mem_cons.mp (show q ∈ (ltKey x, p, Value.bool true) :: ndKeys ps xs from hq) with rfl | hq
    · exact nested_lt ok l.cons.1
    · exact nd_keys_is ok l.cons.2 q hq
theorem nd_dict {X : Cx} {pins : List (Addr × Obj)} {σ : L2.St} {H : Hp} {s : Shared} {d : Addr} {ps : List Addr} {xs : List Lt} (I : L2.Inv X pins σ H s) (N : NdAt X.w H d ps xs) :
    (d == sysModules) = false ∧ s.heap.DictOfH (nestedKind X.prog X.w) d (ndKeys ps xs) := by
  have n1 := N.ls.1
  have ndp : ((ndKeys ps xs).map (·.1)).Nodup := by rw [ndKeys_fst n1]; exact N.nd
  rcases N.at_ with ⟨rfl, e⟩ | e
  · obtain ⟨_, ns, vs, rel, dd⟩ := I.hok d _ e
    cases rel
    refine ⟨ns, ?_⟩
    obtain ⟨o, es, ep, g, ex, dt, _, pr, _⟩ := dd
    have z : es.toList = [] := by
      cases he : es.toList with
      | nil => rfl
      | cons a l => rw [he] at pr; cases pr
    have z0 : ndKeys [] xs = [] := rfl
    refine ⟨o, es, ep, g, ex, dt, z, nd_keys_is I.hok N.ls, ndp⟩
  · obtain ⟨⟨ns, o, es, ep, g, ex, dt, el⟩, _⟩ := I.hok d _ e
    refine ⟨ns, o, es, ep, g, ex, dt, ?_, nd_keys_is I.hok N.ls, ndp⟩
    rw [el]
    unfold ndEnt ndKeys
    rw [List.map_map]
    rfl
theorem nd_at {ps : List Addr} {xs : List Lt} {k : NestedKey} (h : ps.length = xs.length) : (atKey (ndKeys ps xs) k).isSome = decide (k ∈ xs.map ltKey) := by
  unfold atKey
  rw [Option.isSome_map, ← ndKeys_fst h, Bool.eq_iff_iff, List.find?_isSome, decide_eq_true_eq, List.mem_map]
  constructor
  · rintro ⟨q, hq, e⟩
    exact ⟨q, hq, of_decide_eq_true e⟩
  · rintro ⟨q, hq, e⟩
    exact ⟨q, hq, decide_eq_true e⟩
/-- letter in d -/
def tNdIn (w : World) (ti td : TE) : TE := fun σ H Q => ti σ H fun y H1 => td σ H1 fun z H2 => ∃ (p d : Addr) (x : Lt) (ps : List Addr) (xs : List Lt), y = .ref p ∧ z = .ref d ∧ LtAt H2 p x ∧ NdAt w H2 d ps xs ∧ Q (.bl (decide (ltKey x ∈ xs.map ltKey))) H2
theorem pc_ndin {X : Cx} {i o : Expr} {ti td : TE} (hu : X.A.units + 9 < cLine) (hi : PE X i ti) (ho : PE X o td) : PC X .In i o (tNdIn X.w ti td) := by
  refine ⟨fun pins s σ H Q I h => ?_⟩
  refine thn (hi.run pins s σ H _ I h) fun iv s1 ⟨y, H1, I1, ry, q1⟩ => thn (ho.run pins s1 σ H1 _ I1 q1) fun u s2 ⟨z, H2, I2, rz, p, d, x, ps, xs, ey, ez, lx, N, q2⟩ => ?_
  subst ey ez
  cases ry
  cases rz
  obtain ⟨ns, dd⟩ := nd_dict I2 N
  refine wpAny_in_heap (knd := nestedKind X.prog X.w) (k := ltKey x) (show X.A.units + 1 + 8 < cLine from by omega) (nested_lt I2.hok lx) ns dd ?_
  · rw [nd_at N.ls.1]
    exact ⟨.bl _, H2, I2.kept (t' := _) fun _ _ z => z, rfl, q2⟩
/-- letter not in d -/
def tNdNotIn (w : World) (ti td : TE) : TE := fun σ H Q => ti σ H fun y H1 => td σ H1 fun z H2 => ∃ (p d : Addr) (x : Lt) (ps : List Addr) (xs : List Lt), y = .ref p ∧ z = .ref d ∧ LtAt H2 p x ∧ NdAt w H2 d ps xs ∧ Q (.bl (!decide (ltKey x ∈ xs.map ltKey))) H2
theorem pc_ndnotin {X : Cx} {i o : Expr} {ti td : TE} (hu : X.A.units + 9 < cLine) (hi : PE X i ti) (ho : PE X o td) : PC X .NotIn i o (tNdNotIn X.w ti td) := by
  refine ⟨fun pins s σ H Q I h => ?_⟩
  refine thn (hi.run pins s σ H _ I h) fun iv s1 ⟨y, H1, I1, ry, q1⟩ => thn (ho.run pins s1 σ H1 _ I1 q1) fun u s2 ⟨z, H2, I2, rz, p, d, x, ps, xs, ey, ez, lx, N, q2⟩ => ?_
  subst ey ez
  cases ry
  cases rz
  obtain ⟨ns, dd⟩ := nd_dict I2 N
  refine wpAny_notIn_heap (knd := nestedKind X.prog X.w) (k := ltKey x) (show X.A.units + 1 + 8 < cLine from by omega) (nested_lt I2.hok lx) ns dd ?_
  rw [nd_at N.ls.1]
  exact ⟨.bl _, H2, I2.kept (t' := _) fun _ _ z => z, rfl, q2⟩
theorem nd_snoc_ent {w : World} : ∀ {ps : List Addr} {xs : List Lt} {p : Addr} {x : Lt}, ps.length = xs.length → ndKeys (ps ++ [p]) (xs ++ [x]) = ndKeys ps xs ++ [(ltKey x, p, .bool true)]
  | [], [], _, _, _ => rfl
  | a :: ps, b :: xs, p, x, h => by
    have := nd_snoc_ent (w := w) (ps := ps) (xs := xs) (p := p) (x := x) (Nat.succ.inj h)
    show (ltKey b, a, Value.bool true) :: ndKeys (ps ++ [p]) (xs ++ [x]) = _
    rw [this]
    rfl
  | [], b :: xs, _, _, h => nomatch h
  | a :: ps, [], _, _, h => nomatch h
/-- d[letter] = True, not yet there -/
def sNdPut (w : World) (td ty tv : TE) : TS := fun D σ H => tv σ H fun v H1 => td σ H1 fun z H2 => ty σ H2 fun y H3 => ∃ (p d : Addr) (x : Lt) (ps : List Addr) (xs : List Lt), v = .bl true ∧ y = .ref p ∧ z = .ref d ∧ LtAt H3 p x ∧ NdAt w H3 d ps xs ∧ ltKey x ∉ xs.map ltKey ∧
  D.nx σ (upd H3 d (.ext (ndPhi w d (ps ++ [p]) (xs ++ [x]))))
theorem ps_ndput {X : Cx} {o i value : Expr} {td ty tv : TE} {pos pos' : Pos} (hu : X.A.units + 9 < cLine) (ho : PE X o td) (hi : PE X i ty) (hv : PE X value tv) (hs : swapsWith value (some (.Subscript o i pos')) pos.line X.env = pure false) :
    PS X (.Assign [.Subscript o i pos'] value pos) (sNdPut X.w td ty tv) := by
  refine ⟨fun pins s σ H D I h => ?_⟩
  refine wpAny_Assign_Subscript (thn (hv.run pins s σ H _ I h) fun r s1 ⟨v, H1, I1, rv, q1⟩ => thn (ho.run pins s1 σ H1 _ I1 q1) fun u s2 ⟨z, H2, I2, rz, q2⟩ => thn (hi.run pins s2 σ H2 _ I2 q2) fun iv s3 ⟨y, H3, I3, ry, p, d, x, ps, xs, ev, ey, ez, lx, N, nin, q3⟩ => ?_) hs
  subst ev ey ez
  cases ry
  cases rz
  cases rv
  obtain ⟨ns, dd⟩ := nd_dict I3 N
  have nn : atKey (ndKeys ps xs) (ltKey x) = none := by
    have e := nd_at (k := ltKey x) N.ls.1
    rw [decide_eq_false nin] at e
    exact Option.not_isSome_iff_eq_none.mp (by rw [e]; exact Bool.false_ne_true)
  refine wpAny_setItem_heap (hsz := ?_) (knd := nestedKind X.prog X.w) (k := ltKey x) (show X.A.units + 1 + 8 < cLine from by omega) (nested_lt I3.hok lx) dd fun h' dd' hs' => ?_
  · rw [storedH_new nn, ← nd_snoc_ent (w := X.w) N.ls.1] at dd'
    obtain ⟨ob, es, ep, g, ex, dt, el, _, _⟩ := dd'
    have mu : Mut (H3 d) := by
      rcases N.at_ with ⟨_, e⟩ | e <;> (rw [e]; exact True.intro)
    have eph : ndPhi X.w d (ps ++ [p]) (xs ++ [x]) h' := ⟨ns, ob, es, ep, g, ex, dt, by
      rw [el]
      unfold ndEnt ndKeys
      rw [List.map_map]
      rfl⟩
    exact ⟨σ, _, d_write (ob := .ext (ndPhi X.w d (ps ++ [p]) (xs ++ [x]))) I3 mu hs' ⟨ob, g⟩ ⟨eph, ⟨ob, g⟩, fun h1 h2 ⟨a1, o1, es1, ep1, g1, r1⟩ kp => ⟨a1, o1, es1, ep1, kp _ g1, r1⟩⟩, q3⟩
  · have f := N.few
    have n1 := N.ls.1
    have : (ndKeys ps xs).length = xs.length := by
      unfold ndKeys
      rw [List.length_map, List.length_zip]
      omega
    rw [this, sizeLine_eq]
    omega
/-- list(d) -/
def rListNd (w : World) : List V → Hp → VK → Prop := fun vs H Q => ∃ (d : Addr) (ps : List Addr) (xs : List Lt), vs = [.ref d] ∧ NdAt w H d ps xs ∧ ∀ q, H q = none → Q (.ref q) (upd H q (.lst (ps.map V.ref)))
theorem call_list_nd {X : Cx} (hc : X.calm = true) : CallR X (.type "list") (rListNd X.w) := by
  intro pins s σ H xs us Q I r h
  obtain ⟨d, ps, ls, e, N, q⟩ := h
  subst e
  obtain ⟨u, eu, rx⟩ := vals1 r
  subst eu
  obtain rfl : u = Value.ref d := rx
  obtain ⟨ns, dd⟩ := nd_dict I N
  obtain ⟨o, es, ep, g, ex, dt, el, _, _⟩ := dd
  have n1 := N.ls.1
  have n2 : (ndKeys ps ls).length = ps.length := by
    unfold ndKeys
    rw [List.length_map, List.length_zip]
    omega
  have n3 : es.size = ps.length := by
    rw [← Array.length_toList, el, List.length_map, n2]
  have f := N.few
  refine PySem.W.kdl_call (kdl_raw ns ex dt) (I.ok.hd hc) g (by rw [n3, sizeLine_eq]; omega) fun h' tk acc' c' kp hS it => ?_
  refine ⟨.ref s.heap.objs.size, upd H s.heap.objs.size (.lst (ps.map V.ref)), I.laid kp (Nat.le_refl _) (show ObjOk X.prog X.w _ _ _ (.lst (ps.map V.ref)) from ⟨?_, acc'.toList, c', ?_, ?_⟩), rfl, q _ (I.hok.fresh (Nat.le_refl _))⟩
  · rw [List.length_map, sizeLine_eq]
    omega
  · have e2 : acc'.toList.length = acc'.size := by simp
    refine vals_of_at (by rw [List.length_map, e2, it.1, n3]) fun j x w h1 h2 => ?_
    obtain ⟨en, he, rfl⟩ := it.2 j w (by rw [← Array.getElem?_toList]; exact h2)
    rw [← Array.getElem?_toList, el, List.getElem?_map] at he
    rw [List.getElem?_map] at h1
    unfold ndKeys at he
    rw [List.getElem?_map] at he
    cases hz : (ps.zip ls)[j]? with
    | none => rw [hz] at he; cases he
    | some z =>
      rw [hz] at he
      cases he
      obtain ⟨z1, _⟩ := List.getElem?_zip_eq_some.mp hz
      rw [z1] at h1
      cases h1
      rfl
  · rw [Array.toArray_toList]
    exact hS
/-- a thing that is no tuple can change: the letters stay -/
theorem LtAt.updM {H : Hp} {p l : Addr} {x : Lt} {o : HO} (h : LtAt H p x) (hl : ∀ ys, H l ≠ some (.tup ys)) : LtAt (_root_.L2.upd H l o) p x := by
  obtain ⟨q, h1, h2⟩ := h
  have h2' : H q = some (.tup x.m.vals) := h2
  refine ⟨q, ?_, ?_⟩
  · rw [upd_ne fun e => hl _ (e ▸ h1)]
    exact h1
  · unfold SmAt
    rw [upd_ne fun e => hl _ (e ▸ h2')]
    exact h2
theorem LsAt.updM {H : Hp} {ps : List Addr} {xs : List Lt} {l : Addr} {o : HO} (h : LsAt H ps xs) (hl : ∀ ys, H l ≠ some (.tup ys)) : LsAt (_root_.L2.upd H l o) ps xs := ⟨h.1, fun i hi => (h.2 i hi).updM hl⟩
theorem NdAt.notTup {w : World} {H : Hp} {d : Addr} {ps : List Addr} {xs : List Lt} (N : NdAt w H d ps xs) : ∀ ys, H d ≠ some (.tup ys) := fun ys e => by
  rcases N.at_ with ⟨_, a⟩ | a <;> (rw [a] at e; cases e)
theorem NdAt.same {w : World} {H H' : Hp} {d : Addr} {ps : List Addr} {xs : List Lt} (N : NdAt w H d ps xs) (s : Same H H') : NdAt w H' d ps xs :=
  ⟨N.at_.imp (fun a => ⟨a.1, s _ _ a.2⟩) fun a => s _ _ a, N.ls.same s, N.nd, N.few⟩
/-- something else, no tuple, changes -/
theorem NdAt.updM {w : World} {H : Hp} {d l : Addr} {ps : List Addr} {xs : List Lt} {o : HO} (N : NdAt w H d ps xs) (hl : ∀ ys, H l ≠ some (.tup ys)) (ne : d ≠ l) : NdAt w (_root_.L2.upd H l o) d ps xs :=
  ⟨N.at_.imp (fun a => ⟨a.1, by rw [upd_ne ne]; exact a.2⟩) fun a => by rw [upd_ne ne]; exact a, N.ls.updM hl, N.nd, N.few⟩
theorem NdAt.new {w : World} {H : Hp} {d : Addr} (e : H d = some (.dK [])) : NdAt w H d [] [] := ⟨.inl ⟨rfl, e⟩, .nil, .nil, Nat.zero_lt_succ _⟩
/-- what stands there after d[letter] = True -/
theorem NdAt.put {w : World} {H : Hp} {d p : Addr} {x : Lt} {ps : List Addr} {xs : List Lt} (N : NdAt w H d ps xs) (e : LtAt H p x) (nin : ltKey x ∉ xs.map ltKey) (few : xs.length + 1 < 1000) :
    NdAt w (_root_.L2.upd H d (.ext (ndPhi w d (ps ++ [p]) (xs ++ [x])))) d (ps ++ [p]) (xs ++ [x]) := by
  refine ⟨.inr (upd_same), (N.ls.updM N.notTup).snoc (e.updM N.notTup), ?_, by rw [List.length_append]; exact few⟩
  rw [List.map_append]
  exact List.nodup_append.mpr ⟨N.nd, List.pairwise_singleton _ _, fun a ha b hb => by
    rw [List.map_singleton, List.mem_singleton] at hb
    subst hb
    exact fun z => nin (z ▸ ha)⟩
/-- two letters have the same key exactly if they are equal as data -/
theorem key_eqv (y x : Lt) : PyData.eqv y.dat x.dat = decide (ltKey y = ltKey x) := by
  obtain ⟨yw, yk, yh, yt, yb, yl⟩ := y
  obtain ⟨xw, xk, xh, xt, xb, xl⟩ := x
  rw [Bool.eq_iff_iff, decide_eq_true_eq]
  have k1 : ¬Kd.prop.s = Kd.pre.s := by decide
  have k2 : ¬Kd.prop.s = Kd.com.s := by decide
  have k3 : ¬Kd.pre.s = Kd.prop.s := by decide
  have k4 : ¬Kd.pre.s = Kd.com.s := by decide
  have k5 : ¬Kd.com.s = Kd.prop.s := by decide
  have k6 : ¬Kd.com.s = Kd.pre.s := by decide
  cases yk <;> cases xk <;> cases yb <;> cases xb <;> cases yl <;> cases xl <;>
    simp [Lt.dat, Sm.dat, ltKey, Sm.vals, vKey, oS, oI, PyData.eqv, PyData.eqvAll, k1, k2, k3, k4, k5, k6]
/-! keys that are texts or None -/
def optIs : Option Str → Value → Bool
  | none, .none => true
  | some x, .str y _ => decide (y = x)
  | _, _ => false
theorem optIs_shape {k : Option Str} {v : Value} (h : optIs k v = true) : (k = none ∧ v = .none) ∨ ∃ x t, k = some x ∧ v = .str x t := by
  cases k with
  | none => cases v <;> first | exact .inl ⟨rfl, rfl⟩ | cases h
  | some x =>
    cases v with
    | str y t =>
      have e : y = x := of_decide_eq_true h
      subst e
      exact .inr ⟨y, t, rfl, rfl⟩
    | _ => cases h
def optKind (prog : Program) (w : World) : PySem.KeyKind prog w (Option Str) where
  is := optIs
  hash := fun | none => reduceHash 0xFCA86420 | some x => keyH w (.inr x)
  inj := fun v a b ha hb => by
    rcases optIs_shape ha with ⟨rfl, rfl⟩ | ⟨x, t, rfl, rfl⟩ <;> rcases optIs_shape hb with ⟨rfl, e⟩ | ⟨y, u, rfl, e⟩
    · rfl
    · cases e
    · cases e
    · injection e with e1 _
      rw [e1]
  byValue := fun k v h => by
    rcases optIs_shape h with ⟨rfl, rfl⟩ | ⟨x, t, rfl, rfl⟩ <;> rfl
  pyHash := fun hv h => by
    rcases optIs_shape hv with ⟨rfl, rfl⟩ | ⟨x, t, rfl, rfl⟩
    · exact W.pyHash_slot (T := "NoneType") rfl PySem.F.slot_NoneType_hash PySem.F.entry_NoneType_hash (PySem.F.args_NoneType_hash_1 _) (beq_builtin_none _) (.inl rfl) (wpAny_bind (wpAny_pure (wpAny_bind (wpAny_mkInt (wpAny_pure ⟨_, _, rfl, h⟩)))))
    · exact wpAny_pyHash_str h
  eqBool := fun hu hv h => by
    rcases optIs_shape hu with ⟨rfl, rfl⟩ | ⟨x, t, rfl, rfl⟩ <;> rcases optIs_shape hv with ⟨rfl, rfl⟩ | ⟨y, u, rfl, rfl⟩
    · exact SeqAt.EqAt.same _ _ _ _ _ h
    · exact SeqAt.EqAt.none_str y u _ _ _ _ h
    · exact SeqAt.EqAt.str_none x t _ _ _ _ h
    · rw [show decide ((some x : Option Str) = some y) = decide (x = y) by simp] at h
      exact wpAny_eqBool_str h
  «strs» := fun k x t v h => by
    rcases optIs_shape h with ⟨rfl, e⟩ | ⟨y, u, rfl, e⟩
    · cases e
    · injection e with e1 _
      subst e1
      cases v <;> rfl
/-! a dict whose keys are texts or None and whose values are things in the heap -/
def odV (kvs : List (Option Str × Addr)) : List (Option Str × Value) := kvs.map fun q => (q.1, .ref q.2)
def odGet (kvs : List (Option Str × Addr)) (b : Option Str) : Option Addr := (kvs.find? fun q => q.1 = b).map (·.2)
theorem odV_at (kvs : List (Option Str × Addr)) (b : Option Str) : valueAt (odV kvs) b = (odGet kvs b).map Value.ref := by
  unfold valueAt odV odGet
  rw [List.find?_map, Option.map_map, Option.map_map]
  rfl
def odPhi (P : Program) (w : World) (d : Addr) (kvs : List (Option Str × Addr)) : Heap → Prop := fun h => (d == sysModules) = false ∧ h.DictOf (optKind P w) d (odV kvs)
structure OdAt (P : Program) (w : World) (H : Hp) (d : Addr) (kvs : List (Option Str × Addr)) : Prop where
  at_ : (kvs = [] ∧ H d = some (.dK [])) ∨ H d = some (.ext (odPhi P w d kvs))
  few : kvs.length < 1000
theorem od_dict {X : Cx} {pins : List (Addr × Obj)} {σ : L2.St} {H : Hp} {s : Shared} {d : Addr} {kvs : List (Option Str × Addr)} (I : L2.Inv X pins σ H s) (N : OdAt X.prog X.w H d kvs) :
    (d == sysModules) = false ∧ s.heap.DictOf (optKind X.prog X.w) d (odV kvs) := by
  rcases N.at_ with ⟨rfl, e⟩ | e
  · obtain ⟨_, ns, vs, rel, dd⟩ := I.hok d _ e
    cases rel
    refine ⟨ns, ?_⟩
    obtain ⟨o, es, ep, g, ex, dt, _, pr, _⟩ := dd
    have z : es.toList = [] := by
      cases he : es.toList with
      | nil => rfl
      | cons a l => rw [he] at pr; cases pr
    refine ⟨o, es, ep, g, ex, dt, fun en hen => ?_, ?_, .nil⟩
    · have : en ∈ es.toList := Array.mem_toList_iff.mpr hen
      rw [z] at this
      cases this
    · rw [z]
      exact .nil
  · exact (I.hok d _ e).1
theorem od_mut {P : Program} {w : World} {H : Hp} {d : Addr} {kvs : List (Option Str × Addr)} (N : OdAt P w H d kvs) : Mut (H d) := by
  rcases N.at_ with ⟨_, e⟩ | e <;> (rw [e]; exact True.intro)
theorem od_obj {P : Program} {w : World} {H : Hp} {h : Heap} {d : Addr} {kvs : List (Option Str × Addr)} (e : odPhi P w d kvs h) : ObjOk P w H h d (.ext (odPhi P w d kvs)) := by
  obtain ⟨ns, o, es, ep, g, r⟩ := id e
  refine ⟨e, ⟨o, g⟩, fun h1 h2 e1 kp => ?_⟩
  obtain ⟨ns1, o1, es1, ep1, g1, r1⟩ := e1
  exact ⟨ns1, o1, es1, ep1, kp _ g1, r1⟩
theorem opt_is {P : Program} {w : World} {b : Option Str} {u : Value} (r : RelV (oS b) u) : (optKind P w).is b u = true := by
  cases b with
  | none => cases r; rfl
  | some x =>
    obtain ⟨t, rfl⟩ := r
    exact decide_eq_true rfl
/-- d.setdefault(b, the thing at z) -/
theorem od_setd {X : Cx} {pins : List (Addr × Obj)} {σ : L2.St} {H : Hp} {s : Shared} {d z : Addr} {u : Value} {b : Option Str} {kvs : List (Option Str × Addr)} {A : Around} {E : Value → Shared → Prop} {Q : Value → Shared → Prop}
    (I : L2.Inv X pins σ H s) (N : OdAt X.prog X.w H d kvs) (ry : RelV (oS b) u)
    (h1 : ∀ v, odGet kvs b = some v → ∀ s', L2.Inv X pins σ H s' → Q (.ref v) s')
    (h2 : odGet kvs b = none → ∀ s', L2.Inv X pins σ (upd H d (.ext (odPhi X.prog X.w d (kvs ++ [(b, z)])))) s' → Q (.ref z) s') :
    wpAny (model X.prog X.w) A (call (.builtin "dict.setdefault") [.ref d, u, .ref z]) Q E s := by
  obtain ⟨ns, dd⟩ := od_dict I N
  have f := N.few
  refine call_meetsIn PySem.F.slot_dict_setdefault dd.typeIs PySem.F.entry_dict_setdefault (PySem.F.args_dict_setdefault_3 _ _ _) (kt_meets_setdefault (optKind X.prog X.w) d (opt_is ry) ns (.ref z)) ⟨odV kvs, dd, ?_, fun v hv => ?_, fun hn h' dd' hs => ?_⟩
  · unfold odV
    rw [List.length_map, sizeLine_eq]
    omega
  · rw [odV_at] at hv
    cases q : odGet kvs b with
    | none => rw [q] at hv; cases hv
    | some a =>
      rw [q] at hv
      cases hv
      exact h1 a q _ (I.tok _)
  · rw [stored_absent hn] at dd'
    rw [odV_at] at hn
    have q : odGet kvs b = none := by
      cases q : odGet kvs b with
      | none => rfl
      | some a => rw [q] at hn; cases hn
    have e : odPhi X.prog X.w d (kvs ++ [(b, z)]) h' := ⟨ns, by
      unfold odV at dd' ⊢
      rw [List.map_append]
      exact dd'⟩
    exact h2 q _ (d_write (t' := s.toks + 1) I (od_mut N) hs (let ⟨o, _, _, g, _⟩ := dd'; ⟨o, g⟩) (od_obj e))
/-- d[b] -/
theorem od_getItem {X : Cx} {pins : List (Addr × Obj)} {σ : L2.St} {H : Hp} {s : Shared} {d v : Addr} {u : Value} {b : Option Str} {kvs : List (Option Str × Addr)} {A : Around} {E : Value → Shared → Prop} {Q : Value → Shared → Prop}
    (I : L2.Inv X pins σ H s) (N : OdAt X.prog X.w H d kvs) (ry : RelV (oS b) u) (g : odGet kvs b = some v) (h : ∀ s', L2.Inv X pins σ H s' → Q (.ref v) s') : wpAny (model X.prog X.w) A (getItem (.ref d) u) Q E s := by
  obtain ⟨ns, dd⟩ := od_dict I N
  exact wpAny_getItem_of (opt_is ry) dd.mapOf (by rw [odV_at, g]; rfl) (h _ (I.tok _))
/-- d.setdefault(b, z), as an expression: td the dict, ty the key, tx the thing -/
def tOdSetd (P : Program) (w : World) (td ty tx : TE) : TE := fun σ H Q => td σ H fun x H1 => ∃ d kvs1, x = .ref d ∧ OdAt P w H1 d kvs1 ∧ ty σ H1 fun y H2 => tx σ H2 fun z H3 => ∃ (kvs : List (Option Str × Addr)) (b : Option Str) (a : Addr), OdAt P w H3 d kvs ∧ y = oS b ∧ z = .ref a ∧
  (∀ v, odGet kvs b = some v → Q (.ref v) H3) ∧ (odGet kvs b = none → Q (.ref a) (_root_.L2.upd H3 d (.ext (odPhi P w d (kvs ++ [(b, a)])))))
theorem pe_odsetd {X : Cx} {o e f : Expr} {td ty tx : TE} {apos cpos : Pos} (ho : PE X o td) (he : PE X e ty) (hf : PE X f tx) (m : M2 X o "setdefault" apos e f cpos) : PE X (.Call (.Attribute o "setdefault" apos) [e, f] [] cpos) (tOdSetd X.prog X.w td ty tx) := by
  refine ⟨fun pins s σ H Q I h => ?_⟩
  refine wpAny_Call_method m.base m.few m.line PySem.F.plainAttrs_dict PySem.F.slot_dict_setdefault PySem.F.type_dict_setdefault (thn (ho.run pins s σ H _ I h) fun u s1 ⟨x, H1, I1, rx, d, kvs1, ex, N1, q1⟩ => ?_)
  subst ex
  obtain rfl : u = Value.ref d := rx
  obtain ⟨_, dd1⟩ := od_dict I1 N1
  refine ⟨dd1.typeIs, dd1.mapOf.noDict, ?_⟩
  rw [m.trees]
  refine Calls.callWith_builtin rfl (Calls.evalArgs_plain (Calls.spliced_cons (thn (he.run pins s1 σ H1 _ I1 q1) fun iv s2 ⟨y, H2, I2, ry, q2⟩ =>
    Calls.spliced_cons (thn (hf.run pins s2 σ H2 _ I2 q2) fun fv s3 ⟨z, H3, I3, rz, kvs, b, a, N, ey, ez, q3, q4⟩ => Calls.spliced_nil ?_))))
  subst ey ez
  obtain rfl : fv = Value.ref a := rz
  exact od_setd I3 N ry (fun v hv s4 I4 => ⟨.ref v, _, I4, rfl, q3 v hv⟩) fun hn s4 I4 => ⟨.ref a, _, I4, rfl, q4 hn⟩
/-- d[b] -/
def tOdGet (P : Program) (w : World) (td ty : TE) : TE := fun σ H Q => td σ H fun x H1 => ty σ H1 fun y H2 => ∃ (d : Addr) (kvs : List (Option Str × Addr)) (b : Option Str) (a : Addr), x = .ref d ∧ y = oS b ∧ OdAt P w H2 d kvs ∧ odGet kvs b = some a ∧ Q (.ref a) H2
theorem pe_odget {X : Cx} {o i : Expr} {td ty : TE} {pos : Pos} (ho : PE X o td) (hi : PE X i ty) (hs : NoSl i) : PE X (.Subscript o i pos) (tOdGet X.prog X.w td ty) := by
  refine ⟨fun pins s σ H Q I h => ?_⟩
  refine subD_of PySem.F.slot_dict_getitem.lookup hs (thn (ho.run pins s σ H _ I h) fun u s1 ⟨x, H1, I1, rx, q1⟩ => thn (hi.run pins s1 σ H1 _ I1 q1) fun iv s2 ⟨y, H2, I2, ry, d, kvs, b, a, ex, ey, N, g, q2⟩ => ?_)
  subst ex ey
  obtain rfl : u = Value.ref d := rx
  exact ⟨(od_dict I2 N).2.typeIs, od_getItem I2 N ry g fun s3 I3 => ⟨.ref a, H2, I3, rfl, q2⟩⟩
/-! what stands after it -/
theorem OdAt.notTup {P : Program} {w : World} {H : Hp} {d : Addr} {kvs : List (Option Str × Addr)} (N : OdAt P w H d kvs) : ∀ ys, H d ≠ some (.tup ys) := fun ys e => by
  rcases N.at_ with ⟨_, a⟩ | a <;> (rw [a] at e; cases e)
theorem OdAt.same {P : Program} {w : World} {H H' : Hp} {d : Addr} {kvs : List (Option Str × Addr)} (N : OdAt P w H d kvs) (s : Same H H') : OdAt P w H' d kvs :=
  ⟨N.at_.imp (fun a => ⟨a.1, s _ _ a.2⟩) fun a => s _ _ a, N.few⟩
theorem OdAt.updM {P : Program} {w : World} {H : Hp} {d l : Addr} {kvs : List (Option Str × Addr)} {o : HO} (N : OdAt P w H d kvs) (ne : d ≠ l) : OdAt P w (_root_.L2.upd H l o) d kvs :=
  ⟨N.at_.imp (fun a => ⟨a.1, by rw [upd_ne ne]; exact a.2⟩) fun a => by rw [upd_ne ne]; exact a, N.few⟩
theorem OdAt.new {P : Program} {w : World} {H : Hp} {d : Addr} (e : H d = some (.dK [])) : OdAt P w H d [] := ⟨.inl ⟨rfl, e⟩, Nat.zero_lt_succ _⟩
theorem OdAt.put {P : Program} {w : World} {H : Hp} {d a : Addr} {b : Option Str} {kvs : List (Option Str × Addr)} (few : kvs.length + 1 < 1000) :
    OdAt P w (_root_.L2.upd H d (.ext (odPhi P w d (kvs ++ [(b, a)])))) d (kvs ++ [(b, a)]) := ⟨.inr upd_same, by rw [List.length_append]; exact few⟩
theorem odGet_new {kvs : List (Option Str × Addr)} {b : Option Str} {a : Addr} (h : odGet kvs b = none) : odGet (kvs ++ [(b, a)]) b = some a := by
  unfold odGet at h ⊢
  rw [Option.map_eq_none_iff] at h
  rw [List.find?_append, h]
  simp
theorem odGet_other {kvs : List (Option Str × Addr)} {b c : Option Str} {a : Addr} (ne : b ≠ c) : odGet (kvs ++ [(b, a)]) c = odGet kvs c := by
  unfold odGet
  rw [List.find?_append]
  simp [ne]
end

/-! ### certificates, turn by turn -/
def qrm (ws ms : List Int) : Bool := decide (2 * ws.sum < 3 * wOf ws ms)
def cnt (h t : Int) (b : Option Str) (L : List Int) (x : Lt) : Bool := decide (x.m.k = .pre ∧ x.m.h = h ∧ x.m.t = t ∧ x.m.b = b) && (match x.m.l with | none => true | some l => decide (l ∈ L) && decide (l < t))
def memM (xs : List Lt) (h t : Int) (b : Option Str) (L : List Int) : List Int := (xs.filter (cnt h t b L)).map Lt.w
/-- the turns below n with a certificate -/
def lns (ws : List Int) (xs : List Lt) (h : Int) (b : Option Str) : Nat → List Int
  | 0 => []
  | n + 1 => if qrm ws (memM xs h n b (lns ws xs h b n)) then lns ws xs h b n ++ [(n : Int)] else lns ws xs h b n
def certM (ws : List Int) (xs : List Lt) (h : Int) (b : Option Str) (n : Nat) : Bool := qrm ws (memM xs h n b (lns ws xs h b n))
def comS (xs : List Lt) (h t : Int) (b : Option Str) : List Int := (xs.filter fun x => decide (x.m.k = .com ∧ x.m.h = h ∧ x.m.t = t ∧ x.m.b = b)).map Lt.w
def commM (ws : List Int) (xs : List Lt) (h : Int) (b : Option Str) (n : Nat) : Bool := qrm ws (comS xs h n b) && certM ws xs h b n
theorem lns_len (ws : List Int) (xs : List Lt) (h : Int) (b : Option Str) : ∀ n, (lns ws xs h b n).length ≤ n
  | 0 => Nat.le_refl _
  | n + 1 => by
    have := lns_len ws xs h b n
    rw [lns]
    split
    · rw [List.length_append, List.length_singleton]
      omega
    · omega
theorem mem_yes {xs : List Lt} {h t : Int} {b : Option Str} {L : List Int} {i : Nat} (hi : i < xs.length) (c : cnt h t b L (xs.getD i default) = true) : memM (xs.take (i + 1)) h t b L = memM (xs.take i) h t b L ++ [(xs.getD i default).w] := by
  unfold memM
  rw [take_succ_getD (d := default) hi, List.filter_append, List.filter_cons_of_pos c, List.map_append]
  rfl
theorem mem_no {xs : List Lt} {h t : Int} {b : Option Str} {L : List Int} {i : Nat} (hi : i < xs.length) (c : cnt h t b L (xs.getD i default) = false) : memM (xs.take (i + 1)) h t b L = memM (xs.take i) h t b L := by
  unfold memM
  rw [take_succ_getD (d := default) hi, List.filter_append, List.filter_cons_of_neg (by rw [c]; exact Bool.false_ne_true), List.filter_nil, List.append_nil]
theorem mem_len (xs : List Lt) (h t : Int) (b : Option Str) (L : List Int) : (memM xs h t b L).length ≤ xs.length := by
  unfold memM
  rw [List.length_map]
  exact List.length_filter_le _ _
theorem com_yes {xs : List Lt} {h t : Int} {b : Option Str} {i : Nat} (hi : i < xs.length) (c : (xs.getD i default).m.k = .com ∧ (xs.getD i default).m.h = h ∧ (xs.getD i default).m.t = t ∧ (xs.getD i default).m.b = b) : comS (xs.take (i + 1)) h t b = comS (xs.take i) h t b ++ [(xs.getD i default).w] := by
  unfold comS
  rw [take_succ_getD (d := default) hi, List.filter_append, List.filter_cons_of_pos (by exact decide_eq_true c), List.map_append]
  rfl
theorem com_no {xs : List Lt} {h t : Int} {b : Option Str} {i : Nat} (hi : i < xs.length) (c : ¬ ((xs.getD i default).m.k = .com ∧ (xs.getD i default).m.h = h ∧ (xs.getD i default).m.t = t ∧ (xs.getD i default).m.b = b)) : comS (xs.take (i + 1)) h t b = comS (xs.take i) h t b := by
  unfold comS
  rw [take_succ_getD (d := default) hi, List.filter_append, List.filter_cons_of_neg (by rw [decide_eq_false c]; exact Bool.false_ne_true), List.filter_nil, List.append_nil]
theorem com_len (xs : List Lt) (h t : Int) (b : Option Str) : (comS xs h t b).length ≤ xs.length := by
  unfold comS
  rw [List.length_map]
  exact List.length_filter_le _ _
/-- a list of turns behind None -/
def lnV (L : List Int) : List V := .non :: L.map V.int
theorem flat_lnV (L : List Int) : (lnV L).all flatV = true := by
  unfold lnV
  rw [List.all_cons, flat_ints]
  rfl
theorem inV_lnV (l : Option Int) (L : List Int) : inV (oI l) (lnV L) = (match l with | none => true | some i => decide (i ∈ L)) := by
  cases l with
  | none => rfl
  | some i =>
    show (eqV .non (.int i) || inV (.int i) (L.map V.int)) = _
    rw [inV_ints]
    rfl
theorem cnt_f {h t : Int} {b : Option Str} {L : List Int} {x : Lt} (c : ¬ (x.m.k = .pre ∧ x.m.h = h ∧ x.m.t = t ∧ x.m.b = b)) : cnt h t b L x = false := by
  unfold cnt
  rw [decide_eq_false c]
  rfl
theorem cnt_t {h t : Int} {b : Option Str} {L : List Int} {x : Lt} (c : x.m.k = .pre ∧ x.m.h = h ∧ x.m.t = t ∧ x.m.b = b) : cnt h t b L x = (match x.m.l with | none => true | some l => decide (l ∈ L) && decide (l < t)) := by
  unfold cnt
  rw [decide_eq_true c]
  rfl
theorem flat_oI (l : Option Int) : flatV (oI l) = true := by
  cases l <;> rfl
theorem lnV_snoc (L : List Int) (i : Int) : lnV (L ++ [i]) = lnV L ++ [.int i] := by simp [lnV]
theorem lns_yes {ws : List Int} {xs : List Lt} {h : Int} {b : Option Str} {n : Nat} (c : certM ws xs h b n = true) : lns ws xs h b (n + 1) = lns ws xs h b n ++ [(n : Int)] := by
  rw [lns]
  exact if_pos c
theorem lns_no {ws : List Int} {xs : List Lt} {h : Int} {b : Option Str} {n : Nat} (c : ¬ certM ws xs h b n = true) : lns ws xs h b (n + 1) = lns ws xs h b n := by
  rw [lns]
  exact if_neg c
/-- == with a precommit -/
theorem eqv_com (m : Sm) (h t : Int) (b : Option Str) : PyData.eqv (.tuple m.dat) (.tuple (Sm.dat ⟨.com, h, t, b, none⟩)) = decide (m.k = .com ∧ m.h = h ∧ m.t = t ∧ m.b = b) := by
  obtain ⟨mk, mh, mt, mb, ml⟩ := m
  rw [Bool.eq_iff_iff, decide_eq_true_iff]
  have ks : ∀ x y : Kd, (x.s == y.s) = decide (x = y) := fun x y => by
    rw [Bool.eq_iff_iff, beq_iff_eq, decide_eq_true_iff]
    exact kd_inj x y
  have kp : (Kd.prop.s == Kd.com.s) = false := by
    rw [ks]
    decide
  have kv : (Kd.pre.s == Kd.com.s) = false := by
    rw [ks]
    decide
  cases mk
  · simp only [Sm.dat, PyData.eqv, PyData.eqvAll, kp, Bool.false_and, Bool.false_eq_true, false_iff, not_and]
    intro z
    cases z
  · simp only [Sm.dat, PyData.eqv, PyData.eqvAll, kv, Bool.false_and, Bool.false_eq_true, false_iff, not_and]
    intro z
    cases z
  · cases mb <;> cases b <;> simp [Sm.dat, PyData.eqv, PyData.eqvAll]

/-! ### a list of letters that is being made -/
def GoodLt (size : Int) (x : Lt) : Prop := OkS x.m.b ∧ 0 ≤ x.w ∧ x.w < size ∧ x.m.h = 0 ∧ x.m.k ≠ .prop ∧ 0 ≤ x.m.t ∧ x.m.t < 4
structure PL (H Hc : Hp) (pl : Addr) (size : Int) (n : Nat) (ps : List Addr) (xs : List Lt) : Prop where
  same : Same H Hc
  free : H pl = none
  at' : Hc pl = some (.lst (ps.map V.ref))
  ls : LsAt Hc ps xs
  good : ∀ x ∈ xs, GoodLt size x
  few : xs.length ≤ n
theorem PL.start {H Hc : Hp} {pl : Addr} {size : Int} (s : Same H Hc) (f : Hc pl = none) : PL H (upd Hc pl (.lst [])) pl size 0 [] [] :=
  ⟨s.trans (same_new f), s.free f, upd_same, LsAt.nil, fun x hx => (nomatch hx), Nat.le_refl _⟩
theorem PL.more {H Hc : Hp} {pl : Addr} {size : Int} {n n' : Nat} {ps : List Addr} {xs : List Lt} (I : PL H Hc pl size n ps xs) (h : n ≤ n') : PL H Hc pl size n' ps xs := { I with few := Nat.le_trans I.few h }
theorem PL.go {H Hc H' : Hp} {pl : Addr} {size : Int} {n : Nat} {ps : List Addr} {xs : List Lt} (I : PL H Hc pl size n ps xs) (s : Same Hc H') : PL H H' pl size n ps xs :=
  { I with same := I.same.trans s, at' := s _ _ I.at', ls := I.ls.same s }
theorem PL.push {H Hc : Hp} {pl t : Addr} {size : Int} {n : Nat} {ps : List Addr} {xs : List Lt} {x : Lt} (I : PL H Hc pl size n ps xs) (e : LtAt Hc t x) (g : GoodLt size x) : PL H (upd Hc pl (.lst (ps.map V.ref ++ [V.ref t]))) pl size (n + 1) (ps ++ [t]) (xs ++ [x]) where
  same := same_upd I.same I.free
  free := I.free
  at' := by
    rw [upd_same]
    simp
  ls := (I.ls.snoc e).upd I.at'
  good := fun y hy => by
    rcases List.mem_append.mp hy with hy | hy
    · exact I.good y hy
    · rw [List.mem_singleton.mp hy]
      exact g
  few := by
    have := I.few
    rw [List.length_append, List.length_singleton]
    omega
theorem PL.fit {H Hc : Hp} {pl : Addr} {size : Int} {n : Nat} {ps : List Addr} {xs : List Lt} (I : PL H Hc pl size n ps xs) (h : n < 1000) : (ps.map V.ref).length < sizeLine := by
  have := I.few
  rw [List.length_map, I.ls.1]
  exact small1000 (by omega)
/-- a fresh statement in a fresh letter -/
theorem lt_new {H : Hp} {q t : Addr} {w : Int} {m : Sm} {vs : List V} (hq : H q = none) (ev : vs = m.vals) (ht : upd H q (.tup vs) t = none) : LtAt (upd (upd H q (.tup vs)) t (.tup [.int w, .ref q])) t ⟨w, m⟩ ∧ Same H (upd (upd H q (.tup vs)) t (.tup [.int w, .ref q])) := by
  have s1 : Same H (upd H q (.tup vs)) := same_new hq
  have s2 : Same (upd H q (.tup vs)) (upd (upd H q (.tup vs)) t (.tup [.int w, .ref q])) := same_new ht
  refine ⟨⟨q, upd_same, s2 _ _ ?_⟩, s1.trans s2⟩
  rw [upd_same, ev]
theorem upd_row {H : Hp} {pl pd : Addr} {o r : HO} (n : pd ≠ pl) (h : H pd = some r) : upd H pl o pd = some r := by
  rw [upd_ne n]
  exact h

/-! ### an own error over ValueError whose __init__(self, x) says super().__init__(a message) and self.field = x -/
section
open PySem.W (ksEnv ksFn ks_superIn kxs_mw)
/-- the context of such an __init__ -/
def cxSup (CX : CXT) (P : Program) (w : World) (K : PySem.W.Frag) (mg : Str → Option Value) (base : Heap) (N : List Str) (qual : Str) (scope : Scope) (f : Addr) (cd : Value) (cc : Addr) (A : Around) (outer : List Env) (s : Shared) (H : Hp) (E : XK) : Cx where
  prog := P
  w := w
  K := K
  mg := mg
  base := base
  A := A.deeper (ksEnv qual scope s.heap.objs.size f cd cc)
  N := N
  s_0 := s
  H_0 := H
  env := ksEnv qual scope s.heap.objs.size f cd cc
  outer := outer
  stack := ksEnv qual scope s.heap.objs.size f cd cc :: outer
  ex := []
  fn := fun _ => false
  calm := true
  pn := []
  xe := fun e s' => wpAny (model P w) (A.deeper (ksEnv qual scope s.heap.objs.size f cd cc)) (leaving (ksEnv qual scope s.heap.objs.size f cd cc) e) (fun _ s2 => CX outer H s E e s2) (fun e2 s2 => CX outer H s E e2 s2) s'
/-- what the written part says of the class at C and of its __init__ at f -/
structure SupCls (P : Program) (K : PySem.W.Frag) (C : Addr) (qual par fld : Str) (st : Stmt) (f : Addr) (fd : FuncData) : Prop where
  fn : ∃ (oc od : _) (kV doc pm : Value) (an : Option Addr) (cda : Addr) (ct : Value) (osl : Array (Option Value)) (cc : Addr) (cl : Value) (cld : Option Addr) (csl : Array (Option Value)) (ccl : Value) (cdd : Option Addr) (vs : Array Value) (ccs : Array (Option Value)) (file : Str) (tf : Tok),
    fd = ksFn "__init__" qual (defArgs st) (defBody st) (defScope st) .none kV doc pm an (.ref cda) ct cc ∧ K.lookup f = some ⟨oc, od, .func fd, osl⟩ ∧ PySem.W.codeIn K (.ref cda) qual = true ∧
    K.lookup cc = some ⟨cl, cld, .cell (some (.ref C)), csl⟩ ∧ K.lookup cda = some ⟨ccl, cdd, .fields vs, ccs⟩ ∧ vs[2]? = some (.str file tf) ∧ ((P.main.file : Str) == file) = true
  oex : OexC K C
  sup : ks_superIn K C C "__init__" = some (some (.builtin "ValueError.__init__"))
  opq : PySem.W.nsIn K cStatics "thirdparty.any" = some none
  subV : PySem.W.subIn K (.ref C) (.type "ValueError") = some true
  mroC : PySem.W.mroIn K C (.ref C) = some true
  nof : PySem.W.findIn K (.ref C) fld = some none
  topS : (P.main.scope.names.lookup ("super" : Str)).isSome = false
/-- the shape of the text -/
structure SupTxt (par fld : Str) (st : Stmt) (msg : Expr) (p0 p1 p2 p3 p4 p5 p6 p7 p8 : Pos) : Prop where
  body : defBody st = [.Expr (.Call (.Attribute (.Call (.Name "super" p0) [] [] p1) "__init__" p2) [msg] [] p3) p4, .Assign [.Attribute (.Name "self" p5) fld p6] (.Name par p7) p8]
  kind : (defScope st).kind = .function
  co : (defScope st).isCoroutine = false
  gen : (defScope st).isGenerator = false
  s1 : (defScope st).names.lookup ("self" : Str) = some .local
  s2 : (defScope st).names.lookup par = some .local
  s3 : (defScope st).names.lookup ("__class__" : Str) = some .free
  s4 : (defScope st).names.lookup ("super" : Str) = some .globalImplicit
  only : ∀ y ∈ (defScope st).names, y.2 ≠ .cell ∧ (y.2 = .free → y.1 = "__class__")
  ps : ∃ ar, ((defArgs st).posonlyargs ++ (defArgs st).args).head? = some ar ∧ ar.arg = "self"
theorem inv_sup {CX : CXT} {P : Program} {w : World} {K : PySem.W.Frag} {mg : Str → Option Value} {base : Heap} {par qual : Str} {scope : Scope} {f cc : Addr} {cd : Value} {A : Around} {outer : List Env} {s : Shared} {h1 : Heap} {H : Hp} {E : XK} {u0 u1 : Value} {v0 v1 : V} {tk : Nat} {D : Value}
    (kind : scope.kind = .function) (only : ∀ y ∈ scope.names, y.2 ≠ .cell ∧ (y.2 = .free → y.1 = ("__class__" : Str))) (l1 : scope.names.lookup ("self" : Str) = some .local) (l2 : scope.names.lookup par = some .local) (np : ¬ ("self" : Str) = par)
    (hd : A.handled = none) (e0 : Env0 P w K mg base A outer s H) (r0 : RelV v0 u0) (r1 : RelV v1 u1)
    (cell : s.heap.IsCell cc (some D)) (free : H cc = Option.none) (small : cc < s.heap.objs.size)
    (ns : h1.Ns s.heap.objs.size (fun x => [(par, u1), (("self" : Str), u0)].lookup x)) (kp : ∀ b o, s.heap.get? b = some o → h1.get? b = some o) :
    L2.Inv (cxSup CX P w K mg base ["self", par] qual scope f cd cc A outer s H E) [] (start ["self", par] [v0, v1]) H { s with heap := h1, toks := tk } := by
  have one : ∀ (x : Str) (c : Addr), (ksEnv qual scope s.heap.objs.size f cd cc).cells.lookup x = some c → x = "__class__" ∧ c = cc := fun x c e => by
    have e' : [(("__class__" : Str), cc)].lookup x = some c := e
    by_cases z : x = "__class__"
    · subst z
      exact ⟨rfl, (Option.some.inj ((show some cc = some c from by simpa [List.lookup] using e'))).symm⟩
    · have b : (x == ("__class__" : Str)) = false := by simpa using z
      simp [List.lookup, b] at e'
  have noA : ∀ b : Addr, b ∉ (cxSup CX P w K mg base ["self", par] qual scope f cd cc A outer s H E).ex := fun b z => absurd (show b ∈ ([] : List Addr) from z) (by simp)
  have ok : (cxSup CX P w K mg base ["self", par] qual scope f cd cc A outer s H E).Ok := {
    mod := e0.mod
    kind := kind
    glob := rfl
    blt := rfl
    above := Nat.le_refl _
    inj := fun x y c h1 h2 => (one x c h1).1.trans (one y c h2).1.symm
    has := fun x hx => by
      have hx' : scope.names.lookup x = some .cell ∨ scope.names.lookup x = some .free := hx
      rcases hx' with hx' | hx'
      · exact absurd rfl (only _ (PySem.mem_of_lookup hx')).1
      · have e : x = "__class__" := (only _ (PySem.mem_of_lookup hx')).2 rfl
        subst e
        exact ⟨cc, rfl⟩
    cab := fun x c h => Bool.noConfusion h
    hd := fun _ => hd
    frames := Around.frames_deeper e0.frames
    stk := .inr ⟨rfl, rfl⟩
    exf := fun b z => absurd z (noA b)
    bs := e0.bs
    bsz := e0.bsz
    noex := fun b _ _ => noA b
    exfs := fun b z => absurd z (noA b)
    funs := e0.funs
    frf := e0.frf }
  exact {
    ok := ok
    os := rfl
    bare := e0.bare
    base := Un.kept kp
    loc := ⟨_, ns, fun i x v h1 h2 h3 => by
      match i, h1, h2 with
      | 0, h1, h2 =>
        cases h1
        cases h2
        refine ⟨u0, r0, .inl ⟨l1, ?_⟩⟩
        show [(par, u1), (("self" : Str), u0)].lookup ("self" : Str) = some u0
        have b : (("self" : Str) == par) = false := by simpa using np
        simp [List.lookup, b]
      | 1, h1, h2 =>
        cases h1
        cases h2
        refine ⟨u1, r1, .inl ⟨l2, ?_⟩⟩
        show (match par == par with | true => some u1 | false => [(("self" : Str), u0)].lookup par) = some u1
        rw [beq_self_eq_true]
      | i + 2, h1, h2 =>
        have h3 : (["self", par] : List Str)[i + 2]? = some x := h1
        simp at h3⟩
    cell := fun x c e => by
      obtain ⟨_, rfl⟩ := one x c e
      obtain ⟨o, ho, hc⟩ := cell
      exact ⟨_, o, kp _ _ ho, hc⟩
    free := e0.hok.fresh (Nat.le_refl _)
    freeC := fun x c e => by
      obtain ⟨_, rfl⟩ := one x c e
      exact free
    pin := fun p hp => absurd (show p ∈ ([] : List (Addr × Obj)) from hp) (by simp)
    hok := e0.hok.kept kp
    len := rfl }
/-- what such an __init__ promises -/
def spSup (C : Addr) (fld : Str) (good : V → Prop) : Sp := fun vs H Q _ => ∃ (e : Addr) (v : V), vs = [.ref e, v] ∧ H e = some (exo e C Option.none) ∧ good v ∧
  ∀ dx, H dx = Option.none → dx ≠ e → Q .non (upd (upd H dx (exd dx [(fld, v)])) e (exo e C (some dx)))
theorem exo_again {X : Cx} {pins : List (Addr × Obj)} {σ : L2.St} {H : Hp} {a C t1 : Addr} {hp h' : Heap} {g : Array GenState} {d : Drawn} {t t' : Nat} {os : OsState} (I : L2.Inv X pins σ H ⟨hp, g, d, t, os⟩) (e : H a = some (exo a C Option.none))
    (kp : ∀ b o, b ≠ a → hp.get? b = some o → h'.get? b = some o) (hx : h'.get? a = some ({ cls := .ref C, dict := Option.none, data := .fields #[.ref t1, .none, .none, .none, .bool false, .none] } : Obj)) : L2.Inv X pins σ H ⟨h', g, d, t', os⟩ := by
  have same : upd H a (exo a C Option.none) = H := by
    funext b
    unfold upd
    split
    · rename_i z
      rw [z, e]
    · rfl
  have J := I.write (t' := t') (x := a) (e := a) (o := exo a C Option.none) (by rw [e]; exact True.intro) (.inl rfl) kp ⟨_, hx⟩ (exo_ok hx)
  rwa [same] at J
/-- the bound ValueError.__init__, called: the error's arguments are laid anew, nothing of it is told -/
theorem call_mw {X : Cx} {pins : List (Addr × Obj)} {σ : L2.St} {H : Hp} {s : Shared} {e C u : Addr} {rest : List Value} {Q : Value → Shared → Prop} {E : Value → Shared → Prop} (T : OexC X.K C) (I : L2.Inv X pins σ H s) (he : H e = some (exo e C Option.none)) (hu : s.heap.get? u = some (kxs_mw "ValueError.__init__" e))
    (few : rest.length ≤ sizeLine) (fin : ∀ s', L2.Inv X pins σ H s' → Q .none s') : wpAny (model X.prog X.w) X.A (call (.ref u) rest) Q E s := by
  obtain ⟨nm, qn, N, bs, bm, sn, sub, ab, col, dd, k0, k1, k2, k3, k5, hC, hbm⟩ := T.cls
  obtain ⟨t1, ho⟩ := exo_at I.hok he
  have hC' := I.kIn _ _ hC
  obtain ⟨hp, g, d, tk, os⟩ := s
  refine wpAny_call (codeAny_of_tree ?_)
  show wpAny _ X.A.in1 (callAny (.ref u) ⟨rest, []⟩) _ _ _
  unfold callAny
  refine wpAny_bind (wpAny_load hu ?_)
  have b : (Value.type "method-wrapper" == Value.type "method" || Value.type "method-wrapper" == Value.type "builtin_function_or_method" ||
      Value.type "method-wrapper" == Value.type "method-wrapper") = true := by decide
  simp only [b, if_true]
  refine PySem.W.KFB.if_so (by decide) (wpAny_bind ?_)
  refine PySem.W.check_bound_init F.excBase_ValueError.toExcCallFacts hC' ho rfl (wpAny_bind (wpAny_pure (wpAny_pure ⟨plainId_quiet F.excBase_ValueError.init.plain _, ?_⟩)))
  refine codeAny_builtin F.excBase_ValueError.initEntry ?_
  exact PySem.W.exc_init_tree (cls := .ref C) (t0 := t1) (dv := Option.none) (c2 := .none) (c3 := .none) (b4 := .bool false) ho few fun h' kp hx _ => fin _ (exo_again I he kp hx)
/-- THE RULE: such an __init__ keeps its promise -/
theorem ok_sup {CX : CXT} {P : Program} {w : World} {K : PySem.W.Frag} {mg : Str → Option Value} {base : Heap} {C f : Addr} {fd : FuncData} {qual par fld : Str} {st : Stmt} {msg : Expr} {p0 p1 p2 p3 p4 p5 p6 p7 p8 : Pos} {good : V → Prop}
    (S : SupCls P K C qual par fld st f fd) (T : SupTxt par fld st msg p0 p1 p2 p3 p4 p5 p6 p7 p8) (np : ¬ ("self" : Str) = par) (nd : (par == ("__debug__" : Str)) = false) (nc : (par == ("__classdict__" : Str)) = false) (noS : mg "super" = Option.none)
    (hmsg : ∀ (cd : Value) (cc : Addr) (A : Around) (outer : List Env) (s : Shared) (H : Hp) (E : XK) (e : Addr) (v : V), good v →
      ∃ ta, PA (cxSup CX P w K mg base ["self", par] qual (defScope st) f cd cc A outer s H E) [msg] ta ∧ ∀ H1 Q, (∀ x, Q [x] H1) → ta (start ["self", par] [.ref e, v]) H1 Q)
    (star : ∀ env, starEach [msg] env = [(false, eval msg env)]) (inter : ∀ L g cd cc, interactive (ksEnv qual (defScope st) L g cd cc) = false) (swap : ∀ L g cd cc, swapsWith (.Call (.Attribute (.Call (.Name "super" p0) [] [] p1) "__init__" p2) [msg] [] p3) Option.none p4.line (ksEnv qual (defScope st) L g cd cc) = pure false)
    (swap2 : ∀ L g cd cc, swapsWith (.Name par p7) (some (.Attribute (.Name "self" p5) fld p6)) p8.line (ksEnv qual (defScope st) L g cd cc) = pure false)
    (pl : Sem Bool) (he : ∀ (env : Env), eval (.Call (.Attribute (.Call (.Name "super" p0) [] [] p1) "__init__" p2) [msg] [] p3) env = (do
      let ov ← attributeBase (.Call (.Name "super" p0) [] [] p1) "__init__" env (eval (.Call (.Name "super" p0) [] [] p1) env)
      standAt p2.atName
      let (f, first) ← holding [ov] (getMethod ov "__init__" pl)
      callWith p3 f first (backTo p3 (starEach [msg] env)) [])) :
    FnOk P w K mg base CX 1 f fd ["self", par] (spSup C fld good) := by
  obtain ⟨oc, od, kV, doc, pm, an, cda, ct, osl, cc, cl, cld, csl, ccl, cdd, vs, ccs, file, tf, rfl, lk, hcd, hcell, hcode, hvs, hfile⟩ := S.fn
  refine ⟨fun vs H Q E h => ?_, fun A outer s H args us vs0 Q E hr e0 hb rel hsp => ?_⟩
  · obtain ⟨e, v, rfl, _⟩ := h
    rfl
  obtain ⟨e, v, rfl, hexo, hgood, fin⟩ := hsp
  have KX : K.In s.heap := e0.mod.kin.keeps fun b o z => (e0.bs b o z).1
  have lim : s.heap.NoLimit := e0.mod.nolimit.keeps fun b o z => (e0.bs b o z).1
  obtain ⟨u0, u1, rfl, r0, r1⟩ := vals2 rel
  have isCell : s.heap.IsCell cc (some (.ref C)) := ⟨_, KX _ _ hcell, rfl⟩
  have freeC : H cc = Option.none := (e0.bs _ _ (e0.mod.kin _ _ hcell)).2
  refine ks_codeAny_call_defAt (fd := ksFn "__init__" qual (defArgs st) (defBody st) (defScope st) .none kV doc pm an (.ref cda) ct cc) (body := defBody st) (binds := [(("self" : Str), u0), (par, u1)]) hr.depth (KX _ _ lk) rfl lim (PySem.W.codeRec_of KX hcd) rfl hb (fun x hx => (T.only x hx).1) ?_ (fun h1 ns kp => ?_) T.co T.gen T.kind
  · intro y hy
    rcases List.mem_cons.mp hy with rfl | hy
    · exact T.s1
    · rw [List.mem_singleton.mp hy]
      exact T.s2
  have I : L2.Inv (cxSup CX P w K mg base ["self", par] qual (defScope st) f (.ref cda) cc A outer s H E) [] (start ["self", par] [.ref e, v]) H { s with heap := h1, toks := s.toks + 2 } :=
    inv_sup T.kind T.only T.s1 T.s2 np hr.hd e0 r0 r1 isCell freeC (Heap.lt_size (KX _ _ hcell)) ns kp
  show wpAt (model P w) (A.deeper (ksEnv qual (defScope st) s.heap.objs.size f (.ref cda) cc)) (.func (defBody st) (ksEnv qual (defScope st) s.heap.objs.size f (.ref cda) cc)) (execs (defBody st) (ksEnv qual (defScope st) s.heap.objs.size f (.ref cda) cc)) _ _ _
  rw [T.body]
  obtain ⟨hp, g, d, tk, os⟩ := s
  have up : ∀ b o, base.get? b = some o → h1.get? b = some o := fun b o z => kp b o (e0.bs b o z).1
  have K1 : K.In h1 := e0.mod.kin.keeps up
  obtain ⟨mb, hmb, hbb⟩ := e0.mod.blt
  obtain ⟨ar, har, earg⟩ := T.ps
  cases (show u0 = Value.ref e from r0)
  obtain ⟨t1, hx⟩ := exo_at I.hok hexo
  obtain ⟨nm, qn, N, bs, bm, sn, sub, ab, col, dd, k0, k1, k2, k3, k5, hC, hbm⟩ := S.oex.cls
  have hcl : PySem.W.clsIn K C = some { name := nm, bases := bs, mro := .ref C :: bm, ns := N, qualname := qn, hasDict := true, slotNames := sn, subclasses := sub, abstract := ab, collection := col, hasDel := false } := by
    unfold PySem.W.clsIn
    rw [hC]
  refine ks_wpAt_execs_cons (ks_wpAt_Expr_any (ks_wpAt_MethodCall (pl := pl) ?_ (he _)) (inter _ _ _ _) (swap _ _ _ _))
  refine ks_wpAt_super_base (env := ksEnv qual (defScope st) hp.objs.size f (.ref cda) cc) T.s4 T.s3 (by decide) rfl (kp _ _ (KX _ _ lk)) rfl har rfl (K1 _ _ hcode) rfl hvs hfile S.topS ?_
  refine PySem.W.ks_loadName_global T.kind T.s4 (PySem.Calls.loadGlobal_builtin (env := ksEnv qual (defScope st) hp.objs.size f (.ref cda) cc) (e0.mod.glob.keeps up) noS (hmb.keeps up) ((hbb "super" (by decide)).trans (by decide +kernel)) ⟨rfl, ?_⟩)
  refine wpAny_loadName_free T.kind T.s3 rfl ⟨_, K1 _ _ hcell, rfl⟩ ?_
  rw [earg]
  refine wpAny_loadName_local T.kind T.s1 ns (v := .ref e) ?_ ?_
  · show [(par, u1), (("self" : Str), Value.ref e)].lookup ("self" : Str) = some (.ref e)
    have b : (("self" : Str) == par) = false := by simpa using np
    simp [List.lookup, b]
  refine ks_wpAny_isType_cls (K1 _ _ hC) rfl ⟨rfl, ?_⟩
  refine ks_wpAny_call_super (K1 _ _ hC) rfl hx rfl (fun c z => by cases z) (PySem.W.looks_mroIn K1 S.mroC) (fun h2 hso kp2 => ?_)
  have K2 : K.In h2 := K1.keeps kp2
  have hx2 := kp2 _ _ hx
  have inst : PySem.W.InstAt h2 e { cls := .ref C, dict := Option.none, data := .fields #[.ref t1, .none, .none, .none, .bool false, .none] } C Option.none := ⟨hx2, rfl, rfl, trivial⟩
  have hf := S.sup
  unfold ks_superIn at hf
  rw [hcl] at hf
  have neC : e ≠ C := fun z => by
    have q := (e0.bs _ _ (e0.mod.kin _ _ hC)).2
    rw [← z, hexo] at q
    cases q
  refine PySem.W.kxs_getMethod PySem.W.kxs_ValueError hso (PySem.W.looks_opaque K2 S.opq) (l₀ := .ref C :: bm) ((PySem.W.looks_clsIn K2 hcl).andThen .now) rfl K2 hf (inst.type.andThen (PySem.W.looks_subIn K2 S.subV)) neC (by decide) ?_
  have hmw : (h2.push (kxs_mw "ValueError.__init__" e)).get? h2.objs.size = some (kxs_mw "ValueError.__init__" e) := Heap.get?_push_size _ rfl
  have kp3 : ∀ b o, h1.get? b = some o → (h2.push (kxs_mw "ValueError.__init__" e)).get? b = some o := fun b o z => Heap.get?_push_of_some _ (kp2 b o z)
  have Ih := I.kept (h' := h2) (t' := tk + 2) kp2
  have I2 := I.kept (h' := h2.push (kxs_mw "ValueError.__init__" e)) (t' := tk + 2 + 1) kp3
  have I3 : L2.Inv (cxSup CX P w K mg base ["self", par] qual (defScope st) f (.ref cda) cc A outer ⟨hp, g, d, tk, os⟩ H E) [(h2.objs.size, kxs_mw "ValueError.__init__" e)] (start ["self", par] [.ref e, v]) H ⟨h2.push (kxs_mw "ValueError.__init__" e), g, d, tk + 2 + 1, os⟩ := { I2 with
    pin := fun p hp' => by
      cases List.mem_singleton.mp hp'
      refine ⟨hmw, Ih.hok.fresh (Nat.le_refl _), Nat.ne_of_gt Ih.lt, Ih.nofs (Nat.le_refl _), fun c z => by cases z⟩ }
  obtain ⟨ta, pa, rd⟩ := hmsg (.ref cda) cc A outer ⟨hp, g, d, tk, os⟩ H E e v hgood
  have st1 := star (ksEnv qual (defScope st) hp.objs.size f (.ref cda) cc)
  have ran : wpAny (model P w) (A.deeper (ksEnv qual (defScope st) hp.objs.size f (.ref cda) cc)) (spliced (backTo p3 (starEach [msg] (ksEnv qual (defScope st) hp.objs.size f (.ref cda) cc)))) _ _ _ :=
    pa.run p3 _ _ _ _ (fun vs H1 => H1 = H ∧ vs.length = 1) I3 (rd H _ fun x => ⟨rfl, rfl⟩)
  show wpAny _ _ (callWith p3 (.ref h2.objs.size) [] (backTo p3 (starEach [msg] (ksEnv qual (defScope st) hp.objs.size f (.ref cda) cc))) []) _ _ _
  rw [st1] at ran ⊢
  refine PySem.W.kxs_callWith (i := "ValueError.__init__") (x := e) (u := h2.objs.size) rfl (PySem.Calls.evalArgs_plain (thn ran fun us s3 got => ?_))
  obtain ⟨vs1, H1, I4, rel1, rfl, len1⟩ := got
  have hu := (I4.pin _ List.mem_cons_self).1
  refine ⟨hu, call_mw S.oex I4 hexo hu (by show us.length ≤ sizeLine; rw [← Vals.length rel1, len1, sizeLine_eq]; decide) fun s4 I5 => ?_⟩
  have last : PSs (cxSup CX P w K mg base ["self", par] qual (defScope st) f (.ref cda) cc A outer ⟨hp, g, d, tk, os⟩ H1 E) [.Assign [.Attribute (.Name "self" p5) fld p6] (.Name par p7) p8] _ :=
    pss_one (ps_ost (pv 0 rfl (.inl T.s1)) (pv 1 rfl (.inl T.s2) nd nc) (swap2 _ _ _ _))
  refine wpAt_of_wpAny (thn (last.run _ s4 _ H1 { nx := fun _ H2 => Q .non H2, rt := Q } I5 ⟨v, rfl, .ref e, rfl, e, C, rfl, S.oex, S.nof, .inl ⟨hexo, fin⟩⟩) fun fl s5 got => ?_)
  cases fl with
  | next =>
    obtain ⟨σ', H', J, q⟩ := got
    exact ⟨V.non, H', J.os, J.bare, J.base, J.hok, rfl, q⟩
  | ret u =>
    obtain ⟨y, σ', H', J, ry, q⟩ := got
    exact ⟨y, H', J.os, J.bare, J.base, J.hok, ry, q⟩
  | brk =>
    obtain ⟨_, _, _, q⟩ := got
    exact q.elim
  | cont =>
    obtain ⟨_, _, _, q⟩ := got
    exact q.elim
end

/-! ### raising such an error where nothing is handled; a new object whose __init__ may raise; isinstance of a caught error -/
theorem fun_okN {P : Program} {w : World} {K : PySem.W.Frag} {mg : Str → Option Value} {base : Heap} {x qual : Str} {st : Stmt} {f : Addr} {fd : FuncData} {N ps : List Str} {k : Nat} {sp : Sp} (F : Fun K x qual st f fd) (S : FnScope N ps (defScope st))
    (len : ∀ vs H Q E, sp vs H Q E → vs.length = ps.length)
    (body : ∀ (cdv : Value) (A : Around) (outer : List Env) (s : Shared) (H : Hp) (vs : List V) (Q : VK) (E : XK), Room k (A.deeper (PyProof.Rows.envOfC qual (defScope st) s.heap.objs.size f cdv)) → sp vs H Q E →
      ∃ t, PSs (cxOf (L2N.CX P w) P w K mg base N qual (defScope st) f cdv A outer s H E) (defBody st) t ∧ t { nx := fun _ H' => Q .non H', rt := Q } (start N vs) H) : FnOk P w K mg base (L2N.CX P w) (k + 1) f fd ps sp := by
  obtain ⟨oc, od, kV, doc, pm, an, cdv, ct, osl, rfl, lk, hcd⟩ := F.ex
  exact fn_of lk hcd S len fun A outer s H vs Q E hr h => body cdv A outer s H vs Q E hr h
/-- a def that lets nothing out lets nothing out -/
theorem weak_cx {P : Program} {w : World} {K : PySem.W.Frag} {mg : Str → Option Value} {base : Heap} {CX : CXT} {k : Nat} {f : Addr} {fd : FuncData} {ps : List Str} {sp : Sp} (F : FnOk P w K mg base CX0 k f fd ps sp) : FnOk P w K mg base CX k f fd ps sp :=
  ⟨F.len, fun A outer s H args us vs Q E hr e0 hb r h => codeAny_mono (F.run A outer s H args us vs Q E hr e0 hb r h) fun res s' q => by
    cases res with
    | error e => exact False.elim q
    | ok fl => cases fl <;> exact q⟩
def tSup (C : Addr) (fld : Str) (good : V → Prop) (ta : TA) : L2.St → Hp → XK → Prop := fun σ H Q => ta σ H fun vs H1 => ∃ v, vs = [v] ∧ good v ∧ ∀ d, H1 d = Option.none → Q (.ref C) (some d) (upd H1 d (.xd [(fld, v)]))
theorem sup_heap {H : Hp} {a d C : Addr} {fs : List (Str × V)} (ha : H a = Option.none) (ne : d ≠ a) : upd (del (upd (upd (upd H a (exo a C Option.none)) d (exd d fs)) a (exo a C (some d))) a) d (.xd fs) = upd H d (.xd fs) := by
  funext b
  by_cases hd : b = d
  · subst hd
    rw [upd_same, upd_same]
  · rw [upd_ne hd, upd_ne hd]
    by_cases hb : b = a
    · subst hb
      rw [del_same, ha]
    · rw [del_ne hb, upd_ne hb, upd_ne hd, upd_ne hb]
theorem pmk_sup {X : Cx} {x fld par : Str} {e : Expr} {ta : TA} {p pos : Pos} {C fI : Addr} {fd : FuncData} {good : V → Prop} (T : OexC X.K C) (iC : PySem.W.findIn X.K (.ref C) "__init__" = some (some (.ref fI))) (tI : PySem.W.typeIn X.K (.ref fI) = some (.type "function"))
    (F1 : FnOk X.prog X.w X.K X.mg X.base CX0 1 fI fd ["self", par] (spSup C fld good)) (hr : Room 2 X.A) (hb : Binds X.K fd ["self", par] []) (hg : Gl X x) (hm : X.mg x = some (.ref C)) (ha : PA X [e] ta)
    (hdb : (x == ("__debug__" : Str)) = false := by decide) (he : starEach (e :: []) X.env = (false, eval e X.env) :: starEach [] X.env := by rfl) (hpl : (backTo pos (starEach [] X.env)).any (·.1) = false := by rfl) :
    L2N.PMk X (.Call (.Name x p) [e] [] pos) (tSup C fld good ta) := by
  intro pins s σ H Q I hyp
  obtain ⟨nm, qn, N, bs, bm, sn, sub, ab, col, dd, k0, k1, k2, k3, k5, hC, hbm⟩ := T.cls
  refine wpAny_Call_Name_kw (ld_glob I hg hm ?_ hdb)
  refine PySem.W.callWith_K (h₀ := X.base) I.ok.mod.kin T.kC (thn (ha.run pos pins s σ H _ I hyp) fun us s1 got => ?_) he hpl
  obtain ⟨vs, H1, I1, rel, v, rfl, gv, q⟩ := got
  refine ⟨I1.kIn, ?_⟩
  show wpAny _ _ (call (.ref C) us) _ _ _
  obtain ⟨hp, g, dr, tk, os⟩ := s1
  have above : hp.objs.size ≤ hp.objs.size + 1 := Nat.le_succ _
  have free : H1 (hp.objs.size + 1) = Option.none := I1.hok.fresh above
  have grown : ∀ b o, hp.get? b = some o → ((hp.push (PySem.W.kdv_tup us)).push (PySem.HandSPX.excO C hp.objs.size)).get? b = some o := fun b o z => Heap.get?_push_of_some _ (Heap.get?_push_of_some _ z)
  have there : ((hp.push (PySem.W.kdv_tup us)).push (PySem.HandSPX.excO C hp.objs.size)).get? (hp.objs.size + 1) = some (PySem.HandSPX.excO C hp.objs.size) := by heap_get
  have I2 := I1.laid (t' := tk) (a := hp.objs.size + 1) (o := exo (hp.objs.size + 1) C Option.none) (h' := (hp.push (PySem.W.kdv_tup us)).push (PySem.HandSPX.excO C hp.objs.size)) grown above (exo_ok there)
  have rel2 : Vals [V.ref (hp.objs.size + 1), v] (Value.ref (hp.objs.size + 1) :: us) := .cons rfl rel
  have two : (Value.ref (hp.objs.size + 1) :: us).length = 2 := rel2.length.symm
  have bind := hb ⟨(hp.push (PySem.W.kdv_tup us)).push (PySem.HandSPX.excO C hp.objs.size), g, dr, tk, os⟩ (Value.ref (hp.objs.size + 1) :: us) I2.kIn (by rw [List.append_nil]; exact two)
  rw [List.append_nil] at bind
  have few : us.length ≤ sizeLine := by
    rw [← Vals.length rel, sizeLine_eq]
    show 1 ≤ 16777216
    decide
  refine wpAny_call (PySem.HandSPX.call_own F.excBase_ValueError (fun Y => PySem.HandSPX.refsVE_contains Y bm hbm) (I1.kIn _ _ hC) (PySem.W.looks_findIn I1.kIn iC) (fun self => PySem.W.bind_fn I1.kIn self tI) few ?_)
  refine codeAny_mono (F1.run _ X.stack _ _ ⟨Value.ref (hp.objs.size + 1) :: us, []⟩ _ _ (fun y H2 => y = .non ∧ ∃ d, H1 d = Option.none ∧ d ≠ hp.objs.size + 1 ∧ H2 = upd (upd (upd H1 (hp.objs.size + 1) (exo (hp.objs.size + 1) C Option.none)) d (exd d [(fld, v)])) (hp.objs.size + 1) (exo (hp.objs.size + 1) C (some d)))
    (fun _ _ _ => False) ((hr.make (k := 1) C us [])) (I2.env0.make C us []) bind rel2 ⟨_, v, rfl, upd_same, gv, fun d hd nd => ⟨rfl, d, (by rwa [upd_ne nd] at hd), nd, rfl⟩⟩) fun res s2 fin => ?_
  cases res with
  | error z => exact False.elim fin
  | ok fl =>
    cases fl with
    | ret u =>
      obtain ⟨y, H2, os2, bare2, un2, hok2, ry, rfl, d, hd, nd, rfl⟩ := fin
      obtain ⟨h2, g2, d2, t2, os'⟩ := s2
      have ea : upd (upd (upd H1 (hp.objs.size + 1) (exo (hp.objs.size + 1) C Option.none)) d (exd d [(fld, v)])) (hp.objs.size + 1) (exo (hp.objs.size + 1) C (some d)) (hp.objs.size + 1) = some (exo (hp.objs.size + 1) C (some d)) := upd_same
      have ed : upd (upd (upd H1 (hp.objs.size + 1) (exo (hp.objs.size + 1) C Option.none)) d (exd d [(fld, v)])) (hp.objs.size + 1) (exo (hp.objs.size + 1) C (some d)) d = some (exd d [(fld, v)]) := by rw [upd_ne nd, upd_same]
      obtain ⟨t0, G, J, kG, ge, hoe, na⟩ := mk_end0 (d2 := d2) (t2 := t2) I1 above grown un2 hok2 os2 bare2 ea ed hd
      rw [sup_heap free nd] at J na
      refine ⟨ry, hp.objs.size + 1, _, _, ⟨G, g2, d2, t2, os'⟩, _, .ref C, some d, rfl, J, kG, ge, hoe, ⟨rfl, rfl, fun fv z => ?_⟩, rfl, rfl, na, rfl, bare2, raises_own T.exC T.tyC, q d hd⟩
      cases z
      rfl
    | next => exact False.elim fin
    | brk => exact False.elim fin
    | cont => exact False.elim fin
/-- C(e, ..) within a try: what __init__ lets out is wished for at the slots -/
def tMakeS (C : Addr) (sp : Sp) (E : L2.St → XK) (t : TA) : TE := fun σ H Q => t σ H fun vs H1 => ∀ x dx, H1 x = Option.none → H1 dx = Option.none → dx ≠ x → sp (.ref x :: vs) (upd (upd H1 dx (.own x)) x (.ins C dx [])) (fun v H2 => v = .non ∧ Q (.ref x) H2) (E σ)
theorem pe_makeS {X : Cx} {CX : CXT} {k : Nat} {f C : Addr} {fd : FuncData} {ps : List Str} {sp : Sp} {E : L2.St → XK} {x : Str} {p pos : Pos} {e : Expr} {es : List Expr} {t : TA} (M : Mk X.K C f) (F : FnOk X.prog X.w X.K X.mg X.base CX k f fd ps sp) (hr : Room (k + 1) X.A) (hg : Gl X x) (hm : X.mg x = some (.ref C))
    (hb : Binds X.K fd ps []) (hx : ∀ (pins : List (Addr × Obj)) (σ : L2.St) (H : Hp) (s : Shared) (u : Value) (s' : Shared), L2.Inv X pins σ H s → CX X.stack H s (E σ) u s' → X.xe u s')
    (ha : PA X (e :: es) t) (hdb : (x == ("__debug__" : Str)) = false := by decide) (he : starEach (e :: es) X.env = (false, eval e X.env) :: starEach es X.env := by rfl) (hpl : (backTo pos (starEach es X.env)).any (·.1) = false := by rfl) :
    PE X (.Call (.Name x p) (e :: es) [] pos) (tMakeS C sp E t) := by
  constructor
  intro pins s σ H Q I hyp
  refine wpAny_Call_Name_kw (ld_glob I hg hm ?_ hdb)
  refine PySem.W.callWith_K (h₀ := X.base) I.ok.mod.kin M.kp (thn (ha.run pos pins s σ H _ I hyp) fun us s1 got => ?_) he hpl
  obtain ⟨vs, H1, I1, rel, q⟩ := got
  refine ⟨I1.kIn, ?_⟩
  have I2 := Inv.made (C := C) I1
  have prom := q (s1.heap.objs.size + 1) s1.heap.objs.size (I1.hok.fresh (Nat.le_succ _)) (I1.hok.fresh (Nat.le_refl _)) (Nat.ne_of_lt (Nat.lt_succ_self _))
  have rel2 : Vals (V.ref (s1.heap.objs.size + 1) :: vs) (Value.ref (s1.heap.objs.size + 1) :: us) := .cons rfl rel
  have len : (Value.ref (s1.heap.objs.size + 1) :: us ++ []).length = ps.length := by
    rw [List.append_nil, ← F.len _ _ _ _ prom]
    exact rel2.length.symm
  have bind := hb _ (Value.ref (s1.heap.objs.size + 1) :: us) I2.kIn len
  rw [List.append_nil] at bind
  refine wpAny_call (make_map (f := f) I1.kIn M.makes M.init (beq_iff_eq.mp M.fn) (codeAny_mono (F.run _ X.stack _ _ ⟨Value.ref (s1.heap.objs.size + 1) :: us, []⟩ _ _ _ (E σ) (hr.make C us []) (I2.env0.make C us []) bind rel2 prom) fun res s2 fin => ?_))
  cases res with
  | error z => exact hx pins σ _ _ z s2 I2 fin
  | ok fl =>
    cases fl with
    | ret u =>
      obtain ⟨v, H', I3, rv, rfl, q3⟩ := I2.after fin
      exact ⟨rv, V.ref (s1.heap.objs.size + 1), H', I3, rfl, q3⟩
    | next => exact False.elim fin
    | brk => exact False.elim fin
    | cont => exact False.elim fin
/-- isinstance(e, a class), e the caught error of the class at D with its dict -/
structure XcC (K : PySem.W.Frag) (D : Addr) : Prop where
  cl : (PySem.W.clsIn K D).isSome = true
  ga : PySem.W.findIn K (.ref D) "__getattribute__" = some (some (.builtin "BaseException.__getattribute__"))
  gt : PySem.W.findIn K (.ref D) "__getattr__" = some Option.none
  sub : PySem.W.subIn K (.ref D) (.type "BaseException") = some true
  has : PySem.W.hasDictIn K D = true
  cls : PySem.W.findIn K (.ref D) "__class__" = some (some (.builtin "object.__class__"))
  get : PySem.W.specialIn K (.builtin "object.__class__") "__get__" = some (some (.builtin "getset_descriptor.__get__"))
  tk : PySem.W.takesIn K (.builtin "object.__class__") = some true
  obj : PySem.W.mroIn K D (.type "object") = some true
theorem xc_at {X : Cx} {pins : List (Addr × Obj)} {σ : L2.St} {H : Hp} {s : Shared} {a D dd : Addr} {oe : Obj} {pn : List (Addr × Obj)} {fs : List (Str × V)} (I : L2.Inv (X.suite a ((a, oe) :: pn)) pins σ H s) (hz : Zc (.ref D) (some dd) oe) (hf : ∃ vs, oe.data = .fields vs) (hd : H dd = some (.xd fs)) :
    ∃ od, PySem.W.InstAt s.heap a oe D (some od) := by
  obtain ⟨got, _⟩ := I.pin (a, oe) (List.mem_append_left _ List.mem_cons_self)
  obtain ⟨vs, hv⟩ := hf
  have x : ObjOk X.prog X.w H s.heap dd (.xd fs) := I.hok dd _ hd
  obtain ⟨mA, ⟨od, _, _, ho, _⟩, _⟩ := x
  obtain ⟨oc, odd, oda, osl⟩ := oe
  obtain ⟨h1, h2⟩ := hz
  dsimp only at h1 h2 hv
  subst h1 h2 hv
  exact ⟨od, got, rfl, rfl, ho⟩
def rIsX (K : PySem.W.Frag) (a : Addr) (cls : Value) (d : Option Addr) : List V → Hp → VK → Prop := fun xs H Q => ∃ (D dd : Addr) (c : V) (cv : Value) (b : Bool) (fs : List (Str × V)), xs = [.ref a, c] ∧ cls = .ref D ∧ d = some dd ∧ XcC K D ∧ ClsV c cv ∧ H dd = some (.xd fs) ∧
  PySem.W.kitOne K (.ref D) cv = some b ∧ Q (.bl b) H
theorem call_isX {X : Cx} {a : Addr} {cls : Value} {d : Option Addr} {oe : Obj} {pn : List (Addr × Obj)} (hz : Zc cls d oe) (hf : ∃ vs, oe.data = .fields vs) : CallR (X.suite a ((a, oe) :: pn)) (.builtin "isinstance") (rIsX X.K a cls d) := by
  intro pins sh σ H xs us Q I rel hyp
  obtain ⟨D, dd, c, cv, b, fs, rfl, rfl, rfl, C, hcv, hd, e, q⟩ := hyp
  obtain ⟨u1, u2, rfl, r1, r2⟩ := vals2 rel
  have e2 := hcv.eq r2
  subst e2
  cases r1
  obtain ⟨od, J⟩ := xc_at I hz hf hd
  exact PySem.W.kia_one (PySem.W.kitx_exc C.cl C.ga C.gt C.sub C.cls C.get C.tk C.obj) I.kIn J e (fun z => nomatch z) fun tk => ⟨.bl b, H, I.kept (t' := tk) fun _ _ z => z, rfl, q⟩
def rIsXT (K : PySem.W.Frag) (a : Addr) (cls : Value) (d : Option Addr) : List V → Hp → VK → Prop := fun xs H Q => ∃ (D dd tp : Addr) (cs : List V) (cvs : List Value) (b : Bool) (fs : List (Str × V)), xs = [.ref a, .ref tp] ∧ cls = .ref D ∧ d = some dd ∧ XcC K D ∧
  H tp = some (.tup cs) ∧ Paired ClsV cs cvs ∧ H dd = some (.xd fs) ∧ PySem.W.kitAny K (.ref D) cvs = some b ∧ Q (.bl b) H
theorem call_isXT {X : Cx} {a : Addr} {cls : Value} {d : Option Addr} {oe : Obj} {pn : List (Addr × Obj)} (hz : Zc cls d oe) (hf : ∃ vs, oe.data = .fields vs) : CallR (X.suite a ((a, oe) :: pn)) (.builtin "isinstance") (rIsXT X.K a cls d) := by
  intro pins sh σ H xs us Q I rel hyp
  obtain ⟨D, dd, tp, cs, cvs, b, fs, rfl, rfl, rfl, C, ht, hcs, hd, e, q⟩ := hyp
  obtain ⟨u1, u2, rfl, r1, r2⟩ := vals2 rel
  cases r1
  cases (show u2 = Value.ref tp from r2)
  obtain ⟨od, J⟩ := xc_at I hz hf hd
  have x : ObjOk X.prog X.w H sh.heap tp (.tup cs) := I.hok tp _ ht
  obtain ⟨_, its, rv, ⟨oc, odd, oda, osl⟩, h1, h2, n, h3⟩ := x
  have e3 := ClsV.all hcs rv
  subst e3
  simp only at h2 h3
  subst h2 h3
  exact PySem.W.kia_tup (PySem.W.kitx_exc C.cl C.ga C.gt C.sub C.cls C.get C.tk C.obj) I.kIn J h1 e (fun z => nomatch z) fun tk => ⟨.bl b, H, I.kept (t' := tk) fun _ _ z => z, rfl, q⟩
theorem takes0N {X : Cx} : L2N.Takes X (fun _ _ _ _ => False) := fun _ _ x => by
  obtain ⟨_, _, _, _, _, _, _, _, _, _, _, _, _, _, _, _, z⟩ := x
  exact z.elim
theorem hot_of {X : Cx} {a : Addr} {cls : Value} {d : Option Addr} {oe : Obj} {pn : List (Addr × Obj)} (hz : L2N.Zn cls d oe) (hf : ∃ vs, oe.data = .fields vs) : L2H.HotC (X.suite a ((a, oe) :: pn)) := by
  obtain ⟨vs, hv⟩ := hf
  exact ⟨(a, oe), ⟨rfl, vs, hv, hz.2.2 vs hv⟩, List.mem_cons_self⟩
theorem fun_okH {P : Program} {w : World} {K : PySem.W.Frag} {mg : Str → Option Value} {base : Heap} {x qual : Str} {st : Stmt} {f : Addr} {fd : FuncData} {N ps : List Str} {k : Nat} {sp : Sp} (F : Fun K x qual st f fd) (S : FnScope N ps (defScope st))
    (len : ∀ vs H Q E, sp vs H Q E → vs.length = ps.length)
    (body : ∀ (cdv : Value) (A : Around) (outer : List Env) (s : Shared) (H : Hp) (vs : List V) (Q : VK) (E : XK) (p : Addr × Obj), L2H.RoomH k (A.deeper (PyProof.Rows.envOfC qual (defScope st) s.heap.objs.size f cdv)) → sp vs H Q E →
      ∃ t, PSs (L2H.cxH CX0 P w K mg base N qual (defScope st) f cdv A outer s H E p) (defBody st) t ∧ t { nx := fun _ H' => Q .non H', rt := Q } (start N vs) H) : L2H.FnH P w K mg base CX0 (k + 1) f fd ps sp := by
  obtain ⟨oc, od, kV, doc, pm, an, cdv, ct, osl, rfl, lk, hcd⟩ := F.ex
  exact L2H.fn_ofH lk hcd S len fun A outer s H vs Q E p _ hr h => body cdv A outer s H vs Q E p hr h

/-- e.f where the written part is told -/
theorem pe_fldK {X : Cx} {K : PySem.W.Frag} {e : Expr} {f : Str} {ta : TE} {pos : Pos} (hK : X.K = K) (he : PE X e ta) (hb : attributeBase e f X.env (eval e X.env) = eval e X.env) : PE X (.Attribute e f pos) (tFld K ta f) := by
  subst hK
  exact pe_fld he hb
/-- list(xs) where the written part is told -/
def rListOf (K : PySem.W.Frag) : List V → Hp → VK → Prop := fun zs H Q => ∃ (p : Addr) (ys : List V), zs = [V.ref p] ∧ (SqL K H p ys ∨ SqT K H p ys) ∧ (∀ l : Addr, H l = none → Q (.ref l) (upd H l (.lst ys)))
theorem cr_listK {X : Cx} {K : PySem.W.Frag} (hK : X.K = K) : CallR X (.type "list") (rListOf K) := by
  subst hK
  exact call_list_of
/-- len of a list or tuple where the written part is told -/
def rLenOf (K : PySem.W.Frag) : List V → Hp → VK → Prop := fun zs H Q => ∃ (p : Addr) (ys : List V), zs = [V.ref p] ∧ (SqL K H p ys ∨ SqT K H p ys) ∧ Q (.int (ys.length : Int)) H
theorem cr_lenK {X : Cx} {K : PySem.W.Frag} (hK : X.K = K) : CallR X (.builtin "len") (rLenOf K) := by
  subst hK
  exact call_len_seq
/-- o.m(e, ..), m of a built-in type, where the written part is told -/
theorem pe_bmK {X : Cx} {K : PySem.W.Frag} {T id : String} {name : Str} {r : V → List V → Hp → VK → Prop} {o e : Expr} {es : List Expr} {to : TE} {t : TA} {apos cpos : Pos} (hK : X.K = K) (pa : PySem.PlainAttrs T) (slot : PySem.Slot T name id) (hty : typeOf (.builtin id) = pure (.type "method_descriptor")) (hm : MtR X id r) (ho : PE X o to) (ha : PA X (e :: es) t)
    (hbase : attributeBase o name X.env (eval o X.env) = eval o X.env := by rfl)
    (hfew : ((backTo cpos (starEach (e :: es) X.env)).all (fun x => !x.1) && (backToKw cpos (keywordEach [] X.env)).all (fun x => x.1.isSome)
      && decide ((e :: es).length + ([] : List Keyword).length + (if ([] : List Keyword).isEmpty then 0 else 1) < 30)) = true := by rfl)
    (hline : (apos.endLine == cpos.line) = true := by rfl) (hs : starEach (e :: es) X.env = (false, eval e X.env) :: starEach es X.env := by rfl) (hplain : (backTo cpos (starEach es X.env)).any (·.1) = false := by rfl) :
    PE X (.Call (.Attribute o name apos) (e :: es) [] cpos) (tBM K T r to t) := by
  subst hK
  exact pe_bm pa slot hty hm ho ha hbase hfew hline hs hplain

/-- o.m(e, ..) within a try: what the method lets out is wished for at the slots -/
def tMethT (C : Addr) (m : Str) (sp : Sp) (E : L2.St → XK) (ta : TE) (t : TA) : TE := fun σ H Q => ta σ H fun x H1 => ∃ (j dx : Addr) (fs : List (Str × V)), x = V.ref j ∧ H1 j = some (HO.ins C dx fs) ∧ fs.lookup m = Option.none ∧ (t σ H1 fun vs H2 => sp (x :: vs) H2 Q (E σ))
theorem pe_methT {X : Cx} {CX : CXT} {k : Nat} {f C : Addr} {fd : FuncData} {ps : List Str} {sp : Sp} {E : L2.St → XK} {m : Str} {apos pos : Pos} {o e : Expr} {es : List Expr} {ta : TE} {t : TA} {pl : Sem Bool} (he : PE X o ta) (c : L2.Cls X.K C) (hm : L2.Meth X.K C m f) (F : FnOk X.prog X.w X.K X.mg X.base CX k f fd ps sp)
    (hr : Room k X.A) (hb : Binds X.K fd ps []) (hx : ∀ σ, PassesAt CX X σ (E σ)) (ha : PA X (e :: es) t) (one : starEach (e :: es) X.env = (false, eval e X.env) :: starEach es X.env := by rfl) (nost : (backTo pos (starEach es X.env)).any (·.1) = false := by rfl)
    (text : eval (.Call (.Attribute o m apos) (e :: es) [] pos) X.env = (do let ov ← eval o X.env; standAt apos.atName; let (f, first) ← holding [ov] (getMethod ov m pl); callWith pos f first (backTo pos (starEach (e :: es) X.env)) (backToKw pos (keywordEach [] X.env))) := by rfl) :
    PE X (.Call (.Attribute o m apos) (e :: es) [] pos) (tMethT C m sp E ta t) := by
  constructor
  intro pins s σ H Q I hyp
  refine PySem.W.methodCall_KW (pl := pl) (thn (he.run pins s σ H _ I hyp) fun u s1 got => ?_) text
  obtain ⟨x, H1, I1, rx, j, dx, fs, ex, ej, nf, q⟩ := got
  subst ex
  have eu : u = Value.ref j := rx
  subst eu
  refine getmeth_ok I1 ej c hm nf (PySem.W.callWith_K (first := [Value.ref j]) (h₀ := X.base) I.ok.mod.kin hm.kp (thn (ha.run pos pins s1 σ H1 _ I1 q) fun us s2 got2 => ?_) one nost)
  obtain ⟨vs, H2, I2, rel, q2⟩ := got2
  exact ⟨I2.kIn, run_fnS (us := Value.ref j :: us) (vs := V.ref j :: vs) F hr hb (hx σ) I2 (.cons rfl rel) q2⟩
/-- str of a text or of an int -/
def rStrA : List V → Hp → VK → Prop := fun vs H Q => (∃ i : Int, vs = [V.int i] ∧ i.natAbs.log2 < 1920 ∧ Q (.str (toString i)) H) ∨ ∃ x : Str, vs = [V.str x] ∧ Q (.str x) H
theorem cr_strA {X : Cx} : CallR X (.type "str") rStrA := by
  intro pins sh σ H vs us Q I rel hyp
  rcases hyp with ⟨i, rfl, small, q⟩ | ⟨x, rfl, q⟩
  · exact call_str_int pins sh σ H _ us Q I rel ⟨i, rfl, small, q⟩
  · exact SkE.call_str_str pins sh σ H _ us Q I rel ⟨x, rfl, q⟩

/-! ### the same where an exception is handled -/
section
open PySem.W (ksEnv ksFn ks_superIn kxs_mw)
/-- the context of such an __init__, called while an exception is handled -/
def cxSupH (CX : CXT) (P : Program) (w : World) (K : PySem.W.Frag) (mg : Str → Option Value) (base : Heap) (N : List Str) (qual : Str) (scope : Scope) (f : Addr) (cd : Value) (cc : Addr) (A : Around) (outer : List Env) (s : Shared) (H : Hp) (E : XK) (p : Addr × Obj) : Cx where
  prog := P
  w := w
  K := K
  mg := mg
  base := base
  A := A.deeper (ksEnv qual scope s.heap.objs.size f cd cc)
  N := N
  s_0 := s
  H_0 := H
  env := ksEnv qual scope s.heap.objs.size f cd cc
  outer := outer
  stack := ksEnv qual scope s.heap.objs.size f cd cc :: outer
  ex := []
  fn := fun _ => false
  calm := false
  pn := [p]
  xe := fun e s' => wpAny (model P w) (A.deeper (ksEnv qual scope s.heap.objs.size f cd cc)) (leaving (ksEnv qual scope s.heap.objs.size f cd cc) e) (fun _ s2 => CX outer H s E e s2) (fun e2 s2 => CX outer H s E e2 s2) s'
theorem inv_supH {CX : CXT} {P : Program} {w : World} {K : PySem.W.Frag} {mg : Str → Option Value} {base : Heap} {par qual : Str} {scope : Scope} {f cc : Addr} {cd : Value} {A : Around} {outer : List Env} {s : Shared} {h1 : Heap} {H : Hp} {E : XK} {u0 u1 : Value} {v0 v1 : V} {tk : Nat} {D : Value}
    (kind : scope.kind = .function) (only : ∀ y ∈ scope.names, y.2 ≠ .cell ∧ (y.2 = .free → y.1 = ("__class__" : Str))) (l1 : scope.names.lookup ("self" : Str) = some .local) (l2 : scope.names.lookup par = some .local) (np : ¬ ("self" : Str) = par)
    {p : Addr × Obj} (hpin : L2H.PinOk outer H s p) (e0 : Env0 P w K mg base A outer s H) (r0 : RelV v0 u0) (r1 : RelV v1 u1)
    (cell : s.heap.IsCell cc (some D)) (free : H cc = Option.none) (small : cc < s.heap.objs.size)
    (ns : h1.Ns s.heap.objs.size (fun x => [(par, u1), (("self" : Str), u0)].lookup x)) (kp : ∀ b o, s.heap.get? b = some o → h1.get? b = some o) :
    L2.Inv (cxSupH CX P w K mg base ["self", par] qual scope f cd cc A outer s H E p) [] (start ["self", par] [v0, v1]) H { s with heap := h1, toks := tk } := by
  have one : ∀ (x : Str) (c : Addr), (ksEnv qual scope s.heap.objs.size f cd cc).cells.lookup x = some c → x = "__class__" ∧ c = cc := fun x c e => by
    have e' : [(("__class__" : Str), cc)].lookup x = some c := e
    by_cases z : x = "__class__"
    · subst z
      exact ⟨rfl, (Option.some.inj ((show some cc = some c from by simpa [List.lookup] using e'))).symm⟩
    · have b : (x == ("__class__" : Str)) = false := by simpa using z
      simp [List.lookup, b] at e'
  have noA : ∀ b : Addr, b ∉ (cxSupH CX P w K mg base ["self", par] qual scope f cd cc A outer s H E p).ex := fun b z => absurd (show b ∈ ([] : List Addr) from z) (by simp)
  have ok : (cxSupH CX P w K mg base ["self", par] qual scope f cd cc A outer s H E p).Ok := {
    mod := e0.mod
    kind := kind
    glob := rfl
    blt := rfl
    above := Nat.le_refl _
    inj := fun x y c h1 h2 => (one x c h1).1.trans (one y c h2).1.symm
    has := fun x hx => by
      have hx' : scope.names.lookup x = some .cell ∨ scope.names.lookup x = some .free := hx
      rcases hx' with hx' | hx'
      · exact absurd rfl (only _ (PySem.mem_of_lookup hx')).1
      · have e : x = "__class__" := (only _ (PySem.mem_of_lookup hx')).2 rfl
        subst e
        exact ⟨cc, rfl⟩
    cab := fun x c h => Bool.noConfusion h
    hd := fun z => Bool.noConfusion (show false = true from z)
    frames := Around.frames_deeper e0.frames
    stk := .inr ⟨rfl, rfl⟩
    exf := fun b z => absurd z (noA b)
    bs := e0.bs
    bsz := e0.bsz
    noex := fun b _ _ => noA b
    exfs := fun b z => absurd z (noA b)
    funs := e0.funs
    frf := e0.frf }
  exact {
    ok := ok
    os := rfl
    bare := e0.bare
    base := Un.kept kp
    loc := ⟨_, ns, fun i x v h1 h2 h3 => by
      match i, h1, h2 with
      | 0, h1, h2 =>
        cases h1
        cases h2
        refine ⟨u0, r0, .inl ⟨l1, ?_⟩⟩
        show [(par, u1), (("self" : Str), u0)].lookup ("self" : Str) = some u0
        have b : (("self" : Str) == par) = false := by simpa using np
        simp [List.lookup, b]
      | 1, h1, h2 =>
        cases h1
        cases h2
        refine ⟨u1, r1, .inl ⟨l2, ?_⟩⟩
        show (match par == par with | true => some u1 | false => [(("self" : Str), u0)].lookup par) = some u1
        rw [beq_self_eq_true]
      | i + 2, h1, h2 =>
        have h3 : (["self", par] : List Str)[i + 2]? = some x := h1
        simp at h3⟩
    cell := fun x c e => by
      obtain ⟨_, rfl⟩ := one x c e
      obtain ⟨o, ho, hc⟩ := cell
      exact ⟨_, o, kp _ _ ho, hc⟩
    free := e0.hok.fresh (Nat.le_refl _)
    freeC := fun x c e => by
      obtain ⟨_, rfl⟩ := one x c e
      exact free
    pin := fun q hq => by
      have eq : q = p := by simpa using (show q ∈ [p] ++ ([] : List (Addr × Obj)) from hq)
      rw [eq]
      exact ⟨kp _ _ hpin.get, hpin.free, Nat.ne_of_lt (Heap.lt_size hpin.get), hpin.nofs, hpin.nocell⟩
    hok := e0.hok.kept kp
    len := rfl }
/-- THE RULE, where an exception is handled: such an __init__ keeps its promise -/
theorem ok_supH {CX : CXT} {P : Program} {w : World} {K : PySem.W.Frag} {mg : Str → Option Value} {base : Heap} {C f : Addr} {fd : FuncData} {qual par fld : Str} {st : Stmt} {msg : Expr} {p0 p1 p2 p3 p4 p5 p6 p7 p8 : Pos} {good : V → Prop}
    (S : SupCls P K C qual par fld st f fd) (T : SupTxt par fld st msg p0 p1 p2 p3 p4 p5 p6 p7 p8) (np : ¬ ("self" : Str) = par) (nd : (par == ("__debug__" : Str)) = false) (nc : (par == ("__classdict__" : Str)) = false) (noS : mg "super" = Option.none)
    (hmsg : ∀ (cd : Value) (cc : Addr) (A : Around) (outer : List Env) (s : Shared) (H : Hp) (E : XK) (p : Addr × Obj) (e : Addr) (v : V), good v →
      ∃ ta, PA (cxSupH CX P w K mg base ["self", par] qual (defScope st) f cd cc A outer s H E p) [msg] ta ∧ ∀ H1 Q, (∀ x, Q [x] H1) → ta (start ["self", par] [.ref e, v]) H1 Q)
    (star : ∀ env, starEach [msg] env = [(false, eval msg env)]) (inter : ∀ L g cd cc, interactive (ksEnv qual (defScope st) L g cd cc) = false) (swap : ∀ L g cd cc, swapsWith (.Call (.Attribute (.Call (.Name "super" p0) [] [] p1) "__init__" p2) [msg] [] p3) Option.none p4.line (ksEnv qual (defScope st) L g cd cc) = pure false)
    (swap2 : ∀ L g cd cc, swapsWith (.Name par p7) (some (.Attribute (.Name "self" p5) fld p6)) p8.line (ksEnv qual (defScope st) L g cd cc) = pure false)
    (pl : Sem Bool) (he : ∀ (env : Env), eval (.Call (.Attribute (.Call (.Name "super" p0) [] [] p1) "__init__" p2) [msg] [] p3) env = (do
      let ov ← attributeBase (.Call (.Name "super" p0) [] [] p1) "__init__" env (eval (.Call (.Name "super" p0) [] [] p1) env)
      standAt p2.atName
      let (f, first) ← holding [ov] (getMethod ov "__init__" pl)
      callWith p3 f first (backTo p3 (starEach [msg] env)) [])) :
    L2H.FnH P w K mg base CX 1 f fd ["self", par] (spSup C fld good) := by
  obtain ⟨oc, od, kV, doc, pm, an, cda, ct, osl, cc, cl, cld, csl, ccl, cdd, vs, ccs, file, tf, rfl, lk, hcd, hcell, hcode, hvs, hfile⟩ := S.fn
  refine ⟨fun vs H Q E h => ?_, fun A outer s H args us vs0 Q E p hr hot hpin e0 hb rel hsp => ?_⟩
  · obtain ⟨e, v, rfl, _⟩ := h
    rfl
  obtain ⟨e, v, rfl, hexo, hgood, fin⟩ := hsp
  have KX : K.In s.heap := e0.mod.kin.keeps fun b o z => (e0.bs b o z).1
  have lim : s.heap.NoLimit := e0.mod.nolimit.keeps fun b o z => (e0.bs b o z).1
  obtain ⟨u0, u1, rfl, r0, r1⟩ := vals2 rel
  have isCell : s.heap.IsCell cc (some (.ref C)) := ⟨_, KX _ _ hcell, rfl⟩
  have freeC : H cc = Option.none := (e0.bs _ _ (e0.mod.kin _ _ hcell)).2
  refine ks_codeAny_call_defAt (fd := ksFn "__init__" qual (defArgs st) (defBody st) (defScope st) .none kV doc pm an (.ref cda) ct cc) (body := defBody st) (binds := [(("self" : Str), u0), (par, u1)]) hr.depth (KX _ _ lk) rfl lim (PySem.W.codeRec_of KX hcd) rfl hb (fun x hx => (T.only x hx).1) ?_ (fun h1 ns kp => ?_) T.co T.gen T.kind
  · intro y hy
    rcases List.mem_cons.mp hy with rfl | hy
    · exact T.s1
    · rw [List.mem_singleton.mp hy]
      exact T.s2
  have I : L2.Inv (cxSupH CX P w K mg base ["self", par] qual (defScope st) f (.ref cda) cc A outer s H E p) [] (start ["self", par] [.ref e, v]) H { s with heap := h1, toks := s.toks + 2 } :=
    inv_supH T.kind T.only T.s1 T.s2 np hpin e0 r0 r1 isCell freeC (Heap.lt_size (KX _ _ hcell)) ns kp
  show wpAt (model P w) (A.deeper (ksEnv qual (defScope st) s.heap.objs.size f (.ref cda) cc)) (.func (defBody st) (ksEnv qual (defScope st) s.heap.objs.size f (.ref cda) cc)) (execs (defBody st) (ksEnv qual (defScope st) s.heap.objs.size f (.ref cda) cc)) _ _ _
  rw [T.body]
  obtain ⟨hp, g, d, tk, os⟩ := s
  have up : ∀ b o, base.get? b = some o → h1.get? b = some o := fun b o z => kp b o (e0.bs b o z).1
  have K1 : K.In h1 := e0.mod.kin.keeps up
  obtain ⟨mb, hmb, hbb⟩ := e0.mod.blt
  obtain ⟨ar, har, earg⟩ := T.ps
  cases (show u0 = Value.ref e from r0)
  obtain ⟨t1, hx⟩ := exo_at I.hok hexo
  obtain ⟨nm, qn, N, bs, bm, sn, sub, ab, col, dd, k0, k1, k2, k3, k5, hC, hbm⟩ := S.oex.cls
  have hcl : PySem.W.clsIn K C = some { name := nm, bases := bs, mro := .ref C :: bm, ns := N, qualname := qn, hasDict := true, slotNames := sn, subclasses := sub, abstract := ab, collection := col, hasDel := false } := by
    unfold PySem.W.clsIn
    rw [hC]
  refine ks_wpAt_execs_cons (ks_wpAt_Expr_any (ks_wpAt_MethodCall (pl := pl) ?_ (he _)) (inter _ _ _ _) (swap _ _ _ _))
  refine ks_wpAt_super_base (env := ksEnv qual (defScope st) hp.objs.size f (.ref cda) cc) T.s4 T.s3 (by decide) rfl (kp _ _ (KX _ _ lk)) rfl har rfl (K1 _ _ hcode) rfl hvs hfile S.topS ?_
  refine PySem.W.ks_loadName_global T.kind T.s4 (PySem.Calls.loadGlobal_builtin (env := ksEnv qual (defScope st) hp.objs.size f (.ref cda) cc) (e0.mod.glob.keeps up) noS (hmb.keeps up) ((hbb "super" (by decide)).trans (by decide +kernel)) ⟨rfl, ?_⟩)
  refine wpAny_loadName_free T.kind T.s3 rfl ⟨_, K1 _ _ hcell, rfl⟩ ?_
  rw [earg]
  refine wpAny_loadName_local T.kind T.s1 ns (v := .ref e) ?_ ?_
  · show [(par, u1), (("self" : Str), Value.ref e)].lookup ("self" : Str) = some (.ref e)
    have b : (("self" : Str) == par) = false := by simpa using np
    simp [List.lookup, b]
  refine ks_wpAny_isType_cls (K1 _ _ hC) rfl ⟨rfl, ?_⟩
  refine ks_wpAny_call_super (K1 _ _ hC) rfl hx rfl (fun c z => by cases z) (PySem.W.looks_mroIn K1 S.mroC) (fun h2 hso kp2 => ?_)
  have K2 : K.In h2 := K1.keeps kp2
  have hx2 := kp2 _ _ hx
  have inst : PySem.W.InstAt h2 e { cls := .ref C, dict := Option.none, data := .fields #[.ref t1, .none, .none, .none, .bool false, .none] } C Option.none := ⟨hx2, rfl, rfl, trivial⟩
  have hf := S.sup
  unfold ks_superIn at hf
  rw [hcl] at hf
  have neC : e ≠ C := fun z => by
    have q := (e0.bs _ _ (e0.mod.kin _ _ hC)).2
    rw [← z, hexo] at q
    cases q
  refine PySem.W.kxs_getMethod PySem.W.kxs_ValueError hso (PySem.W.looks_opaque K2 S.opq) (l₀ := .ref C :: bm) ((PySem.W.looks_clsIn K2 hcl).andThen .now) rfl K2 hf (inst.type.andThen (PySem.W.looks_subIn K2 S.subV)) neC (by decide) ?_
  have hmw : (h2.push (kxs_mw "ValueError.__init__" e)).get? h2.objs.size = some (kxs_mw "ValueError.__init__" e) := Heap.get?_push_size _ rfl
  have kp3 : ∀ b o, h1.get? b = some o → (h2.push (kxs_mw "ValueError.__init__" e)).get? b = some o := fun b o z => Heap.get?_push_of_some _ (kp2 b o z)
  have Ih := I.kept (h' := h2) (t' := tk + 2) kp2
  have I2 := I.kept (h' := h2.push (kxs_mw "ValueError.__init__" e)) (t' := tk + 2 + 1) kp3
  have I3 : L2.Inv (cxSupH CX P w K mg base ["self", par] qual (defScope st) f (.ref cda) cc A outer ⟨hp, g, d, tk, os⟩ H E p) [(h2.objs.size, kxs_mw "ValueError.__init__" e)] (start ["self", par] [.ref e, v]) H ⟨h2.push (kxs_mw "ValueError.__init__" e), g, d, tk + 2 + 1, os⟩ := { I2 with
    pin := fun q hq => by
      rcases List.mem_append.mp (show q ∈ [p] ++ [(h2.objs.size, kxs_mw "ValueError.__init__" e)] from hq) with hq | hq
      · exact I2.pin q (List.mem_append_left _ hq)
      cases List.mem_singleton.mp hq
      refine ⟨hmw, Ih.hok.fresh (Nat.le_refl _), Nat.ne_of_gt Ih.lt, Ih.nofs (Nat.le_refl _), fun c z => by cases z⟩ }
  obtain ⟨ta, pa, rd⟩ := hmsg (.ref cda) cc A outer ⟨hp, g, d, tk, os⟩ H E p e v hgood
  have st1 := star (ksEnv qual (defScope st) hp.objs.size f (.ref cda) cc)
  have ran : wpAny (model P w) (A.deeper (ksEnv qual (defScope st) hp.objs.size f (.ref cda) cc)) (spliced (backTo p3 (starEach [msg] (ksEnv qual (defScope st) hp.objs.size f (.ref cda) cc)))) _ _ _ :=
    pa.run p3 _ _ _ _ (fun vs H1 => H1 = H ∧ vs.length = 1) I3 (rd H _ fun x => ⟨rfl, rfl⟩)
  show wpAny _ _ (callWith p3 (.ref h2.objs.size) [] (backTo p3 (starEach [msg] (ksEnv qual (defScope st) hp.objs.size f (.ref cda) cc))) []) _ _ _
  rw [st1] at ran ⊢
  refine PySem.W.kxs_callWith (i := "ValueError.__init__") (x := e) (u := h2.objs.size) rfl (PySem.Calls.evalArgs_plain (thn ran fun us s3 got => ?_))
  obtain ⟨vs1, H1, I4, rel1, rfl, len1⟩ := got
  have hu := (I4.pin _ (List.mem_append_right [p] List.mem_cons_self)).1
  refine ⟨hu, call_mw S.oex I4 hexo hu (by show us.length ≤ sizeLine; rw [← Vals.length rel1, len1, sizeLine_eq]; decide) fun s4 I5 => ?_⟩
  have last : PSs (cxSupH CX P w K mg base ["self", par] qual (defScope st) f (.ref cda) cc A outer ⟨hp, g, d, tk, os⟩ H1 E p) [.Assign [.Attribute (.Name "self" p5) fld p6] (.Name par p7) p8] _ :=
    pss_one (ps_ost (pv 0 rfl (.inl T.s1)) (pv 1 rfl (.inl T.s2) nd nc) (swap2 _ _ _ _))
  refine wpAt_of_wpAny (thn (last.run _ s4 _ H1 { nx := fun _ H2 => Q .non H2, rt := Q } I5 ⟨v, rfl, .ref e, rfl, e, C, rfl, S.oex, S.nof, .inl ⟨hexo, fin⟩⟩) fun fl s5 got => ?_)
  cases fl with
  | next =>
    obtain ⟨σ', H', J, q⟩ := got
    exact ⟨V.non, H', J.os, J.bare, J.base, J.hok, rfl, q⟩
  | ret u =>
    obtain ⟨y, σ', H', J, ry, q⟩ := got
    exact ⟨y, H', J.os, J.bare, J.base, J.hok, ry, q⟩
  | brk =>
    obtain ⟨_, _, _, q⟩ := got
    exact q.elim
  | cont =>
    obtain ⟨_, _, _, q⟩ := got
    exact q.elim
end
theorem pmk_weak {X : Cx} {e : Expr} {t : L2.St → Hp → XK → Prop} (h : L2N.PMk X e t) : PMk X e t := fun pins s σ H Q I q => thn (h pins s σ H Q I q) fun _ _ ⟨a, oe, vs, sI, H1, cls, d, e1, J, k, e2, e3, z, x⟩ => ⟨a, oe, vs, sI, H1, cls, d, e1, J, k, e2, e3, z.zc, x⟩
theorem sky_imp {B : Heap} {l : List Env} {a L : Addr} {Z Z' : Obj → Prop} {h : Heap} (z : ∀ o, Z o → Z' o) (x : Sky B l a Z L h) : Sky B l a Z' L h := by
  rcases x with ⟨h1, h2, h3, oe, vs, e1, e2, e3⟩ | x | ⟨h1, h2, h3, x⟩
  · exact .inl ⟨h1, h2, h3, oe, vs, e1, z _ e2, e3⟩
  · exact .inr (.inl (L2H.flyingZ_imp z x))
  · exact .inr (.inr ⟨h1, h2, h3, L2H.tracedZ_imp z x⟩)
theorem takesN_of {X : Cx} {W : WX} (tk : Takes X W) : L2N.Takes X W := fun u s' ⟨a, B, sI, pins, σ, H, cls, d, e, I, nb, up, sky, x⟩ => tk u s' ⟨a, B, sI, pins, σ, H, cls, d, e, I, nb, up, sky_imp (fun _ z => z.zc) sky, x⟩
/-- a statement whose reading is kept whole -/
def tWhole (t : TS) : TS := t
theorem ps_whole {X : Cx} {st : Stmt} {t : TS} (h : PS X st t) : PS X st (tWhole t) := h

/-! ### a tuple times nought -/
section
open PyProof.Rows
theorem tuple_mul0 (l : Addr) (items : Array Value) (n : Nat) (dd : Option Addr) (sl : Array (Option Value)) (u : Tok) (c1 : (items.isEmpty || (0 : Int) == 1) = false) :
    Meets (Builtin.«tuple.__mul__» ⟨[.ref l, .int 0 u], []⟩) (fun _ R s => s.heap.get? l = some { cls := .type "tuple", dict := dd, data := .seq items n, slots := sl } ∧
      R (.ok (.ret (Value.ref s.heap.objs.size))) { s with heap := s.heap.push { cls := Value.type "tuple", data := Data.seq #[] }, toks := s.toks }) :=
  .of_wp fun prog w A R s h => by
    obtain ⟨hp, g, d, tk, os⟩ := s
    obtain ⟨hl, h⟩ := h
    have f1 := AutoSeq1.idx_int
    have c0 : (decide ((0 : Int) < -(2 ^ 63)) || decide ((0 : Int) ≥ 2 ^ 63)) = false := by decide
    have c2 : (decide ((0 : Int) ≤ 0) || items.isEmpty) = true := rfl
    wp_walk using wpAny_loadPart' hl
    repeat (first
      | (refine wpAny_ite_false (decide_eq_false (by rw [c0]; exact Bool.false_ne_true)) ?_; wp_walk using wpAny_loadPart' hl)
      | (refine wpAny_ite_false (decide_eq_false (by rw [c1]; exact Bool.false_ne_true)) ?_; wp_walk using wpAny_loadPart' hl)
      | (refine wpAny_ite_true (decide_eq_true (by rw [c2])) ?_; wp_walk using wpAny_loadPart' hl))
    exact ⟨_, rfl, h⟩
def rRepT0 (K : PySem.W.Frag) : R2 := fun x y H Q => ∃ l xs, x = .ref l ∧ y = .int 0 ∧ SqT K H l xs ∧ xs ≠ [] ∧ ∀ p, H p = none → Q (.ref p) (_root_.L2.upd H p (.tup []))
theorem op_repT0 {X : Cx} : OpR X (binaryOp .Mult) (rRepT0 X.K) := by
  intro pins s σ H x y v u Q I rx ry h
  obtain ⟨l, xs, rfl, rfl, hT, hne, q⟩ := h
  cases rx
  obtain ⟨t, rfl⟩ := ry
  obtain ⟨its, r, ⟨⟨cls, dd, data, sl⟩, ho, hc, n, hd⟩, hs⟩ := I.tuple hT
  simp only at hc hd
  subst hc hd
  have hle : its.length = xs.length := r.length.symm
  have hn : its ≠ [] := fun e => hne (by
    rw [e] at hle
    exact List.eq_nil_of_length_eq_zero hle.symm)
  have hi : its.toArray.isEmpty = false := by
    cases its with
    | nil => exact absurd rfl hn
    | cons a b => rfl
  have c1 : (its.toArray.isEmpty || (0 : Int) == 1) = false := by
    rw [hi, Bool.false_or]
    rfl
  refine wpAny_binaryOp_repeat_ref (T := "tuple") (U := "int") (by decide) ⟨_, ho, rfl⟩ (fun s' => typeIs_int s' 0 t) noFill_tuple_mul F.fills_int_mul F.slot_int_rmul repeat_tuple F.slot_int_index.lookup
    (call_meets F.slot_int_rmul (typeIs_int s 0 t) F.entry_int_rmul (F.args_int_rmul_2 _ _) (int_rmul_tuple 0 t l its.toArray n dd sl)
      ⟨ho, rfl, ⟨_, ho, rfl⟩, call_meets F.slot_tuple_mul ⟨_, ho, rfl⟩ F.entry_tuple_mul (F.args_tuple_mul_2 _ _) (tuple_mul0 l its.toArray n dd sl t c1) ⟨ho, ?_⟩⟩)
  refine ⟨.ref s.heap.objs.size, _, I.laid (t' := s.toks) (o := .tup []) (fun b ob q => Heap.get?_push_of_some _ q) (Nat.le_refl _) ?_, rfl, q _ (I.hok.fresh (Nat.le_refl _))⟩
  exact ⟨(by show 0 ≤ sizeLine; decide), [], .nil, IsTup.new _ _⟩
end

structure TxtE (P : Program) (K : PySem.W.Frag) (mg : Str → Option Value) (a : Ads) : Prop where
  g_Refused : mg "Refused" = some (.ref a.C_Refused)
  sup_Refused : ∃ fd, SupCls P K a.C_Refused "Refused.__init__" "vote" "vote" s_Refused_init a.d_Refused_init fd ∧ Binds K fd ["self", "vote"] []
  iC_Refused : PySem.W.findIn K (.ref a.C_Refused) "__init__" = some (some (.ref a.d_Refused_init))
  tI_Refused : PySem.W.typeIn K (.ref a.d_Refused_init) = some (.type "function")
  oex_Refused : OexC K a.C_Refused
  xc_Refused : XcC K a.C_Refused
  exm_Refused_Refused : PySem.W.exmOne K (.ref a.C_Refused) (.ref a.C_Refused) = some true

/-! ### journals -/
theorem hu65 {k : Nat} {A : Around} (r : Room k A) : A.units + 65 < cLine := by
  have := r.un
  omega
instance : Inhabited Sm := ⟨⟨.prop, 0, 0, none, none⟩⟩
def SsAt (H : Hp) (ps : List Addr) (ms : List Sm) : Prop := ps.length = ms.length ∧ ∀ i, i < ms.length → SmAt H (ps.getD i 0) (ms.getD i default)
theorem SsAt.nil {H : Hp} : SsAt H [] [] := ⟨rfl, fun i h => absurd h (Nat.not_lt_zero i)⟩
theorem SsAt.same {H H' : Hp} {ps : List Addr} {ms : List Sm} (h : SsAt H ps ms) (s : Same H H') : SsAt H' ps ms := ⟨h.1, fun i hi => s _ _ (h.2 i hi)⟩
theorem ne_ls {H : Hp} {p l : Addr} {m : Sm} {ys : List V} (h : SmAt H p m) (hl : H l = some (.lst ys)) : p ≠ l := fun e => by
  have h : H p = some (.tup m.vals) := h
  rw [e, hl] at h
  cases h
/-- all but the object at l stays -/
def But (l : Addr) (H H' : Hp) : Prop := ∀ b o, b ≠ l → H b = some o → H' b = some o
theorem But.sm {l : Addr} {H H' : Hp} {p : Addr} {m : Sm} {ys : List V} (k : But l H H') (hl : H l = some (.lst ys)) (h : SmAt H p m) : SmAt H' p m := k _ _ (ne_ls h hl) h
theorem But.ss {l : Addr} {H H' : Hp} {ps : List Addr} {ms : List Sm} {ys : List V} (k : But l H H') (hl : H l = some (.lst ys)) (h : SsAt H ps ms) : SsAt H' ps ms := ⟨h.1, fun i hi => k.sm hl (h.2 i hi)⟩
theorem SsAt.snoc {H : Hp} {ps : List Addr} {ms : List Sm} {p : Addr} {m : Sm} (h : SsAt H ps ms) (e : SmAt H p m) : SsAt H (ps ++ [p]) (ms ++ [m]) := by
  refine ⟨by rw [List.length_append, List.length_append, h.1]; rfl, fun i hi => ?_⟩
  rw [List.length_append, List.length_singleton] at hi
  rcases Nat.lt_or_ge i ms.length with z | z
  · rw [getD_left (by rw [h.1]; exact z), getD_left z]
    exact h.2 i z
  · have ei : i = ms.length := by omega
    subst ei
    rw [getD_last]
    have : (ps ++ [p]).getD ms.length 0 = p := by rw [← h.1, getD_last]
    rw [this]
    exact e
theorem SsAt.cons {H : Hp} {p : Addr} {ps : List Addr} {m : Sm} {ms : List Sm} (h : SsAt H (p :: ps) (m :: ms)) : SmAt H p m ∧ SsAt H ps ms :=
  ⟨h.2 0 (Nat.succ_pos _), Nat.succ.inj h.1, fun i hi => h.2 (i + 1) (Nat.succ_lt_succ hi)⟩
def smD (m : Sm) : PyData := .tuple m.dat
theorem dp_sms {K : PySem.W.Frag} {H : Hp} : ∀ {ps : List Addr} {ms : List Sm}, SsAt H ps ms → DpAll K H (ps.map V.ref) (ms.map smD)
  | [], [], _ => .nil
  | p :: ps, m :: ms, h => .cons (dp_sm h.cons.1) (dp_sms h.cons.2)
  | [], m :: ms, h => nomatch h.1
  | p :: ps, [], h => nomatch h.1
def OkM (ms : List Sm) : Prop := ∀ m ∈ ms, OkS m.b
theorem lay_sms : ∀ {ms : List Sm}, OkM ms → PyData.canLayAll0 (ms.map smD) = true
  | [], _ => by simp [PyData.canLayAll0]
  | m :: ms, o => by
    simp only [List.map_cons, PyData.canLayAll0]
    rw [show PyData.canLay0 (smD m) = true from lay_sm m (o m List.mem_cons_self), lay_sms fun y hy => o y (List.mem_cons_of_mem _ hy)]
    rfl
theorem depth_sms : ∀ ms : List Sm, PyData.depthAll (ms.map smD) ≤ 1
  | [] => by simp [PyData.depthAll]
  | m :: ms => by
    have := depth_sms ms
    have h : PyData.depth (smD m) = 1 := depth_sm m
    simp only [List.map_cons, PyData.depthAll, h]
    omega
theorem shaped_sms {ms : List Sm} (o : OkM ms) : SeqAt.shaped (.list (ms.map smD)) = true := by
  have h := depth_sms ms
  unfold SeqAt.shaped
  have e : PyData.depth (.list (ms.map smD)) = PyData.depthAll (ms.map smD) + 1 := by simp only [PyData.depth]
  have l : PyData.canLay0 (.list (ms.map smD)) = true := by simp only [PyData.canLay0, lay_sms o]
  rw [l, e, decide_eq_true (show PyData.depthAll (ms.map smD) + 1 ≤ 64 by omega)]
  rfl
theorem eqv_sms {ms : List Sm} (o : OkM ms) : PyData.eqv (.list (ms.map smD)) (.list (ms.map smD)) = true := SeqAt.eqv_refl _ (by
  simp only [PyData.canLay0, lay_sms o])
/-- m in ms -/
def memS (ms : List Sm) (m : Sm) : Bool := (ms.map smD).any fun z => PyData.eqv z (smD m)
theorem ne_wsg : ¬ (("who" : Str) = "signed") := by decide +kernel
def jfs (who : Int) (L : Addr) : List (Str × V) := putF "signed" (.ref L) (putF "who" (.int who) [])
theorem jfs_w (who : Int) (L : Addr) : (jfs who L).lookup ("who" : Str) = some (.int who) := by
  unfold jfs
  rw [lookup_putF, if_neg ne_wsg, lookup_putF, if_pos rfl]
theorem jfs_s (who : Int) (L : Addr) : (jfs who L).lookup ("signed" : Str) = some (.ref L) := by
  unfold jfs
  rw [lookup_putF, if_pos rfl]
theorem jfs_no (who : Int) (L : Addr) {m : Str} (h1 : ¬ m = "who") (h2 : ¬ m = "signed") : (jfs who L).lookup m = none := by
  unfold jfs
  rw [lookup_putF, if_neg h2, lookup_putF, if_neg h1]
  rfl
def JAt (C : Addr) (H : Hp) (j : Addr) (who : Int) (L : Addr) : Prop := ∃ dx, H j = some (.ins C dx (jfs who L))
/-- the first of the first n that clashes with m -/
def fcl (ms : List Sm) (m : Sm) : Nat → Option Nat
  | 0 => none
  | n + 1 => match fcl ms m n with
    | some k => some k
    | none => if clashM (ms.getD n default) m then some n else none
theorem fcl_none {ms : List Sm} {m : Sm} : ∀ {n : Nat}, fcl ms m n = none → ∀ k, k < n → clashM (ms.getD k default) m = false
  | 0, _, k, hk => absurd hk (Nat.not_lt_zero _)
  | n + 1, h, k, hk => by
    rw [fcl] at h
    split at h
    · cases h
    · rename_i e
      split at h
      · cases h
      · rename_i c
        rcases Nat.lt_or_ge k n with z | z
        · exact fcl_none e k z
        · have : k = n := by omega
          rw [this]
          simpa using c
theorem fcl_keep {ms : List Sm} {m : Sm} {n k : Nat} (h : fcl ms m n = some k) : fcl ms m (n + 1) = some k := by
  rw [fcl, h]
theorem fcl_new {ms : List Sm} {m : Sm} {n : Nat} (h : fcl ms m n = none) (c : clashM (ms.getD n default) m = true) : fcl ms m (n + 1) = some n := by
  rw [fcl, h]
  exact if_pos c
theorem fcl_no {ms : List Sm} {m : Sm} {n : Nat} (h : fcl ms m n = none) (c : clashM (ms.getD n default) m = false) : fcl ms m (n + 1) = none := by
  rw [fcl, h]
  exact if_neg (by rw [c]; exact Bool.false_ne_true)
theorem fcl_mono {ms : List Sm} {m : Sm} {n k : Nat} (h : fcl ms m n = some k) : ∀ d, fcl ms m (n + d) = some k
  | 0 => h
  | d + 1 => fcl_keep (fcl_mono h d)
theorem fcl_lt {ms : List Sm} {m : Sm} : ∀ {n k : Nat}, fcl ms m n = some k → k < n
  | 0, k, h => nomatch h
  | n + 1, k, h => by
    rw [fcl] at h
    split at h
    · rename_i e
      cases h
      have := fcl_lt e
      omega
    · split at h
      · cases h
        exact Nat.lt_succ_self _
      · cases h
/-- what is signed behind m -/
def after (ps : List Addr) (ms : List Sm) (p : Addr) (m : Sm) : List Addr := if memS ms m then ps else ps ++ [p]
def afterM (ms : List Sm) (m : Sm) : List Sm := if memS ms m then ms else ms ++ [m]
theorem shaped_pair {who : Int} {m : Sm} (o : OkS m.b) : SeqAt.shaped (.tuple [.int who, .tuple m.dat]) = true := shaped_lt (x := ⟨who, m⟩) o
theorem eqv_pair {who : Int} {m : Sm} (o : OkS m.b) : PyData.eqv (.tuple [.int who, .tuple m.dat]) (.tuple [.int who, .tuple m.dat]) = true := eqv_lt (x := ⟨who, m⟩) o
def spJI (K : PySem.W.Frag) (C : Addr) : Sp := fun vs H Q _ => ∃ (p dx : Addr) (who : Int), vs = [.ref p, .int who] ∧ H p = some (.ins C dx []) ∧ ∀ (L : Addr) (H' : Hp), H L = none → H' p = some (.ins C dx (jfs who L)) → H' L = some (.lst []) → (∀ b o, b ≠ p → H b = some o → H' b = some o) → Q .non H'
def spSign (K : PySem.W.Frag) (C CR : Addr) : Sp := fun vs H Q E => ∃ (j p L : Addr) (who : Int) (ps : List Addr) (ms : List Sm) (m : Sm), vs = [.ref j, .ref p] ∧ JAt C H j who L ∧ H L = some (.lst (ps.map V.ref)) ∧ SsAt H ps ms ∧ SmAt H p m ∧ ms.length ≤ 900 ∧ OkM ms ∧ OkS m.b ∧
  (∀ k, fcl ms m ms.length = some k → ∀ d H', Same H H' → H' d = some (.xd [(("vote" : Str), .ref (ps.getD k 0))]) → E (.ref CR) (some d) H') ∧
  (fcl ms m ms.length = none → ∀ t H', But L H H' → H' L = some (.lst ((after ps ms p m).map V.ref)) → H' t = some (.tup [.int who, .ref p]) → Q (.ref t) H')
def spLast (K : PySem.W.Frag) (C : Addr) : Sp := fun vs H Q _ => ∃ (j L : Addr) (who h : Int) (ps : List Addr) (ms : List Sm), vs = [.ref j, .int h] ∧ JAt C H j who L ∧ H L = some (.lst (ps.map V.ref)) ∧ SsAt H ps ms ∧ ms.length ≤ 900 ∧ (∀ m ∈ ms, 0 ≤ m.t) ∧
  ∀ (z : Int) H', Same H H' → (z = 0 ∨ z ∈ (ms.filter fun m => decide (m.h = h)).map Sm.t) → 0 ≤ z → (∀ m ∈ ms, m.h = h → m.t ≤ z) → Q (.int z) H'

def spFirst (K : PySem.W.Frag) : Sp := fun vs H Q _ => ∃ (p : Addr) (ws : List Int), vs = [.ref p] ∧ SqL K H p (ws.map V.int) ∧ GoodW ws ∧ ∀ H', Same H H' → Q .non H'
def spInit (K : PySem.W.Frag) (C : Addr) : Sp := fun vs H Q _ => ∃ (p dx l : Addr) (ws : List Int), vs = [.ref p, .ref l] ∧ H p = some (.ins C dx []) ∧ SqL K H l (ws.map V.int) ∧ GoodW ws ∧
  ∀ H' : Hp, CommAt C H' p ws → (∀ b o, H b = some o → b ≠ p → H' b = some o) → Q .non H'

def spWof (K : PySem.W.Frag) (C : Addr) : Sp := fun vs H Q _ => ∃ (p l : Addr) (ws ms : List Int), vs = [.ref p, .ref l] ∧ CommAt C H p ws ∧ ws.length ≤ 16 ∧ SqL K H l (ms.map V.int) ∧ ms.length ≤ 1000 ∧ ∀ H', Same H H' → Q (.int (wOf ws ms)) H'
def spQuorum (K : PySem.W.Frag) (C : Addr) : Sp := fun vs H Q _ => ∃ (p l : Addr) (ws ms : List Int), vs = [.ref p, .ref l] ∧ CommAt C H p ws ∧ ws.length ≤ 16 ∧ SqL K H l (ms.map V.int) ∧ ms.length ≤ 1000 ∧ ∀ H', Same H H' → Q (.bl (decide (2 * ws.sum < 3 * wOf ws ms))) H'

/-! ### votes by turn, and the turns that they certify -/
def selV (kd : Kd) (h : Int) (b : Option Str) (x : Lt) : Bool := decide (b ≠ none ∧ x.m.k = kd ∧ x.m.h = h ∧ x.m.b = b)
def inT (kd : Kd) (h : Int) (b : Option Str) (t : Int) (x : Lt) : Bool := selV kd h b x && decide (x.m.t = t)
def vbK (ks : List (Int × Addr)) : List (Key × V) := ks.map fun e => (Sum.inl e.1, V.ref e.2)
structure VbAt (H : Hp) (D : Addr) (xs : List Lt) (kd : Kd) (h : Int) (b : Option Str) (ks : List (Int × Addr)) : Prop where
  here : H D = some (.dK (vbK ks))
  nd : (ks.map (·.1)).Nodup
  nl : (ks.map (·.2)).Nodup
  ls : ∀ e ∈ ks, ∃ qs, H e.2 = some (.lst (qs.map V.ref)) ∧ LsAt H qs (xs.filter (inT kd h b e.1))
  ky : ∀ t : Int, t ∈ ks.map (·.1) ↔ ∃ x ∈ xs, inT kd h b t x = true
  few : ks.length ≤ xs.length
theorem VbAt.same {H H' : Hp} {D : Addr} {xs : List Lt} {kd : Kd} {h : Int} {b : Option Str} {ks : List (Int × Addr)} (v : VbAt H D xs kd h b ks) (s : Same H H') : VbAt H' D xs kd h b ks :=
  ⟨s _ _ v.here, v.nd, v.nl, fun e he => let ⟨qs, h1, h2⟩ := v.ls e he; ⟨qs, s _ _ h1, h2.same s⟩, v.ky, v.few⟩
theorem val_vb {t : Int} : ∀ {ks : List (Int × Addr)}, t ∈ ks.map (·.1) → ∃ l, (t, l) ∈ ks ∧ valV (vbK ks) (Sum.inl t) = some (.ref l)
  | [], h => nomatch h
  | e :: ks, h => by
    by_cases c : e.1 = t
    · exact ⟨e.2, by rw [← c]; exact List.mem_cons_self, valV_pos (p := (Sum.inl e.1, V.ref e.2)) (by rw [c])⟩
    · obtain ⟨l, h1, h2⟩ := val_vb (ks := ks) ((List.mem_cons.mp h).resolve_left fun z => c z.symm)
      exact ⟨l, List.mem_cons_of_mem _ h1, (valV_neg (p := (Sum.inl e.1, V.ref e.2)) (fun z => c (Sum.inl.inj z))).trans h2⟩
theorem val_vbn {t : Int} : ∀ {ks : List (Int × Addr)}, t ∉ ks.map (·.1) → valV (vbK ks) (Sum.inl t) = none
  | [], _ => rfl
  | e :: ks, h => by
    have c : ¬ e.1 = t := fun z => h (by rw [← z]; exact List.mem_cons_self)
    exact (valV_neg (p := (Sum.inl e.1, V.ref e.2)) (fun z => c (Sum.inl.inj z))).trans (val_vbn fun z => h (List.mem_cons_of_mem _ z))
theorem putK_new {kvs : List (Key × V)} {k : Key} {v : V} (h : valV kvs k = none) : putK kvs k v = kvs ++ [(k, v)] := by
  unfold putK
  rw [valV_any, h]
  rfl
theorem filt_no {xs : List Lt} {x : Lt} {p : Lt → Bool} (h : p x = false) : (xs ++ [x]).filter p = xs.filter p := by
  rw [List.filter_append, List.filter_cons_of_neg (by rw [h]; exact Bool.false_ne_true), List.filter_nil, List.append_nil]
theorem filt_yes {xs : List Lt} {x : Lt} {p : Lt → Bool} (h : p x = true) : (xs ++ [x]).filter p = xs.filter p ++ [x] := by
  rw [List.filter_append, List.filter_cons_of_pos h, List.filter_nil]
theorem inT_t {kd : Kd} {h : Int} {b : Option Str} {t : Int} {x : Lt} (c : inT kd h b t x = true) : t = x.m.t := by
  unfold inT at c
  exact (of_decide_eq_true (Bool.and_eq_true_iff.mp c).2).symm
theorem inT_self {kd : Kd} {h : Int} {b : Option Str} {x : Lt} (c : selV kd h b x = true) : inT kd h b x.m.t x = true := by
  unfold inT
  rw [c]
  simp
theorem inT_no {kd : Kd} {h : Int} {b : Option Str} {t : Int} {x : Lt} (c : selV kd h b x = false) : inT kd h b t x = false := by
  unfold inT
  rw [c]
  rfl
theorem VbAt.skip {H : Hp} {D : Addr} {xs : List Lt} {x : Lt} {kd : Kd} {h : Int} {b : Option Str} {ks : List (Int × Addr)} (v : VbAt H D xs kd h b ks) (c : selV kd h b x = false) : VbAt H D (xs ++ [x]) kd h b ks := by
  refine ⟨v.here, v.nd, v.nl, fun e he => ?_, fun t => ?_, ?_⟩
  · rw [filt_no (inT_no c)]
    exact v.ls e he
  · rw [v.ky t]
    constructor
    · rintro ⟨y, hy, z⟩
      exact ⟨y, List.mem_append_left _ hy, z⟩
    · rintro ⟨y, hy, z⟩
      rcases List.mem_append.mp hy with hy | hy
      · exact ⟨y, hy, z⟩
      · rw [List.mem_singleton.mp hy, inT_no c] at z
        cases z
  · have := v.few
    rw [List.length_append]
    omega
theorem ne_dk {H : Hp} {D l : Addr} {kvs : List (Key × V)} {ys : List V} (h : H D = some (.dK kvs)) (hl : H l = some (.lst ys)) : D ≠ l := fun e => by
  rw [e, hl] at h
  cases h
theorem nodup_snd {ks : List (Int × Addr)} {e f : Int × Addr} (nl : (ks.map (·.2)).Nodup) (he : e ∈ ks) (hf : f ∈ ks) (ne : e ≠ f) : e.2 ≠ f.2 := by
  intro z
  induction ks with
  | nil => cases he
  | cons g ks ih =>
    rw [List.map_cons, List.nodup_cons] at nl
    rcases List.mem_cons.mp he with rfl | he' <;> rcases List.mem_cons.mp hf with rfl | hf'
    · exact ne rfl
    · exact nl.1 (by rw [z]; exact List.mem_map.mpr ⟨f, hf', rfl⟩)
    · exact nl.1 (by rw [← z]; exact List.mem_map.mpr ⟨e, he', rfl⟩)
    · exact ih nl.2 he' hf'
theorem nodup_fst {ks : List (Int × Addr)} {e f : Int × Addr} (nd : (ks.map (·.1)).Nodup) (he : e ∈ ks) (hf : f ∈ ks) (q : e.1 = f.1) : e = f := by
  induction ks with
  | nil => cases he
  | cons g ks ih =>
    rw [List.map_cons, List.nodup_cons] at nd
    rcases List.mem_cons.mp he with rfl | he' <;> rcases List.mem_cons.mp hf with rfl | hf'
    · rfl
    · exact (nd.1 (by rw [q]; exact List.mem_map.mpr ⟨f, hf', rfl⟩)).elim
    · exact (nd.1 (by rw [← q]; exact List.mem_map.mpr ⟨e, he', rfl⟩)).elim
    · exact ih nd.2 he' hf'
/-- one more letter in the list that its turn has -/
theorem VbAt.more {H : Hp} {D l p : Addr} {xs : List Lt} {x : Lt} {kd : Kd} {h : Int} {b : Option Str} {ks : List (Int × Addr)} {qs : List Addr} (v : VbAt H D xs kd h b ks) (c : selV kd h b x = true) (hm : (x.m.t, l) ∈ ks)
    (hl : H l = some (.lst (qs.map V.ref))) (hx : LtAt H p x) : VbAt (upd H l (.lst (qs.map V.ref ++ [.ref p]))) D (xs ++ [x]) kd h b ks := by
  refine ⟨by rw [upd_ne (ne_dk v.here hl)]; exact v.here, v.nd, v.nl, fun e he => ?_, fun t => ?_, ?_⟩
  · obtain ⟨rs, h1, h2⟩ := v.ls e he
    by_cases z : e = (x.m.t, l)
    · subst z
      have er : rs.map V.ref = qs.map V.ref := by
        rw [hl] at h1
        injection h1 with h1
        injection h1 with h1
        exact h1.symm
      have er2 : rs = qs := by
        have := congrArg (List.map fun v : V => match v with | .ref a => a | _ => 0) er
        simpa [List.map_map, Function.comp_def] using this
      subst er2
      refine ⟨rs ++ [p], by rw [upd_same]; simp, ?_⟩
      rw [filt_yes (inT_self c)]
      exact (h2.snoc hx).upd hl
    · have n2 := nodup_snd v.nl he hm z
      refine ⟨rs, by rw [upd_ne n2]; exact h1, ?_⟩
      rw [filt_no]
      · exact h2.upd hl
      · cases q : inT kd h b e.1 x with
        | false => rfl
        | true => exact absurd (nodup_fst v.nd he hm (inT_t q)) z
  · rw [v.ky t]
    constructor
    · rintro ⟨y, hy, z⟩
      exact ⟨y, List.mem_append_left _ hy, z⟩
    · rintro ⟨y, hy, z⟩
      rcases List.mem_append.mp hy with hy | hy
      · exact ⟨y, hy, z⟩
      · rw [List.mem_singleton.mp hy] at z
        rw [inT_t z]
        exact (v.ky _).mp (List.mem_map.mpr ⟨_, hm, rfl⟩)
  · have := v.few
    rw [List.length_append]
    omega
/-- the first letter of its turn -/
theorem VbAt.first {H : Hp} {D l p : Addr} {xs : List Lt} {x : Lt} {kd : Kd} {h : Int} {b : Option Str} {ks : List (Int × Addr)} (v : VbAt H D xs kd h b ks) (c : selV kd h b x = true) (hn : x.m.t ∉ ks.map (·.1))
    (hl : H l = some (.lst [])) (nl : l ∉ ks.map (·.2)) (hx : LtAt H p x) : VbAt (upd (upd H D (.dK (vbK (ks ++ [(x.m.t, l)])))) l (.lst [.ref p])) D (xs ++ [x]) kd h b (ks ++ [(x.m.t, l)]) := by
  have nDl : D ≠ l := ne_dk v.here hl
  have hD2 : (upd H D (.dK (vbK (ks ++ [(x.m.t, l)])))) l = some (.lst []) := by rw [upd_ne nDl.symm]; exact hl
  have lk : ∀ {q : Addr} {y : Lt}, LtAt H q y → LtAt (upd (upd H D (.dK (vbK (ks ++ [(x.m.t, l)])))) l (.lst [.ref p])) q y := fun {q y} hy => by
    refine LtAt.upd ?_ hD2
    obtain ⟨r, h1, h2⟩ := hy
    have h2' : H r = some (.tup y.m.vals) := h2
    refine ⟨r, by rw [upd_ne (fun z => by rw [z, v.here] at h1; cases h1)]; exact h1, ?_⟩
    unfold SmAt
    rw [upd_ne (fun z => by rw [z, v.here] at h2'; cases h2')]
    exact h2
  refine ⟨by rw [upd_ne nDl, upd_same], ?_, ?_, fun e he => ?_, fun t => ?_, ?_⟩
  · rw [List.map_append, List.nodup_append]
    refine ⟨v.nd, by simp, fun a ha y hy e => ?_⟩
    rw [List.map_cons, List.map_nil, List.mem_singleton] at hy
    rw [e, hy] at ha
    exact hn ha
  · rw [List.map_append, List.nodup_append]
    refine ⟨v.nl, by simp, fun a ha y hy e => ?_⟩
    rw [List.map_cons, List.map_nil, List.mem_singleton] at hy
    rw [e, hy] at ha
    exact nl ha
  · rcases List.mem_append.mp he with he | he
    · obtain ⟨rs, h1, h2⟩ := v.ls e he
      have n2 : e.2 ≠ l := fun z => nl (by rw [← z]; exact List.mem_map.mpr ⟨e, he, rfl⟩)
      refine ⟨rs, by rw [upd_ne n2, upd_ne (ne_dk v.here h1).symm]; exact h1, ?_⟩
      rw [filt_no]
      · exact ⟨h2.1, fun i hi => lk (h2.2 i hi)⟩
      · cases q : inT kd h b e.1 x with
        | false => rfl
        | true => exact absurd (by rw [← inT_t q]; exact List.mem_map.mpr ⟨e, he, rfl⟩) hn
    · rw [List.mem_singleton.mp he]
      refine ⟨[p], by rw [upd_same]; rfl, ?_⟩
      rw [filt_yes (inT_self c)]
      have e0 : xs.filter (inT kd h b x.m.t) = [] := by
        rw [List.filter_eq_nil_iff]
        intro y hy z
        exact hn ((v.ky _).mpr ⟨y, hy, z⟩)
      rw [e0]
      exact LsAt.nil.snoc (lk hx)
  · rw [List.map_append, List.mem_append, v.ky t]
    constructor
    · rintro (⟨y, hy, z⟩ | z)
      · exact ⟨y, List.mem_append_left _ hy, z⟩
      · rw [List.map_cons, List.map_nil, List.mem_singleton] at z
        exact ⟨x, List.mem_append_right _ (List.mem_singleton.mpr rfl), by rw [z]; exact inT_self c⟩
    · rintro ⟨y, hy, z⟩
      rcases List.mem_append.mp hy with hy | hy
      · exact .inl ⟨y, hy, z⟩
      · rw [List.mem_singleton.mp hy] at z
        exact .inr (by rw [inT_t z]; exact List.mem_singleton.mpr rfl)
  · have := v.few
    rw [List.length_append, List.length_append]
    simp
    omega
def spVbt (K : PySem.W.Frag) : Sp := fun vs H Q _ => ∃ (l : Addr) (ps : List Addr) (xs : List Lt) (kd : Kd) (h : Int) (b : Option Str), vs = [.ref l, .str kd.s, .int h, oS b] ∧ H l = some (.lst (ps.map V.ref)) ∧ LsAt H ps xs ∧ xs.length ≤ 900 ∧
  ∀ (D : Addr) (ks : List (Int × Addr)) H', Same H H' → VbAt H' D xs kd h b ks → Q (.ref D) H'
/-- a dict of turns -/
def tru (L : List Int) : List (Key × V) := L.map fun t => (Sum.inl t, V.bl true)
theorem val_tru {t : Int} : ∀ {L : List Int}, (valV (tru L) (Sum.inl t)).isSome = decide (t ∈ L)
  | [] => by simp [tru, valV]
  | e :: L => by
    have ih := val_tru (t := t) (L := L)
    by_cases c : e = t
    · rw [show valV (tru (e :: L)) (Sum.inl t) = some (.bl true) from valV_pos (p := (Sum.inl e, V.bl true)) (by rw [c])]
      simp [c]
    · rw [show valV (tru (e :: L)) (Sum.inl t) = valV (tru L) (Sum.inl t) from valV_neg (p := (Sum.inl e, V.bl true)) (fun z => c (Sum.inl.inj z)), ih]
      exact decide_eq_decide.mpr ⟨fun m => List.mem_cons_of_mem _ m, fun m => (List.mem_cons.mp m).resolve_left fun z => c z.symm⟩
def cntL (m : Sm) (L : List Int) : Bool := match m.l with | none => true | some l => decide (l < m.t) && decide (l ∈ L)
def spCounts (K : PySem.W.Frag) : Sp := fun vs H Q _ => ∃ (p D : Addr) (m : Sm) (L : List Int), vs = [.ref p, .ref D] ∧ SmAt H p m ∧ m.k = .pre ∧ H D = some (.dK (tru L)) ∧ ∀ H', Same H H' → Q (.bl (cntL m L)) H'
def TB (xs : List Lt) : Prop := ∀ x ∈ xs, 0 ≤ x.m.t ∧ x.m.t < 60
def ctL (ws : List Int) (xs : List Lt) (h : Int) (b : Option Str) : List Int := match b with | none => [] | some _ => lns ws xs h b 60
def spCts (K : PySem.W.Frag) (C : Addr) : Sp := fun vs H Q _ => ∃ (c l : Addr) (ws : List Int) (ps : List Addr) (xs : List Lt) (h : Int) (b : Option Str), vs = [.ref c, .ref l, .int h, oS b] ∧ CommAt C H c ws ∧ GoodW ws ∧ H l = some (.lst (ps.map V.ref)) ∧ LsAt H ps xs ∧ xs.length ≤ 900 ∧ TB xs ∧
  ∀ (R : Addr) H', Same H H' → H R = none → H' R = some (.lst ((ctL ws xs h b).map V.int)) → Q (.ref R) H'
def cmL (ws : List Int) (xs : List Lt) (h : Int) (b : Option Str) : List Int := (ctL ws xs h b).filter fun t => qrm ws (comS xs h t b)
def spCms (K : PySem.W.Frag) (C : Addr) : Sp := fun vs H Q _ => ∃ (c l : Addr) (ws : List Int) (ps : List Addr) (xs : List Lt) (h : Int) (b : Option Str), vs = [.ref c, .ref l, .int h, oS b] ∧ CommAt C H c ws ∧ GoodW ws ∧ H l = some (.lst (ps.map V.ref)) ∧ LsAt H ps xs ∧ xs.length ≤ 900 ∧ TB xs ∧
  ∀ (R : Addr) H', Same H H' → H R = none → H' R = some (.lst ((cmL ws xs h b).map V.int)) → Q (.ref R) H'
theorem mem_lnsI {ws : List Int} {xs : List Lt} {h : Int} {b : Option Str} (t : Int) : ∀ n, t ∈ lns ws xs h b n ↔ 0 ≤ t ∧ t < n ∧ certM ws xs h b t.toNat = true
  | 0 => by
    simp [lns]
    omega
  | n + 1 => by
    have ih := mem_lnsI (ws := ws) (xs := xs) (h := h) (b := b) t n
    by_cases c : certM ws xs h b n = true
    · rw [lns_yes c, List.mem_append, ih, List.mem_singleton]
      constructor
      · rintro (⟨h1, h2, h3⟩ | z)
        · exact ⟨h1, by omega, h3⟩
        · rw [z]
          exact ⟨by omega, by omega, by rw [Int.toNat_natCast]; exact c⟩
      · rintro ⟨h1, h2, h3⟩
        rcases Int.lt_or_le t n with z | z
        · exact .inl ⟨h1, z, h3⟩
        · exact .inr (by omega)
    · rw [lns_no c, ih]
      constructor
      · rintro ⟨h1, h2, h3⟩
        exact ⟨h1, by omega, h3⟩
      · rintro ⟨h1, h2, h3⟩
        refine ⟨h1, ?_, h3⟩
        rcases Int.lt_or_le t n with z | z
        · exact z
        · have e : t.toNat = n := by omega
          rw [e] at h3
          exact absurd h3 c
theorem lns_gap {ws : List Int} {xs : List Lt} {h : Int} {b : Option Str} {a : Nat} : ∀ d, (∀ n, a ≤ n → n < a + d → certM ws xs h b n = false) → lns ws xs h b (a + d) = lns ws xs h b a
  | 0, _ => rfl
  | d + 1, z => by
    have := lns_gap d fun n h1 h2 => z n h1 (by omega)
    rw [← this]
    exact lns_no (n := a + d) (fun y => Bool.false_ne_true ((z (a + d) (by omega) (by omega)).symm.trans y))
theorem wt_none (ws : List Int) : ∀ n, wt ws (fun k => decide (k ∈ ([] : List Int))) n = 0
  | 0 => rfl
  | n + 1 => by
    rw [wt_succ, wt_none ws n]
    simp
theorem good_sum : ∀ {ws : List Int}, (∀ w ∈ ws, 1 ≤ w) → 0 < ws.length → 0 < ws.sum
  | [], _, h => absurd h (Nat.lt_irrefl 0)
  | [w], g, _ => by
    have := g w List.mem_cons_self
    simp
    omega
  | w :: v :: ws, g, _ => by
    have h1 := g w List.mem_cons_self
    have h2 := good_sum (ws := v :: ws) (fun x hx => g x (List.mem_cons_of_mem _ hx)) (by simp)
    rw [List.sum_cons]
    omega
theorem GoodW.sum {ws : List Int} (g : GoodW ws) : 0 < ws.sum := good_sum (fun w hw => (g.2.2 w hw).1) g.1
theorem qrm_nil {ws : List Int} (g : GoodW ws) : qrm ws [] = false := by
  unfold qrm wOf
  rw [wt_none]
  have := g.sum
  exact decide_eq_false (by omega)
theorem cnt_inT {h t : Int} {b : Option Str} {L : List Int} {x : Lt} (nb : b ≠ none) : cnt h t b L x = (inT .pre h b t x && cntL x.m L) := by
  unfold cnt inT selV cntL
  by_cases c : x.m.k = .pre ∧ x.m.h = h ∧ x.m.t = t ∧ x.m.b = b
  · obtain ⟨c1, c2, c3, c4⟩ := c
    simp only [c1, c2, c3, c4, nb, ne_eq, not_false_eq_true, and_self, decide_true, Bool.true_and]
    cases x.m.l with
    | none => rfl
    | some l => exact Bool.and_comm _ _
  · rw [decide_eq_false c, Bool.false_and]
    symm
    rw [Bool.and_eq_false_iff]
    left
    rw [Bool.and_eq_false_iff]
    by_cases c3 : x.m.t = t
    · left
      exact decide_eq_false fun z => c ⟨z.2.1, z.2.2.1, c3, z.2.2.2⟩
    · right
      exact decide_eq_false c3
theorem mem_inT {xs : List Lt} {h t : Int} {b : Option Str} {L : List Int} (nb : b ≠ none) : memM xs h t b L = ((xs.filter (inT .pre h b t)).filter fun x => cntL x.m L).map Lt.w := by
  unfold memM
  rw [List.filter_filter]
  congr 1
  refine List.filter_congr fun x _ => ?_
  rw [cnt_inT nb, Bool.and_comm]
theorem com_inT {xs : List Lt} {h t : Int} {b : Option Str} (nb : b ≠ none) : comS xs h t b = (xs.filter (inT .com h b t)).map Lt.w := by
  unfold comS
  congr 1
  refine List.filter_congr fun x _ => ?_
  unfold inT selV
  rw [Bool.eq_iff_iff, Bool.and_eq_true_iff, decide_eq_true_iff, decide_eq_true_iff, decide_eq_true_iff]
  exact ⟨fun ⟨z1, z2, z3, z4⟩ => ⟨⟨nb, z1, z2, z4⟩, z3⟩, fun ⟨⟨_, z1, z2, z4⟩, z3⟩ => ⟨z1, z2, z3, z4⟩⟩
/-- no prevote in a turn: no certificate -/
theorem cert_none {ws : List Int} {xs : List Lt} {h : Int} {b : Option Str} {n : Nat} (g : GoodW ws) (nb : b ≠ none) (z : ¬ ∃ x ∈ xs, inT .pre h b (n : Int) x = true) : certM ws xs h b n = false := by
  unfold certM
  rw [mem_inT nb]
  have e : xs.filter (inT .pre h b (n : Int)) = [] := List.filter_eq_nil_iff.mpr fun x hx y => z ⟨x, hx, y⟩
  rw [e]
  exact qrm_nil g
theorem nodup_few : ∀ (n : Nat) {L : List Int}, L.Nodup → (∀ t ∈ L, 0 ≤ t ∧ t < n) → L.length ≤ n
  | 0, [], _, _ => Nat.le_refl _
  | 0, t :: L, _, h => by
    have := h t List.mem_cons_self
    omega
  | n + 1, L, nd, h => by
    by_cases c : (n : Int) ∈ L
    · have l1 := List.length_erase_of_mem c
      have ih := nodup_few n (nd.erase (n : Int)) fun t ht => by
        have h2 := (nd.mem_erase_iff).mp ht
        have h3 := h t h2.2
        have h4 := h2.1
        omega
      omega
    · have := nodup_few n nd fun t ht => by
        have h3 := h t ht
        have h4 : t ≠ (n : Int) := fun z => c (z ▸ ht)
        omega
      omega
theorem tru_snoc (L : List Int) (t : Int) : tru (L ++ [t]) = tru L ++ [(Sum.inl t, V.bl true)] := by simp [tru]
theorem take_len {α : Type} (xs : List α) : xs.take xs.length = xs := List.take_length
theorem srt_lt {ts : List Int} (pw : ts.Pairwise (· ≤ ·)) (nd : ts.Nodup) {i j : Nat} (h : i < j) (hj : j < ts.length) : ts.getD i 0 < ts.getD j 0 := by
  have hi : i < ts.length := by omega
  have e1 : ts.getD i 0 = ts[i] := by rw [List.getD_eq_getElem?_getD, List.getElem?_eq_getElem hi]; rfl
  have e2 : ts.getD j 0 = ts[j] := by rw [List.getD_eq_getElem?_getD, List.getElem?_eq_getElem hj]; rfl
  rw [e1, e2]
  have h1 := List.pairwise_iff_getElem.mp pw i j hi hj h
  have h2 := List.pairwise_iff_getElem.mp nd i j hi hj h
  omega
/-- behind the turn before the place i -/
def nxt (ts : List Int) : Nat → Nat
  | 0 => 0
  | i + 1 => (ts.getD i 0 + 1).toNat
theorem gap_gen {ws : List Int} {xs : List Lt} {h : Int} {b : Option Str} {ts : List Int} (g : GoodW ws) (nb : b ≠ none) (ky : ∀ t : Int, t ∈ ts ↔ ∃ x ∈ xs, inT .pre h b t x = true) (pw : ts.Pairwise (· ≤ ·)) (nd : ts.Nodup)
    {i m : Nat} (hi : i ≤ ts.length) (le : nxt ts i ≤ m) (up : ∀ j, i ≤ j → j < ts.length → (m : Int) ≤ ts.getD j 0) : lns ws xs h b m = lns ws xs h b (nxt ts i) := by
  obtain ⟨d, rfl⟩ : ∃ d, m = nxt ts i + d := ⟨m - nxt ts i, by omega⟩
  refine lns_gap d fun n h1 h2 => cert_none g nb fun ex => ?_
  obtain ⟨j, hj, ej⟩ := List.getElem_of_mem ((ky n).mpr ex)
  have ej2 : ts.getD j 0 = (n : Int) := by rw [List.getD_eq_getElem?_getD, List.getElem?_eq_getElem hj]; exact ej
  rcases Nat.lt_or_ge j i with z | z
  · cases i with
    | zero => omega
    | succ k =>
      have h3 : ts.getD j 0 ≤ ts.getD k 0 := by
        rcases Nat.lt_or_ge j k with y | y
        · have := srt_lt pw nd y (by omega)
          omega
        · have : j = k := by omega
          rw [this]
          exact Int.le_refl _
      have h4 : nxt ts (k + 1) = (ts.getD k 0 + 1).toNat := rfl
      omega
  · have := up j z hj
    omega
theorem inT_some {kd : Kd} {h t : Int} {b : Option Str} {x : Lt} (c : inT kd h b t x = true) : b ≠ none ∧ x.m.k = kd := by
  unfold inT selV at c
  have := of_decide_eq_true (Bool.and_eq_true_iff.mp c).1
  exact ⟨this.1, this.2.1⟩
theorem filt_mem {xs : List Lt} {p : Lt → Bool} {i : Nat} (h : i < (xs.filter p).length) : (xs.filter p).getD i default ∈ xs ∧ p ((xs.filter p).getD i default) = true := List.mem_filter.mp (getD_mem2 h)

/-! ### pairs of a turn and a block -/
abbrev Pr := Int × Option Str
def prV (q : Pr) : List V := [.int q.1, oS q.2]
def PrAt (H : Hp) (p : Addr) (q : Pr) : Prop := H p = some (.tup (prV q))
def PsAt (H : Hp) (ps : List Addr) (qs : List Pr) : Prop := ps.length = qs.length ∧ ∀ i, i < qs.length → PrAt H (ps.getD i 0) (qs.getD i default)
theorem PsAt.nil {H : Hp} : PsAt H [] [] := ⟨rfl, fun i h => absurd h (Nat.not_lt_zero i)⟩
theorem PsAt.same {H H' : Hp} {ps : List Addr} {qs : List Pr} (h : PsAt H ps qs) (s : Same H H') : PsAt H' ps qs := ⟨h.1, fun i hi => s _ _ (h.2 i hi)⟩
theorem PsAt.app {H : Hp} {ps rs : List Addr} {xs ys : List Pr} (h : PsAt H ps xs) (e : PsAt H rs ys) : PsAt H (ps ++ rs) (xs ++ ys) := by
  refine ⟨by rw [List.length_append, List.length_append, h.1, e.1], fun i hi => ?_⟩
  rw [List.length_append] at hi
  rcases Nat.lt_or_ge i xs.length with z | z
  · rw [getD_left (by rw [h.1]; exact z), getD_left z]
    exact h.2 i z
  · have z' : ps.length ≤ i := by rw [h.1]; exact z
    rw [List.getD_eq_getElem?_getD, List.getD_eq_getElem?_getD, List.getElem?_append_right z', List.getElem?_append_right z, ← List.getD_eq_getElem?_getD, ← List.getD_eq_getElem?_getD, h.1]
    exact e.2 _ (by omega)
theorem PsAt.one {H : Hp} {p : Addr} {q : Pr} (e : PrAt H p q) : PsAt H [p] [q] := ⟨rfl, fun i hi => by
  have : i = 0 := by simp at hi; omega
  subst this
  exact e⟩
theorem PsAt.cons {H : Hp} {p : Addr} {ps : List Addr} {q : Pr} {qs : List Pr} (h : PsAt H (p :: ps) (q :: qs)) : PrAt H p q ∧ PsAt H ps qs :=
  ⟨h.2 0 (Nat.succ_pos _), Nat.succ.inj h.1, fun i hi => h.2 (i + 1) (Nat.succ_lt_succ hi)⟩
theorem PsAt.updM {H : Hp} {ps : List Addr} {qs : List Pr} {l : Addr} {o : HO} (h : PsAt H ps qs) (hl : ∀ ys, H l ≠ some (.tup ys)) : PsAt (_root_.L2.upd H l o) ps qs := ⟨h.1, fun i hi => by
  have e : H (ps.getD i 0) = some (.tup (prV (qs.getD i default))) := h.2 i hi
  unfold PrAt
  rw [upd_ne fun z => hl _ (z ▸ e)]
  exact e⟩
def prD (q : Pr) : PyData := .tuple [.int q.1, (match q.2 with | none => .none | some x => .str x)]
theorem dp_pr {K : PySem.W.Frag} {H : Hp} {p : Addr} {q : Pr} (h : PrAt H p q) : Dp K H (.ref p) (prD q) := .tup (SqT.of h) (.cons (.int _) (.cons (dp_oS q.2) .nil))
theorem dp_prs {K : PySem.W.Frag} {H : Hp} : ∀ {ps : List Addr} {qs : List Pr}, PsAt H ps qs → DpAll K H (ps.map V.ref) (qs.map prD)
  | [], [], _ => .nil
  | p :: ps, q :: qs, h => .cons (dp_pr h.cons.1) (dp_prs h.cons.2)
  | [], q :: qs, h => nomatch h.1
  | p :: ps, [], h => nomatch h.1
theorem lay_pr {q : Pr} (o : OkS q.2) : PyData.canLay0 (prD q) = true := by
  obtain ⟨t, b⟩ := q
  cases b with
  | none => simp [prD, PyData.canLay0, PyData.canLayAll0]
  | some x =>
    have := o x rfl
    simp [prD, PyData.canLay0, PyData.canLayAll0, this]
theorem depth_pr (q : Pr) : PyData.depth (prD q) = 1 := by
  obtain ⟨t, b⟩ := q
  cases b <;> simp [prD, PyData.depth, PyData.depthAll]
theorem shaped_pr {q : Pr} (o : OkS q.2) : SeqAt.shaped (prD q) = true := by
  unfold SeqAt.shaped
  rw [lay_pr o, depth_pr]
  rfl
def OkP (qs : List Pr) : Prop := ∀ q ∈ qs, OkS q.2
theorem OkP.app {xs ys : List Pr} (h : OkP xs) (g : OkP ys) : OkP (xs ++ ys) := fun y hy => (List.mem_append.mp hy).elim (h y) (g y)
theorem lay_prs : ∀ {qs : List Pr}, OkP qs → PyData.canLayAll0 (qs.map prD) = true
  | [], _ => by simp [PyData.canLayAll0]
  | q :: qs, o => by
    simp only [List.map_cons, PyData.canLayAll0]
    rw [lay_pr (o q List.mem_cons_self), lay_prs fun y hy => o y (List.mem_cons_of_mem _ hy)]
    rfl
theorem depth_prs : ∀ qs : List Pr, PyData.depthAll (qs.map prD) ≤ 1
  | [] => by simp [PyData.depthAll]
  | q :: qs => by
    have := depth_prs qs
    have h := depth_pr q
    simp only [List.map_cons, PyData.depthAll, h]
    omega
theorem shaped_prs {qs : List Pr} (o : OkP qs) : SeqAt.shaped (.list (qs.map prD)) = true := by
  have h := depth_prs qs
  unfold SeqAt.shaped
  have e : PyData.depth (.list (qs.map prD)) = PyData.depthAll (qs.map prD) + 1 := by simp only [PyData.depth]
  have l : PyData.canLay0 (.list (qs.map prD)) = true := by simp only [PyData.canLay0, lay_prs o]
  rw [l, e, decide_eq_true (show PyData.depthAll (qs.map prD) + 1 ≤ 64 by omega)]
  rfl
theorem eqv_prs {qs : List Pr} (o : OkP qs) : PyData.eqv (.list (qs.map prD)) (.list (qs.map prD)) = true := SeqAt.eqv_refl _ (by
  simp only [PyData.canLay0, lay_prs o])
theorem eqv_pr (q r : Pr) : PyData.eqv (prD q) (prD r) = decide (q = r) := by
  obtain ⟨t, b⟩ := q
  obtain ⟨u, c⟩ := r
  rw [Bool.eq_iff_iff, decide_eq_true_eq]
  cases b <;> cases c <;> simp [prD, PyData.eqv, PyData.eqvAll]
theorem any_pr (qs : List Pr) (q : Pr) : ((qs.map prD).any fun z => PyData.eqv z (prD q)) = decide (q ∈ qs) := by
  rw [Bool.eq_iff_iff, decide_eq_true_eq, List.any_eq_true]
  constructor
  · rintro ⟨z, hz, e⟩
    obtain ⟨r, hr, rfl⟩ := List.mem_map.mp hz
    rw [eqv_pr, decide_eq_true_eq] at e
    exact e ▸ hr
  · intro h
    exact ⟨_, List.mem_map.mpr ⟨q, h, rfl⟩, by rw [eqv_pr]; simp⟩
theorem any_key (xs : List Lt) (x : Lt) : ((xs.map Lt.dat).any fun z => PyData.eqv z x.dat) = decide (ltKey x ∈ xs.map ltKey) := by
  rw [Bool.eq_iff_iff, decide_eq_true_eq, List.any_eq_true, List.mem_map]
  constructor
  · rintro ⟨z, hz, e⟩
    obtain ⟨r, hr, rfl⟩ := List.mem_map.mp hz
    rw [key_eqv, decide_eq_true_eq] at e
    exact ⟨r, hr, e⟩
  · rintro ⟨y, hy, e⟩
    exact ⟨_, List.mem_map.mpr ⟨y, hy, rfl⟩, by rw [key_eqv]; simp [e]⟩
/-- the pairs of the turns and b that are not among cs -/
def miss (ts : List Int) (b : Option Str) (cs : List Pr) : List Pr := (ts.filter fun t => decide ((t, b) ∉ cs)).map fun t => (t, b)
theorem miss_yes {ts : List Int} {b : Option Str} {cs : List Pr} {i : Nat} (hi : i < ts.length) (c : (ts.getD i default, b) ∉ cs) : miss (ts.take (i + 1)) b cs = miss (ts.take i) b cs ++ [(ts.getD i default, b)] := by
  unfold miss
  rw [take_succ_getD (d := default) hi, List.filter_append, List.map_append]
  have e : [ts.getD i default].filter (fun t => decide ((t, b) ∉ cs)) = [ts.getD i default] := by rw [List.filter_cons_of_pos (p := fun t => decide ((t, b) ∉ cs)) (decide_eq_true c)]; rfl
  rw [e]
  rfl
theorem miss_no {ts : List Int} {b : Option Str} {cs : List Pr} {i : Nat} (hi : i < ts.length) (c : ¬ (ts.getD i default, b) ∉ cs) : miss (ts.take (i + 1)) b cs = miss (ts.take i) b cs := by
  unfold miss
  rw [take_succ_getD (d := default) hi, List.filter_append, List.map_append]
  have e : [ts.getD i default].filter (fun t => decide ((t, b) ∉ cs)) = [] := by rw [List.filter_cons_of_neg (by simpa using c)]; rfl
  rw [e]
  exact List.append_nil _
theorem miss_len (ts : List Int) (b : Option Str) (cs : List Pr) : (miss ts b cs).length ≤ ts.length := by
  unfold miss
  rw [List.length_map]
  exact List.length_filter_le _ _
theorem miss_ok {ts : List Int} {b : Option Str} {cs : List Pr} (o : OkS b) : OkP (miss ts b cs) := fun q hq => by
  unfold miss at hq
  obtain ⟨t, _, rfl⟩ := List.mem_map.mp hq
  exact o
theorem mem_miss {ts : List Int} {b : Option Str} {cs : List Pr} (q : Pr) : q ∈ miss ts b cs ↔ q.2 = b ∧ q.1 ∈ ts ∧ q ∉ cs := by
  unfold miss
  rw [List.mem_map]
  constructor
  · rintro ⟨t, ht, rfl⟩
    rw [List.mem_filter, decide_eq_true_eq] at ht
    exact ⟨rfl, ht.1, ht.2⟩
  · rintro ⟨rfl, h1, h2⟩
    exact ⟨q.1, List.mem_filter.mpr ⟨h1, decide_eq_true h2⟩, rfl⟩
/-! ### a book as it stands -/
def inB (b : Option Str) (xs : List Lt) : List Lt := xs.filter fun x => decide (x.m.b = b)
def bfs (c : Addr) (h : Int) (Lc Lm Dk Db : Addr) : List (Str × V) := putF "_by_block" (.ref Db) (putF "_kept" (.ref Dk) (putF "commits" (.ref Lm) (putF "certificates" (.ref Lc) (putF "height" (.int h) (putF "committee" (.ref c) [])))))
theorem bf_ne : ¬ (("committee" : Str) = "height") ∧ ¬ (("committee" : Str) = "certificates") ∧ ¬ (("committee" : Str) = "commits") ∧ ¬ (("committee" : Str) = "_kept") ∧ ¬ (("committee" : Str) = "_by_block") ∧ ¬ (("height" : Str) = "certificates") ∧ ¬ (("height" : Str) = "commits") ∧ ¬ (("height" : Str) = "_kept") ∧ ¬ (("height" : Str) = "_by_block") ∧
    ¬ (("certificates" : Str) = "commits") ∧ ¬ (("certificates" : Str) = "_kept") ∧ ¬ (("certificates" : Str) = "_by_block") ∧ ¬ (("commits" : Str) = "_kept") ∧ ¬ (("commits" : Str) = "_by_block") ∧ ¬ (("_kept" : Str) = "_by_block") := by decide +kernel
theorem bfs_co (c : Addr) (h : Int) (Lc Lm Dk Db : Addr) : (bfs c h Lc Lm Dk Db).lookup ("committee" : Str) = some (.ref c) := by
  obtain ⟨a1, a2, a3, a4, a5, _⟩ := bf_ne
  unfold bfs
  rw [lookup_putF, if_neg a5, lookup_putF, if_neg a4, lookup_putF, if_neg a3, lookup_putF, if_neg a2, lookup_putF, if_neg a1, lookup_putF, if_pos rfl]
theorem bfs_h (c : Addr) (h : Int) (Lc Lm Dk Db : Addr) : (bfs c h Lc Lm Dk Db).lookup ("height" : Str) = some (.int h) := by
  obtain ⟨_, _, _, _, _, a2, a3, a4, a5, _⟩ := bf_ne
  unfold bfs
  rw [lookup_putF, if_neg a5, lookup_putF, if_neg a4, lookup_putF, if_neg a3, lookup_putF, if_neg a2, lookup_putF, if_pos rfl]
theorem bfs_ce (c : Addr) (h : Int) (Lc Lm Dk Db : Addr) : (bfs c h Lc Lm Dk Db).lookup ("certificates" : Str) = some (.ref Lc) := by
  obtain ⟨_, _, _, _, _, _, _, _, _, a3, a4, a5, _⟩ := bf_ne
  unfold bfs
  rw [lookup_putF, if_neg a5, lookup_putF, if_neg a4, lookup_putF, if_neg a3, lookup_putF, if_pos rfl]
theorem bfs_cm (c : Addr) (h : Int) (Lc Lm Dk Db : Addr) : (bfs c h Lc Lm Dk Db).lookup ("commits" : Str) = some (.ref Lm) := by
  obtain ⟨_, _, _, _, _, _, _, _, _, _, _, _, a4, a5, _⟩ := bf_ne
  unfold bfs
  rw [lookup_putF, if_neg a5, lookup_putF, if_neg a4, lookup_putF, if_pos rfl]
theorem bfs_k (c : Addr) (h : Int) (Lc Lm Dk Db : Addr) : (bfs c h Lc Lm Dk Db).lookup ("_kept" : Str) = some (.ref Dk) := by
  obtain ⟨_, _, _, _, _, _, _, _, _, _, _, _, _, _, a5⟩ := bf_ne
  unfold bfs
  rw [lookup_putF, if_neg a5, lookup_putF, if_pos rfl]
theorem bfs_b (c : Addr) (h : Int) (Lc Lm Dk Db : Addr) : (bfs c h Lc Lm Dk Db).lookup ("_by_block" : Str) = some (.ref Db) := by
  unfold bfs
  rw [lookup_putF, if_pos rfl]
theorem bfs_no (c : Addr) (h : Int) (Lc Lm Dk Db : Addr) {m : Str} (h1 : ¬ m = "committee") (h2 : ¬ m = "height") (h3 : ¬ m = "certificates") (h4 : ¬ m = "commits") (h5 : ¬ m = "_kept") (h6 : ¬ m = "_by_block") : (bfs c h Lc Lm Dk Db).lookup m = none := by
  unfold bfs
  rw [lookup_putF, if_neg h6, lookup_putF, if_neg h5, lookup_putF, if_neg h4, lookup_putF, if_neg h3, lookup_putF, if_neg h2, lookup_putF, if_neg h1]
  rfl
/-- all but what stands at S stays -/
def Keeps (S : List Addr) (H H' : Hp) : Prop := ∀ b o, b ∉ S → H b = some o → H' b = some o
theorem Keeps.refl (S : List Addr) (H : Hp) : Keeps S H H := fun _ _ _ e => e
theorem Keeps.of {S : List Addr} {H H' : Hp} (s : Same H H') : Keeps S H H' := fun b o _ e => s b o e
theorem Keeps.trans {S : List Addr} {H H1 H2 : Hp} (k : Keeps S H H1) (k' : Keeps S H1 H2) : Keeps S H H2 := fun b o n e => k' b o n (k b o n e)
theorem Keeps.mono {S T : List Addr} {H H1 : Hp} (k : Keeps S H H1) (h : ∀ x ∈ S, x ∈ T) : Keeps T H H1 := fun b o n e => k b o (fun z => n (h b z)) e
theorem keeps_upd {S : List Addr} {H : Hp} {l : Addr} {o : HO} (h : l ∈ S) : Keeps S H (_root_.L2.upd H l o) := fun b u n e => by
  rw [upd_ne fun z => n (by rw [z]; exact h)]
  exact e
/-- what a book holds -/
structure Bk where
  c : Addr
  h : Int
  Lc : Addr
  Lm : Addr
  Dk : Addr
  Db : Addr
  ws : List Int
  ps : List Addr
  xs : List Lt
  kvs : List (Option Str × Addr)
  qc : List Addr
  cs : List Pr
  qm : List Addr
  ms : List Pr
def Bk.S (B : Bk) : List Addr := B.Lc :: B.Lm :: B.Dk :: B.Db :: B.kvs.map (·.2)
structure BookAt (P : Program) (w : World) (CB CC : Addr) (H : Hp) (bk : Addr) (B : Bk) : Prop where
  obj : ∃ dx, H bk = some (.ins CB dx (bfs B.c B.h B.Lc B.Lm B.Dk B.Db))
  com : CommAt CC H B.c B.ws
  gw : GoodW B.ws
  kept : NdAt w H B.Dk B.ps B.xs
  byb : OdAt P w H B.Db B.kvs
  lc : H B.Lc = some (.lst (B.qc.map V.ref))
  pc : PsAt H B.qc B.cs
  lm : H B.Lm = some (.lst (B.qm.map V.ref))
  pm : PsAt H B.qm B.ms
  rows : ∀ e ∈ B.kvs, ∃ ls, H e.2 = some (.lst (ls.map V.ref)) ∧ LsAt H ls (inB e.1 B.xs)
  non : ∀ b, odGet B.kvs b = none → inB b B.xs = []
  nk : (B.kvs.map (·.1)).Nodup
  nl : (B.Lc :: B.Lm :: B.kvs.map (·.2)).Nodup
  nd : B.Dk ≠ B.Db
  kl : B.kvs.length ≤ B.xs.length
  tb : TB B.xs
  okx : OkL B.xs
  okc : OkP B.cs
  okm : OkP B.ms
theorem odGet_mem {kvs : List (Option Str × Addr)} {b : Option Str} {a : Addr} (h : odGet kvs b = some a) : (b, a) ∈ kvs := by
  unfold odGet at h
  rw [Option.map_eq_some_iff] at h
  obtain ⟨q, h1, h2⟩ := h
  have e := List.find?_some h1
  have m := List.mem_of_find?_eq_some h1
  have e : q.1 = b := of_decide_eq_true e
  rw [← e, ← h2]
  exact m
theorem nodup_fstO {ks : List (Option Str × Addr)} {e f : Option Str × Addr} (nd : (ks.map (·.1)).Nodup) (he : e ∈ ks) (hf : f ∈ ks) (q : e.1 = f.1) : e = f := by
  induction ks with
  | nil => cases he
  | cons g ks ih =>
    rw [List.map_cons, List.nodup_cons] at nd
    rcases List.mem_cons.mp he with h1 | h1 <;> rcases List.mem_cons.mp hf with h2 | h2
    · rw [h1, h2]
    · exact absurd (List.mem_map.mpr ⟨f, h2, by rw [← q, h1]⟩) nd.1
    · exact absurd (List.mem_map.mpr ⟨e, h1, by rw [q, h2]⟩) nd.1
    · exact ih nd.2 h1 h2
theorem nodup_sndO {ks : List (Option Str × Addr)} {e f : Option Str × Addr} (nd : (ks.map (·.2)).Nodup) (he : e ∈ ks) (hf : f ∈ ks) (q : e.2 = f.2) : e = f := by
  induction ks with
  | nil => cases he
  | cons g ks ih =>
    rw [List.map_cons, List.nodup_cons] at nd
    rcases List.mem_cons.mp he with h1 | h1 <;> rcases List.mem_cons.mp hf with h2 | h2
    · rw [h1, h2]
    · exact absurd (List.mem_map.mpr ⟨f, h2, by rw [← q, h1]⟩) nd.1
    · exact absurd (List.mem_map.mpr ⟨e, h1, by rw [q, h2]⟩) nd.1
    · exact ih nd.2 h1 h2
theorem refs_inj : ∀ {ps qs : List Addr}, ps.map V.ref = qs.map V.ref → ps = qs
  | [], [], _ => rfl
  | p :: ps, q :: qs, h => by
    rw [List.map_cons, List.map_cons] at h
    injection h with h1 h2
    injection h1 with h1
    rw [h1, refs_inj h2]
  | [], q :: qs, h => by cases h
  | p :: ps, [], h => by cases h
theorem inB_snoc (b : Option Str) (xs : List Lt) (x : Lt) : inB b (xs ++ [x]) = if x.m.b = b then inB b xs ++ [x] else inB b xs := by
  unfold inB
  rw [List.filter_append]
  by_cases c : x.m.b = b <;> simp [c]
section
variable {P : Program} {w : World} {CB CC : Addr} {H H' : Hp} {bk : Addr} {B : Bk}
theorem BookAt.same (N : BookAt P w CB CC H bk B) (s : Same H H') : BookAt P w CB CC H' bk B :=
  { N with obj := N.obj.imp fun _ e => s _ _ e, com := N.com.same s, kept := N.kept.same s, byb := N.byb.same s, lc := s _ _ N.lc, pc := N.pc.same s, lm := s _ _ N.lm, pm := N.pm.same s,
           rows := fun e he => let ⟨ls, h1, h2⟩ := N.rows e he; ⟨ls, s _ _ h1, h2.same s⟩ }
/-- a tuple or an object is none of what changes -/
def Fixed : HO → Prop
  | .tup _ => True
  | .ins _ _ _ => True
  | _ => False
theorem BookAt.notS (N : BookAt P w CB CC H bk B) {p : Addr} {o : HO} (e : H p = some o) (f : Fixed o) : p ∉ B.S := fun m => by
  unfold Bk.S at m
  rcases List.mem_cons.mp m with rfl | m
  · rw [N.lc] at e; cases e; exact f
  rcases List.mem_cons.mp m with rfl | m
  · rw [N.lm] at e; cases e; exact f
  rcases List.mem_cons.mp m with rfl | m
  · rcases N.kept.at_ with ⟨_, a⟩ | a <;> (rw [a] at e; cases e; exact f)
  rcases List.mem_cons.mp m with rfl | m
  · rcases N.byb.at_ with ⟨_, a⟩ | a <;> (rw [a] at e; cases e; exact f)
  obtain ⟨q, hq, rfl⟩ := List.mem_map.mp m
  obtain ⟨ls, a, _⟩ := N.rows q hq
  rw [a] at e; cases e; exact f
theorem PsAt.keeps {S : List Addr} {ps : List Addr} {qs : List Pr} (h : PsAt H ps qs) (k : Keeps S H H') (n : ∀ p ys, H p = some (.tup ys) → p ∉ S) : PsAt H' ps qs := ⟨h.1, fun i hi => k _ _ (n _ _ (h.2 i hi)) (h.2 i hi)⟩
theorem LtAt.keeps {S : List Addr} {p : Addr} {x : Lt} (h : LtAt H p x) (k : Keeps S H H') (n : ∀ p ys, H p = some (.tup ys) → p ∉ S) : LtAt H' p x := by
  obtain ⟨q, h1, h2⟩ := h
  have h2' : H q = some (.tup x.m.vals) := h2
  exact ⟨q, k _ _ (n _ _ h1) h1, k _ _ (n _ _ h2') h2'⟩
theorem LsAt.keeps {S : List Addr} {ps : List Addr} {xs : List Lt} (h : LsAt H ps xs) (k : Keeps S H H') (n : ∀ p ys, H p = some (.tup ys) → p ∉ S) : LsAt H' ps xs := ⟨h.1, fun i hi => (h.2 i hi).keeps k n⟩
theorem CommAt.keeps {S : List Addr} {p : Addr} {ws : List Int} (h : CommAt CC H p ws) (k : Keeps S H H') (n : ∀ p o, H p = some o → Fixed o → p ∉ S) : CommAt CC H' p ws := by
  obtain ⟨dx, t, h1, h2⟩ := h
  exact ⟨dx, t, k _ _ (n _ _ h1 True.intro) h1, k _ _ (n _ _ h2 True.intro) h2⟩
theorem BookAt.tupS (N : BookAt P w CB CC H bk B) : ∀ p ys, H p = some (.tup ys) → p ∉ B.S := fun _ _ e => N.notS e True.intro
theorem nodup_two {Lc Lm : Addr} {vs : List Addr} (h : (Lc :: Lm :: vs).Nodup) : Lc ≠ Lm ∧ Lc ∉ vs ∧ Lm ∉ vs ∧ vs.Nodup := by
  rw [List.nodup_cons, List.nodup_cons] at h
  exact ⟨fun e => h.1 (e ▸ List.mem_cons_self), fun m => h.1 (List.mem_cons_of_mem _ m), h.2.1, h.2.2⟩
theorem ne_lD {d l : Addr} {xs : List V} {ps : List Addr} {ls : List Lt} (N : NdAt w H d ps ls) (e : H l = some (.lst xs)) : l ≠ d := fun z => by
  rcases N.at_ with ⟨_, a⟩ | a <;> (rw [← z, e] at a; cases a)
theorem ne_lO {d l : Addr} {xs : List V} {kvs : List (Option Str × Addr)} (N : OdAt P w H d kvs) (e : H l = some (.lst xs)) : l ≠ d := fun z => by
  rcases N.at_ with ⟨_, a⟩ | a <;> (rw [← z, e] at a; cases a)
/-- one more letter, its block has a row already -/
theorem BookAt.put1 (N : BookAt P w CB CC H bk B) {p a z : Addr} {x : Lt} {ls : List Addr} (hx : LtAt H p x) (nin : ltKey x ∉ B.xs.map ltKey) (few : B.xs.length + 1 < 1000) (g : odGet B.kvs x.m.b = some a)
    (tx : 0 ≤ x.m.t ∧ x.m.t < 60) (ox : OkS x.m.b) (hz : H z = none) (hl : H a = some (.lst (ls.map V.ref))) :
    BookAt P w CB CC (_root_.L2.upd (_root_.L2.upd (_root_.L2.upd H B.Dk (.ext (ndPhi w B.Dk (B.ps ++ [p]) (B.xs ++ [x])))) z (.lst [])) a (.lst (ls.map V.ref ++ [V.ref p]))) bk { B with ps := B.ps ++ [p], xs := B.xs ++ [x] } := by
  have ma := odGet_mem g
  obtain ⟨n1, n2, n3, n4⟩ := nodup_two N.nl
  have aS : a ∈ B.S := List.mem_cons_of_mem _ (List.mem_cons_of_mem _ (List.mem_cons_of_mem _ (List.mem_cons_of_mem _ (List.mem_map.mpr ⟨_, ma, rfl⟩))))
  have dS : B.Dk ∈ B.S := List.mem_cons_of_mem _ (List.mem_cons_of_mem _ List.mem_cons_self)
  have aD := ne_lD N.kept hl
  have aO := ne_lO N.byb hl
  have zD : B.Dk ≠ z := fun e => by
    rcases N.kept.at_ with ⟨_, q⟩ | q <;> (rw [e, hz] at q; cases q)
  have s2 : Same (_root_.L2.upd H B.Dk (.ext (ndPhi w B.Dk (B.ps ++ [p]) (B.xs ++ [x])))) (_root_.L2.upd (_root_.L2.upd H B.Dk (.ext (ndPhi w B.Dk (B.ps ++ [p]) (B.xs ++ [x])))) z (.lst [])) := same_new (by rw [upd_ne zD.symm]; exact hz)
  have hl2 := s2 _ _ (by rw [upd_ne aD]; exact hl : (_root_.L2.upd H B.Dk (.ext (ndPhi w B.Dk (B.ps ++ [p]) (B.xs ++ [x])))) a = some (.lst (ls.map V.ref)))
  have k1 : Keeps B.S H (_root_.L2.upd H B.Dk (.ext (ndPhi w B.Dk (B.ps ++ [p]) (B.xs ++ [x])))) := keeps_upd dS
  have k : Keeps B.S H (_root_.L2.upd (_root_.L2.upd (_root_.L2.upd H B.Dk (.ext (ndPhi w B.Dk (B.ps ++ [p]) (B.xs ++ [x])))) z (.lst [])) a (.lst (ls.map V.ref ++ [V.ref p]))) := (k1.trans (.of s2)).trans (keeps_upd aS)
  have lst : ∀ l o, l ≠ B.Dk → l ≠ a → H l = some o → (_root_.L2.upd (_root_.L2.upd (_root_.L2.upd H B.Dk (.ext (ndPhi w B.Dk (B.ps ++ [p]) (B.xs ++ [x])))) z (.lst [])) a (.lst (ls.map V.ref ++ [V.ref p]))) l = some o := fun l o d1 d2 e => by
    rw [upd_ne d2]
    exact s2 _ _ (by rw [upd_ne d1]; exact e)
  have cA : B.Lc ≠ a := fun e => n2 (List.mem_map.mpr ⟨_, ma, e.symm⟩)
  have mA : B.Lm ≠ a := fun e => n3 (List.mem_map.mpr ⟨_, ma, e.symm⟩)
  refine { obj := N.obj.imp fun _ e => k _ _ (N.notS e (show Fixed (.ins _ _ _) from True.intro)) e, com := N.com.keeps k fun _ _ => N.notS, gw := N.gw, kept := ?_, byb := ?_, lc := lst _ _ (ne_lD N.kept N.lc) cA N.lc, pc := N.pc.keeps k N.tupS, lm := lst _ _ (ne_lD N.kept N.lm) mA N.lm, pm := N.pm.keeps k N.tupS,
           rows := ?_, non := ?_, nk := N.nk, nl := N.nl, nd := N.nd, kl := Nat.le_trans N.kl (by simp), tb := ?_, okx := ?_, okc := N.okc, okm := N.okm }
  · exact ((N.kept.put hx nin few).same s2).updM (fun ys e => by rw [hl2] at e; cases e) aD.symm
  · exact ((N.byb.updM N.nd.symm).same s2).updM aO.symm
  · intro e he
    show ∃ ls', _ ∧ LsAt _ ls' (inB e.1 (B.xs ++ [x]))
    obtain ⟨le, h1, h2⟩ := N.rows e he
    rw [inB_snoc]
    by_cases c : x.m.b = e.1
    · have ee : e = (x.m.b, a) := by
        have := nodup_fstO N.nk he ma c.symm
        exact this
      rw [if_pos c]
      have e2 : e.2 = a := by rw [ee]
      rw [e2] at h1 ⊢
      rw [hl] at h1
      have el : ls = le := by
        injection h1 with h1
        injection h1 with h1
        exact refs_inj h1
      rw [← el] at h2
      refine ⟨ls ++ [p], by rw [upd_same]; simp, ?_⟩
      exact (h2.snoc hx).keeps k N.tupS
    · rw [if_neg c]
      have e2 : e.2 ≠ a := fun z => by
        have := nodup_sndO n4 he ma z
        rw [this] at c
        exact c rfl
      exact ⟨le, lst _ _ (ne_lD N.kept h1) e2 h1, h2.keeps k N.tupS⟩
  · intro b hb
    show inB b (B.xs ++ [x]) = []
    rw [inB_snoc, if_neg fun e => by
      rw [← e, g] at hb
      cases hb]
    exact N.non b hb
  · intro y hy
    rcases List.mem_append.mp hy with hy | hy
    · exact N.tb y hy
    · rw [List.mem_singleton.mp hy]
      exact tx
  · intro y hy
    rcases List.mem_append.mp hy with hy | hy
    · exact N.okx y hy
    · rw [List.mem_singleton.mp hy]
      exact ox
/-- one more letter, the first of its block: z is its row -/
theorem BookAt.put2 (N : BookAt P w CB CC H bk B) {p z : Addr} {x : Lt} (hx : LtAt H p x) (nin : ltKey x ∉ B.xs.map ltKey) (few : B.xs.length + 1 < 1000) (g : odGet B.kvs x.m.b = none)
    (tx : 0 ≤ x.m.t ∧ x.m.t < 60) (ox : OkS x.m.b) (hz : H z = none) :
    BookAt P w CB CC (_root_.L2.upd (_root_.L2.upd (_root_.L2.upd (_root_.L2.upd H B.Dk (.ext (ndPhi w B.Dk (B.ps ++ [p]) (B.xs ++ [x])))) z (.lst [])) B.Db (.ext (odPhi P w B.Db (B.kvs ++ [(x.m.b, z)])))) z (.lst [V.ref p])) bk
      { B with ps := B.ps ++ [p], xs := B.xs ++ [x], kvs := B.kvs ++ [(x.m.b, z)] } := by
  obtain ⟨n1, n2, n3, n4⟩ := nodup_two N.nl
  have dS : B.Dk ∈ B.S := List.mem_cons_of_mem _ (List.mem_cons_of_mem _ List.mem_cons_self)
  have bS : B.Db ∈ B.S := List.mem_cons_of_mem _ (List.mem_cons_of_mem _ (List.mem_cons_of_mem _ List.mem_cons_self))
  have zD : B.Dk ≠ z := fun e => by
    rcases N.kept.at_ with ⟨_, q⟩ | q <;> (rw [e, hz] at q; cases q)
  have zB : B.Db ≠ z := fun e => by
    rcases N.byb.at_ with ⟨_, q⟩ | q <;> (rw [e, hz] at q; cases q)
  generalize eo1 : HO.ext (ndPhi w B.Dk (B.ps ++ [p]) (B.xs ++ [x])) = o1
  generalize eo2 : HO.ext (odPhi P w B.Db (B.kvs ++ [(x.m.b, z)])) = o2
  have s2 : Same (_root_.L2.upd H B.Dk o1) (_root_.L2.upd (_root_.L2.upd H B.Dk o1) z (.lst [])) := same_new (by rw [upd_ne zD.symm]; exact hz)
  have zl : ∀ l o, H l = some o → l ≠ z := fun l o e q => by rw [q, hz] at e; cases e
  have lst : ∀ l o, l ≠ B.Dk → l ≠ B.Db → H l = some o → (_root_.L2.upd (_root_.L2.upd (_root_.L2.upd (_root_.L2.upd H B.Dk o1) z (.lst [])) B.Db o2) z (.lst [V.ref p])) l = some o := fun l o d1 d2 e => by
    rw [upd_ne (zl l o e), upd_ne d2, upd_ne (zl l o e), upd_ne d1]
    exact e
  have k : Keeps B.S H (_root_.L2.upd (_root_.L2.upd (_root_.L2.upd (_root_.L2.upd H B.Dk o1) z (.lst [])) B.Db o2) z (.lst [V.ref p])) := fun b o n e => lst b o (fun q => n (q ▸ dS)) (fun q => n (q ▸ bS)) e
  have nx := hx.keeps k N.tupS
  refine { obj := N.obj.imp fun _ e => k _ _ (N.notS e (show Fixed (.ins _ _ _) from True.intro)) e, com := N.com.keeps k fun _ _ => N.notS, gw := N.gw, kept := ?_, byb := ?_, lc := lst _ _ (ne_lD N.kept N.lc) (ne_lO N.byb N.lc) N.lc, pc := N.pc.keeps k N.tupS, lm := lst _ _ (ne_lD N.kept N.lm) (ne_lO N.byb N.lm) N.lm, pm := N.pm.keeps k N.tupS,
           rows := ?_, non := ?_, nk := ?_, nl := ?_, nd := N.nd, kl := ?_, tb := ?_, okx := ?_, okc := N.okc, okm := N.okm }
  · have n0 := N.kept.put hx nin few
    rw [eo1] at n0
    have nB : ∀ ys, (_root_.L2.upd (_root_.L2.upd H B.Dk o1) z (.lst [])) B.Db ≠ some (.tup ys) := fun ys e => by
      rw [upd_ne zB, upd_ne N.nd.symm] at e
      exact N.byb.notTup ys e
    refine ((n0.same s2).updM nB N.nd).updM (fun ys e => ?_) zD
    rw [upd_ne zB.symm, upd_same] at e
    cases e
  · rw [← eo2]
    exact (OdAt.put (P := P) (w := w) (by have := N.kl; show B.kvs.length + 1 < 1000; omega)).updM zB
  · intro e he
    show ∃ ls', _ ∧ LsAt _ ls' (inB e.1 (B.xs ++ [x]))
    rw [inB_snoc]
    rcases List.mem_append.mp (show e ∈ B.kvs ++ [(x.m.b, z)] from he) with he | he
    · obtain ⟨le, h1, h2⟩ := N.rows e he
      have c : x.m.b ≠ e.1 := fun q => by
        have : odGet B.kvs e.1 ≠ none := fun hn => by
          unfold odGet at hn
          rw [Option.map_eq_none_iff, List.find?_eq_none] at hn
          exact hn e he (decide_eq_true rfl)
        exact this (q ▸ g)
      rw [if_neg c]
      exact ⟨le, lst _ _ (ne_lD N.kept h1) (ne_lO N.byb h1) h1, h2.keeps k N.tupS⟩
    · rw [List.mem_singleton.mp he]
      rw [if_pos rfl, N.non _ g]
      exact ⟨[p], upd_same, LsAt.nil.snoc nx⟩
  · intro b hb
    show inB b (B.xs ++ [x]) = []
    by_cases c : x.m.b = b
    · subst c
      rw [show odGet (B.kvs ++ [(x.m.b, z)]) x.m.b = some z from odGet_new g] at hb
      cases hb
    · rw [show odGet (B.kvs ++ [(x.m.b, z)]) b = odGet B.kvs b from odGet_other c] at hb
      rw [inB_snoc, if_neg c]
      exact N.non b hb
  · show ((B.kvs ++ [(x.m.b, z)]).map (·.1)).Nodup
    rw [List.map_append]
    refine List.nodup_append.mpr ⟨N.nk, List.pairwise_singleton _ _, fun u hu v hv => ?_⟩
    rw [List.map_singleton, List.mem_singleton] at hv
    subst hv
    rintro rfl
    obtain ⟨e, he, q⟩ := List.mem_map.mp hu
    unfold odGet at g
    rw [Option.map_eq_none_iff, List.find?_eq_none] at g
    exact g e he (decide_eq_true q)
  · show (B.Lc :: B.Lm :: (B.kvs ++ [(x.m.b, z)]).map (·.2)).Nodup
    rw [List.map_append, List.map_singleton]
    have zr : z ∉ B.kvs.map (·.2) := fun m => by
      obtain ⟨e, he, q⟩ := List.mem_map.mp m
      obtain ⟨_, h1, _⟩ := N.rows e he
      exact zl _ _ h1 q
    have zc := zl _ _ N.lc
    have zm := zl _ _ N.lm
    refine List.nodup_cons.mpr ⟨fun m => ?_, List.nodup_cons.mpr ⟨fun m => ?_, List.nodup_append.mpr ⟨n4, List.pairwise_singleton _ _, fun u hu v hv q => zr ?_⟩⟩⟩
    · rcases List.mem_cons.mp m with e | m
      · exact n1 e
      · rcases List.mem_append.mp m with m | m
        · exact n2 m
        · exact zc (List.mem_singleton.mp m)
    · rcases List.mem_append.mp m with m | m
      · exact n3 m
      · exact zm (List.mem_singleton.mp m)
    · rw [← show v = z from List.mem_singleton.mp hv, ← q]
      exact hu
  · show (B.kvs ++ [(x.m.b, z)]).length ≤ (B.xs ++ [x]).length
    have := N.kl
    simp
    exact this
  · intro y hy
    rcases List.mem_append.mp hy with hy | hy
    · exact N.tb y hy
    · rw [List.mem_singleton.mp hy]
      exact tx
  · intro y hy
    rcases List.mem_append.mp hy with hy | hy
    · exact N.okx y hy
    · rw [List.mem_singleton.mp hy]
      exact ox
/-- both lists of pairs grow -/
theorem BookAt.ext (N : BookAt P w CB CC H bk B) {q1 q2 : List Addr} {n1 n2 : List Pr} (h1 : PsAt H q1 n1) (h2 : PsAt H q2 n2) (o1 : OkP n1) (o2 : OkP n2) :
    BookAt P w CB CC (_root_.L2.upd (_root_.L2.upd H B.Lc (.lst (B.qc.map V.ref ++ q1.map V.ref))) B.Lm (.lst (B.qm.map V.ref ++ q2.map V.ref))) bk { B with qc := B.qc ++ q1, cs := B.cs ++ n1, qm := B.qm ++ q2, ms := B.ms ++ n2 } := by
  obtain ⟨d1, d2, d3, d4⟩ := nodup_two N.nl
  have cS : B.Lc ∈ B.S := List.mem_cons_self
  have mS : B.Lm ∈ B.S := List.mem_cons_of_mem _ List.mem_cons_self
  have k : Keeps B.S H (_root_.L2.upd (_root_.L2.upd H B.Lc (.lst (B.qc.map V.ref ++ q1.map V.ref))) B.Lm (.lst (B.qm.map V.ref ++ q2.map V.ref))) := (keeps_upd cS).trans (keeps_upd mS)
  have ntc : ∀ ys, H B.Lc ≠ some (.tup ys) := fun ys e => by rw [N.lc] at e; cases e
  have ntm : ∀ ys, (_root_.L2.upd H B.Lc (.lst (B.qc.map V.ref ++ q1.map V.ref))) B.Lm ≠ some (.tup ys) := fun ys e => by rw [upd_ne d1.symm, N.lm] at e; cases e
  exact { obj := N.obj.imp fun _ e => k _ _ (N.notS e (show Fixed (.ins _ _ _) from True.intro)) e, com := N.com.keeps k fun _ _ => N.notS, gw := N.gw,
          kept := (N.kept.updM ntc (ne_lD N.kept N.lc).symm).updM ntm (ne_lD N.kept N.lm).symm, byb := (N.byb.updM (ne_lO N.byb N.lc).symm).updM (ne_lO N.byb N.lm).symm,
          lc := by
            rw [List.map_append, upd_ne d1, upd_same]
          pc := (N.pc.app h1).keeps k N.tupS
          lm := by
            rw [List.map_append, upd_same]
          pm := (N.pm.app h2).keeps k N.tupS
          rows := fun e he => by
            obtain ⟨ls, a1, a2⟩ := N.rows e he
            have m : e.2 ∈ B.kvs.map (·.2) := List.mem_map.mpr ⟨e, he, rfl⟩
            exact ⟨ls, by rw [upd_ne (show e.2 ≠ B.Lm from fun z => d3 (by rw [← z]; exact m)), upd_ne (show e.2 ≠ B.Lc from fun z => d2 (by rw [← z]; exact m))]; exact a1, a2.keeps k N.tupS⟩
          non := N.non, nk := N.nk, nl := N.nl, nd := N.nd, kl := N.kl, tb := N.tb, okx := N.okx, okc := N.okc.app o1, okm := N.okm.app o2 }
end

/-- x is a vote of a member for the height -/
def bel (ws : List Int) (h : Int) (x : Lt) : Bool := (decide (0 ≤ x.w) && decide (x.w < ws.length)) && (decide (x.m.k ≠ .prop) && decide (x.m.h = h))
def spMissing (K : PySem.W.Frag) : Sp := fun vs H Q _ => ∃ (R L : Addr) (ts : List Int) (b : Option Str) (qs : List Addr) (cs : List Pr), vs = [.ref R, oS b, .ref L] ∧ H R = some (.lst (ts.map V.int)) ∧ H L = some (.lst (qs.map V.ref)) ∧ PsAt H qs cs ∧ OkP cs ∧ OkS b ∧ ts.length ≤ 1000 ∧
  ∀ (D : Addr) (ps : List Addr) H', Same H H' → H D = none → H' D = some (.lst (ps.map V.ref)) → PsAt H' ps (miss ts b cs) → Q (.ref D) H'
def spBI (K : PySem.W.Frag) (CB CC : Addr) : Sp := fun vs H Q _ => ∃ (p dx c : Addr) (h : Int) (ws : List Int), vs = [.ref p, .ref c, .int h] ∧ H p = some (.ins CB dx []) ∧ CommAt CC H c ws ∧ GoodW ws ∧
  ∀ (Lc Lm Dk Db : Addr) (H' : Hp), (∀ P w, BookAt P w CB CC H' p ⟨c, h, Lc, Lm, Dk, Db, ws, [], [], [], [], [], [], []⟩) → H Lc = none → H Lm = none → H Dk = none → H Db = none → (∀ b o, b ≠ p → H b = some o → H' b = some o) → Q .non H'
def spBel (P : Program) (w : World) (K : PySem.W.Frag) (CB CC : Addr) : Sp := fun vs H Q _ => ∃ (bk p : Addr) (B : Bk) (x : Lt), vs = [.ref bk, .ref p] ∧ BookAt P w CB CC H bk B ∧ LtAt H p x ∧ ∀ H', Same H H' → Q (.bl (bel B.ws B.h x)) H'
/-- what the book holds behind a letter -/
def Bk.c' (B : Bk) (b : Option Str) : List Pr := miss (ctL B.ws (inB b B.xs) B.h b) b B.cs
def Bk.m' (B : Bk) (b : Option Str) : List Pr := miss (cmL B.ws (inB b B.xs) B.h b) b B.ms
def spEnter (P : Program) (w : World) (K : PySem.W.Frag) (CB CC : Addr) : Sp := fun vs H Q _ => ∃ (bk : Addr) (B : Bk) (b : Option Str) (a : Addr), vs = [.ref bk, oS b] ∧ BookAt P w CB CC H bk B ∧ odGet B.kvs b = some a ∧ OkS b ∧ B.xs.length ≤ 900 ∧ B.cs.length ≤ 100000 ∧ B.ms.length ≤ 100000 ∧
  ∀ (q1 q2 : List Addr) H', Keeps B.S H H' → BookAt P w CB CC H' bk { B with qc := B.qc ++ q1, cs := B.cs ++ B.c' b, qm := B.qm ++ q2, ms := B.ms ++ B.m' b } → Q .non H'
/-- the book with one more letter -/
def Bk.plus (B : Bk) (p : Addr) (x : Lt) : Bk := { B with ps := B.ps ++ [p], xs := B.xs ++ [x] }
def spAdd (P : Program) (w : World) (K : PySem.W.Frag) (CB CC : Addr) : Sp := fun vs H Q _ => ∃ (bk p : Addr) (B : Bk) (x : Lt), vs = [.ref bk, .ref p] ∧ BookAt P w CB CC H bk B ∧ LtAt H p x ∧ OkS x.m.b ∧ (0 ≤ x.m.t ∧ x.m.t < 60) ∧ B.xs.length < 900 ∧ B.cs.length ≤ 90000 ∧ B.ms.length ≤ 90000 ∧
  ((ltKey x ∈ B.xs.map ltKey ∨ bel B.ws B.h x = false) → ∀ H', Same H H' → Q (.bl false) H') ∧
  (ltKey x ∉ B.xs.map ltKey → bel B.ws B.h x = true → ∀ (kvs : List (Option Str × Addr)) (q1 q2 : List Addr) H', Keeps B.S H H' → (∀ e ∈ kvs, e ∈ B.kvs ∨ H e.2 = none) →
    BookAt P w CB CC H' bk { B.plus p x with kvs := kvs, qc := B.qc ++ q1, cs := B.cs ++ (B.plus p x).c' x.m.b, qm := B.qm ++ q2, ms := B.ms ++ (B.plus p x).m' x.m.b } → Q (.bl true) H')
def spBLet (P : Program) (w : World) (K : PySem.W.Frag) (CB CC : Addr) : Sp := fun vs H Q _ => ∃ (bk : Addr) (B : Bk), vs = [.ref bk] ∧ BookAt P w CB CC H bk B ∧ ∀ (D : Addr) H', Same H H' → H D = none → H' D = some (.lst (B.ps.map V.ref)) → Q (.ref D) H'
def spHas (P : Program) (w : World) (K : PySem.W.Frag) (CB CC : Addr) : Sp := fun vs H Q _ => ∃ (bk : Addr) (B : Bk) (t : Int) (b : Option Str), vs = [.ref bk, .int t, oS b] ∧ BookAt P w CB CC H bk B ∧ OkS b ∧ ∀ H', Same H H' → Q (.bl (decide ((t, b) ∈ B.cs))) H'
/-- the turns before t with a pair for b -/
def befT (cs : List Pr) (b : Option Str) (t : Int) : List Int := (cs.filter fun q => decide (q.2 = b) && decide (q.1 < t)).map (·.1)
def spLatest (P : Program) (w : World) (K : PySem.W.Frag) (CB CC : Addr) : Sp := fun vs H Q _ => ∃ (bk : Addr) (B : Bk) (t : Int) (b : Option Str), vs = [.ref bk, oS b, .int t] ∧ BookAt P w CB CC H bk B ∧ B.cs.length ≤ 100000 ∧
  (befT B.cs b t = [] → ∀ H', Same H H' → Q .non H') ∧ (∀ m, m ∈ befT B.cs b t → (∀ y ∈ befT B.cs b t, y ≤ m) → ∀ H', Same H H' → Q (.int m) H')

section
local macro_rules | `(tactic| walk_at "r1") => `(tactic| first
  | refine ⟨_, rfl, ?_⟩
  | refine ⟨_, _, rfl, rfl, (by show (0 : Int) < _; first | decide | omega), ?_⟩
  | refine ⟨_, _, rfl, rfl, (show CDiv _ _ from ⟨by decide, by decide⟩), ?_⟩
  | refine ⟨_, _, rfl, rfl, (show CMul _ _ from .inl ⟨by decide, by decide⟩), ?_⟩
  | refine ⟨_, _, rfl, rfl, (show CMul _ _ from .inr ⟨by decide, by decide⟩), ?_⟩
  | refine ⟨_, _, rfl, rfl, (show CPow _ _ from ⟨by decide, by decide, by decide⟩), ?_⟩
  | refine ⟨_, _, rfl, rfl, ?_⟩
  | refine ⟨_, _, _, _, rfl, rfl, SqT.of (by assumption), by first | exact at0 _ | exact at1 _ | exact at2 _ | exact at3 _ | exact at4 _ (by assumption), ?_⟩
  | refine ⟨scal_oS _ _, ?_⟩
  | refine .inl ⟨_, rfl, ?_⟩
  | refine ⟨rfl, ?_⟩)
local macro_rules | `(tactic| walk_at "rs") => `(tactic| repeat walk_at "r1")

variable {P : Program} {w : World} {K : PySem.W.Frag} {mg : Str → Option Value} {base : Heap} {a : Ads}
theorem getD_mem {zs : List Int} {i : Nat} (h : i < zs.length) : zs.getD i 0 ∈ zs := by
  rw [List.getD_eq_getElem?_getD, List.getElem?_eq_getElem h]
  exact List.getElem_mem h
theorem at_ints {zs : List Int} {i : Nat} (h : i < zs.length) : (zs.map V.int)[i]? = some (.int (zs.getD i 0)) := by
  rw [List.getElem?_map, List.getD_eq_getElem?_getD, List.getElem?_eq_getElem h]
  rfl

theorem ok_first_wrong (T : Txt K mg a) : ∃ fd, FnOk P w K mg base CX0 1 a.d_first_wrong fd ["weights"] (spFirst K) ∧ Binds K fd ["weights"] [] := by
  obtain ⟨fd, F, b⟩ := T.d_first_wrong.F
  refine ⟨fd, F.ok sc_first_wrong (fun vs H Q E h => ?_) (fun cdv A outer s H vs Q E hr h => ?_), b⟩
  · obtain ⟨_, _, rfl, _⟩ := h
    rfl
  · obtain ⟨p, ws, rfl, hp, gw, k⟩ := h
    refine ⟨_, (pss_cons (ps_for PassesOwn.never rfl (pi_enum (by rfl) T.n_enumerate (pa_cons (pv 0) pa_nil)) (pg_tup rfl (pgs_cons (pg_name (i := 1) sc_first_wrong.nd rfl (Or.inl rfl)) (pgs_cons (pg_name (i := 2) sc_first_wrong.nd rfl (Or.inl rfl)) pgs_nil)))
      (pss_one (ps_if (PW.pt (pw_or (pt_cmpR op_ge (pv 1) (pe_glob (v := (.int 16)) rfl T.c_MOST_MEMBERS.choose_spec ⟨_, rfl⟩) (nomark _)) (pw_or (pt_cmpR op_lt (pv 2) pe_int (nomark _)) (pw_or1 (pt_cmpR op_gt (pv 2) (pe_glob (v := (.int 1000000000000)) rfl T.c_MOST_WEIGHT.choose_spec ⟨_, rfl⟩) (nomark _))))))
        (pss_one (ps_ret (pv 1)))
        pss_nil)))
      (pss_cons (ps_if (pt_cmpR op_eq (pe_callB call_len_seq (by rfl) T.n_len PySem.boot_len (pa_cons (pv 0) pa_nil)) pe_int (nomark _))
      (pss_one (ps_ret pe_int))
      pss_nil)
      (pss_one (ps_ret pe_non)))), ?_⟩
    walk_at "rs"
    refine ⟨p, _, rfl, hp, ?_⟩
    refine for_enumL (K := K) (a := p) (ys := ws.map V.int) (fun i σ H2 => ∃ v1 v2 : Option V, σ = [some (.ref p), v1, v2] ∧ Same H H2) ⟨_, _, rfl, Same.refl H⟩ (fun i σ H2 _ ⟨_, _, _, s2⟩ => s2.seq hp) ?_ ?_
    · rintro i y σ H2 q hy ⟨v1, v2, rfl, s2⟩ hq
      have hi : i < ws.length := by
        have e := (List.getElem?_eq_some_iff.mp hy).1
        rwa [List.length_map] at e
      rw [at_ints hi] at hy
      cases hy
      have g1 := gw.2.2 _ (getD_mem hi)
      have g2 := gw.2.1
      walk_at "rs"
      refine ⟨q, _, rfl, SqT.of upd_same, rfl, ?_⟩
      refine ⟨_, _, rfl, _, _, rfl, rfl, ?_⟩
      walk_at "rs"
      refine ite2 (fun c1 => ?_) (fun c1 => ?_)
      · exfalso
        have := of_decide_eq_true c1
        omega
      walk_at "rs"
      refine ite2 (fun c2 => ?_) (fun c2 => ?_)
      · exfalso
        have := of_decide_eq_true c2
        omega
      walk_at "rs"
      refine ite2 (fun c3 => ?_) (fun c3 => ?_)
      · exfalso
        have := of_decide_eq_true c3
        omega
      exact ⟨_, _, rfl, same_upd s2 (s2.free hq)⟩
    · rintro σ H2 ⟨v1, v2, rfl, s2⟩
      walk_at "rs"
      refine ⟨p, _, rfl, .inl (s2.seq hp), ?_⟩
      walk_at "rs"
      refine ite2 (fun c1 => ?_) (fun c1 => ?_)
      · exfalso
        have g0 := gw.1
        simp at c1
        simp [c1] at g0
      exact k H2 s2
theorem ok_Committee_init (T : Txt K mg a) : ∃ fd, FnOk P w K mg base CX0 2 a.d_Committee_init fd ["self", "weights"] (spInit K a.C_Committee) ∧ Binds K fd ["self", "weights"] [] := by
  obtain ⟨fd, F, b⟩ := T.d_Committee_init.F
  obtain ⟨fd_first_wrong, G_first_wrong, b_first_wrong⟩ := ok_first_wrong (P := P) (w := w) (base := base) T
  refine ⟨fd, F.ok sc_Committee_init (fun vs H Q E h => ?_) (fun cdv A outer s H vs Q E hr h => ?_), b⟩
  · obtain ⟨_, _, _, _, rfl, _⟩ := h
    rfl
  · obtain ⟨p, dx, l, ws, rfl, hp, hl, gw, k⟩ := h
    refine ⟨_, (pss_cons (ps_set (i := 2) sc_Committee_init.nd rfl (Or.inl rfl) (pe_call G_first_wrong (hr.mono (by decide)) rfl T.d_first_wrong.g T.d_first_wrong.kp b_first_wrong .nil pass0 (pa_cons (pv 1) pa_nil)))
      (pss_cons (ps_if (pt_cmpR op_notN (pv 2) pe_non (nomark _))
      (pss_one ps_never)
      pss_nil)
      (pss_cons (ps_fld (pv 0) (pe_callTy call_tuple_of (by rfl) T.n_tuple (by decide +kernel) (pa_cons (pv 1) pa_nil)) rfl)
      (pss_cons (ps_fld (pv 0) (pe_callB call_len_seq (by rfl) T.n_len PySem.boot_len (pa_cons (pe_fld (pv 0) rfl) pa_nil)) rfl)
      (pss_one (ps_fld (pv 0) (pe_callB (cr_sumT rfl) (by rfl) T.n_sum (by decide +kernel) (pa_cons (pe_fld (pv 0) rfl) pa_nil)) rfl)))))), ?_⟩
    walk_at "rs"
    refine ⟨l, ws, rfl, hl, gw, fun H1 s1 => ?_⟩
    walk_at "rs"
    have hp1 := s1 _ _ hp
    refine ⟨l, _, rfl, .inl ⟨s1.seq hl, fun t ht => ?_⟩⟩
    have npt : p ≠ t := ne_of_none hp1 ht
    have hp2 : (upd H1 t (.tup (ws.map V.int))) p = some (.ins a.C_Committee dx []) := by rw [upd_ne npt]; exact hp1
    walk_at "rs"
    refine ⟨p, _, dx, [], rfl, hp2, T.cl_Committee, T.a_Committee_weights, (by show 0 < 1000; decide), ?_⟩
    have ht3 : ∀ o : HO, (upd (upd H1 t (.tup (ws.map V.int))) p o) t = some (.tup (ws.map V.int)) := fun o => by rw [upd_ne npt.symm, upd_same]
    walk_at "rs"
    refine ⟨p, _, dx, _, .ref t, rfl, upd_same, T.cl_Committee, T.a_Committee_weights, by rw [lookup_putF, if_pos rfl], ?_⟩
    walk_at "rs"
    refine ⟨t, _, rfl, .inr (SqT.of (ht3 _)), ?_⟩
    walk_at "rs"
    refine ⟨p, _, dx, _, rfl, upd_same, T.cl_Committee, T.a_Committee_size, (by show 1 < 1000; decide), ?_⟩
    rw [upd_upd]
    walk_at "rs"
    refine ⟨p, _, dx, _, .ref t, rfl, upd_same, T.cl_Committee, T.a_Committee_weights, by rw [lookup_putF, if_neg ne_ws, lookup_putF, if_pos rfl], ?_⟩
    walk_at "rs"
    refine ⟨t, ws, rfl, SqT.of (ht3 _), ?_⟩
    walk_at "rs"
    refine ⟨p, _, dx, _, rfl, upd_same, T.cl_Committee, T.a_Committee_total, (Nat.lt_of_le_of_lt (length_putF _ _ _) (Nat.lt_of_le_of_lt (Nat.add_le_add_right (length_putF _ _ _) 1) (by show 2 < 1000; decide))), ?_⟩
    rw [upd_upd, List.length_map]
    exact k _ ⟨dx, t, upd_same, ht3 _⟩ fun b o e hb => by
      rw [upd_ne hb, upd_ne (ne_of_none (s1 _ _ e) ht)]
      exact s1 _ _ e

theorem ok_Committee_weight_of (T : Txt K mg a) : ∃ fd, FnOk P w K mg base CX0 1 a.d_Committee_weight_of fd ["self", "members"] (spWof K a.C_Committee) ∧ Binds K fd ["self", "members"] [] := by
  obtain ⟨fd, F, b⟩ := T.d_Committee_weight_of.F
  refine ⟨fd, F.ok sc_Committee_weight_of (fun vs H Q E h => ?_) (fun cdv A outer s H vs Q E hr h => ?_), b⟩
  · obtain ⟨_, _, _, _, rfl, _⟩ := h
    rfl
  · obtain ⟨p, l, ws, ms, rfl, ⟨dx, t, hp, ht⟩, hlen, hl, hms, k⟩ := h
    refine ⟨_, (pss_cons (ps_set (i := 2) sc_Committee_weight_of.nd rfl (Or.inr rfl) (pe_callTy (cr_set rfl) (by rfl) T.n_set (by decide +kernel) (pa_cons (pv 1) pa_nil)))
      (pss_one (ps_ret (pe_callB (cr_sum rfl) (by rfl) T.n_sum (by decide +kernel) (pa_cons (pe_lc (own := [("member", 3), ("weight", 4)]) (g := (gTup K 2 (gCons (gName 3) (gCons (gName 4) gNil)))) rfl sc_Committee_weight_of.nd (pi_enumT (by rfl) T.n_enumerate (pa_cons (pe_fld (pv 0) rfl) pa_nil)) (blkOk_by (own := [("member", 3), ("weight", 4)]) (N := sc_Committee_weight_of_N) (sc := defScope s_Committee_weight_of) (by decide +kernel)) (fun _ _ _ _ _ => (pg_tup rfl (pgs_cons (pg_name (i := 3) sc_Committee_weight_of.nd rfl (Or.inl rfl)) (pgs_cons (pg_name (i := 4) sc_Committee_weight_of.nd rfl (Or.inl rfl)) pgs_nil)))) (fun _ _ _ _ _ => (pts_one (pt_cmpR op_in_set (pv 3) (pv 2) (by rfl)))) (fun _ _ _ _ _ => (pv 4))) pa_nil))))), ?_⟩
    walk_at "rs"
    refine ⟨l, ms, rfl, hl, hms, fun S n hS => ?_⟩
    have nS : ∀ q o, H q = some o → (upd H S (.set (fun k => decide (k ∈ ms)) n)) q = some o := same_new hS
    walk_at "rs"
    refine ⟨p, _, dx, _, .ref t, rfl, nS _ _ hp, T.cl_Committee, T.a_Committee_weights, cfs_w _ _, ?_⟩
    walk_at "rs"
    refine ⟨t, _, rfl, SqT.of (nS _ _ ht), fun D hD => ?_⟩
    generalize eH : upd H S (.set (fun k => decide (k ∈ ms)) n) = H1 at nS hD
    have hS1 : H1 S = some (.set (fun k => decide (k ∈ ms)) n) := by rw [← eH, upd_same]
    refine lc_enumT (K := K) (a := t) (ys := ws.map V.int) (fun i H2 => Same H1 H2 ∧ H2 D = some (.lst ((pick ws (fun k => decide (k ∈ ms)) i).map V.int))) ⟨same_new hD, upd_same⟩ (fun i H2 _ ⟨s2, _⟩ => SqT.of (s2 _ _ (nS _ _ ht))) ?_ ?_
    · rintro i y H2 q hy ⟨s2, hd⟩ hq
      have hi : i < ws.length := by
        have e := (List.getElem?_eq_some_iff.mp hy).1
        rwa [List.length_map] at e
      rw [at_ints hi] at hy
      cases hy
      have fit : ((pick ws (fun k => decide (k ∈ ms)) i).map V.int).length < sizeLine := by
        have := pick_len ws (fun k => decide (k ∈ ms)) i
        rw [List.length_map]
        exact small1000 (by omega)
      have s3 : Same H2 (upd H2 q (.tup [V.int (i : Nat), V.int (ws.getD i 0)])) := same_new hq
      refine ⟨q, _, rfl, SqT.of upd_same, rfl, ?_⟩
      refine ⟨_, _, rfl, _, _, rfl, rfl, rfl, ?_⟩
      walk_at "rs"
      refine ⟨_, S, _, n, rfl, rfl, s3 _ _ (s2 _ _ hS1), ?_⟩
      rw [if_neg Bool.false_ne_true]
      walk_at "rs"
      refine ite2 (fun c1 => ?_) (fun c1 => ?_)
      · walk_at "rs"
        refine ⟨_, s3 _ _ hd, fit, same_upd (fun b o z => s3 _ _ (s2 _ _ z)) hD, ?_⟩
        rw [upd_same, pick, if_pos c1]
        simp
      · refine ⟨fun b o z => s3 _ _ (s2 _ _ z), ?_⟩
        rw [s3 _ _ hd, pick, if_neg c1]
    · rintro H2 ⟨s2, hd⟩
      rw [List.length_map] at hd
      walk_at "rs"
      exact ⟨D, _, rfl, SqL.of hd, k H2 fun b o z => s2 _ _ (nS _ _ z)⟩
theorem ok_Committee_is_quorum (T : Txt K mg a) : ∃ fd, FnOk P w K mg base CX0 2 a.d_Committee_is_quorum fd ["self", "members"] (spQuorum K a.C_Committee) ∧ Binds K fd ["self", "members"] [] := by
  obtain ⟨fd, F, b⟩ := T.d_Committee_is_quorum.F
  obtain ⟨fd_Committee_weight_of, G_Committee_weight_of, b_Committee_weight_of⟩ := ok_Committee_weight_of (P := P) (w := w) (base := base) T
  refine ⟨fd, F.ok sc_Committee_is_quorum (fun vs H Q E h => ?_) (fun cdv A outer s H vs Q E hr h => ?_), b⟩
  · obtain ⟨_, _, _, _, rfl, _⟩ := h
    rfl
  · obtain ⟨p, l, ws, ms, rfl, hc, hlen, hl, hms, k⟩ := h
    obtain ⟨dx, t, hp, ht⟩ := id hc
    refine ⟨_, (pss_one (ps_ret (pe_cmpR op_gt (pe_op op_mul pe_int (pe_meth (pv 0) T.cl_Committee T.me_Committee_weight_of G_Committee_weight_of (hr.mono (by decide)) b_Committee_weight_of .nil pass0 (pa_cons (pv 1) pa_nil))) (pe_op op_mul pe_int (pe_fld (pv 0) rfl)) (nomark _)))), ?_⟩
    walk_at "rs"
    refine ⟨p, dx, _, rfl, hp, cfs_no _ _ (by decide +kernel) (by decide +kernel) (by decide +kernel), ?_⟩
    walk_at "rs"
    refine ⟨p, l, ws, ms, rfl, hc, hlen, hl, hms, fun H1 s1 => ?_⟩
    walk_at "rs"
    refine ⟨p, _, dx, _, _, rfl, s1 _ _ hp, T.cl_Committee, T.a_Committee_total, cfs_t _ _, ?_⟩
    walk_at "rs"
    exact k H1 s1

theorem ok_is_vote (T : Txt K mg a) : ∃ fd, FnOk P w K mg base CX0 1 a.d_is_vote fd ["statement"] (spVote K) ∧ Binds K fd ["statement"] [] := by
  obtain ⟨fd, F, b⟩ := T.d_is_vote.F
  refine ⟨fd, F.ok sc_is_vote (fun vs H Q E h => ?_) (fun cdv A outer s H vs Q E hr h => ?_), b⟩
  · obtain ⟨p, m, rfl, _⟩ := h
    rfl
  · obtain ⟨p, m, rfl, hp, k⟩ := h
    refine ⟨_, (pss_one (ps_ret (pe_cmpR op_in_seq (pe_ix ix_tup (pv 0) (pe_glob (v := (.int 0)) rfl T.c_KIND.choose_spec ⟨_, rfl⟩) (fun _ _ => rfl)) (pe_tup (pa_cons pe_str (pa_cons pe_str pa_nil))) (by rfl)))), ?_⟩
    refine ⟨_, rfl, p, _, _, _, rfl, rfl, SqT.of hp, at0 m, (by show 2 ≤ sizeLine; decide), fun t ht => ?_⟩
    refine ⟨t, _, rfl, .inr (SqT.of upd_same), rfl, rfl, ?_⟩
    have e : inV (V.str m.k.s) [V.str "prevote", V.str "precommit"] = decide (m.k ≠ .prop) := by
      cases hk : m.k <;> decide +kernel
    show Q (.bl (inV (V.str m.k.s) [V.str "prevote", V.str "precommit"])) _
    rw [e]
    exact k _ (same_new ht)
theorem ok_abandons (T : Txt K mg a) : ∃ fd, FnOk P w K mg base CX0 1 a.d_abandons fd ["one", "other"] (spAband K) ∧ Binds K fd ["one", "other"] [] := by
  obtain ⟨fd, F, b⟩ := T.d_abandons.F
  refine ⟨fd, F.ok sc_abandons (fun vs H Q E h => ?_) (fun cdv A outer s H vs Q E hr h => ?_), b⟩
  · obtain ⟨_, _, _, _, rfl, _⟩ := h
    rfl
  · obtain ⟨p, q, m, n, rfl, hp, hq, k⟩ := h
    have k0 : Q (.bl (abandM m n)) H := k _ (Same.refl H)
    refine ⟨_, (pss_cons (ps_if (PW.pt (pw_or (pt_cmpR op_ne (pe_ix ix_tup (pv 0) (pe_glob (v := (.int 0)) rfl T.c_KIND.choose_spec ⟨_, rfl⟩) (fun _ _ => rfl)) pe_str (nomark _)) (pw_or1 (pt_cmpR op_ne (pe_ix ix_tup (pv 1) (pe_glob (v := (.int 0)) rfl T.c_KIND.choose_spec ⟨_, rfl⟩) (fun _ _ => rfl)) pe_str (nomark _)))))
      (pss_one (ps_ret pe_bl))
      pss_nil)
      (pss_cons (ps_if (PW.pt (pw_or (pt_cmpR op_isN (pe_ix ix_tup (pv 0) (pe_glob (v := (.int 3)) rfl T.c_BLOCK.choose_spec ⟨_, rfl⟩) (fun _ _ => rfl)) pe_non (nomark _)) (pw_or1 (pt_cmpR op_isN (pe_ix ix_tup (pv 1) (pe_glob (v := (.int 3)) rfl T.c_BLOCK.choose_spec ⟨_, rfl⟩) (fun _ _ => rfl)) pe_non (nomark _)))))
      (pss_one (ps_ret pe_bl))
      pss_nil)
      (pss_cons (ps_if (PW.pt (pw_or (pt_cmpR op_eq (pe_ix ix_tup (pv 0) (pe_glob (v := (.int 3)) rfl T.c_BLOCK.choose_spec ⟨_, rfl⟩) (fun _ _ => rfl)) (pe_ix ix_tup (pv 1) (pe_glob (v := (.int 3)) rfl T.c_BLOCK.choose_spec ⟨_, rfl⟩) (fun _ _ => rfl)) (nomark _)) (pw_or1 (pt_cmpR op_ge (pe_ix ix_tup (pv 0) (pe_glob (v := (.int 2)) rfl T.c_TURN.choose_spec ⟨_, rfl⟩) (fun _ _ => rfl)) (pe_ix ix_tup (pv 1) (pe_glob (v := (.int 2)) rfl T.c_TURN.choose_spec ⟨_, rfl⟩) (fun _ _ => rfl)) (nomark _)))))
      (pss_one (ps_ret pe_bl))
      pss_nil)
      (pss_one (ps_ret (pe_or (pe_cmpR op_isN (pe_ix ix_tup (pv 1) (pe_glob (v := (.int 4)) rfl T.c_LEAN.choose_spec ⟨_, rfl⟩) (fun _ _ => rfl)) pe_non (nomark _)) (pe_one (pe_cmpR op_lt (pe_ix ix_tup (pv 1) (pe_glob (v := (.int 4)) rfl T.c_LEAN.choose_spec ⟨_, rfl⟩) (fun _ _ => rfl)) (pe_ix ix_tup (pv 0) (pe_glob (v := (.int 2)) rfl T.c_TURN.choose_spec ⟨_, rfl⟩) (fun _ _ => rfl)) (nomark _))))))))), ?_⟩
    walk_at "rs"
    refine ite2 (fun c1 => ?_) (fun c1 => ?_) <;> simp only [kcom, Bool.not_eq_true', decide_eq_false_iff_not, decide_eq_true_iff, Decidable.not_not] at c1
    · rw [show abandM m n = false from if_neg (fun z => c1 z.1)] at k0
      exact k0
    walk_at "rs"
    refine ite2 (fun c2 => ?_) (fun c2 => ?_) <;> simp only [kpre, Bool.not_eq_true', decide_eq_false_iff_not, decide_eq_true_iff, Decidable.not_not] at c2
    · rw [show abandM m n = false from if_neg (fun z => c2 z.2.1)] at k0
      exact k0
    walk_at "rs"
    refine ite2 (fun c3 => ?_) (fun c3 => ?_) <;> simp only [koSn, decide_eq_true_iff] at c3
    · rw [show abandM m n = false from if_neg (fun z => z.2.2.1 c3)] at k0
      exact k0
    walk_at "rs"
    refine ite2 (fun c4 => ?_) (fun c4 => ?_) <;> simp only [koSn, decide_eq_true_iff] at c4
    · rw [show abandM m n = false from if_neg (fun z => z.2.2.2.1 c4)] at k0
      exact k0
    walk_at "rs"
    refine ite2 (fun c5 => ?_) (fun c5 => ?_) <;> simp only [koS, decide_eq_true_iff] at c5
    · rw [show abandM m n = false from if_neg (fun z => z.2.2.2.2.1 c5)] at k0
      exact k0
    walk_at "rs"
    refine ite2 (fun c6 => ?_) (fun c6 => ?_) <;> simp only [decide_eq_true_iff] at c6
    · rw [show abandM m n = false from if_neg (fun z => by have := z.2.2.2.2.2; omega)] at k0
      exact k0
    have e : abandM m n = (match n.l with | none => true | some l => decide (l < m.t)) := if_pos ⟨c1, c2, c3, c4, c5, by omega⟩
    rw [e] at k0
    clear e
    walk_at "rs"
    refine ite2 (fun c7 => ?_) (fun c7 => ?_) <;> simp only [koIn, decide_eq_true_iff] at c7
    · rw [c7] at k0
      exact k0
    · cases hnl : n.l with
      | none => exact absurd hnl c7
      | some l =>
        rw [hnl] at k0
        refine ⟨_, rfl, _, _, _, _, rfl, rfl, SqT.of hq, (at4 n c2).trans (by rw [hnl]), ?_⟩
        walk_at "rs"
        exact k0
theorem ok_clash (T : Txt K mg a) : ∃ fd, FnOk P w K mg base CX0 2 a.d_clash fd ["one", "other"] (spClash K) ∧ Binds K fd ["one", "other"] [] := by
  obtain ⟨fd, F, b⟩ := T.d_clash.F
  obtain ⟨fd_abandons, G_abandons, b_abandons⟩ := ok_abandons (P := P) (w := w) (base := base) T
  obtain ⟨fd_is_vote, G_is_vote, b_is_vote⟩ := ok_is_vote (P := P) (w := w) (base := base) T
  refine ⟨fd, F.ok sc_clash (fun vs H Q E h => ?_) (fun cdv A outer s H vs Q E hr h => ?_), b⟩
  · obtain ⟨_, _, _, _, rfl, _⟩ := h
    rfl
  · obtain ⟨p, q, m, n, rfl, hp, hq, k⟩ := h
    refine ⟨_, (pss_cons (ps_if (pt_cmpR op_ne (pe_ix ix_tup (pv 0) (pe_glob (v := (.int 1)) rfl T.c_HEIGHT.choose_spec ⟨_, rfl⟩) (fun _ _ => rfl)) (pe_ix ix_tup (pv 1) (pe_glob (v := (.int 1)) rfl T.c_HEIGHT.choose_spec ⟨_, rfl⟩) (fun _ _ => rfl)) (nomark _))
      (pss_one (ps_ret pe_bl))
      pss_nil)
      (pss_cons (ps_if (pt_cmpR op_eq (pe_ix ix_tup (pv 0) (pe_glob (v := (.int 0)) rfl T.c_KIND.choose_spec ⟨_, rfl⟩) (fun _ _ => rfl)) (pe_ix ix_tup (pv 1) (pe_glob (v := (.int 0)) rfl T.c_KIND.choose_spec ⟨_, rfl⟩) (fun _ _ => rfl)) (nomark _))
      (pss_one (ps_ret (pe_and (pe_call G_is_vote (hr.mono (by decide)) rfl T.d_is_vote.g T.d_is_vote.kp b_is_vote .nil pass0 (pa_cons (pv 0) pa_nil)) (pe_and (pe_cmpR op_eq (pe_ix ix_tup (pv 0) (pe_glob (v := (.int 2)) rfl T.c_TURN.choose_spec ⟨_, rfl⟩) (fun _ _ => rfl)) (pe_ix ix_tup (pv 1) (pe_glob (v := (.int 2)) rfl T.c_TURN.choose_spec ⟨_, rfl⟩) (fun _ _ => rfl)) (nomark _)) (pe_one (pe_cmpR op_ne (pe_ix ix_tup (pv 0) (pe_glob (v := (.int 3)) rfl T.c_BLOCK.choose_spec ⟨_, rfl⟩) (fun _ _ => rfl)) (pe_ix ix_tup (pv 1) (pe_glob (v := (.int 3)) rfl T.c_BLOCK.choose_spec ⟨_, rfl⟩) (fun _ _ => rfl)) (nomark _)))))))
      pss_nil)
      (pss_one (ps_ret (pe_or (pe_call G_abandons (hr.mono (by decide)) rfl T.d_abandons.g T.d_abandons.kp b_abandons .nil pass0 (pa_cons (pv 0) (pa_cons (pv 1) pa_nil))) (pe_one (pe_call G_abandons (hr.mono (by decide)) rfl T.d_abandons.g T.d_abandons.kp b_abandons .nil pass0 (pa_cons (pv 1) (pa_cons (pv 0) pa_nil))))))))), ?_⟩
    unfold clashM at k
    walk_at "rs"
    refine ite2 (fun c1 => ?_) (fun c1 => ?_) <;> simp only [dec_int, Bool.not_eq_true', beq_eq_false_iff_ne, Bool.not_eq_false', Bool.not_eq_true, beq_iff_eq, ne_eq, Decidable.not_not] at c1
    · rw [if_pos c1] at k
      exact k _ (Same.refl H)
    rw [if_neg (fun z => z c1)] at k
    walk_at "rs"
    refine ite2 (fun c2 => ?_) (fun c2 => ?_) <;> simp only [dec_kd, decide_eq_true_iff] at c2
    · rw [if_pos c2] at k
      walk_at "rs"
      refine ⟨p, m, rfl, hp, fun H' s1 => ?_⟩
      have hp' : SmAt H' p m := s1 _ _ hp
      have hq' : SmAt H' q n := s1 _ _ hq
      walk_at "rs"
      refine ite2 (fun c3 => ?_) (fun c3 => ?_)
      · rw [c3, Bool.true_and] at k
        walk_at "rs"
        refine ite2 (fun c4 => ?_) (fun c4 => ?_) <;> simp only [dec_int, beq_iff_eq] at c4
        · rw [decide_eq_true c4, Bool.true_and] at k
          walk_at "rs"
          have k' := k H' s1
          rw [show decide (m.b ≠ n.b) = (!decide (oS m.b = oS n.b)) by rw [dec_oS, decide_not]] at k'
          exact k'
        · rw [decide_eq_false c4, Bool.false_and] at k
          exact k H' s1
      · rw [Bool.eq_false_iff.mpr c3, Bool.false_and] at k
        exact k H' s1
    · rw [if_neg c2] at k
      walk_at "rs"
      refine ⟨p, q, m, n, rfl, hp, hq, fun H' s1 => ?_⟩
      have hp' : SmAt H' p m := s1 _ _ hp
      have hq' : SmAt H' q n := s1 _ _ hq
      walk_at "rs"
      refine ite2 (fun c3 => ?_) (fun c3 => ?_)
      · rw [c3, Bool.true_or] at k
        exact k H' s1
      · rw [Bool.eq_false_iff.mpr c3, Bool.false_or] at k
        walk_at "rs"
        exact ⟨q, p, n, m, rfl, hq', hp', fun H2 s2 => k H2 (s1.trans s2)⟩

theorem vb_nil {H : Hp} {D : Addr} {xs : List Lt} {kd : Kd} {h : Int} {b : Option Str} (hD : H D = some (.dK [])) (z : ∀ x ∈ xs, selV kd h b x = false) : VbAt H D xs kd h b [] :=
  ⟨hD, List.nodup_nil, List.nodup_nil, fun e he => (nomatch he), fun t => ⟨fun q => (nomatch q), fun ⟨x, hx, q⟩ => by rw [inT_no (z x hx)] at q; cases q⟩, Nat.zero_le _⟩
theorem ok_votes_by_turn (T : Txt K mg a) : ∃ fd, FnOk P w K mg base CX0 1 a.d_votes_by_turn fd ["letters", "kind", "height", "block"] (spVbt K) ∧ Binds K fd ["letters", "kind", "height", "block"] [] := by
  obtain ⟨fd, F, b⟩ := T.d_votes_by_turn.F
  refine ⟨fd, F.ok sc_votes_by_turn (fun vs H Q E h => ?_) (fun cdv A outer s H vs Q E hr h => ?_), b⟩
  · obtain ⟨_, _, _, _, _, _, rfl, _⟩ := h
    rfl
  · obtain ⟨l, ps, xs, kd, h, b, rfl, hl, hx, few, k⟩ := h
    refine ⟨_, (pss_cons (ps_set (i := 4) sc_votes_by_turn.nd rfl (Or.inl rfl) pe_dnewK)
      (pss_cons (ps_if (pt_cmpR op_isN (pv 3) pe_non (nomark _))
      (pss_one (ps_ret (pv 4)))
      pss_nil)
      (pss_cons (ps_for PassesOwn.never rfl (pi_list (pv 0)) (pg_name (i := 5) sc_votes_by_turn.nd rfl (Or.inl rfl))
      (pss_cons (ps_set (i := 6) sc_votes_by_turn.nd rfl (Or.inl rfl) (pe_ix ix_tup (pv 5) pe_int (fun _ _ => rfl)))
        (pss_one (ps_if (PW.pt (pw_and (pt_cmpR op_eq (pe_ix ix_tup (pv 6) (pe_glob (v := (.int 0)) rfl T.c_KIND.choose_spec ⟨_, rfl⟩) (fun _ _ => rfl)) (pv 1) (nomark _)) (pw_and (pt_cmpR op_eq (pe_ix ix_tup (pv 6) (pe_glob (v := (.int 1)) rfl T.c_HEIGHT.choose_spec ⟨_, rfl⟩) (fun _ _ => rfl)) (pv 2) (nomark _)) (pw_and1 (pt_cmpR op_eq (pe_ix ix_tup (pv 6) (pe_glob (v := (.int 3)) rfl T.c_BLOCK.choose_spec ⟨_, rfl⟩) (fun _ _ => rfl)) (pv 3) (nomark _))))))
        (pss_one (ps_expr (pe_bm PySem.F.plainAttrs_list PySem.F.slot_list_append PySem.F.type_list_append mt_append (pe_dsetd (pv 4) (pe_ix ix_tup (pv 6) (pe_glob (v := (.int 2)) rfl T.c_TURN.choose_spec ⟨_, rfl⟩) (fun _ _ => rfl)) (pe_lst pa_nil) ⟨rfl, rfl, rfl, rfl⟩) (pa_cons (pv 5) pa_nil))))
        pss_nil))))
      (pss_one (ps_ret (pv 4)))))), ?_⟩
    walk_at "rs"
    intro D hD
    have s0 : Same H (upd H D (.dK [])) := same_new hD
    walk_at "rs"
    refine ite2 (fun c1 => ?_) (fun c1 => ?_) <;> simp only [koSn, decide_eq_true_iff] at c1
    · walk_at "rs"
      refine k D [] _ s0 (vb_nil upd_same fun x _ => ?_)
      unfold selV
      rw [c1]
      simp
    walk_at "rs"
    refine ⟨⟨_, SqL.of (s0 _ _ hl)⟩, for_list (K := K) (a := l) (xs := ps.map V.ref) (fun i σ H2 => ∃ v5 v6 : Option V, σ = [some (.ref l), some (.str kd.s), some (.int h), some (oS b), some (.ref D), v5, v6] ∧ Same H H2 ∧ ∃ ks, VbAt H2 D (xs.take i) kd h b ks ∧ ∀ e ∈ ks, H e.2 = none)
      ⟨_, _, rfl, s0, [], vb_nil upd_same fun x hx => (nomatch hx), fun e he => (nomatch he)⟩ (fun i σ H2 _ ⟨_, _, _, s2, _⟩ => SqL.of (s2 _ _ hl)) ?_ ?_⟩
    · rintro i y σ H2 hy ⟨v5, v6, rfl, s2, ks, hv, hfr⟩
      have hi : i < ps.length := by
        have e := (List.getElem?_eq_some_iff.mp hy).1
        rwa [List.length_map] at e
      have hi' : i < xs.length := by
        rw [← hx.1]
        exact hi
      rw [at_refs hi] at hy
      cases hy
      have hlt := (hx.2 i hi').same s2
      obtain ⟨q, hp, hq⟩ := id hlt
      have et := take_succ_getD (d := default) hi'
      generalize xs.getD i default = x at hlt hq hp et
      walk_at "rs"
      refine ⟨_, _, _, _, rfl, rfl, SqT.of hp, rfl, ?_⟩
      walk_at "rs"
      refine ite2 (fun c2 => ?_) (fun c2 => ?_) <;> simp only [dec_kd, decide_eq_true_iff] at c2
      · walk_at "rs"
        refine ite2 (fun c3 => ?_) (fun c3 => ?_) <;> simp only [dec_int, beq_iff_eq] at c3
        · walk_at "rs"
          refine ite2 (fun c4 => ?_) (fun c4 => ?_) <;> simp only [dec_oS, decide_eq_true_iff] at c4
          · have cs : selV kd h b x = true := decide_eq_true ⟨c1, c2, c3, c4⟩
            walk_at "rs"
            refine ⟨.inl ⟨_, .inl hv.here⟩, ?_⟩
            walk_at "rs"
            refine ⟨(by show 0 ≤ sizeLine; decide), fun z hz => ?_⟩
            have sz : Same H2 (upd H2 z (.lst [])) := same_new hz
            have hv3 := hv.same sz
            have few3 := hv.few
            rw [List.length_take] at few3
            have hHz : H z = none := s2.free hz
            refine ⟨_, Sum.inl x.m.t, hv3.here, rfl, by unfold vbK; rw [List.length_map]; exact small1000 (by omega), fun v hval => ?_, fun hval => ?_⟩
            · have hin : x.m.t ∈ ks.map (·.1) := by
                refine Decidable.byContradiction fun no => ?_
                rw [val_vbn no] at hval
                cases hval
              obtain ⟨l2, hm, e2⟩ := val_vb hin
              rw [e2] at hval
              cases hval
              obtain ⟨qs, hl2, hls⟩ := hv3.ls _ hm
              have lq : qs.length ≤ 900 := by
                have := List.length_filter_le (inT kd h b x.m.t) (xs.take i)
                rw [List.length_take] at this
                have e3 : qs.length = ((xs.take i).filter (inT kd h b x.m.t)).length := hls.1
                omega
              walk_at "rs"
              refine ⟨.inl ⟨rfl, _, SqL.of hl2⟩, ?_⟩
              walk_at "rs"
              refine ⟨l2, _, _, rfl, rfl, hl2, by rw [List.length_map]; exact small1000 (by omega), ?_⟩
              refine ⟨_, _, rfl, same_upd (s2.trans sz) (hfr _ hm), ks, ?_, hfr⟩
              rw [et]
              exact hv3.more cs hm hl2 (hlt.same sz)
            · have hno : x.m.t ∉ ks.map (·.1) := fun hin => by
                obtain ⟨l2, hm, e2⟩ := val_vb hin
                rw [e2] at hval
                cases hval
              have nl : z ∉ ks.map (·.2) := fun hin => by
                obtain ⟨e, he, ez⟩ := List.mem_map.mp hin
                obtain ⟨qs, hl2, _⟩ := hv.ls e he
                rw [ez, hz] at hl2
                cases hl2
              have ekvs : putK (vbK ks) (Sum.inl x.m.t) (V.ref z) = vbK (ks ++ [(x.m.t, z)]) := by
                rw [putK_new hval]
                unfold vbK
                simp
              rw [ekvs]
              have hz3 : (upd H2 z (.lst [])) z = some (.lst []) := upd_same
              have nDz := ne_dk hv3.here hz3
              walk_at "rs"
              refine ⟨.inl ⟨rfl, _, SqL.of (by rw [upd_ne nDz.symm]; exact hz3)⟩, ?_⟩
              walk_at "rs"
              refine ⟨z, _, _, rfl, rfl, (by rw [upd_ne nDz.symm]; exact hz3), by show 0 < sizeLine; decide, ?_⟩
              refine ⟨_, _, rfl, same_upd (same_upd (s2.trans sz) hD) hHz, ks ++ [(x.m.t, z)], ?_, fun e he => ?_⟩
              · rw [et]
                exact hv3.first cs hno hz3 nl (hlt.same sz)
              · rcases List.mem_append.mp he with he | he
                · exact hfr e he
                · rw [List.mem_singleton.mp he]
                  exact hHz
          · exact ⟨_, _, rfl, s2, ks, by rw [et]; exact hv.skip (decide_eq_false fun z => c4 z.2.2.2), hfr⟩
        · exact ⟨_, _, rfl, s2, ks, by rw [et]; exact hv.skip (decide_eq_false fun z => c3 z.2.2.1), hfr⟩
      · exact ⟨_, _, rfl, s2, ks, by rw [et]; exact hv.skip (decide_eq_false fun z => c2 z.2.1), hfr⟩
    · rintro σ H2 ⟨v5, v6, rfl, s2, ks, hv, hfr⟩
      rw [List.length_map, hx.1, List.take_length] at hv
      walk_at "rs"
      exact k D ks _ s2 hv
theorem ok_counts (T : Txt K mg a) : ∃ fd, FnOk P w K mg base CX0 1 a.d_counts fd ["prevote", "turns"] (spCounts K) ∧ Binds K fd ["prevote", "turns"] [] := by
  obtain ⟨fd, F, b⟩ := T.d_counts.F
  refine ⟨fd, F.ok sc_counts (fun vs H Q E h => ?_) (fun cdv A outer s H vs Q E hr h => ?_), b⟩
  · obtain ⟨_, _, _, _, rfl, _⟩ := h
    rfl
  · obtain ⟨p, D, m, L, rfl, hp, hk, hD, k⟩ := h
    have k0 := k H (Same.refl H)
    unfold cntL at k0
    refine ⟨_, (pss_cons (ps_set (i := 2) sc_counts.nd rfl (Or.inl rfl) (pe_ix ix_tup (pv 0) (pe_glob (v := (.int 4)) rfl T.c_LEAN.choose_spec ⟨_, rfl⟩) (fun _ _ => rfl)))
      (pss_one (ps_ret (pe_or (pe_cmpR op_isN (pv 2) pe_non (nomark _)) (pe_one (pe_and (pe_cmpR op_lt (pv 2) (pe_ix ix_tup (pv 0) (pe_glob (v := (.int 2)) rfl T.c_TURN.choose_spec ⟨_, rfl⟩) (fun _ _ => rfl)) (nomark _)) (pe_one (pe_cmp (pc_din (hu_of hr) (pv 2) (pv 1)) rfl)))))))), ?_⟩
    walk_at "rs"
    refine ite2 (fun c1 => ?_) (fun c1 => ?_) <;> simp only [koIn, decide_eq_true_iff] at c1
    · rw [c1] at k0
      exact k0
    obtain ⟨i, hl⟩ : ∃ i, m.l = some i := by
      cases hl : m.l with
      | none => exact absurd hl c1
      | some i => exact ⟨i, rfl⟩
    rw [hl] at k0 ⊢
    have k0 : Q (.bl (decide (i < m.t) && decide (i ∈ L))) H := k0
    refine ⟨_, rfl, ?_⟩
    walk_at "rs"
    refine ite2 (fun c2 => ?_) (fun c2 => ?_) <;> simp only [decide_eq_true_iff] at c2
    · rw [decide_eq_true c2, Bool.true_and] at k0
      walk_at "rs"
      refine ⟨D, _, rfl, DGet.k (k := Sum.inl i) hD, ?_⟩
      rw [val_tru]
      exact k0
    · rw [decide_eq_false c2, Bool.false_and] at k0
      exact k0
theorem ok_certified_turns (T : Txt K mg a) : ∃ fd, FnOk P w K mg base CX0 3 a.d_certified_turns fd ["committee", "letters", "height", "block"] (spCts K a.C_Committee) ∧ Binds K fd ["committee", "letters", "height", "block"] [] := by
  obtain ⟨fd, F, b⟩ := T.d_certified_turns.F
  obtain ⟨fd_votes_by_turn, G_votes_by_turn, b_votes_by_turn⟩ := ok_votes_by_turn (P := P) (w := w) (base := base) T
  obtain ⟨fd_Committee_is_quorum, G_Committee_is_quorum, b_Committee_is_quorum⟩ := ok_Committee_is_quorum (P := P) (w := w) (base := base) T
  obtain ⟨fd_counts, G_counts, b_counts⟩ := ok_counts (P := P) (w := w) (base := base) T
  refine ⟨fd, F.ok sc_certified_turns (fun vs H Q E h => ?_) (fun cdv A outer s H vs Q E hr h => ?_), b⟩
  · obtain ⟨_, _, _, _, _, _, _, rfl, _⟩ := h
    rfl
  · obtain ⟨c, l, ws, ps, xs, h, b, rfl, hc, gw, hl, hx, few, tb, k⟩ := h
    obtain ⟨dx, t, hcp, hct⟩ := id hc
    refine ⟨_, (pss_cons (ps_set (i := 4) sc_certified_turns.nd rfl (Or.inl rfl) (pe_call G_votes_by_turn (hr.mono (by decide)) rfl T.d_votes_by_turn.g T.d_votes_by_turn.kp b_votes_by_turn .nil pass0 (pa_cons (pv 1) (pa_cons pe_str (pa_cons (pv 2) (pa_cons (pv 3) pa_nil))))))
      (pss_cons (ps_set (i := 5) sc_certified_turns.nd rfl (Or.inr rfl) pe_dnewK)
      (pss_cons (ps_for PassesOwn.never rfl (pi_list (pe_callB (call_sortedDI rfl) (by rfl) T.n_sorted (by decide +kernel) (pa_cons (pv 4) pa_nil))) (pg_name (i := 6) sc_certified_turns.nd rfl (Or.inl rfl))
      (pss_cons (ps_setLc (i := 7) (own := [("letter", 8)]) (g := (gName 8)) rfl sc_certified_turns.nd rfl rfl (sw_true rfl rfl rfl (by decide +kernel)) (pi_list (pe_dget (hu_of hr) (pv 4) (pv 6) (fun _ _ => rfl))) (blkOk_by (own := [("letter", 8)]) (N := sc_certified_turns_N) (sc := defScope s_certified_turns) (by decide +kernel)) (fun _ _ _ _ _ => (pg_name (i := 8) sc_certified_turns.nd rfl (Or.inl rfl))) (fun _ _ _ _ _ => (pts_one (pt_val (pe_call G_counts (hr.mono (by decide)) rfl T.d_counts.g T.d_counts.kp b_counts .nil pass0 (pa_cons (pe_ix (r := rIxT K) ix_tup (pv 8) pe_int (fun _ _ => rfl)) (pa_cons (pv 5) pa_nil)))))) (fun _ _ _ _ _ => (pe_ix (r := rIxT K) ix_tup (pv 8) pe_int (fun _ _ => rfl))))
        (pss_one (ps_if (pt_val (pe_meth (pv 0) T.cl_Committee T.me_Committee_is_quorum G_Committee_is_quorum (hr.mono (by decide)) b_Committee_is_quorum .nil pass0 (pa_cons (pv 7) pa_nil)))
        (pss_one (ps_dput (hu_of hr) (pv 5) (pv 6) pe_bl rfl))
        pss_nil))))
      (pss_one (ps_ret (pe_callTy (call_listD rfl) (by rfl) T.n_list (by decide +kernel) (pa_cons (pv 5) pa_nil))))))), ?_⟩
    walk_at "rs"
    refine ⟨l, ps, xs, .pre, h, b, rfl, hl, hx, few, fun D ks H1 s1 hv => ?_⟩
    walk_at "rs"
    intro F1 hF1
    have s2 : Same H1 (upd H1 F1 (.dK [])) := same_new hF1
    have hF2 : (upd H1 F1 (.dK [])) F1 = some (.dK (tru [])) := upd_same
    have hv2 := hv.same s2
    have hFH : H F1 = none := s1.free hF1
    generalize upd H1 F1 (.dK []) = H2 at s2 hF2 hv2 ⊢
    walk_at "rs"
    have kb : ∀ t ∈ ks.map (·.1), 0 ≤ t ∧ t < 60 := fun t ht => by
      obtain ⟨x, hx, z⟩ := (hv.ky t).mp ht
      rw [inT_t z]
      exact tb x hx
    have k60 := nodup_few 60 hv.nd kb
    rw [List.length_map] at k60
    refine ⟨D, _, ks.map (·.1), rfl, .inl hv2.here, by unfold vbK; simp [Function.comp_def], by rw [List.length_map]; omega, fun ts R hp hpw hR => ?_⟩
    have nd := (hp.nodup_iff).mpr hv.nd
    have ky : ∀ t : Int, t ∈ ts ↔ ∃ x ∈ xs, inT .pre h b t x = true := fun t => by rw [hp.mem_iff]; exact hv.ky t
    have tb2 : ∀ t ∈ ts, 0 ≤ t ∧ t < 60 := fun t ht => kb t (hp.mem_iff.mp ht)
    have s3 : Same H2 (upd H2 R (.lst (ts.map V.int))) := same_new hR
    have hF3 := s3 _ _ hF2
    have hR3 : (upd H2 R (.lst (ts.map V.int))) R = some (.lst (ts.map V.int)) := upd_same
    generalize upd H2 R (.lst (ts.map V.int)) = H3 at s3 hF3 hR3 ⊢
    have nF : H1 F1 = none := hF1
    refine ⟨R, rfl, ⟨_, SqL.of hR3⟩, for_list (K := K) (a := R) (xs := ts.map V.int) (fun i σ H4 => ∃ v6 v7 : Option V, σ = [some (.ref c), some (.ref l), some (.int h), some (oS b), some (.ref D), some (.ref F1), v6, v7, none] ∧ Same H1 H4 ∧ H4 R = some (.lst (ts.map V.int)) ∧ H4 F1 = some (.dK (tru (lns ws xs h b (nxt ts i)))))
      ⟨_, _, rfl, s2.trans s3, hR3, hF3⟩ (fun i σ H4 _ ⟨_, _, _, _, hr4, _⟩ => SqL.of hr4) ?_ ?_⟩
    · rintro i y σ H4 hy ⟨v6, v7, rfl, s4, hr4, hf4⟩
      have hi : i < ts.length := by
        have e := (List.getElem?_eq_some_iff.mp hy).1
        rwa [List.length_map] at e
      rw [at_ints hi] at hy
      cases hy
      have ht := getD_mem hi
      have hb := tb2 _ ht
      obtain ⟨x0, hx0, i0⟩ := (ky _).mp ht
      have nb := (inT_some i0).1
      obtain ⟨n, en⟩ := Int.eq_ofNat_of_zero_le hb.1
      have lo : ∀ k, k < i → 0 ≤ ts.getD k 0 := fun k hk => (tb2 _ (getD_mem (by omega))).1
      have eL : lns ws xs h b n = lns ws xs h b (nxt ts i) := by
        refine gap_gen gw nb ky hpw nd (Nat.le_of_lt hi) ?_ fun j h1 h2 => ?_
        · cases i with
          | zero => exact Nat.zero_le _
          | succ k =>
            have h3 := srt_lt hpw nd (show k < k + 1 by omega) hi
            have h4 := lo k (show k < k + 1 by omega)
            have h5 : nxt ts (k + 1) = (ts.getD k 0 + 1).toNat := rfl
            omega
        · rcases Nat.lt_or_ge i j with z | z
          · have := srt_lt hpw nd z h2
            omega
          · have : j = i := by omega
            rw [this]
            omega
      have eN : nxt ts (i + 1) = n + 1 := by
        have h5 : nxt ts (i + 1) = (ts.getD i 0 + 1).toNat := rfl
        omega
      rw [← eL] at hf4
      rw [eN]
      rw [en] at i0 ⊢
      clear eL eN hb en
      have hin : (n : Int) ∈ ks.map (·.1) := (hv.ky _).mpr ⟨x0, hx0, i0⟩
      obtain ⟨lt, hm, e2⟩ := val_vb hin
      have hv4 := hv.same s4
      obtain ⟨qs, hl4, hls⟩ := hv4.ls _ hm
      have hls : LsAt H4 qs (xs.filter (inT .pre h b (n : Int))) := hls
      have lq : qs.length ≤ 900 := by
        have h1 := List.length_filter_le (inT .pre h b (n : Int)) xs
        have h2 := hls.1
        omega
      have eM : memM xs h n b (lns ws xs h b n) = ((xs.filter (inT .pre h b n)).filter fun x => cntL x.m (lns ws xs h b n)).map Lt.w := mem_inT nb
      have eC : certM ws xs h b n = qrm ws (memM xs h n b (lns ws xs h b n)) := rfl
      have lL := lns_len ws xs h b n
      have n60 : n < 60 := by
        have := tb2 _ ht
        have e := tb x0 hx0
        have e3 := inT_t i0
        omega
      have nL : (n : Int) ∉ lns ws xs h b n := fun z => by
        have := ((mem_lnsI (n : Int) n).mp z).2.1
        omega
      have yes := fun q => lns_yes (ws := ws) (xs := xs) (h := h) (b := b) (n := n) q
      have no := fun q => lns_no (ws := ws) (xs := xs) (h := h) (b := b) (n := n) q
      rw [eC, eM] at yes no
      clear eC eM
      generalize lns ws xs h b n = L at hf4 lL nL yes no
      have ysk : ∀ j, j < (xs.filter (inT .pre h b (n : Int))).length → ((xs.filter (inT .pre h b (n : Int))).getD j default).m.k = .pre := fun j hj => (inT_some (filt_mem hj).2).2
      generalize xs.filter (inT .pre h b (n : Int)) = ys at hls yes no ysk
      walk_at "rs"
      refine ⟨D, .ref lt, rfl, by rw [← e2]; exact DGet.k (k := Sum.inl (n : Int)) hv4.here, ?_⟩
      walk_at "rs"
      refine ⟨⟨_, SqL.of hl4⟩, fun D3 hD3 => ?_⟩
      refine lc_list (K := K) (a := lt) (xs := qs.map V.ref) (fun j H5 => Same H4 H5 ∧ H5 D3 = some (.lst ((((ys.take j).filter fun x => cntL x.m L).map Lt.w).map V.int))) ⟨same_new hD3, by rw [upd_same]; simp⟩ (fun j H5 _ ⟨s5, _⟩ => SqL.of (s5 _ _ hl4)) ?_ ?_
      · rintro j y H5 hy ⟨s5, hd5⟩
        have hj : j < qs.length := by
          have e := (List.getElem?_eq_some_iff.mp hy).1
          rwa [List.length_map] at e
        have hj' : j < ys.length := by
          rw [← hls.1]
          exact hj
        rw [at_refs hj] at hy
        cases hy
        have hlt := (hls.2 j hj').same s5
        obtain ⟨q, hp5, hq5⟩ := id hlt
        have hk5 := ysk j hj'
        have et := take_succ_getD (d := default) hj'
        generalize ys.getD j default = x at hlt hp5 hq5 hk5 et
        refine ⟨rfl, ?_⟩
        walk_at "rs"
        refine ⟨_, _, _, _, rfl, rfl, SqT.of hp5, rfl, ?_⟩
        walk_at "rs"
        refine ⟨q, F1, x.m, L, rfl, hq5, hk5, s5 _ _ hf4, fun H6 s6 => ?_⟩
        walk_at "rs"
        refine ite2 (fun c1 => ?_) (fun c1 => ?_)
        · walk_at "rs"
          refine ⟨_, _, _, _, rfl, rfl, SqT.of (s6 _ _ hp5), rfl, ?_⟩
          have l5 := List.length_filter_le (fun x => cntL x.m L) (ys.take j)
          rw [List.length_take] at l5
          have l6 := hls.1
          refine ⟨_, s6 _ _ hd5, by rw [List.length_map, List.length_map]; exact small1000 (by omega), same_upd (s5.trans s6) hD3, ?_⟩
          rw [upd_same, et, List.filter_append, List.filter_cons_of_pos (by exact c1)]
          simp
        · refine ⟨s5.trans s6, ?_⟩
          rw [s6 _ _ hd5, et, List.filter_append, List.filter_cons_of_neg (by exact c1)]
          simp
      · rintro H5 ⟨s5, hd5⟩
        rw [List.length_map, hls.1, List.take_length] at hd5
        have l5 := List.length_filter_le (fun x => cntL x.m L) ys
        have l6 := hls.1
        have s15 := s4.trans s5
        have sH5 := s1.trans s15
        walk_at "rs"
        refine ⟨c, dx, _, rfl, sH5 _ _ hcp, cfs_no _ _ (by decide +kernel) (by decide +kernel) (by decide +kernel), ?_⟩
        walk_at "rs"
        refine ⟨c, D3, ws, _, rfl, hc.same sH5, gw.2.1, SqL.of hd5, by rw [List.length_map]; omega, fun H6 s6 => ?_⟩
        walk_at "rs"
        have hf6 := s6 _ _ (s5 _ _ hf4)
        have s16 := s15.trans s6
        have hr6 := s6 _ _ (s5 _ _ hr4)
        refine ite2 (fun c1 => ?_) (fun c1 => ?_)
        · walk_at "rs"
          refine ⟨F1, _, rfl, DPut.k (k := Sum.inl (n : Int)) hf6 (by unfold tru; rw [List.length_map]; exact small1000 (by omega)), ?_⟩
          refine ⟨_, _, rfl, same_upd s16 nF, ?_, ?_⟩
          · rw [upd_ne (fun z => by rw [← z, hr6] at hf6; cases hf6)]
            exact hr6
          · have ev : valV (tru L) (Sum.inl (n : Int)) = none := by
              have := val_tru (t := (n : Int)) (L := L)
              rw [decide_eq_false nL] at this
              cases q : valV (tru L) (Sum.inl (n : Int)) with
              | none => rfl
              | some v => rw [q] at this; cases this
            rw [upd_same, putK_new ev, yes c1, tru_snoc]
        · refine ⟨_, _, rfl, s16, hr6, ?_⟩
          rw [no c1]
          exact hf6
    · rintro σ H4 ⟨v6, v7, rfl, s4, hr4, hf4⟩
      rw [List.length_map] at hf4
      have eE : lns ws xs h b (nxt ts ts.length) = ctL ws xs h b := by
        cases b with
        | none =>
          have : ts = [] := by
            cases ts with
            | nil => rfl
            | cons t ts =>
              obtain ⟨x, _, z⟩ := (ky t).mp List.mem_cons_self
              exact absurd rfl (inT_some z).1
          rw [this]
          rfl
        | some bb =>
          symm
          refine gap_gen (b := some bb) (h := h) gw (by simp) ky hpw nd (Nat.le_refl _) ?_ fun j h1 h2 => absurd h2 (by omega)
          cases q : ts.length with
          | zero => exact Nat.zero_le _
          | succ k =>
            have h5 : nxt ts (k + 1) = (ts.getD k 0 + 1).toNat := rfl
            have h6 := tb2 _ (getD_mem (show k < ts.length by omega))
            omega
      rw [eE] at hf4
      walk_at "rs"
      refine ⟨F1, _, rfl, .inl hf4, fun R2 hR2 => ?_⟩
      have s5 := same_new (o := .lst ((ctL ws xs h b).map V.int)) hR2
      have e : (tru (ctL ws xs h b)).map (fun kv => kV kv.1) = (ctL ws xs h b).map V.int := by
        unfold tru
        rw [List.map_map]
        rfl
      rw [e]
      exact k R2 _ (s1.trans (s4.trans s5)) (s1.free (s4.free hR2)) upd_same
theorem ok_committed_turns (T : Txt K mg a) : ∃ fd, FnOk P w K mg base CX0 4 a.d_committed_turns fd ["committee", "letters", "height", "block"] (spCms K a.C_Committee) ∧ Binds K fd ["committee", "letters", "height", "block"] [] := by
  obtain ⟨fd, F, b⟩ := T.d_committed_turns.F
  obtain ⟨fd_votes_by_turn, G_votes_by_turn, b_votes_by_turn⟩ := ok_votes_by_turn (P := P) (w := w) (base := base) T
  obtain ⟨fd_certified_turns, G_certified_turns, b_certified_turns⟩ := ok_certified_turns (P := P) (w := w) (base := base) T
  obtain ⟨fd_Committee_is_quorum, G_Committee_is_quorum, b_Committee_is_quorum⟩ := ok_Committee_is_quorum (P := P) (w := w) (base := base) T
  refine ⟨fd, F.ok sc_committed_turns (fun vs H Q E h => ?_) (fun cdv A outer s H vs Q E hr h => ?_), b⟩
  · obtain ⟨_, _, _, _, _, _, _, rfl, _⟩ := h
    rfl
  · obtain ⟨c, l, ws, ps, xs, h, b, rfl, hc, gw, hl, hx, few, tb, k⟩ := h
    obtain ⟨dx, t, hcp, hct⟩ := id hc
    refine ⟨_, (pss_cons (ps_set (i := 4) sc_committed_turns.nd rfl (Or.inl rfl) (pe_call G_votes_by_turn (hr.mono (by decide)) rfl T.d_votes_by_turn.g T.d_votes_by_turn.kp b_votes_by_turn .nil pass0 (pa_cons (pv 1) (pa_cons pe_str (pa_cons (pv 2) (pa_cons (pv 3) pa_nil))))))
      (pss_cons (ps_set (i := 5) sc_committed_turns.nd rfl (Or.inl rfl) (pe_lst pa_nil))
      (pss_cons (ps_for PassesOwn.never rfl (pi_list (pe_call G_certified_turns (hr.mono (by decide)) rfl T.d_certified_turns.g T.d_certified_turns.kp b_certified_turns .nil pass0 (pa_cons (pv 0) (pa_cons (pv 1) (pa_cons (pv 2) (pa_cons (pv 3) pa_nil)))))) (pg_name (i := 6) sc_committed_turns.nd rfl (Or.inl rfl))
      (pss_cons (ps_setLc (i := 7) (own := [("letter", 8)]) (g := (gName 8)) (tt := tYes) rfl sc_committed_turns.nd rfl rfl (sw_true rfl rfl rfl (by decide +kernel)) (pi_list (pe_dget2 (hu_of hr) (pv 4) (pv 6) (pe_lst pa_nil) ⟨rfl, rfl, rfl, rfl⟩)) (blkOk_by (own := [("letter", 8)]) (N := sc_committed_turns_N) (sc := defScope s_committed_turns) (by decide +kernel)) (fun _ _ _ _ _ => (pg_name (i := 8) sc_committed_turns.nd rfl (Or.inl rfl))) (fun _ _ _ _ _ => pts_nil) (fun _ _ _ _ _ => (pe_ix (r := rIxT K) ix_tup (pv 8) pe_int (fun _ _ => rfl))))
        (pss_one (ps_if (pt_val (pe_meth (pv 0) T.cl_Committee T.me_Committee_is_quorum G_Committee_is_quorum (hr.mono (by decide)) b_Committee_is_quorum .nil pass0 (pa_cons (pv 7) pa_nil)))
        (pss_one (ps_expr (pe_bm PySem.F.plainAttrs_list PySem.F.slot_list_append PySem.F.type_list_append mt_append (pv 5) (pa_cons (pv 6) pa_nil))))
        pss_nil))))
      (pss_one (ps_ret (pv 5)))))), ?_⟩
    walk_at "rs"
    refine ⟨l, ps, xs, .com, h, b, rfl, hl, hx, few, fun D ks H1 s1 hv => ?_⟩
    walk_at "rs"
    refine ⟨(by show 0 ≤ sizeLine; decide), fun F1 hF1 => ?_⟩
    have s2 : Same H1 (upd H1 F1 (.lst [])) := same_new hF1
    have hF2 : (upd H1 F1 (.lst [])) F1 = some (.lst (([] : List Int).map V.int)) := upd_same
    have nF : H F1 = none := s1.free hF1
    generalize upd H1 F1 (.lst []) = H2 at s2 hF2 ⊢
    walk_at "rs"
    have s02 := s1.trans s2
    refine ⟨c, l, ws, ps, xs, h, b, rfl, hc.same s02, gw, s02 _ _ hl, hx.same s02, few, tb, fun R H3 s3 hR hR3 => ?_⟩
    have s03 := s02.trans s3
    have hv3 := hv.same (s2.trans s3)
    have hF3 := s3 _ _ hF2
    have s13 := s2.trans s3
    have nRF : R ≠ F1 := fun e => by
      rw [e, hF2] at hR
      cases hR
    have lC : (ctL ws xs h b).length ≤ 60 := by
      unfold ctL
      cases b with
      | none => exact Nat.zero_le _
      | some bb => exact lns_len ws xs h (some bb) 60
    have nbC : ∀ t ∈ ctL ws xs h b, b ≠ none := fun t ht z => by
      rw [z] at ht
      cases ht
    unfold cmL at k
    generalize ctL ws xs h b = C at hR3 lC nbC k
    refine ⟨R, rfl, ⟨_, SqL.of hR3⟩, for_list (K := K) (a := R) (xs := C.map V.int) (fun i σ H4 => ∃ v6 v7 : Option V, σ = [some (.ref c), some (.ref l), some (.int h), some (oS b), some (.ref D), some (.ref F1), v6, v7, none] ∧ Same H1 H4 ∧ H4 R = some (.lst (C.map V.int)) ∧ H4 F1 = some (.lst (((C.take i).filter fun t => qrm ws (comS xs h t b)).map V.int)))
      ⟨_, _, rfl, s13, hR3, hF3⟩ (fun i σ H4 _ ⟨_, _, _, _, hr4, _⟩ => SqL.of hr4) ?_ ?_⟩
    · rintro i y σ H4 hy ⟨v6, v7, rfl, s4, hr4, hf4⟩
      have hi : i < C.length := by
        have e := (List.getElem?_eq_some_iff.mp hy).1
        rwa [List.length_map] at e
      rw [at_ints hi] at hy
      cases hy
      have nb := nbC _ (getD_mem hi)
      have et := take_succ_getD (d := (0 : Int)) hi
      generalize C.getD i 0 = t at et ⊢
      have hv4 := hv.same s4
      have s04 := s1.trans s4
      have eS : comS xs h t b = (xs.filter (inT .com h b t)).map Lt.w := com_inT nb
      have lF := List.length_filter_le (inT .com h b t) xs
      walk_at "rs"
      refine ⟨.inl ⟨_, .inl hv4.here⟩, ?_⟩
      walk_at "rs"
      refine ⟨(by show 0 ≤ sizeLine; decide), fun z hz => ?_⟩
      have sz : Same H4 (upd H4 z (.lst [])) := same_new hz
      have hzz : (upd H4 z (.lst [])) z = some (.lst (([] : List Addr).map V.ref)) := upd_same
      have hv5 := hv4.same sz
      have hr5 := sz _ _ hr4
      have hf5 := sz _ _ hf4
      have s05 := s04.trans sz
      have s15 := s4.trans sz
      generalize upd H4 z (.lst []) = H5 at sz hzz hv5 hr5 hf5 s05 s15 ⊢
      obtain ⟨lt, qs, o, hdg, eo, hlt, hls⟩ : ∃ (lt : Addr) (qs : List Addr) (o : Option V), DGet H5 D (.int t) o ∧ o.getD (.ref z) = .ref lt ∧ H5 lt = some (.lst (qs.map V.ref)) ∧ LsAt H5 qs (xs.filter (inT .com h b t)) := by
        by_cases hin : t ∈ ks.map (·.1)
        · obtain ⟨lt, hm, e2⟩ := val_vb hin
          obtain ⟨qs, h1, h2⟩ := hv5.ls _ hm
          exact ⟨lt, qs, _, DGet.k (k := Sum.inl t) hv5.here, by rw [e2]; rfl, h1, h2⟩
        · refine ⟨z, [], _, DGet.k (k := Sum.inl t) hv5.here, by rw [val_vbn hin]; rfl, hzz, ?_⟩
          have e0 : xs.filter (inT .com h b t) = [] := List.filter_eq_nil_iff.mpr fun x hx y => hin ((hv.ky t).mpr ⟨x, hx, y⟩)
          rw [e0]
          exact LsAt.nil
      refine ⟨o, hdg, ?_⟩
      rw [eo]
      walk_at "rs"
      generalize xs.filter (inT .com h b t) = ys at hls lF eS
      refine ⟨⟨_, SqL.of hlt⟩, fun D3 hD3 => ?_⟩
      refine lc_list (K := K) (a := lt) (xs := qs.map V.ref) (fun j H6 => Same H5 H6 ∧ H6 D3 = some (.lst (((ys.take j).map Lt.w).map V.int))) ⟨same_new hD3, by rw [upd_same]; simp⟩ (fun j H6 _ ⟨s6, _⟩ => SqL.of (s6 _ _ hlt)) ?_ ?_
      · rintro j y H6 hy ⟨s6, hd6⟩
        have hj : j < qs.length := by
          have e := (List.getElem?_eq_some_iff.mp hy).1
          rwa [List.length_map] at e
        have hj' : j < ys.length := by
          rw [← hls.1]
          exact hj
        rw [at_refs hj] at hy
        cases hy
        have hl6 := (hls.2 j hj').same s6
        obtain ⟨q, hp6, hq6⟩ := id hl6
        have ej := take_succ_getD (d := default) hj'
        refine ⟨rfl, ?_⟩
        walk_at "rs"
        refine ⟨_, _, _, _, rfl, rfl, SqT.of hp6, rfl, ?_⟩
        refine ⟨_, hd6, by rw [List.length_map, List.length_map, List.length_take]; exact small1000 (by omega), same_upd s6 hD3, ?_⟩
        rw [upd_same, ej]
        simp
      · rintro H6 ⟨s6, hd6⟩
        rw [List.length_map, hls.1, List.take_length] at hd6
        have s06 := s05.trans s6
        walk_at "rs"
        refine ⟨c, dx, _, rfl, s06 _ _ hcp, cfs_no _ _ (by decide +kernel) (by decide +kernel) (by decide +kernel), ?_⟩
        walk_at "rs"
        refine ⟨c, D3, ws, _, rfl, hc.same s06, gw.2.1, SqL.of hd6, by rw [List.length_map]; omega, fun H7 s7 => ?_⟩
        walk_at "rs"
        have hf7 := s7 _ _ (s6 _ _ hf5)
        have hr7 := s7 _ _ (s6 _ _ hr5)
        have s17 := (s15.trans s6).trans s7
        refine ite2 (fun c1 => ?_) (fun c1 => ?_)
        · walk_at "rs"
          refine ⟨.inl ⟨rfl, _, SqL.of hf7⟩, ?_⟩
          walk_at "rs"
          have l7 := List.length_filter_le (fun t => qrm ws (comS xs h t b)) (C.take i)
          rw [List.length_take] at l7
          refine ⟨F1, _, _, rfl, rfl, hf7, by rw [List.length_map]; exact small1000 (by omega), ?_⟩
          refine ⟨_, _, rfl, same_upd s17 hF1, ?_, ?_⟩
          · rw [upd_ne nRF]
            exact hr7
          · rw [upd_same, et, List.filter_append, List.filter_cons_of_pos (by rw [eS]; exact c1)]
            simp
        · refine ⟨_, _, rfl, s17, hr7, ?_⟩
          rw [hf7, et, List.filter_append, List.filter_cons_of_neg (by rw [eS]; exact c1)]
          simp
    · rintro σ H4 ⟨v6, v7, rfl, s4, hr4, hf4⟩
      rw [List.length_map, List.take_length] at hf4
      walk_at "rs"
      exact k F1 _ (s1.trans s4) nF hf4

theorem hu9 {k : Nat} {A : Around} (r : Room k A) : A.units + 9 < cLine := by
  have := hu65 r
  omega
theorem ok_missing (T : Txt K mg a) : ∃ fd, FnOk P w K mg base CX0 1 a.d_missing fd ["turns", "block", "pairs"] (spMissing K) ∧ Binds K fd ["turns", "block", "pairs"] [] := by
  obtain ⟨fd, F, b⟩ := T.d_missing.F
  refine ⟨fd, F.ok sc_missing (fun vs H Q E h => ?_) (fun cdv A outer s H vs Q E hr h => ?_), b⟩
  · obtain ⟨_, _, _, _, _, _, rfl, _⟩ := h
    rfl
  · obtain ⟨R, L, ts, b, qs, cs, rfl, hR, hL, hc, okc, okb, few, k⟩ := h
    refine ⟨_, (pss_one (ps_ret (pe_lc (own := [("turn", 3)]) (g := (gName 3)) rfl sc_missing.nd (pi_list (pv 0)) (blkOk_by (own := [("turn", 3)]) (N := sc_missing_N) (sc := defScope s_missing) (by decide +kernel)) (fun _ _ _ _ _ => (pg_name (i := 3) sc_missing.nd rfl (Or.inl rfl))) (fun _ _ _ _ _ => (pts_one (pt_cmpR (r := rNotInD K) (op_notInD (hu65 hr)) (pe_tup (pa_cons (pv 3) (pa_cons (pv 1) pa_nil))) (pv 2) (by rfl)))) (fun _ _ _ _ _ => (pe_tup (pa_cons (pv 3) (pa_cons (pv 1) pa_nil))))))), ?_⟩
    walk_at "rs"
    refine ⟨⟨_, SqL.of hR⟩, fun D hD => ?_⟩
    refine lc_list (K := K) (a := R) (xs := ts.map V.int) (fun i H2 => Same H H2 ∧ ∃ ps, H2 D = some (.lst (ps.map V.ref)) ∧ PsAt H2 ps (miss (ts.take i) b cs)) ⟨same_new hD, [], upd_same, by rw [List.take_zero]; exact PsAt.nil⟩ (fun i H2 _ ⟨s2, _⟩ => SqL.of (s2 _ _ hR)) ?_ ?_
    · rintro i y H2 hy ⟨s2, ps, hd, hp⟩
      have hi : i < ts.length := by
        have e := (List.getElem?_eq_some_iff.mp hy).1
        rwa [List.length_map] at e
      obtain rfl : y = V.int (ts.getD i default) := by
        rw [List.getElem?_map, List.getElem?_eq_getElem hi] at hy
        cases hy
        rw [List.getD_eq_getElem?_getD, List.getElem?_eq_getElem hi]
        rfl
      have ml := miss_len (ts.take i) b cs
      rw [List.length_take] at ml
      have n1 := hp.1
      refine ⟨rfl, ?_⟩
      walk_at "rs"
      refine ⟨(by show 2 ≤ sizeLine; decide), fun p1 hp1 => ?_⟩
      have s3 := same_new (o := .tup [V.int (ts.getD i default), oS b]) hp1
      have h3 : PrAt (upd H2 p1 (.tup [V.int (ts.getD i default), oS b])) p1 (ts.getD i default, b) := upd_same
      walk_at "rs"
      refine ⟨prD (ts.getD i default, b), cs.map prD, dp_pr h3, .lst (SqL.of (s3 _ _ (s2 _ _ hL))) (dp_prs ((hc.same s2).same s3)), shaped_pr okb, shaped_prs okc, ?_⟩
      rw [any_pr]
      walk_at "rs"
      refine ite2 (fun c => ?_) (fun c => ?_)
      · have c : (ts.getD i default, b) ∉ cs := by simpa using c
        walk_at "rs"
        refine ⟨(by show 2 ≤ sizeLine; decide), fun p2 hp2 => ?_⟩
        have s4 := same_new (o := .tup [V.int (ts.getD i default), oS b]) hp2
        refine ⟨_, s4 _ _ (s3 _ _ hd), by rw [List.length_map]; exact small1000 (by omega), same_upd ((s2.trans s3).trans s4) hD, ps ++ [p2], by rw [upd_same]; simp, ?_⟩
        rw [miss_yes hi c]
        refine (((hp.same s3).same s4).app (PsAt.one (p := p2) (q := (ts.getD i default, b)) (by unfold PrAt; exact upd_same))).updM fun ys e => ?_
        rw [s4 _ _ (s3 _ _ hd)] at e
        cases e
      · have c : ¬ (ts.getD i default, b) ∉ cs := by simpa using c
        refine ⟨s2.trans s3, ps, s3 _ _ hd, ?_⟩
        rw [miss_no hi c]
        exact hp.same s3
    · rintro H2 ⟨s2, ps, hd, hp⟩
      rw [List.length_map, List.take_length] at hp
      exact k D ps H2 s2 hD hd hp
theorem ok_Book_init (T : Txt K mg a) : ∃ fd, FnOk P w K mg base CX0 1 a.d_Book_init fd ["self", "committee", "height"] (spBI K a.C_Book a.C_Committee) ∧ Binds K fd ["self", "committee", "height"] [] := by
  obtain ⟨fd, F, b⟩ := T.d_Book_init.F
  refine ⟨fd, F.ok sc_Book_init (fun vs H Q E h => ?_) (fun cdv A outer s H vs Q E hr h => ?_), b⟩
  · obtain ⟨_, _, _, _, _, rfl, _⟩ := h
    rfl
  · obtain ⟨p, dx, c, h, ws, rfl, hp, hc, gw, k⟩ := h
    refine ⟨_, (pss_cons (ps_fld (pv 0) (pv 1) rfl)
      (pss_cons (ps_fld (pv 0) (pv 2) rfl)
      (pss_cons (ps_fld (pv 0) (pe_lst pa_nil) rfl)
      (pss_cons (ps_fld (pv 0) (pe_lst pa_nil) rfl)
      (pss_cons (ps_fld (pv 0) pe_dnewK rfl)
      (pss_one (ps_fld (pv 0) pe_dnewK rfl))))))), ?_⟩
    walk_at "rs"
    refine ⟨p, _, dx, [], rfl, hp, T.cl_Book, T.a_Book_committee, (by show 0 < 1000; decide), ?_⟩
    walk_at "rs"
    refine ⟨p, _, dx, _, rfl, upd_same, T.cl_Book, T.a_Book_height, (by show 1 < 1000; decide), ?_⟩
    walk_at "rs"
    have e0 : upd (upd H p (.ins a.C_Book dx (putF "committee" (.ref c) []))) p (.ins a.C_Book dx (putF "height" (.int h) (putF "committee" (.ref c) []))) = upd H p (.ins a.C_Book dx (putF "height" (.int h) (putF "committee" (.ref c) []))) := upd_upd
    rw [e0]
    refine ⟨(by show 0 ≤ sizeLine; decide), fun Lc hLc => ?_⟩
    have np1 : p ≠ Lc := fun e => by rw [← e, upd_same] at hLc; cases hLc
    have f1 : H Lc = none := by rwa [upd_ne np1.symm] at hLc
    walk_at "rs"
    refine ⟨p, _, dx, _, rfl, by rw [upd_ne np1, upd_same], T.cl_Book, T.a_Book_certificates, (by show 2 < 1000; decide), ?_⟩
    walk_at "rs"
    refine ⟨(by show 0 ≤ sizeLine; decide), fun Lm hLm => ?_⟩
    have np2 : p ≠ Lm := fun e => by rw [← e, upd_same] at hLm; cases hLm
    have ncm : Lc ≠ Lm := fun e => by rw [← e, upd_ne np1.symm, upd_same] at hLm; cases hLm
    have f2 : H Lm = none := by rwa [upd_ne np2.symm, upd_ne ncm.symm, upd_ne np2.symm] at hLm
    walk_at "rs"
    refine ⟨p, _, dx, _, rfl, by rw [upd_ne np2, upd_same], T.cl_Book, T.a_Book_commits, (by show 3 < 1000; decide), ?_⟩
    walk_at "rs"
    intro Dk hDk
    have np3 : p ≠ Dk := fun e => by rw [← e, upd_same] at hDk; cases hDk
    have nck : Lc ≠ Dk := fun e => by
      rw [← e, upd_ne np1.symm, upd_ne ncm, upd_ne np1.symm, upd_same] at hDk
      cases hDk
    have nmk : Lm ≠ Dk := fun e => by
      rw [← e, upd_ne np2.symm, upd_same] at hDk
      cases hDk
    have f3 : H Dk = none := by rwa [upd_ne np3.symm, upd_ne nmk.symm, upd_ne np3.symm, upd_ne nck.symm, upd_ne np3.symm] at hDk
    walk_at "rs"
    refine ⟨p, _, dx, _, rfl, by rw [upd_ne np3, upd_same], T.cl_Book, T.a_Book__kept, (by show 4 < 1000; decide), ?_⟩
    walk_at "rs"
    intro Db hDb
    have np4 : p ≠ Db := fun e => by rw [← e, upd_same] at hDb; cases hDb
    have nkb : Dk ≠ Db := fun e => by
      rw [← e, upd_ne np3.symm, upd_same] at hDb
      cases hDb
    have nmb : Lm ≠ Db := fun e => by
      rw [← e, upd_ne np2.symm, upd_ne nmk, upd_ne np2.symm, upd_same] at hDb
      cases hDb
    have ncb : Lc ≠ Db := fun e => by
      rw [← e, upd_ne np1.symm, upd_ne nck, upd_ne np1.symm, upd_ne ncm, upd_ne np1.symm, upd_same] at hDb
      cases hDb
    have f4 : H Db = none := by rwa [upd_ne np4.symm, upd_ne nkb.symm, upd_ne np4.symm, upd_ne nmb.symm, upd_ne np4.symm, upd_ne ncb.symm, upd_ne np4.symm] at hDb
    walk_at "rs"
    refine ⟨p, _, dx, _, rfl, by rw [upd_ne np4, upd_same], T.cl_Book, T.a_Book__by_block, (by show 5 < 1000; decide), ?_⟩
    have lst : ∀ b o, b ≠ p → b ≠ Lc → b ≠ Lm → b ≠ Dk → b ≠ Db → H b = some o → (upd (upd (upd (upd (upd (upd (upd (upd (upd H p (HO.ins a.C_Book dx (putF "height" (V.int h) (putF "committee" (V.ref c) [])))) Lc (HO.lst [])) p (HO.ins a.C_Book dx (putF "certificates" (V.ref Lc) (putF "height" (V.int h) (putF "committee" (V.ref c) []))))) Lm (HO.lst [])) p
          (HO.ins a.C_Book dx (putF "commits" (V.ref Lm) (putF "certificates" (V.ref Lc) (putF "height" (V.int h) (putF "committee" (V.ref c) [])))))) Dk (HO.dK [])) p (HO.ins a.C_Book dx (putF "_kept" (V.ref Dk) (putF "commits" (V.ref Lm) (putF "certificates" (V.ref Lc) (putF "height" (V.int h) (putF "committee" (V.ref c) []))))))) Db (HO.dK [])) p
          (HO.ins a.C_Book dx (bfs c h Lc Lm Dk Db))) b = some o := fun b o d1 d2 d3 d4 d5 e => by
      rw [upd_ne d1, upd_ne d5, upd_ne d1, upd_ne d4, upd_ne d1, upd_ne d3, upd_ne d1, upd_ne d2, upd_ne d1]
      exact e
    have nn : ∀ b o, H b = some o → b ≠ Lc ∧ b ≠ Lm ∧ b ≠ Dk ∧ b ≠ Db := fun b o e => ⟨ne_of_none e f1, ne_of_none e f2, ne_of_none e f3, ne_of_none e f4⟩
    refine k Lc Lm Dk Db _ (fun P w => ?_) f1 f2 f3 f4 fun b o hb e => ?_
    · obtain ⟨cd, ct, hc1, hc2⟩ := hc
      have cp : c ≠ p := fun e => by
        rw [e, hp] at hc1
        injection hc1 with hc1
        injection hc1 with _ _ hc1
        have := cfs_s ct ws
        rw [← hc1] at this
        cases this
      have tp : ct ≠ p := fun e => by rw [e, hp] at hc2; cases hc2
      obtain ⟨c1, c2, c3, c4⟩ := nn _ _ hc1
      obtain ⟨t1, t2, t3, t4⟩ := nn _ _ hc2
      exact { obj := ⟨dx, upd_same⟩, com := ⟨cd, ct, lst _ _ cp c1 c2 c3 c4 hc1, lst _ _ tp t1 t2 t3 t4 hc2⟩, gw := gw,
              kept := NdAt.new (by rw [upd_ne np3.symm, upd_ne nkb, upd_ne np3.symm, upd_same]), byb := OdAt.new (by rw [upd_ne np4.symm, upd_same]),
              lc := by
                rw [upd_ne np1.symm, upd_ne ncb, upd_ne np1.symm, upd_ne nck, upd_ne np1.symm, upd_ne ncm, upd_ne np1.symm, upd_same]
                rfl
              pc := .nil
              lm := by
                rw [upd_ne np2.symm, upd_ne nmb, upd_ne np2.symm, upd_ne nmk, upd_ne np2.symm, upd_same]
                rfl
              pm := .nil, rows := fun e he => (nomatch he), non := fun _ _ => rfl, nk := .nil, nl := List.nodup_cons.mpr ⟨fun m => ncm (List.mem_singleton.mp m), List.nodup_cons.mpr ⟨fun m => (nomatch m), .nil⟩⟩, nd := nkb, kl := Nat.le_refl _,
              tb := fun x hx => (nomatch hx), okx := fun x hx => (nomatch hx), okc := fun x hx => (nomatch hx), okm := fun x hx => (nomatch hx) }
    · obtain ⟨c1, c2, c3, c4⟩ := nn _ _ e
      exact lst b o hb c1 c2 c3 c4 e
theorem ok_Book_belongs (T : Txt K mg a) : ∃ fd, FnOk P w K mg base CX0 2 a.d_Book_belongs fd ["self", "letter"] (spBel P w K a.C_Book a.C_Committee) ∧ Binds K fd ["self", "letter"] [] := by
  obtain ⟨fd, F, b⟩ := T.d_Book_belongs.F
  obtain ⟨fd_is_vote, G_is_vote, b_is_vote⟩ := ok_is_vote (P := P) (w := w) (base := base) T
  refine ⟨fd, F.ok sc_Book_belongs (fun vs H Q E h => ?_) (fun cdv A outer s H vs Q E hr h => ?_), b⟩
  · obtain ⟨_, _, _, _, rfl, _⟩ := h
    rfl
  · obtain ⟨bk, p, B, x, rfl, N, ⟨q, hp, hq⟩, k⟩ := h
    obtain ⟨dx, ho⟩ := N.obj
    obtain ⟨dc, tc, hc, _⟩ := id N.com
    have hq' : H q = some (.tup x.m.vals) := hq
    refine ⟨_, (pss_cons (ps_asg (pv 1) (pg_tup rfl (pgs_cons (pg_name (i := 2) sc_Book_belongs.nd rfl (Or.inl rfl)) (pgs_cons (pg_name (i := 3) sc_Book_belongs.nd rfl (Or.inl rfl)) pgs_nil))))
      (pss_cons (ps_set (i := 4) sc_Book_belongs.nd rfl (Or.inl rfl) (pe_chain op_le op_lt pe_int (pv 2) (pe_fld (pe_fld (pv 0) rfl) rfl)))
      (pss_one (ps_ret (pe_and (pv 4) (pe_and (pe_call G_is_vote (hr.mono (by decide)) rfl T.d_is_vote.g T.d_is_vote.kp b_is_vote .nil pass0 (pa_cons (pv 3) pa_nil)) (pe_one (pe_cmpR op_eq (pe_ix ix_tup (pv 3) (pe_glob (v := (.int 1)) rfl T.c_HEIGHT.choose_spec ⟨_, rfl⟩) (fun _ _ => rfl)) (pe_fld (pv 0) rfl) (nomark _))))))))), ?_⟩
    walk_at "rs"
    refine ⟨_, _, rfl, SqT.of hp, rfl, _, _, rfl, _, _, rfl, rfl, ?_⟩
    walk_at "rs"
    have out : bel B.ws B.h x = false → Q (.bl false) H := fun e => by
      have := k H (Same.refl H)
      rwa [e] at this
    refine ite2 (fun c1 => ?_) (fun c1 => ?_)
    · have c1 : 0 ≤ x.w := by simpa using c1
      walk_at "rs"
      refine ⟨bk, _, dx, _, .ref B.c, rfl, ho, T.cl_Book, T.a_Book_committee, bfs_co _ _ _ _ _ _, ?_⟩
      walk_at "rs"
      refine ⟨B.c, _, dc, _, .int B.ws.length, rfl, hc, T.cl_Committee, T.a_Committee_size, cfs_s _ _, ?_⟩
      walk_at "rs"
      refine ite2 (fun c2 => ?_) (fun c2 => ?_)
      · have c2 : x.w < B.ws.length := by simpa using c2
        walk_at "rs"
        refine ⟨q, x.m, rfl, hq, fun H1 s1 => ?_⟩
        walk_at "rs"
        refine ite2 (fun c3 => ?_) (fun c3 => ?_)
        · walk_at "rs"
          refine ⟨q, _, _, _, rfl, rfl, SqT.of (s1 _ _ hq'), at1 x.m, ?_⟩
          walk_at "rs"
          refine ⟨bk, _, dx, _, .int B.h, rfl, s1 _ _ ho, T.cl_Book, T.a_Book_height, bfs_h _ _ _ _ _ _, ?_⟩
          walk_at "rs"
          have e : decide (V.int x.m.h = V.int B.h) = bel B.ws B.h x := by
            unfold bel
            rw [decide_eq_true c1, decide_eq_true c2, c3]
            simp
          rw [e]
          exact k H1 s1
        · have := k H1 s1
          rwa [show bel B.ws B.h x = false by
            unfold bel
            rw [show decide (x.m.k ≠ .prop) = false from Bool.eq_false_iff.mpr c3, Bool.false_and, Bool.and_false]] at this
      · exact out (by
          unfold bel
          rw [show decide (x.w < B.ws.length) = false from Bool.eq_false_iff.mpr c2, Bool.and_false, Bool.false_and])
    · walk_at "rs"
      rw [if_neg Bool.false_ne_true]
      exact out (by unfold bel; rw [show decide (0 ≤ x.w) = false by simpa using c1]; rfl)
theorem ctL_len (ws : List Int) (xs : List Lt) (h : Int) (b : Option Str) : (ctL ws xs h b).length ≤ 60 := by
  unfold ctL
  cases b with
  | none => exact Nat.zero_le _
  | some x => exact lns_len ws xs h (some x) 60
theorem cmL_len (ws : List Int) (xs : List Lt) (h : Int) (b : Option Str) : (cmL ws xs h b).length ≤ 60 := Nat.le_trans (List.length_filter_le _ _) (ctL_len ws xs h b)
theorem ok_Book_enter (T : Txt K mg a) : ∃ fd, FnOk P w K mg base CX0 5 a.d_Book_enter fd ["self", "block"] (spEnter P w K a.C_Book a.C_Committee) ∧ Binds K fd ["self", "block"] [] := by
  obtain ⟨fd, F, b⟩ := T.d_Book_enter.F
  obtain ⟨fd_certified_turns, G_certified_turns, b_certified_turns⟩ := ok_certified_turns (P := P) (w := w) (base := base) T
  obtain ⟨fd_committed_turns, G_committed_turns, b_committed_turns⟩ := ok_committed_turns (P := P) (w := w) (base := base) T
  obtain ⟨fd_missing, G_missing, b_missing⟩ := ok_missing (P := P) (w := w) (base := base) T
  refine ⟨fd, F.ok sc_Book_enter (fun vs H Q E h => ?_) (fun cdv A outer s H vs Q E hr h => ?_), b⟩
  · obtain ⟨_, _, _, _, rfl, _⟩ := h
    rfl
  · obtain ⟨bk, B, b, ar, rfl, N, g, ob, few, fc, fm, k⟩ := h
    obtain ⟨dx, ho⟩ := N.obj
    obtain ⟨ls, hl, hls⟩ := N.rows _ (odGet_mem g)
    refine ⟨_, (pss_cons (ps_set (i := 2) sc_Book_enter.nd rfl (Or.inl rfl) (pe_odget (pe_fld (pv 0) rfl) (pv 1) (fun _ _ => rfl)))
      (pss_cons (ps_set (i := 3) sc_Book_enter.nd rfl (Or.inl rfl) (pe_call G_certified_turns (hr.mono (by decide)) rfl T.d_certified_turns.g T.d_certified_turns.kp b_certified_turns .nil pass0 (pa_cons (pe_fld (pv 0) rfl) (pa_cons (pv 2) (pa_cons (pe_fld (pv 0) rfl) (pa_cons (pv 1) pa_nil))))))
      (pss_cons (ps_set (i := 4) sc_Book_enter.nd rfl (Or.inl rfl) (pe_call G_committed_turns (hr.mono (by decide)) rfl T.d_committed_turns.g T.d_committed_turns.kp b_committed_turns .nil pass0 (pa_cons (pe_fld (pv 0) rfl) (pa_cons (pv 2) (pa_cons (pe_fld (pv 0) rfl) (pa_cons (pv 1) pa_nil))))))
      (pss_cons (ps_set (i := 5) sc_Book_enter.nd rfl (Or.inl rfl) (pe_call G_missing (hr.mono (by decide)) rfl T.d_missing.g T.d_missing.kp b_missing .nil pass0 (pa_cons (pv 3) (pa_cons (pv 1) (pa_cons (pe_fld (pv 0) rfl) pa_nil)))))
      (pss_cons (ps_set (i := 6) sc_Book_enter.nd rfl (Or.inl rfl) (pe_call G_missing (hr.mono (by decide)) rfl T.d_missing.g T.d_missing.kp b_missing .nil pass0 (pa_cons (pv 4) (pa_cons (pv 1) (pa_cons (pe_fld (pv 0) rfl) pa_nil)))))
      (pss_cons (ps_expr (pe_bm PySem.F.plainAttrs_list PySem.F.slot_list_extend PySem.F.type_list_extend mt_extend (pe_fld (pv 0) rfl) (pa_cons (pv 5) pa_nil)))
      (pss_one (ps_expr (pe_bm PySem.F.plainAttrs_list PySem.F.slot_list_extend PySem.F.type_list_extend mt_extend (pe_fld (pv 0) rfl) (pa_cons (pv 6) pa_nil)))))))))), ?_⟩
    walk_at "rs"
    have few' : (inB b B.xs).length ≤ 900 := Nat.le_trans (List.length_filter_le _ _) few
    have tb' : TB (inB b B.xs) := fun y hy => N.tb y (List.mem_filter.mp hy).1
    refine ⟨bk, _, dx, _, .ref B.Db, rfl, ho, T.cl_Book, T.a_Book__by_block, bfs_b _ _ _ _ _ _, ?_⟩
    walk_at "rs"
    refine ⟨B.Db, B.kvs, b, ar, rfl, rfl, N.byb, g, ?_⟩
    walk_at "rs"
    refine ⟨bk, _, dx, _, .ref B.c, rfl, ho, T.cl_Book, T.a_Book_committee, bfs_co _ _ _ _ _ _, ?_⟩
    walk_at "rs"
    refine ⟨bk, _, dx, _, .int B.h, rfl, ho, T.cl_Book, T.a_Book_height, bfs_h _ _ _ _ _ _, ?_⟩
    walk_at "rs"
    refine ⟨B.c, ar, B.ws, ls, inB b B.xs, B.h, b, rfl, N.com, N.gw, hl, hls, few', tb', fun R1 H1 s1 hR1 hRR1 => ?_⟩
    walk_at "rs"
    refine ⟨bk, _, dx, _, .ref B.c, rfl, s1 _ _ ho, T.cl_Book, T.a_Book_committee, bfs_co _ _ _ _ _ _, ?_⟩
    walk_at "rs"
    refine ⟨bk, _, dx, _, .int B.h, rfl, s1 _ _ ho, T.cl_Book, T.a_Book_height, bfs_h _ _ _ _ _ _, ?_⟩
    walk_at "rs"
    refine ⟨B.c, ar, B.ws, ls, inB b B.xs, B.h, b, rfl, N.com.same s1, N.gw, s1 _ _ hl, hls.same s1, few', tb', fun R2 H2 s2 hR2 hRR2 => ?_⟩
    walk_at "rs"
    have s02 := s1.trans s2
    refine ⟨bk, _, dx, _, .ref B.Lc, rfl, s02 _ _ ho, T.cl_Book, T.a_Book_certificates, bfs_ce _ _ _ _ _ _, ?_⟩
    walk_at "rs"
    refine ⟨R1, B.Lc, _, b, B.qc, B.cs, rfl, s2 _ _ hRR1, s02 _ _ N.lc, N.pc.same s02, N.okc, ob, ?_, fun D1 p1 H3 s3 hD1 hDD1 hP1 => ?_⟩
    · have := ctL_len B.ws (inB b B.xs) B.h b
      omega
    have s03 := s02.trans s3
    walk_at "rs"
    refine ⟨bk, _, dx, _, .ref B.Lm, rfl, s03 _ _ ho, T.cl_Book, T.a_Book_commits, bfs_cm _ _ _ _ _ _, ?_⟩
    walk_at "rs"
    refine ⟨R2, B.Lm, _, b, B.qm, B.ms, rfl, s3 _ _ hRR2, s03 _ _ N.lm, N.pm.same s03, N.okm, ob, ?_, fun D2 p2 H4 s4 hD2 hDD2 hP2 => ?_⟩
    · have := cmL_len B.ws (inB b B.xs) B.h b
      omega
    have s04 := s03.trans s4
    walk_at "rs"
    refine ⟨bk, _, dx, _, .ref B.Lc, rfl, s04 _ _ ho, T.cl_Book, T.a_Book_certificates, bfs_ce _ _ _ _ _ _, ?_⟩
    walk_at "rs"
    refine ⟨.inl ⟨rfl, _, SqL.of (s04 _ _ N.lc)⟩, ?_⟩
    walk_at "rs"
    have l1 := hP1.1
    have l2 := hP2.1
    have m1 := miss_len (ctL B.ws (inB b B.xs) B.h b) b B.cs
    have m2 := miss_len (cmL B.ws (inB b B.xs) B.h b) b B.ms
    have m3 := ctL_len B.ws (inB b B.xs) B.h b
    have m4 := cmL_len B.ws (inB b B.xs) B.h b
    have n1 := N.pc.1
    have n2 := N.pm.1
    obtain ⟨d1, _, _, _⟩ := nodup_two N.nl
    refine ⟨B.Lc, D1, _, _, rfl, rfl, s04 _ _ N.lc, s4 _ _ hDD1, by rw [List.length_map, List.length_map, sizeLine_eq]; omega, ?_⟩
    walk_at "rs"
    have ob2 : bk ≠ B.Lc := fun e => by
      rw [e, N.lc] at ho
      cases ho
    refine ⟨bk, _, dx, _, .ref B.Lm, rfl, by rw [upd_ne ob2]; exact s04 _ _ ho, T.cl_Book, T.a_Book_commits, bfs_cm _ _ _ _ _ _, ?_⟩
    refine ⟨.inl ⟨rfl, _, SqL.of (by rw [upd_ne d1.symm]; exact s04 _ _ N.lm)⟩, ?_⟩
    walk_at "rs"
    have dD : D2 ≠ B.Lc := fun e => by
      have := s03 _ _ N.lc
      rw [← e, hD2] at this
      cases this
    refine ⟨B.Lm, D2, _, _, rfl, rfl, by rw [upd_ne d1.symm]; exact s04 _ _ N.lm, by rw [upd_ne dD]; exact hDD2, by rw [List.length_map, List.length_map, sizeLine_eq]; omega, ?_⟩
    refine k p1 p2 _ ?_ ((N.same s04).ext (hP1.same s4) hP2 (miss_ok ob) (miss_ok ob))
    refine (Keeps.of s04).trans ((keeps_upd ?_).trans (keeps_upd ?_))
    · exact List.mem_cons_self
    · exact List.mem_cons_of_mem _ List.mem_cons_self
theorem ok_Book_add (T : Txt K mg a) : ∃ fd, FnOk P w K mg base CX0 6 a.d_Book_add fd ["self", "letter"] (spAdd P w K a.C_Book a.C_Committee) ∧ Binds K fd ["self", "letter"] [] := by
  obtain ⟨fd, F, b⟩ := T.d_Book_add.F
  obtain ⟨fd_Book_enter, G_Book_enter, b_Book_enter⟩ := ok_Book_enter (P := P) (w := w) (base := base) T
  obtain ⟨fd_Book_belongs, G_Book_belongs, b_Book_belongs⟩ := ok_Book_belongs (P := P) (w := w) (base := base) T
  refine ⟨fd, F.ok sc_Book_add (fun vs H Q E h => ?_) (fun cdv A outer s H vs Q E hr h => ?_), b⟩
  · obtain ⟨_, _, _, _, rfl, _⟩ := h
    rfl
  · obtain ⟨bk, p, B, x, rfl, N, hx, ob, tx, few, fc, fm, kf, kt⟩ := h
    obtain ⟨dx, ho⟩ := N.obj
    refine ⟨_, (pss_cons (ps_if (PW.pt (pw_or (pt_cmp (pc_ndin (hu9 hr) (pv 1) (pe_fld (pv 0) rfl))) (pw_or1 (pt_not (pt_val (pe_meth (pv 0) T.cl_Book T.me_Book_belongs G_Book_belongs (hr.mono (by decide)) b_Book_belongs .nil pass0 (pa_cons (pv 1) pa_nil)))))))
      (pss_one (ps_ret pe_bl))
      pss_nil)
      (pss_cons (ps_ndput (hu9 hr) (pe_fld (pv 0) rfl) (pv 1) pe_bl rfl)
      (pss_cons (ps_set (i := 2) sc_Book_add.nd rfl (Or.inl rfl) (pe_ix ix_tup (pe_ix ix_tup (pv 1) pe_int (fun _ _ => rfl)) (pe_glob (v := (.int 3)) rfl T.c_BLOCK.choose_spec ⟨_, rfl⟩) (fun _ _ => rfl)))
      (pss_cons (ps_expr (pe_bm PySem.F.plainAttrs_list PySem.F.slot_list_append PySem.F.type_list_append mt_append (pe_odsetd (pe_fld (pv 0) rfl) (pv 2) (pe_lst pa_nil) ⟨rfl, rfl, rfl, rfl⟩) (pa_cons (pv 1) pa_nil)))
      (pss_cons (ps_expr (pe_meth (pv 0) T.cl_Book T.me_Book_enter G_Book_enter (hr.mono (by decide)) b_Book_enter .nil pass0 (pa_cons (pv 2) pa_nil)))
      (pss_one (ps_ret pe_bl))))))), ?_⟩
    walk_at "rs"
    refine ⟨bk, _, dx, _, .ref B.Dk, rfl, ho, T.cl_Book, T.a_Book__kept, bfs_k _ _ _ _ _ _, ?_⟩
    refine ⟨p, B.Dk, x, B.ps, B.xs, rfl, rfl, hx, N.kept, ?_⟩
    walk_at "rs"
    refine ite2 (fun c1 => ?_) (fun c1 => ?_)
    · walk_at "rs"
      exact kf (.inl (of_decide_eq_true c1)) H (Same.refl H)
    have nin : ltKey x ∉ B.xs.map ltKey := by simpa using c1
    walk_at "rs"
    refine ⟨bk, dx, _, rfl, ho, bfs_no _ _ _ _ _ _ (by decide +kernel) (by decide +kernel) (by decide +kernel) (by decide +kernel) (by decide +kernel) (by decide +kernel), ?_⟩
    walk_at "rs"
    refine ⟨bk, p, B, x, rfl, N, hx, fun H1 s1 => ?_⟩
    walk_at "rs"
    refine ite2 (fun c2 => ?_) (fun c2 => ?_)
    · walk_at "rs"
      exact kf (.inr (by simpa using c2)) H1 s1
    have k := kt nin (by simpa using c2)
    clear kf kt
    have N1 := N.same s1
    have hx1 := hx.same s1
    walk_at "rs"
    refine ⟨bk, _, dx, _, .ref B.Dk, rfl, s1 _ _ ho, T.cl_Book, T.a_Book__kept, bfs_k _ _ _ _ _ _, ?_⟩
    walk_at "rs"
    refine ⟨p, B.Dk, x, B.ps, B.xs, rfl, rfl, rfl, hx1, N1.kept, nin, ?_⟩
    change (_ : Hp → Prop) (upd H1 B.Dk (.ext (ndPhi w B.Dk (B.ps ++ [p]) (B.xs ++ [x]))))
    generalize eo : HO.ext (ndPhi w B.Dk (B.ps ++ [p]) (B.xs ++ [x])) = o1
    have kd : Keeps B.S H1 (upd H1 B.Dk o1) := keeps_upd (List.mem_cons_of_mem _ (List.mem_cons_of_mem _ List.mem_cons_self))
    have ho1 := kd _ _ (N1.notS (s1 _ _ ho) True.intro) (s1 _ _ ho)
    obtain ⟨q, hp, hq⟩ := hx1.keeps kd N1.tupS
    have hq' : (upd H1 B.Dk o1) q = some (.tup x.m.vals) := hq
    walk_at "rs"
    refine ⟨p, _, _, _, rfl, rfl, SqT.of hp, rfl, ?_⟩
    walk_at "rs"
    refine ⟨bk, _, dx, _, .ref B.Db, rfl, ho1, T.cl_Book, T.a_Book__by_block, bfs_b _ _ _ _ _ _, ?_⟩
    have hb1 : OdAt P w (upd H1 B.Dk o1) B.Db B.kvs := N1.byb.updM N1.nd.symm
    refine ⟨B.Db, B.kvs, rfl, hb1, ?_⟩
    walk_at "rs"
    refine ⟨(by show 0 ≤ sizeLine; decide), fun z hz => ?_⟩
    have hz0 : H1 z = none := by
      have : z ≠ B.Dk := fun e => by rw [e, upd_same] at hz; cases hz
      rwa [upd_ne this] at hz
    have sz : Same (upd H1 B.Dk o1) (upd (upd H1 B.Dk o1) z (.lst [])) := same_new hz
    refine ⟨B.kvs, x.m.b, z, hb1.same sz, rfl, rfl, fun v hv => ?_, fun hn => ?_⟩
    · obtain ⟨ls, hl, hls⟩ := N1.rows _ (odGet_mem hv)
      have vD := ne_lD N1.kept hl
      have hl2 := sz _ _ (by rw [upd_ne vD]; exact hl : (upd H1 B.Dk o1) v = some (.lst (ls.map V.ref)))
      have few2 := N1.kept.few
      have fl : ls.length ≤ B.xs.length := by
        have e := hls.1
        have := List.length_filter_le (fun y : Lt => decide (y.m.b = x.m.b)) B.xs
        have e : ls.length = (B.xs.filter fun y : Lt => decide (y.m.b = x.m.b)).length := e
        omega
      walk_at "rs"
      refine ⟨.inl ⟨rfl, _, SqL.of hl2⟩, ?_⟩
      walk_at "rs"
      refine ⟨v, _, _, rfl, rfl, hl2, by rw [List.length_map]; exact small1000 (by omega), ?_⟩
      have N4 := N1.put1 hx1 nin (by omega) hv tx ob hz0 hl
      rw [eo] at N4
      have vS : v ∈ B.S := List.mem_cons_of_mem _ (List.mem_cons_of_mem _ (List.mem_cons_of_mem _ (List.mem_cons_of_mem _ (List.mem_map.mpr ⟨_, odGet_mem hv, rfl⟩))))
      have k4 : Keeps B.S H (upd (upd (upd H1 B.Dk o1) z (.lst [])) v (.lst (ls.map V.ref ++ [V.ref p]))) := (((Keeps.of s1).trans kd).trans (.of sz)).trans (keeps_upd vS)
      obtain ⟨dx4, ho4⟩ := N4.obj
      generalize upd (upd (upd H1 B.Dk o1) z (.lst [])) v (.lst (ls.map V.ref ++ [V.ref p])) = H4 at N4 k4 ho4 ⊢
      walk_at "rs"
      refine ⟨bk, dx4, _, rfl, ho4, bfs_no _ _ _ _ _ _ (by decide +kernel) (by decide +kernel) (by decide +kernel) (by decide +kernel) (by decide +kernel) (by decide +kernel), ?_⟩
      walk_at "rs"
      refine ⟨bk, _, x.m.b, v, rfl, N4, hv, ob, by show (B.xs ++ [x]).length ≤ 900; rw [List.length_append, List.length_singleton]; omega, by show B.cs.length ≤ _; omega, by show B.ms.length ≤ _; omega, fun q1 q2 H5 k5 N5 => ?_⟩
      walk_at "rs"
      exact k B.kvs q1 q2 H5 (k4.trans k5) (fun e he => .inl he) N5
    · have few2 := N1.kept.few
      have N4 := N1.put2 hx1 nin (by omega) hn tx ob hz0
      rw [eo] at N4
      have zB : z ≠ B.Db := fun e => by
        rcases N1.byb.at_ with ⟨_, q⟩ | q <;> (rw [← e, hz0] at q; cases q)
      have hl2 : (upd (upd (upd H1 B.Dk o1) z (.lst [])) B.Db (.ext (odPhi P w B.Db (B.kvs ++ [(x.m.b, z)])))) z = some (.lst []) := by rw [upd_ne zB, upd_same]
      walk_at "rs"
      refine ⟨.inl ⟨rfl, _, SqL.of hl2⟩, ?_⟩
      walk_at "rs"
      refine ⟨z, _, _, rfl, rfl, hl2, by show 0 < sizeLine; decide, ?_⟩
      have bS : B.Db ∈ B.S := List.mem_cons_of_mem _ (List.mem_cons_of_mem _ (List.mem_cons_of_mem _ List.mem_cons_self))
      have hzH : H z = none := by
        cases hh : H z with
        | none => rfl
        | some o => rw [s1 _ _ hh] at hz0; cases hz0
      change (_ : Hp → Prop) (upd (upd (upd (upd H1 B.Dk o1) z (.lst [])) B.Db (.ext (odPhi P w B.Db (B.kvs ++ [(x.m.b, z)])))) z (.lst [V.ref p]))
      generalize eo2 : HO.ext (odPhi P w B.Db (B.kvs ++ [(x.m.b, z)])) = o2 at N4 hl2 ⊢
      have k4 : Keeps B.S H (upd (upd (upd (upd H1 B.Dk o1) z (.lst [])) B.Db o2) z (.lst [V.ref p])) := fun b o n e => by
        have := ((((Keeps.of s1).trans kd).trans (.of sz)).trans (keeps_upd (o := o2) bS)) b o n e
        rw [upd_ne (ne_of_none e hzH)]
        exact this
      obtain ⟨dx4, ho4⟩ := N4.obj
      generalize upd (upd (upd (upd H1 B.Dk o1) z (.lst [])) B.Db o2) z (.lst [V.ref p]) = H4 at N4 k4 ho4 ⊢
      walk_at "rs"
      refine ⟨bk, dx4, _, rfl, ho4, bfs_no _ _ _ _ _ _ (by decide +kernel) (by decide +kernel) (by decide +kernel) (by decide +kernel) (by decide +kernel) (by decide +kernel), ?_⟩
      walk_at "rs"
      refine ⟨bk, _, x.m.b, z, rfl, N4, odGet_new hn, ob, by show (B.xs ++ [x]).length ≤ 900; rw [List.length_append, List.length_singleton]; omega, by show B.cs.length ≤ _; omega, by show B.ms.length ≤ _; omega, fun q1 q2 H5 k5 N5 => ?_⟩
      walk_at "rs"
      refine k (B.kvs ++ [(x.m.b, z)]) q1 q2 H5 (fun b o n e => k5 b o (fun m => ?_) (k4 b o n e)) (fun e he => ?_) N5
      · unfold Bk.S at m n
        have m : b ∈ B.Lc :: B.Lm :: B.Dk :: B.Db :: (B.kvs ++ [(x.m.b, z)]).map (·.2) := m
        have bz := ne_of_none e hzH
        rcases List.mem_cons.mp m with q | m
        · exact n (by rw [q]; exact List.mem_cons_self)
        rcases List.mem_cons.mp m with q | m
        · exact n (by rw [q]; exact List.mem_cons_of_mem _ List.mem_cons_self)
        rcases List.mem_cons.mp m with q | m
        · exact n (by rw [q]; exact List.mem_cons_of_mem _ (List.mem_cons_of_mem _ List.mem_cons_self))
        rcases List.mem_cons.mp m with q | m
        · exact n (by rw [q]; exact bS)
        rw [List.map_append] at m
        rcases List.mem_append.mp m with m | m
        · exact n (List.mem_cons_of_mem _ (List.mem_cons_of_mem _ (List.mem_cons_of_mem _ (List.mem_cons_of_mem _ m))))
        · exact bz (List.mem_singleton.mp m)
      · rcases List.mem_append.mp he with he | he
        · exact .inl he
        · rw [List.mem_singleton.mp he]
          exact .inr hzH


theorem ok_Book_latest (T : Txt K mg a) : ∃ fd, FnOk P w K mg base CX0 1 a.d_Book_latest fd ["self", "block", "turn"] (spLatest P w K a.C_Book a.C_Committee) ∧ Binds K fd ["self", "block", "turn"] [] := by
  obtain ⟨fd, F, b⟩ := T.d_Book_latest.F
  refine ⟨fd, F.ok sc_Book_latest (fun vs H Q E h => ?_) (fun cdv A outer s H vs Q E hr h => ?_), b⟩
  · obtain ⟨_, _, _, _, rfl, _⟩ := h
    rfl
  · obtain ⟨bk, B, t, b, rfl, N, few, kn, km⟩ := h
    obtain ⟨dx, ho⟩ := N.obj
    refine ⟨_, (pss_cons (ps_setLc (i := 3) (own := [("found", 4), ("of", 5)]) (g := (gTup K 2 (gCons (gName 4) (gCons (gName 5) gNil)))) rfl sc_Book_latest.nd rfl rfl (sw_true rfl rfl rfl (by decide +kernel)) (pi_list (pe_fld (pv 0) rfl)) (blkOk_by (own := [("found", 4), ("of", 5)]) (N := sc_Book_latest_N) (sc := defScope s_Book_latest) (by decide +kernel)) (fun _ _ _ _ _ => (pg_tup rfl (pgs_cons (pg_name (i := 4) sc_Book_latest.nd rfl (Or.inl rfl)) (pgs_cons (pg_name (i := 5) sc_Book_latest.nd rfl (Or.inl rfl)) pgs_nil)))) (fun _ _ _ _ _ => (pts_one (PW.pt (pw_and (pt_cmpR op_eq (pv 5) (pv 1) (nomark _)) (pw_and1 (pt_cmpR op_lt (pv 4) (pv 2) (nomark _))))))) (fun _ _ _ _ _ => (pv 4)))
      (pss_one (ps_ret (pe_callBK (cr_maxd rfl) (by rfl) T.n_max (by decide +kernel) (pa_cons (pv 3) pa_nil) (pk_cons pe_non pk_nil))))), ?_⟩
    walk_at "rs"
    refine ⟨bk, _, dx, _, .ref B.Lc, rfl, ho, T.cl_Book, T.a_Book_certificates, bfs_ce _ _ _ _ _ _, ?_⟩
    walk_at "rs"
    refine ⟨⟨_, SqL.of N.lc⟩, fun D hD => ?_⟩
    have n1 := N.pc.1
    refine lc_list (K := K) (a := B.Lc) (xs := B.qc.map V.ref) (fun i H2 => Same H H2 ∧ H2 D = some (.lst ((befT (B.cs.take i) b t).map V.int))) ⟨same_new hD, upd_same⟩ (fun i H2 _ ⟨s2, _⟩ => SqL.of (s2 _ _ N.lc)) ?_ ?_
    · rintro i y H2 hy ⟨s2, hd⟩
      have hi : i < B.qc.length := by
        have e := (List.getElem?_eq_some_iff.mp hy).1
        rwa [List.length_map] at e
      rw [at_refs hi] at hy
      cases hy
      have hi' : i < B.cs.length := by omega
      have hp := s2 _ _ (N.pc.2 i hi')
      have et := take_succ_getD (d := default) hi'
      refine ⟨_, _, rfl, SqT.of hp, rfl, _, _, rfl, _, _, rfl, rfl, ?_⟩
      walk_at "rs"
      have bl : (befT (B.cs.take i) b t).length ≤ i := by
        unfold befT
        rw [List.length_map]
        have := List.length_filter_le (fun q : Pr => decide (q.2 = b) && decide (q.1 < t)) (B.cs.take i)
        rw [List.length_take] at this
        omega
      have no : (decide ((B.cs.getD i default).2 = b) && decide ((B.cs.getD i default).1 < t)) = false → befT (B.cs.take (i + 1)) b t = befT (B.cs.take i) b t := fun c => by
        unfold befT
        rw [et, List.filter_append, List.filter_cons_of_neg (p := fun q : Pr => decide (q.2 = b) && decide (q.1 < t)) (by rw [c]; exact Bool.false_ne_true)]
        simp
      have yes : (decide ((B.cs.getD i default).2 = b) && decide ((B.cs.getD i default).1 < t)) = true → befT (B.cs.take (i + 1)) b t = befT (B.cs.take i) b t ++ [(B.cs.getD i default).1] := fun c => by
        unfold befT
        rw [et, List.filter_append, List.filter_cons_of_pos (p := fun q : Pr => decide (q.2 = b) && decide (q.1 < t)) c]
        simp
      rw [dec_oS]
      refine ite2 (fun c1 => ?_) (fun c1 => ?_)
      · walk_at "rs"
        refine ite2 (fun c2 => ?_) (fun c2 => ?_)
        · walk_at "rs"
          refine ⟨_, hd, by rw [List.length_map, sizeLine_eq]; omega, same_upd s2 hD, ?_⟩
          rw [upd_same, yes (by rw [c1, c2]; rfl)]
          simp
        · refine ⟨s2, ?_⟩
          rw [no (by rw [c1]; simpa using c2)]
          exact hd
      · walk_at "rs"
        refine ⟨s2, ?_⟩
        rw [no (by rw [show decide ((B.cs.getD i default).2 = b) = false by simpa using c1]; rfl)]
        exact hd
    · rintro H2 ⟨s2, hd⟩
      rw [List.length_map, n1, List.take_length] at hd
      walk_at "rs"
      refine ⟨D, befT B.cs b t, _, rfl, rfl, SqL.of hd, fun e => kn e H2 s2, fun m hm hb => km m hm hb H2 s2⟩


theorem ok_Journal_init (T : Txt K mg a) : ∃ fd, FnOk P w K mg base CX0 1 a.d_Journal_init fd ["self", "who"] (spJI K a.C_Journal) ∧ Binds K fd ["self", "who"] [] := by
  obtain ⟨fd, F, b⟩ := T.d_Journal_init.F
  refine ⟨fd, F.ok sc_Journal_init (fun vs H Q E h => ?_) (fun cdv A outer s H vs Q E hr h => ?_), b⟩
  · obtain ⟨_, _, _, rfl, _⟩ := h
    rfl
  · obtain ⟨p, dx, who, rfl, hp, k⟩ := h
    refine ⟨_, (pss_cons (ps_fld (pv 0) (pv 1) rfl)
      (pss_one (ps_fld (pv 0) (pe_lst pa_nil) rfl))), ?_⟩
    walk_at "rs"
    refine ⟨p, _, dx, [], rfl, hp, T.cl_Journal, T.a_Journal_who, (by show 0 < 1000; decide), ?_⟩
    walk_at "rs"
    refine ⟨(by show 0 ≤ sizeLine; decide), fun L hL => ?_⟩
    have nL : p ≠ L := fun e => by rw [e, upd_same] at hL; cases hL
    walk_at "rs"
    refine ⟨p, _, dx, _, rfl, by rw [upd_ne nL, upd_same], T.cl_Journal, T.a_Journal_signed, (by show 1 < 1000; decide), ?_⟩
    have hL0 : H L = none := by rwa [upd_ne nL.symm] at hL
    refine k L _ hL0 upd_same (by rw [upd_ne nL.symm, upd_same]) fun b o hb e => ?_
    rw [upd_ne hb, upd_ne (ne_of_none e hL0), upd_ne hb]
    exact e
theorem ok_Refused_init (TE : TxtE P K mg a) (T : Txt K mg a) : ∃ fd, FnOk P w K mg base CX0 1 a.d_Refused_init fd ["self", "vote"] (spSup a.C_Refused "vote" fun _ => True) ∧ Binds K fd ["self", "vote"] [] := by
  obtain ⟨fd, S, b⟩ := TE.sup_Refused
  have T0 : SupTxt "vote" "vote" s_Refused_init _ _ _ _ _ _ _ _ _ _ := ⟨rfl, rfl, rfl, rfl, rfl, rfl, rfl, rfl, by decide +kernel, ⟨_, rfl, rfl⟩⟩
  refine ⟨fd, ok_sup S T0 (by decide +kernel) (by decide) (by decide) T.n_super ?_ (fun _ => rfl) (fun _ _ _ _ => rfl) (fun _ _ _ _ => rfl) (fun _ _ _ _ => rfl) _ (fun _ => rfl), b⟩
  rintro cd cc A outer s H E e v _
  exact ⟨_, pa_cons pe_str pa_nil, fun H1 Q q => q _⟩
theorem ok_Journal_sign (TE : TxtE P K mg a) (T : Txt K mg a) : ∃ fd, FnOk P w K mg base (L2N.CX P w) 3 a.d_Journal_sign fd ["self", "statement"] (spSign K a.C_Journal a.C_Refused) ∧ Binds K fd ["self", "statement"] [] := by
  obtain ⟨fd, F, b⟩ := T.d_Journal_sign.F
  obtain ⟨fd_clash, G_clash, b_clash⟩ := ok_clash (P := P) (w := w) (base := base) T
  obtain ⟨fd_Refused_init, G_Refused_init, b_Refused_init⟩ := ok_Refused_init (P := P) (w := w) (base := base) TE T
  refine ⟨fd, fun_okN F sc_Journal_sign (fun vs H Q E h => ?_) (fun cdv A outer s H vs Q E hr h => ?_), b⟩
  · obtain ⟨_, _, _, _, _, _, _, rfl, _⟩ := h
    rfl
  · obtain ⟨j, p, L, who, ps, ms, m, rfl, ⟨dx, hj⟩, hL, hs, hm, few, okm, ok, kr, kq⟩ := h
    have n1 := hs.1
    refine ⟨_, (pss_cons (ps_for (passes_of rfl) rfl (pi_list (pe_fld (pv 0) rfl)) (pg_name (i := 2) sc_Journal_sign.nd rfl (Or.inl rfl))
      (pss_one (ps_if (pt_val (pe_call G_clash (hr.mono (by decide)) rfl T.d_clash.g T.d_clash.kp b_clash .nil pass0 (pa_cons (pv 2) (pa_cons (pv 1) pa_nil))))
        (pss_one (L2N.ps_raise rfl (L2N.takes_of rfl rfl rfl rfl) (pmk_sup TE.oex_Refused TE.iC_Refused TE.tI_Refused G_Refused_init (hr.mono (by decide)) b_Refused_init rfl TE.g_Refused (pa_cons (pv 2) pa_nil))))
        pss_nil)))
      (pss_cons (ps_if (pt_cmpR (op_notInD (hu65 hr)) (pv 1) (pe_fld (pv 0) rfl) (by rfl))
      (pss_one (ps_expr (pe_bm PySem.F.plainAttrs_list PySem.F.slot_list_append PySem.F.type_list_append mt_append (pe_fld (pv 0) rfl) (pa_cons (pv 1) pa_nil))))
      pss_nil)
      (pss_one (ps_ret (pe_tup (pa_cons (pe_fld (pv 0) rfl) (pa_cons (pv 1) pa_nil))))))), ?_⟩
    walk_at "rs"
    refine ⟨j, _, dx, _, .ref L, rfl, hj, T.cl_Journal, T.a_Journal_signed, jfs_s _ _, ?_⟩
    walk_at "rs"
    refine ⟨⟨_, SqL.of hL⟩, for_list (K := K) (a := L) (xs := ps.map V.ref) (fun i σ H2 => ∃ v2 : Option V, σ = [some (.ref j), some (.ref p), v2] ∧ Same H H2 ∧ fcl ms m i = none) ⟨_, rfl, Same.refl H, rfl⟩ (fun i σ H2 _ ⟨_, _, s2, _⟩ => SqL.of (s2 _ _ hL)) ?_ ?_⟩
    · rintro i y σ H2 hy ⟨v2, rfl, s2, hno⟩
      have hi : i < ps.length := by
        have e := (List.getElem?_eq_some_iff.mp hy).1
        rwa [List.length_map] at e
      rw [at_refs hi] at hy
      cases hy
      walk_at "rs"
      refine ⟨_, p, _, m, rfl, s2 _ _ (hs.2 i (by omega)), s2 _ _ hm, fun H3 s3 => ?_⟩
      walk_at "rs"
      refine ite2 (fun c1 => ?_) (fun c1 => ?_)
      · walk_at "rs"
        have e := fcl_mono (fcl_new hno c1) (ms.length - (i + 1))
        rw [Nat.add_sub_cancel' (by omega)] at e
        refine ⟨trivial, fun d hd => ?_⟩
        exact kr i e d _ ((s2.trans s3).trans (same_new hd)) upd_same
      · exact ⟨_, rfl, s2.trans s3, fcl_no hno (by simpa using c1)⟩
    · rintro σ H2 ⟨v2, rfl, s2, hno⟩
      rw [List.length_map, n1] at hno
      have k1 := kq hno
      walk_at "rs"
      refine ⟨j, _, dx, _, .ref L, rfl, s2 _ _ hj, T.cl_Journal, T.a_Journal_signed, jfs_s _ _, ?_⟩
      refine ⟨smD m, _, dp_sm (s2 _ _ hm), .lst (SqL.of (s2 _ _ hL)) (dp_sms (hs.same s2)), shaped_sm m ok, shaped_sms okm, ?_⟩
      have k2 : ∀ t H', But L H H' → H' L = some (.lst ((if ((ms.map smD).any fun z => PyData.eqv z (smD m)) = true then ps else ps ++ [p]).map V.ref)) → H' t = some (.tup [.int who, .ref p]) → Q (.ref t) H' := k1
      have fin : ∀ (H3 : Hp), But L H H3 → H3 j = some (.ins a.C_Journal dx (jfs who L)) → H3 L = some (.lst ((if ((ms.map smD).any fun z => PyData.eqv z (smD m)) = true then ps else ps ++ [p]).map V.ref)) → ∀ t, H3 t = none → Q (.ref t) (upd H3 t (.tup [.int who, .ref p])) := fun H3 k3 _ k4 t ht => by
        have s4 := same_new (o := .tup [.int who, .ref p]) ht
        exact k2 t _ (fun b o nb e => s4 _ _ (k3 b o nb e)) (s4 _ _ k4) upd_same
      clear k1 k2 kq kr
      cases q : ((ms.map smD).any fun z => PyData.eqv z (smD m)) with
      | true =>
        rw [q] at fin
        walk_at "rs"
        refine ⟨j, _, dx, _, .int who, rfl, s2 _ _ hj, T.cl_Journal, T.a_Journal_who, jfs_w _ _, ?_⟩
        walk_at "rs"
        refine ⟨(by show 2 ≤ sizeLine; decide), fun t ht => ?_⟩
        exact fin H2 (fun b o _ e => s2 b o e) (s2 _ _ hj) (s2 _ _ hL) t ht
      | false =>
        rw [q] at fin
        walk_at "rs"
        refine ⟨j, _, dx, _, .ref L, rfl, s2 _ _ hj, T.cl_Journal, T.a_Journal_signed, jfs_s _ _, ?_⟩
        refine ⟨.inl ⟨rfl, _, SqL.of (s2 _ _ hL)⟩, ?_⟩
        walk_at "rs"
        refine ⟨L, _, _, rfl, rfl, s2 _ _ hL, by rw [List.length_map]; exact small1000 (by omega), ?_⟩
        have nj : j ≠ L := fun e => by rw [e, hL] at hj; cases hj
        walk_at "rs"
        refine ⟨j, _, dx, _, .int who, rfl, by rw [upd_ne nj]; exact s2 _ _ hj, T.cl_Journal, T.a_Journal_who, jfs_w _ _, ?_⟩
        walk_at "rs"
        refine ⟨(by show 2 ≤ sizeLine; decide), fun t ht => ?_⟩
        refine fin _ (fun b o nb e => by rw [upd_ne nb]; exact s2 b o e) (by rw [upd_ne nj]; exact s2 _ _ hj) ?_ t ht
        rw [upd_same]
        simp

theorem ok_Journal_last_turn (T : Txt K mg a) : ∃ fd, FnOk P w K mg base CX0 1 a.d_Journal_last_turn fd ["self", "height"] (spLast K a.C_Journal) ∧ Binds K fd ["self", "height"] [] := by
  obtain ⟨fd, F, b⟩ := T.d_Journal_last_turn.F
  refine ⟨fd, F.ok sc_Journal_last_turn (fun vs H Q E h => ?_) (fun cdv A outer s H vs Q E hr h => ?_), b⟩
  · obtain ⟨_, _, _, _, _, _, rfl, _⟩ := h
    rfl
  · obtain ⟨j, L, who, h, ps, ms, rfl, ⟨dx, hj⟩, hL, hs, few, pos, k⟩ := h
    have n1 := hs.1
    refine ⟨_, (pss_cons (ps_setLc (i := 2) (own := [("statement", 3)]) (g := (gName 3)) rfl sc_Journal_last_turn.nd rfl rfl (sw_true rfl rfl rfl (by decide +kernel)) (pi_list (pe_fld (pv 0) rfl)) (blkOk_by (own := [("statement", 3)]) (N := sc_Journal_last_turn_N) (sc := defScope s_Journal_last_turn) (by decide +kernel)) (fun _ _ _ _ _ => (pg_name (i := 3) sc_Journal_last_turn.nd rfl (Or.inl rfl))) (fun _ _ _ _ _ => (pts_one (pt_cmpR op_eq (pe_ix (r := rIxT K) ix_tup (pv 3) (pe_glob (v := (.int 1)) rfl T.c_HEIGHT.choose_spec ⟨_, rfl⟩) (fun _ _ => rfl)) (pv 1) (nomark _)))) (fun _ _ _ _ _ => (pe_ix (r := rIxT K) ix_tup (pv 3) (pe_glob (v := (.int 2)) rfl T.c_TURN.choose_spec ⟨_, rfl⟩) (fun _ _ => rfl))))
      (pss_one (ps_ret (pe_callBK (cr_maxd rfl) (by rfl) T.n_max (by decide +kernel) (pa_cons (pv 2) pa_nil) (pk_cons pe_int pk_nil))))), ?_⟩
    walk_at "rs"
    refine ⟨j, _, dx, _, .ref L, rfl, hj, T.cl_Journal, T.a_Journal_signed, jfs_s _ _, ?_⟩
    walk_at "rs"
    refine ⟨⟨_, SqL.of hL⟩, fun D hD => ?_⟩
    refine lc_list (K := K) (a := L) (xs := ps.map V.ref) (fun i H2 => Same H H2 ∧ H2 D = some (.lst ((((ms.take i).filter fun m => decide (m.h = h)).map Sm.t).map V.int))) ⟨same_new hD, by rw [upd_same]; simp⟩ (fun i H2 _ ⟨s2, _⟩ => SqL.of (s2 _ _ hL)) ?_ ?_
    · rintro i y H2 hy ⟨s2, hd⟩
      have hi : i < ps.length := by
        have e := (List.getElem?_eq_some_iff.mp hy).1
        rwa [List.length_map] at e
      have hi' : i < ms.length := by omega
      rw [at_refs hi] at hy
      cases hy
      have et := take_succ_getD (d := default) hi'
      have hm := s2 _ _ (hs.2 i hi')
      generalize ms.getD i default = m at et hm
      have lf := List.length_filter_le (fun m : Sm => decide (m.h = h)) (ms.take i)
      rw [List.length_take] at lf
      refine ⟨rfl, ?_⟩
      walk_at "rs"
      refine ite2 (fun c1 => ?_) (fun c1 => ?_) <;> simp only [dec_int, beq_iff_eq] at c1
      · walk_at "rs"
        refine ⟨_, hd, by rw [List.length_map, List.length_map]; exact small1000 (by omega), same_upd s2 hD, ?_⟩
        rw [upd_same, et, List.filter_append, List.filter_cons_of_pos (by exact decide_eq_true c1)]
        simp
      · refine ⟨s2, ?_⟩
        rw [hd, et, List.filter_append, List.filter_cons_of_neg (by simpa using c1)]
        simp
    · rintro H2 ⟨s2, hd⟩
      rw [List.length_map, n1, List.take_length] at hd
      have mem : ∀ m ∈ ms, m.h = h → m.t ∈ (ms.filter fun m => decide (m.h = h)).map Sm.t := fun m hm e => List.mem_map.mpr ⟨m, List.mem_filter.mpr ⟨hm, decide_eq_true e⟩, rfl⟩
      have back : ∀ z ∈ (ms.filter fun m => decide (m.h = h)).map Sm.t, 0 ≤ z := fun z hz => by
        obtain ⟨m, hm, rfl⟩ := List.mem_map.mp hz
        exact pos m (List.mem_filter.mp hm).1
      walk_at "rs"
      refine ⟨D, _, _, rfl, rfl, SqL.of hd, fun e => ?_, fun z hz lo => ?_⟩
      · refine k 0 H2 s2 (.inl rfl) (Int.le_refl _) fun m hm eh => ?_
        have := mem m hm eh
        rw [e] at this
        cases this
      · exact k z H2 s2 (.inr hz) (back z hz) fun m hm eh => lo _ (mem m hm eh)

/-! ### ledgers that stay -/
def LdAt (C : Addr) (H : Hp) (p t : Addr) : Prop := ∃ dx c2 c3, H p = some (.ins C dx [("balances", .ref t), ("codes", c2), ("stores", c3)])
theorem LdAt.same {C : Addr} {H H' : Hp} {p t : Addr} (h : LdAt C H p t) (s : Same H H') : LdAt C H' p t := by
  obtain ⟨dx, c2, c3, h⟩ := h
  exact ⟨dx, c2, c3, s _ _ h⟩
def spLInit (C : Addr) : Sp := fun vs H Q _ => ∃ (p dx : Addr) (v1 v2 v3 : V), vs = [.ref p, v1, v2, v3] ∧ H p = some (.ins C dx []) ∧
  ∀ H', H' p = some (.ins C dx [("balances", v1), ("codes", v2), ("stores", v3)]) → (∀ b o, b ≠ p → H b = some o → H' b = some o) → Q .non H'
theorem ok_Ledger_init (T : Txt K mg a) : ∃ fd, FnOk P w K mg base CX0 1 a.d_Ledger_init fd ["self", "balances", "codes", "stores"] (spLInit a.C_Ledger) ∧ Binds K fd ["self", "balances", "codes", "stores"] [] := by
  obtain ⟨fd, F, b⟩ := T.d_Ledger_init.F
  refine ⟨fd, F.ok sc_Ledger_init (fun vs H Q E h => ?_) (fun cdv A outer s H vs Q E hr h => ?_), b⟩
  · obtain ⟨_, _, _, _, _, rfl, _⟩ := h
    rfl
  · obtain ⟨p, dx, v1, v2, v3, rfl, hp, k⟩ := h
    refine ⟨_, (pss_cons (ps_fld (pv 0) (pv 1) rfl)
      (pss_cons (ps_fld (pv 0) (pv 2) rfl)
      (pss_one (ps_fld (pv 0) (pv 3) rfl)))), ?_⟩
    walk_at "rs"
    refine ⟨p, _, dx, [], rfl, hp, T.cl_Ledger, T.a_Ledger_balances, (by show 0 < 1000; decide), ?_⟩
    walk_at "rs"
    refine ⟨p, _, dx, _, rfl, upd_same, T.cl_Ledger, T.a_Ledger_codes, (by show 1 < 1000; decide), ?_⟩
    rw [upd_upd]
    walk_at "rs"
    refine ⟨p, _, dx, _, rfl, upd_same, T.cl_Ledger, T.a_Ledger_stores, (by show 2 < 1000; decide), ?_⟩
    rw [upd_upd]
    refine k _ ?_ (fun b o n e => by rw [upd_ne n]; exact e)
    rw [upd_same]
    rfl
def spFirstL (K : PySem.W.Frag) (C : Addr) : Sp := fun vs H Q _ => ∃ (g : Addr) (x y : Int), vs = [.ref g] ∧ SqL K H g [] ∧
  ∀ p t H', Same H H' → H p = none → LdAt C H' p t → H' t = some (.tup []) → Q (.ref p) H'
theorem ok_first_ledger (T : Txt K mg a) : ∃ fd, FnOk P w K mg base CX0 3 a.d_first_ledger fd ["grants"] (spFirstL K a.C_Ledger) ∧ Binds K fd ["grants"] [] := by
  obtain ⟨fd, F, b⟩ := T.d_first_ledger.F
  obtain ⟨fd_Ledger_init, G_Ledger_init, b_Ledger_init⟩ := ok_Ledger_init (P := P) (w := w) (base := base) T
  refine ⟨fd, F.ok sc_first_ledger (fun vs H Q E h => ?_) (fun cdv A outer s H vs Q E hr h => ?_), b⟩
  · obtain ⟨_, _, _, rfl, _⟩ := h
    rfl
  · obtain ⟨g, x, y, rfl, hg, k⟩ := h
    refine ⟨_, (pss_cons (ps_set (i := 1) sc_first_ledger.nd rfl (Or.inl rfl) (pe_callTy call_tuple_of (by rfl) T.n_tuple (by decide +kernel) (pa_cons (pv 0) pa_nil)))
      (pss_one (ps_ret (pe_make T.m_Ledger G_Ledger_init (hr.mono (by decide)) (by rfl) T.g_Ledger b_Ledger_init .nil pass0 (pa_cons (pv 1) (pa_cons (pe_op op_repT0 (pe_tup (pa_cons pe_str pa_nil)) (pe_callB call_len_seq (by rfl) T.n_len PySem.boot_len (pa_cons (pv 1) pa_nil))) (pa_cons (pe_op op_repT0 (pe_tup (pa_cons (pe_tup pa_nil) pa_nil)) (pe_callB call_len_seq (by rfl) T.n_len PySem.boot_len (pa_cons (pv 1) pa_nil))) pa_nil))))))), ?_⟩
    walk_at "rs"
    refine ⟨g, _, rfl, .inl ⟨hg, fun t ht => ?_⟩⟩
    have s1 := same_new (o := .tup []) ht
    have ht1 : (upd H t (.tup [])) t = some (.tup []) := upd_same
    generalize upd H t (.tup []) = H1 at s1 ht1 ⊢
    walk_at "rs"
    refine ⟨(by show 1 ≤ sizeLine; decide), fun q1 hq1 => ?_⟩
    have s2 := same_new (o := .tup [V.str ""]) hq1
    have h2 : (upd H1 q1 (.tup [V.str ""])) q1 = some (.tup [V.str ""]) := upd_same
    generalize upd H1 q1 (.tup [V.str ""]) = H2 at s2 h2 ⊢
    walk_at "rs"
    refine ⟨t, _, rfl, .inr (SqT.of (s2 _ _ ht1)), ?_⟩
    refine ⟨q1, _, rfl, rfl, SqT.of h2, (fun e => nomatch e), fun q2 hq2 => ?_⟩
    have s3 := same_new (o := .tup []) hq2
    generalize upd H2 q2 (.tup []) = H3 at s3 ⊢
    walk_at "rs"
    refine ⟨(by show 0 ≤ sizeLine; decide), fun q3 hq3 => ?_⟩
    have s4 := same_new (o := .tup []) hq3
    generalize upd H3 q3 (.tup []) = H4 at s4 ⊢
    walk_at "rs"
    refine ⟨(by show 1 ≤ sizeLine; decide), fun q4 hq4 => ?_⟩
    have s5 := same_new (o := .tup [V.ref q3]) hq4
    have h5 : (upd H4 q4 (.tup [V.ref q3])) q4 = some (.tup [V.ref q3]) := upd_same
    generalize upd H4 q4 (.tup [V.ref q3]) = H5 at s5 h5 ⊢
    walk_at "rs"
    have s25 := s2.trans (s3.trans (s4.trans s5))
    refine ⟨t, _, rfl, .inr (SqT.of (s25 _ _ ht1)), ?_⟩
    refine ⟨q4, _, rfl, rfl, SqT.of h5, (fun e => nomatch e), fun q5 hq5 => ?_⟩
    have s6 := same_new (o := .tup []) hq5
    generalize upd H5 q5 (.tup []) = H6 at s6 ⊢
    have s16 := s1.trans (s25.trans s6)
    have ht6 := s6 _ _ (s25 _ _ ht1)
    walk_at "rs"
    intro p dx hp hdx ndx
    have hdx1 := same_new (o := .own p) hdx
    refine ⟨p, dx, _, _, _, rfl, upd_same, fun H7 h7 keep => ⟨rfl, ?_⟩⟩
    have s7 : Same H6 H7 := fun b o e => keep b o (fun q => by rw [q, hp] at e; cases e) (by rw [upd_ne (fun q => by rw [q, hp] at e; cases e), upd_ne (fun q => by rw [q, hdx] at e; cases e)]; exact e)
    exact k p t H7 (s16.trans s7) (s16.free hp) ⟨dx, _, _, h7⟩ (s7 _ _ ht6)
/-! ### chains -/
/-- what stands where in a chain -/
structure CnP where
  B : Addr
  R : Addr
  D : Addr
  L : Addr
/-- blocks, the addresses of receipts and committees, the weights, the ledgers -/
structure CnV where
  zs : List Str
  rs : List Addr
  ps : List Addr
  ws : List (List Int)
  ls : List Addr
structure CnAt (C1 C2 C3 : Addr) (H : Hp) (p : Addr) (q : CnP) (v : CnV) (x y : Int) : Prop where
  ins : ∃ dx, H p = some (.ins C1 dx [("blocks", .ref q.B), ("receipts", .ref q.R), ("committees", .ref q.D), ("ledgers", .ref q.L)])
  hB : H q.B = some (.lst (v.zs.map V.str))
  hR : H q.R = some (.lst (v.rs.map V.ref))
  hD : H q.D = some (.lst (v.ps.map V.ref))
  hL : H q.L = some (.lst (v.ls.map V.ref))
  nr : v.rs.length = v.zs.length
  np : v.ps.length = v.zs.length + 1
  nw : v.ws.length = v.zs.length + 1
  nl : v.ls.length = v.zs.length + 1
  ne1 : q.B ≠ q.R
  ne2 : q.B ≠ q.D
  ne3 : q.B ≠ q.L
  ne4 : q.R ≠ q.D
  ne5 : q.R ≠ q.L
  ne6 : q.D ≠ q.L
  cm : ∀ i, i < v.ws.length → CommAt C2 H (v.ps.getD i 0) (v.ws.getD i []) ∧ GoodW (v.ws.getD i [])
  ld : ∀ l ∈ v.ls, ∃ t, LdAt C3 H l t ∧ H t = some (.tup [])
theorem CnAt.same {C1 C2 C3 : Addr} {H H' : Hp} {p : Addr} {q : CnP} {v : CnV} {x y : Int} (c : CnAt C1 C2 C3 H p q v x y) (s : Same H H') : CnAt C1 C2 C3 H' p q v x y :=
  { c with
    ins := c.ins.elim fun d h => ⟨d, s _ _ h⟩
    hB := s _ _ c.hB
    hR := s _ _ c.hR
    hD := s _ _ c.hD
    hL := s _ _ c.hL
    cm := fun i hi => ⟨(c.cm i hi).1.same s, (c.cm i hi).2⟩
    ld := fun l hl => let ⟨t, h1, h2⟩ := c.ld l hl; ⟨t, h1.same s, s _ _ h2⟩ }
def But1 (p : Addr) (H H' : Hp) : Prop := ∀ b o, b ≠ p → H b = some o → H' b = some o
theorem But1.trans {p : Addr} {H H' H'' : Hp} (h : But1 p H H') (g : But1 p H' H'') : But1 p H H'' := fun b o n e => g b o n (h b o n e)
theorem But1.seq {p : Addr} {H H' : Hp} {C dx : Addr} {fs : List (Str × V)} {l : Addr} {xs : List V} (h : But1 p H H') (hp : H p = some (.ins C dx fs)) (s : SqL K H l xs) : SqL K H' l xs := by
  rcases s with (s | ⟨o, s⟩) | s
  · exact .inl (.inl (h _ _ (fun e => by rw [e, hp] at s; cases s) s))
  · exact .inl (.inr ⟨o, h _ _ (fun e => by rw [e, hp] at s; cases s) s⟩)
  · exact .inr s
theorem CommAt.but {C : Addr} {p : Addr} {H H' : Hp} {C1 dx : Addr} {fs : List (Str × V)} {c : Addr} {ws : List Int} (h : CommAt C H c ws) (k : But1 p H H') (n : c ≠ p) (hp : H p = some (.ins C1 dx fs)) : CommAt C H' c ws := by
  obtain ⟨d, t, h1, h2⟩ := h
  exact ⟨d, t, k _ _ n h1, k _ _ (fun e => by rw [e, hp] at h2; cases h2) h2⟩
def spCInit (K : PySem.W.Frag) (C1 C2 C3 : Addr) : Sp := fun vs H Q _ => ∃ (p dx l g : Addr) (ws : List Int) (x y : Int), vs = [.ref p, .ref l, .ref g] ∧ H p = some (.ins C1 dx []) ∧ SqL K H l (ws.map V.int) ∧ GoodW ws ∧ SqL K H g [] ∧
  ∀ q c d H', CnAt C1 C2 C3 H' p q ⟨[], [], [c], [ws], [d]⟩ x y → H q.B = none → H q.R = none → H q.D = none → H q.L = none → (∀ b o, b ≠ p → H b = some o → H' b = some o) → Q .non H'
theorem ok_Chain_init (T : Txt K mg a) : ∃ fd, FnOk P w K mg base CX0 4 a.d_Chain_init fd ["self", "weights", "grants"] (spCInit K a.C_Chain a.C_Committee a.C_Ledger) ∧ Binds K fd ["self", "weights", "grants"] [] := by
  obtain ⟨fd, F, b⟩ := T.d_Chain_init.F
  obtain ⟨fd_Committee_init, G_Committee_init, b_Committee_init⟩ := ok_Committee_init (P := P) (w := w) (base := base) T
  obtain ⟨fd_first_ledger, G_first_ledger, b_first_ledger⟩ := ok_first_ledger (P := P) (w := w) (base := base) T
  refine ⟨fd, F.ok sc_Chain_init (fun vs H Q E h => ?_) (fun cdv A outer s H vs Q E hr h => ?_), b⟩
  · obtain ⟨_, _, _, _, _, _, _, rfl, _⟩ := h
    rfl
  · obtain ⟨p, dx, l, g, ws, x, y, rfl, hp, hl, gw, hg, k⟩ := h
    refine ⟨_, (pss_cons (ps_fld (pv 0) (pe_lst pa_nil) rfl)
      (pss_cons (ps_fld (pv 0) (pe_lst pa_nil) rfl)
      (pss_cons (ps_fld (pv 0) (pe_lst (pa_cons (pe_make T.m_Committee G_Committee_init (hr.mono (by decide)) (by rfl) T.g_Committee b_Committee_init .nil pass0 (pa_cons (pv 1) pa_nil)) pa_nil)) rfl)
      (pss_one (ps_fld (pv 0) (pe_lst (pa_cons (pe_call G_first_ledger (hr.mono (by decide)) rfl T.d_first_ledger.g T.d_first_ledger.kp b_first_ledger .nil pass0 (pa_cons (pv 2) pa_nil)) pa_nil)) rfl))))), ?_⟩
    walk_at "rs"
    refine ⟨(by show 0 ≤ sizeLine; decide), fun B hB => ?_⟩
    have pB : p ≠ B := fun e => by rw [e, hB] at hp; cases hp
    walk_at "rs"
    refine ⟨p, _, dx, [], rfl, (by rw [upd_ne pB]; exact hp), T.cl_Chain, T.a_Chain_blocks, (by show 0 < 1000; decide), ?_⟩
    have k1 : But1 p H (upd (upd H B (.lst [])) p (.ins a.C_Chain dx (putF "blocks" (.ref B) []))) := fun b o n e => by
      rw [upd_ne n, upd_ne (fun q => by rw [q, hB] at e; cases e)]
      exact e
    have hB1 : (upd (upd H B (.lst [])) p (.ins a.C_Chain dx (putF "blocks" (.ref B) []))) B = some (.lst []) := by rw [upd_ne pB.symm, upd_same]
    have hp1 : (upd (upd H B (.lst [])) p (.ins a.C_Chain dx (putF "blocks" (.ref B) []))) p = some (.ins a.C_Chain dx [("blocks", .ref B)]) := by rw [upd_same]; rfl
    generalize (upd (upd H B (.lst [])) p (.ins a.C_Chain dx (putF "blocks" (.ref B) []))) = H1 at k1 hB1 hp1 ⊢
    walk_at "rs"
    refine ⟨(by show 0 ≤ sizeLine; decide), fun R hR => ?_⟩
    have pR : p ≠ R := fun e => by rw [e, hR] at hp1; cases hp1
    have BR : B ≠ R := fun e => by rw [e, hR] at hB1; cases hB1
    walk_at "rs"
    refine ⟨p, _, dx, _, rfl, (by rw [upd_ne pR]; exact hp1), T.cl_Chain, T.a_Chain_receipts, (by show 1 < 1000; decide), ?_⟩
    have k2 : But1 p H1 (upd (upd H1 R (.lst [])) p (.ins a.C_Chain dx (putF "receipts" (.ref R) [("blocks", .ref B)]))) := fun b o n e => by
      rw [upd_ne n, upd_ne (fun q => by rw [q, hR] at e; cases e)]
      exact e
    have hR2 : (upd (upd H1 R (.lst [])) p (.ins a.C_Chain dx (putF "receipts" (.ref R) [("blocks", .ref B)]))) R = some (.lst []) := by rw [upd_ne pR.symm, upd_same]
    have hp2 : (upd (upd H1 R (.lst [])) p (.ins a.C_Chain dx (putF "receipts" (.ref R) [("blocks", .ref B)]))) p = some (.ins a.C_Chain dx [("blocks", .ref B), ("receipts", .ref R)]) := by rw [upd_same]; rfl
    generalize (upd (upd H1 R (.lst [])) p (.ins a.C_Chain dx (putF "receipts" (.ref R) [("blocks", .ref B)]))) = H2 at k2 hR2 hp2 ⊢
    have k12 := k1.trans k2
    have hB2 := k2 _ _ pB.symm hB1
    walk_at "rs"
    intro c dc hc hdc ndc
    have sM : Same H2 (upd (upd H2 dc (.own c)) c (.ins a.C_Committee dc [])) := same_upd (same_new hdc) hc
    refine ⟨c, dc, l, ws, rfl, upd_same, sM.seq (k12.seq hp hl), gw, fun H3 hcm keep => ⟨rfl, ?_⟩⟩
    have s3 : Same H2 H3 := fun b o e => keep b o (sM _ _ e) (fun q => by rw [q, hc] at e; cases e)
    walk_at "rs"
    refine ⟨(by show 1 ≤ sizeLine; decide), fun D hD => ?_⟩
    have hp3 := s3 _ _ hp2
    have pD : p ≠ D := fun e => by rw [e, hD] at hp3; cases hp3
    have BD : B ≠ D := fun e => by rw [← e, s3 _ _ hB2] at hD; cases hD
    have RD : R ≠ D := fun e => by rw [← e, s3 _ _ hR2] at hD; cases hD
    walk_at "rs"
    refine ⟨p, _, dx, _, rfl, (by rw [upd_ne pD]; exact hp3), T.cl_Chain, T.a_Chain_committees, (by show 2 < 1000; decide), ?_⟩
    have k4 : But1 p H3 (upd (upd H3 D (.lst [V.ref c])) p (.ins a.C_Chain dx (putF "committees" (.ref D) [("blocks", .ref B), ("receipts", .ref R)]))) := fun b o n e => by
      rw [upd_ne n, upd_ne (fun q => by rw [q, hD] at e; cases e)]
      exact e
    have hD4 : (upd (upd H3 D (.lst [V.ref c])) p (.ins a.C_Chain dx (putF "committees" (.ref D) [("blocks", .ref B), ("receipts", .ref R)]))) D = some (.lst [V.ref c]) := by rw [upd_ne pD.symm, upd_same]
    have hp4 : (upd (upd H3 D (.lst [V.ref c])) p (.ins a.C_Chain dx (putF "committees" (.ref D) [("blocks", .ref B), ("receipts", .ref R)]))) p = some (.ins a.C_Chain dx [("blocks", .ref B), ("receipts", .ref R), ("committees", .ref D)]) := by rw [upd_same]; rfl
    have pc : c ≠ p := fun e => by rw [e, hp2] at hc; cases hc
    have hcm4 := hcm.but k4 pc hp3
    generalize (upd (upd H3 D (.lst [V.ref c])) p (.ins a.C_Chain dx (putF "committees" (.ref D) [("blocks", .ref B), ("receipts", .ref R)]))) = H4 at k4 hD4 hp4 hcm4 ⊢
    have k3 : But1 p H2 H3 := fun b o _ e => s3 _ _ e
    have k14 := (k12.trans k3).trans k4
    have hB4 := k4 _ _ pB.symm (s3 _ _ hB2)
    have hR4 := k4 _ _ pR.symm (s3 _ _ hR2)
    walk_at "rs"
    refine ⟨g, x, y, rfl, k14.seq hp hg, fun d t H5 s5 hd0 hld ht => ?_⟩
    walk_at "rs"
    refine ⟨(by show 1 ≤ sizeLine; decide), fun L hL => ?_⟩
    have hp5 := s5 _ _ hp4
    have pL : p ≠ L := fun e => by rw [e, hL] at hp5; cases hp5
    have BL : B ≠ L := fun e => by rw [← e, s5 _ _ hB4] at hL; cases hL
    have RL : R ≠ L := fun e => by rw [← e, s5 _ _ hR4] at hL; cases hL
    have DL : D ≠ L := fun e => by rw [← e, s5 _ _ hD4] at hL; cases hL
    walk_at "rs"
    refine ⟨p, _, dx, _, rfl, (by rw [upd_ne pL]; exact hp5), T.cl_Chain, T.a_Chain_ledgers, (by show 3 < 1000; decide), ?_⟩
    have k6 : But1 p H5 (upd (upd H5 L (.lst [V.ref d])) p (.ins a.C_Chain dx (putF "ledgers" (.ref L) [("blocks", .ref B), ("receipts", .ref R), ("committees", .ref D)]))) := fun b o n e => by
      rw [upd_ne n, upd_ne (fun q => by rw [q, hL] at e; cases e)]
      exact e
    have hL6 : (upd (upd H5 L (.lst [V.ref d])) p (.ins a.C_Chain dx (putF "ledgers" (.ref L) [("blocks", .ref B), ("receipts", .ref R), ("committees", .ref D)]))) L = some (.lst [V.ref d]) := by rw [upd_ne pL.symm, upd_same]
    have hp6 : (upd (upd H5 L (.lst [V.ref d])) p (.ins a.C_Chain dx (putF "ledgers" (.ref L) [("blocks", .ref B), ("receipts", .ref R), ("committees", .ref D)]))) p = some (.ins a.C_Chain dx [("blocks", .ref B), ("receipts", .ref R), ("committees", .ref D), ("ledgers", .ref L)]) := by rw [upd_same]; rfl
    generalize (upd (upd H5 L (.lst [V.ref d])) p (.ins a.C_Chain dx (putF "ledgers" (.ref L) [("blocks", .ref B), ("receipts", .ref R), ("committees", .ref D)]))) = H6 at k6 hL6 hp6 ⊢
    have k5 : But1 p H4 H5 := fun b o _ e => s5 _ _ e
    have kAll := (k14.trans k5).trans k6
    have hcm6 := (hcm4.same s5).but k6 pc hp5
    have dp : d ≠ p := fun e => by rw [e, hp4] at hd0; cases hd0
    have fr : ∀ {b : Addr} {Hx : Hp}, But1 p H Hx → b ≠ p → Hx b = none → H b = none := fun {b Hx} kx n e => by
      cases q : H b with
      | none => rfl
      | some o => rw [kx _ _ n q] at e; cases e
    refine k ⟨B, R, D, L⟩ c d H6 ⟨⟨dx, hp6⟩, k6 _ _ pB.symm (s5 _ _ hB4), k6 _ _ pR.symm (s5 _ _ hR4), k6 _ _ pD.symm (s5 _ _ hD4), hL6, rfl, rfl, rfl, rfl, BR, BD, BL, RD, RL, DL, fun i hi => ?_, fun z hz => ?_⟩ hB (fr k1 pR.symm hR) (fr (k12.trans k3) pD.symm hD) (fr (k14.trans k5) pL.symm hL) kAll
    · have : i = 0 := Nat.lt_one_iff.mp hi
      rw [this]
      exact ⟨hcm6, gw⟩
    · rw [List.mem_singleton.mp hz]
      obtain ⟨dd, c2, c3, h⟩ := hld
      exact ⟨t, ⟨dd, c2, c3, k6 _ _ dp h⟩, k6 _ _ (fun e => by rw [e, hp5] at ht; cases ht) ht⟩
def spCHeight (C1 C2 C3 : Addr) : Sp := fun vs H Q _ => ∃ (p : Addr) (q : CnP) (v : CnV) (x y : Int), vs = [.ref p] ∧ CnAt C1 C2 C3 H p q v x y ∧ Q (.int v.zs.length) H
theorem ok_Chain_height (T : Txt K mg a) : ∃ fd, FnOk P w K mg base CX0 1 a.d_Chain_height fd ["self"] (spCHeight a.C_Chain a.C_Committee a.C_Ledger) ∧ Binds K fd ["self"] [] := by
  obtain ⟨fd, F, b⟩ := T.d_Chain_height.F
  refine ⟨fd, F.ok sc_Chain_height (fun vs H Q E h => ?_) (fun cdv A outer s H vs Q E hr h => ?_), b⟩
  · obtain ⟨_, _, _, _, _, rfl, _⟩ := h
    rfl
  · obtain ⟨p, q, v, x, y, rfl, c, k⟩ := h
    obtain ⟨dx, hp⟩ := c.ins
    refine ⟨_, (pss_one (ps_ret (pe_callB call_len_seq (by rfl) T.n_len PySem.boot_len (pa_cons (pe_fld (pv 0) rfl) pa_nil)))), ?_⟩
    walk_at "rs"
    refine ⟨p, _, dx, _, .ref q.B, rfl, hp, T.cl_Chain, T.a_Chain_blocks, rfl, ?_⟩
    walk_at "rs"
    refine ⟨q.B, _, rfl, .inl (SqL.of c.hB), ?_⟩
    rw [List.length_map]
    exact k
def spCComm (C1 C2 C3 : Addr) : Sp := fun vs H Q _ => ∃ (p : Addr) (q : CnP) (v : CnV) (x y : Int), vs = [.ref p] ∧ CnAt C1 C2 C3 H p q v x y ∧ Q (.ref (v.ps.getD v.zs.length 0)) H
theorem at_last {α : Type} {xs : List α} {d : α} {n : Nat} (h : xs.length = n + 1) : atI xs (-1) = some (xs.getD n d) := by
  have ne : xs ≠ [] := fun e => by rw [e] at h; cases h
  have e := List.dropLast_concat_getLast ne
  rw [← e, atI_last]
  congr 1
  have l : xs.dropLast.length = n := by rw [List.length_dropLast]; omega
  rw [List.getD_eq_getElem?_getD, List.getElem?_append_right (Nat.le_of_eq l), l, Nat.sub_self]
  rfl
theorem map_getD {ps : List Addr} {n : Nat} (h : n < ps.length) : (ps.map V.ref).getD n .non = .ref (ps.getD n 0) := by
  rw [List.getD_eq_getElem?_getD, List.getD_eq_getElem?_getD, List.getElem?_map, List.getElem?_eq_getElem h]
  rfl
theorem ok_Chain_committee (T : Txt K mg a) : ∃ fd, FnOk P w K mg base CX0 1 a.d_Chain_committee fd ["self"] (spCComm a.C_Chain a.C_Committee a.C_Ledger) ∧ Binds K fd ["self"] [] := by
  obtain ⟨fd, F, b⟩ := T.d_Chain_committee.F
  refine ⟨fd, F.ok sc_Chain_committee (fun vs H Q E h => ?_) (fun cdv A outer s H vs Q E hr h => ?_), b⟩
  · obtain ⟨_, _, _, _, _, rfl, _⟩ := h
    rfl
  · obtain ⟨p, q, v, x, y, rfl, c, k⟩ := h
    obtain ⟨dx, hp⟩ := c.ins
    refine ⟨_, (pss_one (ps_ret (pe_ix ix_list (pe_fld (pv 0) rfl) (pe_un un_neg pe_int) (fun _ _ => rfl)))), ?_⟩
    walk_at "rs"
    refine ⟨p, _, dx, _, .ref q.D, rfl, hp, T.cl_Chain, T.a_Chain_committees, rfl, ?_⟩
    walk_at "rs"
    have e : atI (v.ps.map V.ref) (-1) = some (.ref (v.ps.getD v.zs.length 0)) := by
      rw [at_last (d := .non) (n := v.zs.length) (by rw [List.length_map]; exact c.np), map_getD (by have := c.np; omega)]
    refine ⟨q.D, _, _, _, rfl, rfl, SqL.of c.hD, e, ?_⟩
    exact k

theorem BookAt.someS {P : Program} {w : World} {CB CC : Addr} {H : Hp} {bk : Addr} {B : Bk} (N : BookAt P w CB CC H bk B) {p : Addr} (m : p ∈ B.S) (e : H p = none) : False := by
  unfold Bk.S at m
  rcases List.mem_cons.mp m with rfl | m
  · rw [N.lc] at e; cases e
  rcases List.mem_cons.mp m with rfl | m
  · rw [N.lm] at e; cases e
  rcases List.mem_cons.mp m with rfl | m
  · rcases N.kept.at_ with ⟨_, a⟩ | a <;> (rw [a] at e; cases e)
  rcases List.mem_cons.mp m with rfl | m
  · rcases N.byb.at_ with ⟨_, a⟩ | a <;> (rw [a] at e; cases e)
  obtain ⟨q, hq, rfl⟩ := List.mem_map.mp m
  obtain ⟨ls, a, _⟩ := N.rows q hq
  rw [a] at e; cases e

/-! ### a keeper alone: what stands where -/
structure Kp where
  who : Int
  ch : Addr
  jo : Addr
  pa : Addr
  po : Addr
  la : Addr
  se : Addr
  co : Bool
  h : Int
  bo : Addr
  pr : Addr
  t : Int
  st : Str
def kfs (k : Kp) : List (Str × V) := [("who", .int k.who), ("chain", .ref k.ch), ("journal", .ref k.jo), ("papers", .ref k.pa), ("pool", .ref k.po), ("later", .ref k.la), ("sent", .ref k.se), ("committed", .bl k.co), ("height", .int k.h), ("book", .ref k.bo), ("proposals", .ref k.pr), ("turn", .int k.t), ("step", .str k.st)]
/-- what stays; Hc: behind the chain, Hd: behind the pool -/
structure Ln where
  p : Addr
  dx : Addr
  ch : Addr
  jo : Addr
  L : Addr
  pa : Addr
  po : Addr
  wl : Addr
  la : Addr
  bo : Addr
  pr : Addr
  c : Addr
  d : Addr
  q : CnP
  n : Nat
  who : Int
  Hc : Hp
  Hd : Hp
/-- what moves -/
structure Lv where
  se : Addr
  co : Bool
  t : Int
  st : Str
  ps : List Addr
  ms : List Sm
  B : Bk
  kvs : List (Int × Str)
  ls : List Addr
  xs : List Lt
def prV2 (kvs : List (Int × Str)) : List ((Int ⊕ Str) × V) := kvs.map fun q => (Sum.inl q.1, V.str q.2)
def Ln.kp (N : Ln) (v : Lv) : Kp := ⟨N.who, N.ch, N.jo, N.pa, N.po, N.la, v.se, v.co, 0, N.bo, N.pr, v.t, v.st⟩
structure LnOk (CR CJ CP CH CC CL : Addr) (N : Ln) : Prop where
  cn : CnAt CH CC CL N.Hc N.ch N.q ⟨[], [], [N.c], [List.replicate N.n 1], [N.d]⟩ 0 0
  sc : Same N.Hc N.Hd
  cp : N.Hc N.p = none
  cL : N.Hc N.L = none
  jo : JAt CJ N.Hd N.jo N.who N.L
  jp : N.jo ≠ N.p
  po : ∃ dx, N.Hd N.po = some (.ins CP dx [("waiting", .ref N.wl)])
  pp : N.po ≠ N.p
  wl : N.Hd N.wl = some (.lst [])
  wL : N.wl ≠ N.L
  pa : N.Hd N.pa = some (.lst [])
  paL : N.pa ≠ N.L
  hp : ∃ fs, N.Hd N.p = some (.ins CR N.dx fs)
  hL : ∃ xs, N.Hd N.L = some (.lst xs)
  n2 : 2 ≤ N.n
  n9 : N.n ≤ 9
  w0 : 0 ≤ N.who
  w1 : N.who < N.n
  npr : N.Hd N.pr = none
structure LnAt (P : Program) (w : World) (CR CB CC : Addr) (N : Ln) (k : Nat) (H : Hp) (v : Lv) : Prop where
  ins : H N.p = some (.ins CR N.dx (kfs (N.kp v)))
  stab : ∀ b o, b ≠ N.p → b ≠ N.L → N.Hd b = some o → H b = some o
  hL : H N.L = some (.lst (v.ps.map V.ref))
  hs : SsAt H v.ps v.ms
  bk : BookAt P w CB CC H N.bo v.B
  bws : v.B.ws = List.replicate N.n 1
  bh : v.B.h = 0
  bc : v.B.cs = []
  bm : v.B.ms = []
  bx : ∀ x ∈ v.B.xs, x.w = N.who
  pr : H N.pr = some (.dK (prV2 v.kvs))
  sl : H v.se = some (.lst (v.ls.map V.ref))
  hl : LsAt H v.ls v.xs
  nse : N.Hd v.se = none
  nS : ∀ b ∈ v.B.S, N.Hd b = none
  dse : v.se ∉ v.B.S
  dpr : N.pr ∉ v.B.S
  md : ∀ m ∈ v.ms, m.h = 0 ∧ 0 ≤ m.t ∧ m.t ≤ v.t ∧ OkS m.b ∧ (m.k = .com → m.b = none)
  t0 : 0 ≤ v.t
  fm : v.ms.length ≤ k
  fx : v.B.xs.length ≤ k
  fs : v.xs.length ≤ k
  fk : v.kvs.length ≤ k
  bbo : N.bo ≠ N.p
  bcp : v.B.c ≠ N.p
section
variable {P : Program} {w : World} {CR CB CC : Addr} {N : Ln} {k : Nat} {H H' : Hp} {v : Lv}
theorem LnAt.mono {l : Nat} (h : LnAt P w CR CB CC N k H v) (q : k ≤ l) : LnAt P w CR CB CC N l H v := { h with fm := Nat.le_trans h.fm q, fx := Nat.le_trans h.fx q, fs := Nat.le_trans h.fs q, fk := Nat.le_trans h.fk q }
theorem LnAt.same (h : LnAt P w CR CB CC N k H v) (s : Same H H') : LnAt P w CR CB CC N k H' v :=
  { h with ins := s _ _ h.ins, stab := fun b o n1 n2 e => s _ _ (h.stab b o n1 n2 e), hL := s _ _ h.hL, hs := h.hs.same s, bk := h.bk.same s, pr := s _ _ h.pr, sl := s _ _ h.sl, hl := h.hl.same s }
/-- what a book stands on is left alone -/
theorem BookAt.frame {bk : Addr} {B : Bk} {Z : List Addr} (M : BookAt P w CB CC H bk B) (k : Keeps Z H H') (kS : ∀ b ∈ B.S, b ∉ Z) (kb : bk ∉ Z) (kc : B.c ∉ Z) (kt : ∀ p ys, H p = some (.tup ys) → p ∉ Z) : BookAt P w CB CC H' bk B := by
  have m1 : B.Lc ∈ B.S := List.mem_cons_self
  have m2 : B.Lm ∈ B.S := List.mem_cons_of_mem _ List.mem_cons_self
  have m3 : B.Dk ∈ B.S := List.mem_cons_of_mem _ (List.mem_cons_of_mem _ List.mem_cons_self)
  have m4 : B.Db ∈ B.S := List.mem_cons_of_mem _ (List.mem_cons_of_mem _ (List.mem_cons_of_mem _ List.mem_cons_self))
  have m5 : ∀ e ∈ B.kvs, e.2 ∈ B.S := fun e he => List.mem_cons_of_mem _ (List.mem_cons_of_mem _ (List.mem_cons_of_mem _ (List.mem_cons_of_mem _ (List.mem_map.mpr ⟨e, he, rfl⟩))))
  have up : ∀ a ∈ B.S, ∀ o, H a = some o → H' a = some o := fun a m o e => k _ _ (kS a m) e
  obtain ⟨dc, tc, c1, c2⟩ := M.com
  exact { M with obj := M.obj.imp fun _ e => k _ _ kb e, com := ⟨dc, tc, k _ _ kc c1, k _ _ (kt _ _ c2) c2⟩, kept := ⟨M.kept.at_.imp (fun a => ⟨a.1, up _ m3 _ a.2⟩) (fun a => up _ m3 _ a), M.kept.ls.keeps k kt, M.kept.nd, M.kept.few⟩, byb := ⟨M.byb.at_.imp (fun a => ⟨a.1, up _ m4 _ a.2⟩) (fun a => up _ m4 _ a), M.byb.few⟩,
                 lc := up _ m1 _ M.lc, pc := M.pc.keeps k kt, lm := up _ m2 _ M.lm, pm := M.pm.keeps k kt, rows := fun e he => let ⟨ls, h1, h2⟩ := M.rows e he; ⟨ls, up _ (m5 e he) _ h1, h2.keeps k kt⟩ }
/-- one object changes that is neither the book's nor a tuple: the book stays -/
theorem LnAt.book1 (h : LnAt P w CR CB CC N k H v) {l : Addr} {o : HO} (n1 : l ∉ v.B.S) (n2 : l ≠ N.bo) (n3 : l ≠ v.B.c) (n4 : ∀ ys, H l ≠ some (.tup ys)) : BookAt P w CB CC (_root_.L2.upd H l o) N.bo v.B :=
  h.bk.frame (Z := [l]) (keeps_upd List.mem_cons_self) (fun b m e => n1 (List.mem_singleton.mp e ▸ m)) (fun e => n2 (List.mem_singleton.mp e).symm) (fun e => n3 (List.mem_singleton.mp e).symm) fun p ys e m => n4 ys (List.mem_singleton.mp m ▸ e)
theorem SsAt.updM {ps : List Addr} {ms : List Sm} {l : Addr} {o : HO} (h : SsAt H ps ms) (n : ∀ ys, H l ≠ some (.tup ys)) : SsAt (_root_.L2.upd H l o) ps ms := ⟨h.1, fun i hi => by
  have e : H (ps.getD i 0) = some (.tup (ms.getD i default).vals) := h.2 i hi
  show _root_.L2.upd _ _ _ _ = _
  rw [upd_ne fun q => n _ (q ▸ e)]
  exact e⟩
theorem LsAt.updM2 {ps : List Addr} {xs : List Lt} {l : Addr} {o : HO} (h : LsAt H ps xs) (n : ∀ ys, H l ≠ some (.tup ys)) : LsAt (_root_.L2.upd H l o) ps xs :=
  h.keeps (S := [l]) (keeps_upd List.mem_cons_self) fun p ys e m => n ys (List.mem_singleton.mp m ▸ e)
theorem LnAt.pS (h : LnAt P w CR CB CC N k H v) : N.p ∉ v.B.S := h.bk.notS h.ins True.intro
/-- a field of the keeper is set -/
theorem LnAt.put (h : LnAt P w CR CB CC N k H v) {v' : Lv} (e1 : v'.ps = v.ps) (e2 : v'.ms = v.ms) (e3 : v'.B = v.B) (e4 : v'.kvs = v.kvs) (hs : H v'.se = some (.lst (v'.ls.map V.ref))) (hl : LsAt H v'.ls v'.xs) (nse : N.Hd v'.se = none) (dse : v'.se ∉ v.B.S) (ht : v.t ≤ v'.t) (fs : v'.xs.length ≤ k) :
    LnAt P w CR CB CC N k (_root_.L2.upd H N.p (.ins CR N.dx (kfs (N.kp v')))) v' := by
  have nt : ∀ ys, H N.p ≠ some (.tup ys) := fun ys e => by rw [h.ins] at e; cases e
  have li : ∀ {b : Addr} {xs : List V}, H b = some (.lst xs) → b ≠ N.p := fun e q => by rw [q, h.ins] at e; cases e
  have dp : N.pr ≠ N.p := fun q => by have := h.pr; rw [q, h.ins] at this; cases this
  refine { ins := upd_same, stab := fun b o n1 n2 e => by rw [upd_ne n1]; exact h.stab b o n1 n2 e, hL := by rw [upd_ne (li h.hL), e1]; exact h.hL, hs := by rw [e1, e2]; exact h.hs.updM nt, bk := by rw [e3]; exact h.book1 h.pS h.bbo.symm h.bcp.symm nt, bws := by rw [e3]; exact h.bws, bh := by rw [e3]; exact h.bh, bc := by rw [e3]; exact h.bc, bm := by rw [e3]; exact h.bm, bx := by rw [e3]; exact h.bx,
           pr := by rw [upd_ne dp, e4]; exact h.pr, sl := by rw [upd_ne (li hs)]; exact hs, hl := hl.updM2 nt, nse := nse, nS := by rw [e3]; exact h.nS, dse := by rw [e3]; exact dse, dpr := by rw [e3]; exact h.dpr, md := fun m hm => ?_, t0 := Int.le_trans h.t0 ht, fm := by rw [e2]; exact h.fm, fx := by rw [e3]; exact h.fx, fs := fs, fk := by rw [e4]; exact h.fk, bbo := h.bbo, bcp := by rw [e3]; exact h.bcp }
  rw [e2] at hm
  obtain ⟨a1, a2, a3, a4⟩ := h.md m hm
  exact ⟨a1, a2, Int.le_trans a3 ht, a4⟩
end

def nu (i : Int) : Str := Str.ofString (toString i)
def NOk (i : Int) : Prop := 0 ≤ i ∧ i ≤ 999999
/-- a number that may stand in a command tuple -/
def WOk (i : Int) : Prop := -1000 ≤ i ∧ i ≤ 2000000

theorem nu_tl {i : Int} (h : NOk i) : TL.tl (nu i) = TL.numL i.toNat := by
  unfold nu
  rw [← TL.tl_num, Int.toNat_of_nonneg h.1]
theorem nu_neg {n : Nat} : TL.tl (nu (Int.negSucc n)) = 45 :: TL.numL (n + 1) := by
  unfold nu
  rw [TL.tl_ofString]
  show (("-" ++ (n + 1).repr).toList.map Char.toNat) = _
  rw [String.toList_append, List.map_append]
  unfold TL.numL Nat.repr
  simp
theorem nu_len {i : Int} (h : WOk i) : (nu i).length ≤ 7 := by
  obtain ⟨h0, h1⟩ := id h
  rw [TL.len_tl]
  cases i with
  | ofNat n =>
    show (TL.tl (Str.ofString (toString ((n : Nat) : Int)))).length ≤ 7
    rw [TL.tl_num]
    exact TL.numL_len (k := 7) (by decide) (by have : ((n : Nat) : Int) ≤ 2000000 := h1; omega)
  | negSucc n =>
    rw [nu_neg, List.length_cons]
    have : n + 1 ≤ 1000 := by omega
    have := TL.numL_len (n := n + 1) (k := 4) (by decide) (by omega)
    omega
theorem nu_log {i : Int} (h : WOk i) : i.natAbs.log2 < 1920 := by
  obtain ⟨h0, h1⟩ := h
  rcases Nat.eq_zero_or_pos i.natAbs with z | z
  · rw [z]
    decide
  · have : i.natAbs.log2 < 30 := (Nat.log2_lt (Nat.ne_of_gt z)).mpr (by omega)
    omega

def spProp (K : PySem.W.Frag) : Sp := fun vs H Q _ => ∃ (h t : Int) (b : Option Str), vs = [.int h, .int t, oS b] ∧ ∀ p H', Same H H' → SmAt H' p ⟨.prop, h, t, b, none⟩ → Q (.ref p) H'
def spPrec (K : PySem.W.Frag) : Sp := fun vs H Q _ => ∃ (h t : Int) (b : Option Str), vs = [.int h, .int t, oS b] ∧ ∀ p H', Same H H' → SmAt H' p ⟨.com, h, t, b, none⟩ → Q (.ref p) H'
def spPrev (K : PySem.W.Frag) : Sp := fun vs H Q _ => ∃ (h t : Int) (b : Option Str) (l : Option Int), vs = [.int h, .int t, oS b, oI l] ∧ ∀ p H', Same H H' → SmAt H' p ⟨.pre, h, t, b, l⟩ → Q (.ref p) H'

theorem ok_proposal (T : Txt K mg a) : ∃ fd, FnOk P w K mg base CX0 1 a.d_proposal fd ["height", "turn", "block"] (spProp K) ∧ Binds K fd ["height", "turn", "block"] [] := by
  obtain ⟨fd, F, b⟩ := T.d_proposal.F
  refine ⟨fd, F.ok sc_proposal (fun vs H Q E h => ?_) (fun cdv A outer s H vs Q E hr h => ?_), b⟩
  · obtain ⟨_, _, _, rfl, _⟩ := h
    rfl
  · obtain ⟨h, t, b, rfl, k⟩ := h
    refine ⟨_, (pss_one (ps_ret (pe_tup (pa_cons pe_str (pa_cons (pv 0) (pa_cons (pv 1) (pa_cons (pv 2) pa_nil))))))), ?_⟩
    walk_at "rs"
    exact ⟨(by show 4 ≤ sizeLine; decide), fun p hp => k p _ (same_new hp) upd_same⟩
theorem ok_precommit (T : Txt K mg a) : ∃ fd, FnOk P w K mg base CX0 1 a.d_precommit fd ["height", "turn", "block"] (spPrec K) ∧ Binds K fd ["height", "turn", "block"] [] := by
  obtain ⟨fd, F, b⟩ := T.d_precommit.F
  refine ⟨fd, F.ok sc_precommit (fun vs H Q E h => ?_) (fun cdv A outer s H vs Q E hr h => ?_), b⟩
  · obtain ⟨_, _, _, rfl, _⟩ := h
    rfl
  · obtain ⟨h, t, b, rfl, k⟩ := h
    refine ⟨_, (pss_one (ps_ret (pe_tup (pa_cons pe_str (pa_cons (pv 0) (pa_cons (pv 1) (pa_cons (pv 2) pa_nil))))))), ?_⟩
    walk_at "rs"
    exact ⟨(by show 4 ≤ sizeLine; decide), fun p hp => k p _ (same_new hp) upd_same⟩
theorem ok_prevote (T : Txt K mg a) : ∃ fd, FnOk P w K mg base CX0 1 a.d_prevote fd ["height", "turn", "block", "lean"] (spPrev K) ∧ Binds K fd ["height", "turn", "block", "lean"] [] := by
  obtain ⟨fd, F, b⟩ := T.d_prevote.F
  refine ⟨fd, F.ok sc_prevote (fun vs H Q E h => ?_) (fun cdv A outer s H vs Q E hr h => ?_), b⟩
  · obtain ⟨_, _, _, _, rfl, _⟩ := h
    rfl
  · obtain ⟨h, t, b, l, rfl, k⟩ := h
    refine ⟨_, (pss_one (ps_ret (pe_tup (pa_cons pe_str (pa_cons (pv 0) (pa_cons (pv 1) (pa_cons (pv 2) (pa_cons (pv 3) pa_nil)))))))), ?_⟩
    walk_at "rs"
    exact ⟨(by show 5 ≤ sizeLine; decide), fun p hp => k p _ (same_new hp) upd_same⟩

abbrev LA (P : Program) (w : World) (a : Ads) := LnAt P w a.C_Replica a.C_Book a.C_Committee
abbrev LO (a : Ads) := LnOk a.C_Replica a.C_Journal a.C_Pool a.C_Chain a.C_Committee a.C_Ledger
theorem LnAt.chn {CR CJ CP CH CC CL CB : Addr} {N : Ln} {k : Nat} {H : Hp} {v : Lv} (h : LnAt P w CR CB CC N k H v) (o : LnOk CR CJ CP CH CC CL N) : CnAt CH CC CL H N.ch N.q ⟨[], [], [N.c], [List.replicate N.n 1], [N.d]⟩ 0 0 :=
  o.cn.same fun b x e => h.stab b x (fun q => by rw [q, o.cp] at e; cases e) (fun q => by rw [q, o.cL] at e; cases e) (o.sc _ _ e)
def spLead (C : Addr) : Sp := fun vs H Q _ => ∃ (c : Addr) (ws : List Int) (h t : Int), vs = [.ref c, .int h, .int t] ∧ CommAt C H c ws ∧ ws ≠ [] ∧ Q (.int ((h + t) % ws.length)) H
theorem ok_Committee_leader (T : Txt K mg a) : ∃ fd, FnOk P w K mg base CX0 1 a.d_Committee_leader fd ["self", "height", "turn"] (spLead a.C_Committee) ∧ Binds K fd ["self", "height", "turn"] [] := by
  obtain ⟨fd, F, b⟩ := T.d_Committee_leader.F
  refine ⟨fd, F.ok sc_Committee_leader (fun vs H Q E h => ?_) (fun cdv A outer s H vs Q E hr h => ?_), b⟩
  · obtain ⟨_, _, _, _, rfl, _⟩ := h
    rfl
  · obtain ⟨c, ws, h, t, rfl, ⟨dc, tc, hc, _⟩, ne, k⟩ := h
    refine ⟨_, (pss_one (ps_ret (pe_op op_mod (pe_op op_add (pv 1) (pv 2)) (pe_fld (pv 0) rfl)))), ?_⟩
    have l0 : 0 < ws.length := List.length_pos_iff.mpr ne
    walk_at "rs"
    refine ⟨c, _, dc, _, .int ws.length, rfl, hc, T.cl_Committee, T.a_Committee_size, cfs_s _ _, ?_⟩
    have l1 : (0 : Int) < (ws.length : Int) := by omega
    walk_at "rs"
    exact k
/-- the leader of a turn -/
def ldr (N : Ln) (t : Int) : Bool := decide (N.who = t % N.n)
def spIsLd (P : Program) (w : World) (a : Ads) : Sp := fun vs H Q _ => ∃ (N : Ln) (k : Nat) (v : Lv) (t : Int), vs = [.ref N.p, .int N.who, .int t] ∧ LO a N ∧ LA P w a N k H v ∧ Q (.bl (ldr N t)) H
theorem ok_Replica_is_leader (T : Txt K mg a) : ∃ fd, FnOk P w K mg base CX0 2 a.d_Replica_is_leader fd ["self", "who", "turn"] (spIsLd P w a) ∧ Binds K fd ["self", "who", "turn"] [] := by
  obtain ⟨fd, F, b⟩ := T.d_Replica_is_leader.F
  obtain ⟨fd_Committee_leader, G_Committee_leader, b_Committee_leader⟩ := ok_Committee_leader (P := P) (w := w) (base := base) T
  obtain ⟨fd_Chain_committee, G_Chain_committee, b_Chain_committee⟩ := ok_Chain_committee (P := P) (w := w) (base := base) T
  refine ⟨fd, F.ok sc_Replica_is_leader (fun vs H Q E h => ?_) (fun cdv A outer s H vs Q E hr h => ?_), b⟩
  · obtain ⟨_, _, _, _, rfl, _⟩ := h
    rfl
  · obtain ⟨N, n, v, t, rfl, o, h, k⟩ := h
    have cn := h.chn o
    obtain ⟨dxc, hpc⟩ := cn.ins
    refine ⟨_, (pss_one (ps_ret (pe_cmpR op_eq (pv 1) (pe_meth (pe_meth0 (pe_fld (pv 0) rfl) T.cl_Chain T.me_Chain_committee G_Chain_committee (hr.mono (by decide)) b_Chain_committee .nil pass0) T.cl_Committee T.me_Committee_leader G_Committee_leader (hr.mono (by decide)) b_Committee_leader .nil pass0 (pa_cons (pe_fld (pv 0) rfl) (pa_cons (pv 2) pa_nil))) (nomark _)))), ?_⟩
    walk_at "rs"
    refine ⟨N.p, _, N.dx, _, .ref N.ch, rfl, h.ins, T.cl_Replica, T.a_Replica_chain, rfl, ?_⟩
    refine ⟨N.ch, dxc, _, rfl, hpc, rfl, ?_⟩
    walk_at "rs"
    refine ⟨N.ch, N.q, _, 0, 0, rfl, cn, ?_⟩
    obtain ⟨hcm, gw⟩ := cn.cm 0 (Nat.zero_lt_succ 0)
    obtain ⟨dc, tc, hc1, hc2⟩ := id hcm
    refine ⟨N.c, dc, _, rfl, hc1, cfs_no _ _ (by decide +kernel) (by decide +kernel) (by decide +kernel), ?_⟩
    walk_at "rs"
    refine ⟨N.p, _, N.dx, _, .int 0, rfl, h.ins, T.cl_Replica, T.a_Replica_height, rfl, ?_⟩
    walk_at "rs"
    refine ⟨N.c, List.replicate N.n 1, 0, t, rfl, hcm, fun e => ?_, ?_⟩
    · have := congrArg List.length e
      rw [List.length_replicate] at this
      have := o.n2
      simp at *
      omega
    rw [List.length_replicate, Int.zero_add]
    refine ⟨rfl, ?_⟩
    rw [show decide (V.int N.who = V.int (t % (N.n : Int))) = ldr N t from by
      unfold ldr
      exact decide_eq_decide.mpr ⟨fun e => V.int.inj e, fun e => by rw [e]⟩]
    exact k
def spCertd (P : Program) (w : World) (a : Ads) : Sp := fun vs H Q _ => ∃ (N : Ln) (k : Nat) (v : Lv) (t : Int), vs = [.ref N.p, .int t] ∧ LA P w a N k H v ∧ Q .non H
theorem ok_Replica_certified (T : Txt K mg a) : ∃ fd, FnOk P w K mg base CX0 1 a.d_Replica_certified fd ["self", "turn"] (spCertd P w a) ∧ Binds K fd ["self", "turn"] [] := by
  obtain ⟨fd, F, b⟩ := T.d_Replica_certified.F
  skip
  refine ⟨fd, F.ok sc_Replica_certified (fun vs H Q E h => ?_) (fun cdv A outer s H vs Q E hr h => ?_), b⟩
  · obtain ⟨_, _, _, _, rfl, _⟩ := h
    rfl
  · obtain ⟨N, n, v, t, rfl, h, k⟩ := h
    obtain ⟨dxb, hb⟩ := h.bk.obj
    have hLc := h.bk.lc
    have pc := h.bk.pc
    rw [h.bc] at pc
    have eq : v.B.qc = [] := List.length_eq_zero_iff.mp pc.1
    rw [eq] at hLc
    refine ⟨_, (pss_cons (ps_for PassesOwn.never rfl (pi_list (pe_fld (pe_fld (pv 0) rfl) rfl)) (pg_tup rfl (pgs_cons (pg_name (i := 2) sc_Replica_certified.nd rfl (Or.inl rfl)) (pgs_cons (pg_name (i := 3) sc_Replica_certified.nd rfl (Or.inl rfl)) pgs_nil)))
      (pss_one (ps_if (pt_cmpR op_eq (pv 2) (pv 1) (nomark _))
        (pss_one (ps_ret (pv 3)))
        pss_nil)))
      (pss_one (ps_ret pe_non))), ?_⟩
    walk_at "rs"
    refine ⟨N.p, _, N.dx, _, .ref N.bo, rfl, h.ins, T.cl_Replica, T.a_Replica_book, rfl, ?_⟩
    refine ⟨N.bo, _, dxb, _, .ref v.B.Lc, rfl, hb, T.cl_Book, T.a_Book_certificates, bfs_ce _ _ _ _ _ _, ?_⟩
    refine ⟨v.B.Lc, rfl, ⟨_, SqL.of hLc⟩, for_list (K := K) (a := v.B.Lc) (xs := []) (fun i σ H2 => σ = [some (.ref N.p), some (.int t), none, none] ∧ H2 = H) ⟨rfl, rfl⟩ (fun i σ H2 _ e => by rw [e.2]; exact SqL.of hLc) (fun i y σ H2 hy _ => nomatch hy) ?_⟩
    rintro σ H2 ⟨rfl, rfl⟩
    walk_at "rs"
    exact k
def spBegin (P : Program) (w : World) (a : Ads) : Sp := fun vs H Q _ => ∃ (N : Ln) (k : Nat) (v : Lv), vs = [.ref N.p] ∧ LA P w a N k H v ∧ ∀ se H', LA P w a N k H' { v with se := se, co := false, ls := [], xs := [] } → Q .non H'
theorem ok_Replica_begin_call (T : Txt K mg a) : ∃ fd, FnOk P w K mg base CX0 1 a.d_Replica_begin_call fd ["self"] (spBegin P w a) ∧ Binds K fd ["self"] [] := by
  obtain ⟨fd, F, b⟩ := T.d_Replica_begin_call.F
  skip
  refine ⟨fd, F.ok sc_Replica_begin_call (fun vs H Q E h => ?_) (fun cdv A outer s H vs Q E hr h => ?_), b⟩
  · obtain ⟨_, _, _, rfl, _⟩ := h
    rfl
  · obtain ⟨N, n, v, rfl, h, k⟩ := h
    refine ⟨_, (pss_cons (ps_fld (pv 0) (pe_lst pa_nil) rfl)
      (pss_one (ps_fld (pv 0) pe_bl rfl))), ?_⟩
    walk_at "rs"
    refine ⟨(by show 0 ≤ sizeLine; decide), fun se hse => ?_⟩
    have s1 := same_new (o := .lst []) hse
    have nse : N.Hd se = none := by
      cases e : N.Hd se with
      | none => rfl
      | some o => 
        by_cases q1 : se = N.p
        · rw [q1, h.ins] at hse; cases hse
        by_cases q2 : se = N.L
        · rw [q2, h.hL] at hse; cases hse
        rw [h.stab _ _ q1 q2 e] at hse
        cases hse
    have dse : se ∉ v.B.S := fun m => h.bk.someS m hse
    have gse : upd H se (.lst []) se = some (.lst (([] : List Addr).map V.ref)) := upd_same
    have h1 := h.same s1
    generalize upd H se (.lst []) = H1 at h1 gse ⊢
    walk_at "rs"
    refine ⟨N.p, _, N.dx, _, rfl, h1.ins, T.cl_Replica, T.a_Replica_sent, (by show 13 < 1000; decide), ?_⟩
    have h2 := h1.put (v' := { v with se := se, ls := [], xs := [] }) rfl rfl rfl rfl gse .nil nse dse (Int.le_refl _) (Nat.zero_le _)
    change (_ : Hp → Prop) (upd H1 N.p (.ins a.C_Replica N.dx (kfs (N.kp { v with se := se, ls := [], xs := [] }))))
    generalize upd H1 N.p (.ins a.C_Replica N.dx (kfs (N.kp { v with se := se, ls := [], xs := [] }))) = H2 at h2 ⊢
    walk_at "rs"
    refine ⟨N.p, _, N.dx, _, rfl, h2.ins, T.cl_Replica, T.a_Replica_committed, (by show 13 < 1000; decide), ?_⟩
    exact k se _ (h2.put (v' := { v with se := se, co := false, ls := [], xs := [] }) rfl rfl rfl rfl h2.sl .nil nse dse (Int.le_refl _) (Nat.zero_le _))
def spBlock0 : Sp := fun vs H Q _ => ∃ l : Addr, vs = [.ref l] ∧ H l = some (.lst []) ∧ ∀ q H', Same H H' → H' q = some (.tup [.str "", .int 0]) → Q (.ref q) H'
theorem ok_block_of (T : Txt K mg a) : ∃ fd, FnOk P w K mg base CX0 2 a.d_block_of fd ["commands"] spBlock0 ∧ Binds K fd ["commands"] [] := by
  obtain ⟨fd, F, b⟩ := T.d_block_of.F
  skip
  refine ⟨fd, F.ok sc_block_of (fun vs H Q E h => ?_) (fun cdv A outer s H vs Q E hr h => ?_), b⟩
  · obtain ⟨_, rfl, _⟩ := h
    rfl
  · obtain ⟨l, rfl, hl, k⟩ := h
    refine ⟨_, (pss_cons (ps_set (i := 1) sc_block_of.nd rfl (Or.inl rfl) pe_str)
      (pss_cons (ps_for PassesOwn.never rfl (pi_enum (by rfl) T.n_enumerate (pa_cons (pv 0) pa_nil)) (pg_tup rfl (pgs_cons (pg_name (i := 2) sc_block_of.nd rfl (Or.inl rfl)) (pgs_cons (pg_name (i := 3) sc_block_of.nd rfl (Or.inl rfl)) pgs_nil)))
      (pss_cons ps_never
        (pss_cons ps_never
        (pss_one ps_never))))
      (pss_one (ps_ret (pe_tup (pa_cons (pv 1) (pa_cons (pe_callB call_len_seq (by rfl) T.n_len PySem.boot_len (pa_cons (pv 0) pa_nil)) pa_nil))))))), ?_⟩
    walk_at "rs"
    refine ⟨l, _, rfl, SqL.of hl, ?_⟩
    refine for_enumL (K := K) (a := l) (ys := []) (fun i σ H2 => σ = [some (.ref l), some (.str ""), none, none, none] ∧ H2 = H) ⟨rfl, rfl⟩ (fun i σ H2 _ e => by rw [e.2]; exact SqL.of hl) ?_ ?_
    · rintro i y σ H2 q hy _ _
      cases hy
    · rintro σ H2 ⟨rfl, rfl⟩
      walk_at "rs"
      refine ⟨l, _, rfl, .inl (SqL.of hl), ?_⟩
      walk_at "rs"
      exact ⟨(by show 2 ≤ sizeLine; decide), fun q hq => k q _ (same_new hq) upd_same⟩
def spPInit (C : Addr) : Sp := fun vs H Q _ => ∃ p dx : Addr, vs = [.ref p] ∧ H p = some (.ins C dx []) ∧ ∀ l H', H l = none → H' p = some (.ins C dx [("waiting", .ref l)]) → H' l = some (.lst []) → (∀ b o, b ≠ p → H b = some o → H' b = some o) → Q .non H'
theorem ok_Pool_init (T : Txt K mg a) : ∃ fd, FnOk P w K mg base CX0 1 a.d_Pool_init fd ["self"] (spPInit a.C_Pool) ∧ Binds K fd ["self"] [] := by
  obtain ⟨fd, F, b⟩ := T.d_Pool_init.F
  refine ⟨fd, F.ok sc_Pool_init (fun vs H Q E h => ?_) (fun cdv A outer s H vs Q E hr h => ?_), b⟩
  · obtain ⟨_, _, rfl, _⟩ := h
    rfl
  · obtain ⟨p, dx, rfl, hp, k⟩ := h
    refine ⟨_, (pss_one (ps_fld (pv 0) (pe_lst pa_nil) rfl)), ?_⟩
    walk_at "rs"
    refine ⟨(by show 0 ≤ sizeLine; decide), fun l hl => ?_⟩
    have pl : p ≠ l := fun e => by rw [e, hl] at hp; cases hp
    walk_at "rs"
    refine ⟨p, _, dx, [], rfl, (by rw [upd_ne pl]; exact hp), T.cl_Pool, T.a_Pool_waiting, (by show 0 < 1000; decide), ?_⟩
    refine k l _ hl (by rw [upd_same]; rfl) (by rw [upd_ne pl.symm, upd_same]) fun b o n e => ?_
    rw [upd_ne n, upd_ne (fun q => by rw [q, hl] at e; cases e)]
    exact e
def spPBl (C : Addr) : Sp := fun vs H Q _ => ∃ p dx l : Addr, vs = [.ref p] ∧ H p = some (.ins C dx [("waiting", .ref l)]) ∧ H l = some (.lst []) ∧ ∀ H', Same H H' → Q (.str "") H'
theorem ok_Pool_block (T : Txt K mg a) : ∃ fd, FnOk P w K mg base CX0 3 a.d_Pool_block fd ["self"] (spPBl a.C_Pool) ∧ Binds K fd ["self"] [] := by
  obtain ⟨fd, F, b⟩ := T.d_Pool_block.F
  obtain ⟨fd_block_of, G_block_of, b_block_of⟩ := ok_block_of (P := P) (w := w) (base := base) T
  refine ⟨fd, F.ok sc_Pool_block (fun vs H Q E h => ?_) (fun cdv A outer s H vs Q E hr h => ?_), b⟩
  · obtain ⟨_, _, _, rfl, _⟩ := h
    rfl
  · obtain ⟨j, dx, L, rfl, hj, hL, k⟩ := h
    refine ⟨_, (pss_cons (ps_asg (pe_call G_block_of (hr.mono (by decide)) rfl T.d_block_of.g T.d_block_of.kp b_block_of .nil pass0 (pa_cons (pe_fld (pv 0) rfl) pa_nil)) (pg_tup rfl (pgs_cons (pg_name (i := 1) sc_Pool_block.nd rfl (Or.inl rfl)) (pgs_cons (pg_name (i := 2) sc_Pool_block.nd rfl (Or.inl rfl)) pgs_nil))))
      (pss_one (ps_ret (pv 1)))), ?_⟩
    walk_at "rs"
    refine ⟨j, _, dx, _, .ref L, rfl, hj, T.cl_Pool, T.a_Pool_waiting, rfl, ?_⟩
    walk_at "rs"
    refine ⟨hL, fun q H1 s1 hq => ?_⟩
    refine ⟨q, _, rfl, SqT.of hq, rfl, ?_⟩
    refine ⟨_, _, rfl, _, _, rfl, rfl, ?_⟩
    walk_at "rs"
    exact k H1 s1
/-- the block that a leader makes -/
def blkT (t : Int) : Str := "b0t" ++ nu t
def spChoice (P : Program) (w : World) (a : Ads) : Sp := fun vs H Q _ => ∃ (N : Ln) (k : Nat) (v : Lv), vs = [.ref N.p] ∧ LO a N ∧ LA P w a N k H v ∧ v.t < 1000 ∧ ∀ H', Same H H' → Q (.str (blkT v.t)) H'
theorem ok_Replica_choice (T : Txt K mg a) : ∃ fd, FnOk P w K mg base CX0 4 a.d_Replica_choice fd ["self"] (spChoice P w a) ∧ Binds K fd ["self"] [] := by
  obtain ⟨fd, F, b⟩ := T.d_Replica_choice.F
  obtain ⟨fd_Pool_block, G_Pool_block, b_Pool_block⟩ := ok_Pool_block (P := P) (w := w) (base := base) T
  obtain ⟨fd_Replica_certified, G_Replica_certified, b_Replica_certified⟩ := ok_Replica_certified (P := P) (w := w) (base := base) T
  refine ⟨fd, F.ok sc_Replica_choice (fun vs H Q E h => ?_) (fun cdv A outer s H vs Q E hr h => ?_), b⟩
  · obtain ⟨_, _, _, rfl, _⟩ := h
    rfl
  · obtain ⟨N, n, v, rfl, o, h, ht, k⟩ := h
    obtain ⟨dxb, hb⟩ := h.bk.obj
    have hLc := h.bk.lc
    have pc := h.bk.pc
    rw [h.bc] at pc
    have eq : v.B.qc = [] := List.length_eq_zero_iff.mp pc.1
    rw [eq] at hLc
    obtain ⟨dxp, hpo⟩ := o.po
    have poL : N.po ≠ N.L := fun e => by obtain ⟨_, hx⟩ := o.hL; rw [e, hx] at hpo; cases hpo
    have wlp : N.wl ≠ N.p := fun e => by obtain ⟨_, hx⟩ := o.hp; have := o.wl; rw [e, hx] at this; cases this
    have hpo := h.stab _ _ o.pp poL hpo
    have hwl := h.stab _ _ wlp o.wL o.wl
    refine ⟨_, (pss_cons (ps_if (pt_cmpR op_gt (pe_callB call_len_seq (by rfl) T.n_len PySem.boot_len (pa_cons (pe_fld (pe_fld (pv 0) rfl) rfl) pa_nil)) pe_int (nomark _))
      (pss_one ps_never)
      pss_nil)
      (pss_cons (ps_set (i := 1) sc_Replica_choice.nd rfl (Or.inl rfl) (pe_meth0 (pe_fld (pv 0) rfl) T.cl_Pool T.me_Pool_block G_Pool_block (hr.mono (by decide)) b_Pool_block .nil pass0))
      (pss_cons (ps_if (pt_cmpR op_ne (pv 1) pe_str (nomark _))
      (pss_one (ps_ret (pv 1)))
      pss_nil)
      (pss_one (ps_ret (pe_joined (PJ.cons pe_str (PJ.cons (pe_fmt (pe_fld (pv 0) rfl)) (PJ.cons pe_str (PJ.cons (pe_fmt (pe_fld (pv 0) rfl)) PJ.nil)))))))))), ?_⟩
    walk_at "rs"
    refine ⟨N.p, _, N.dx, _, .ref N.bo, rfl, h.ins, T.cl_Replica, T.a_Replica_book, rfl, ?_⟩
    refine ⟨N.bo, _, dxb, _, .ref v.B.Lc, rfl, hb, T.cl_Book, T.a_Book_certificates, bfs_ce _ _ _ _ _ _, ?_⟩
    walk_at "rs"
    refine ⟨v.B.Lc, _, rfl, .inl (SqL.of hLc), ?_⟩
    walk_at "rs"
    refine ⟨N.p, _, N.dx, _, .ref N.po, rfl, h.ins, T.cl_Replica, T.a_Replica_pool, rfl, ?_⟩
    refine ⟨N.po, dxp, _, rfl, hpo, rfl, ?_⟩
    walk_at "rs"
    refine ⟨N.po, dxp, N.wl, rfl, hpo, hwl, fun H1 s1 => ?_⟩
    walk_at "rs"
    refine ⟨by rw [sizeLine_eq]; decide +kernel, ?_⟩
    walk_at "rs"
    refine ⟨N.p, _, N.dx, _, .int 0, rfl, s1 _ _ h.ins, T.cl_Replica, T.a_Replica_height, rfl, ?_⟩
    have t0 := h.t0
    have ow : WOk v.t := ⟨by omega, by omega⟩
    have ln : (Str.ofString (toString v.t)).length ≤ 7 := nu_len ow
    refine .inr ⟨0, rfl, by decide, _, rfl, by rw [sizeLine_eq]; decide +kernel, ?_⟩
    refine ⟨_, rfl, by rw [sizeLine_eq]; decide +kernel, ?_⟩
    walk_at "rs"
    refine ⟨N.p, _, N.dx, _, .int v.t, rfl, s1 _ _ h.ins, T.cl_Replica, T.a_Replica_turn, rfl, ?_⟩
    have eb : (Str.empty ++ "b" ++ Str.ofString (toString (0 : Int)) ++ "t" : Str) = "b0t" := by decide +kernel
    refine .inr ⟨v.t, rfl, nu_log ow, _, rfl, ?_, ?_⟩
    · rw [eb, PySem.Str.length_append, sizeLine_eq]
      have : ("b0t" : Str).length = 3 := rfl
      omega
    · rw [eb]
      exact k H1 s1
theorem lone_wt {who : Int} {f : Int → Bool} (hf : ∀ i, f i = true → i = who) (n : Nat) : ∀ m : Nat, wt (List.replicate n 1) f m ≤ (if who < m then 1 else 0)
  | 0 => by
    show (0 : Int) ≤ _
    split <;> decide
  | m + 1 => by
    have ih := lone_wt hf n m
    rw [wt_succ]
    have g1 : (List.replicate n (1 : Int)).getD m 0 ≤ 1 := by
      rw [List.getD_eq_getElem?_getD]
      rcases Nat.lt_or_ge m n with z | z
      · rw [List.getElem?_replicate, if_pos z]
        exact Int.le_refl _
      · rw [List.getElem?_replicate, if_neg (by omega)]
        decide
    cases e : f (m : Int) with
    | true =>
      have em := hf _ e
      rw [if_neg (by omega)] at ih
      rw [if_pos rfl, if_pos (by omega)]
      omega
    | false =>
      rw [if_neg Bool.false_ne_true]
      split at ih <;> split <;> omega
theorem lone_q {who : Int} {n : Nat} (h2 : 2 ≤ n) {ms : List Int} (h : ∀ x ∈ ms, x = who) : qrm (List.replicate n 1) ms = false := by
  unfold qrm
  refine decide_eq_false fun c => ?_
  have h1 : wOf (List.replicate n 1) ms ≤ 1 := by
    have := lone_wt (who := who) (f := fun k => decide (k ∈ ms)) (fun i e => h i (of_decide_eq_true e)) n (List.replicate n (1 : Int)).length
    unfold wOf
    refine Int.le_trans this ?_
    split <;> decide
  have hs : (List.replicate n (1 : Int)).sum = n := by
    clear h2 h1 c
    induction n with
    | zero => rfl
    | succ n ih =>
      rw [List.replicate_succ, List.sum_cons, ih]
      omega
  rw [hs] at c
  omega
theorem lone_lns {who : Int} {n : Nat} (h2 : 2 ≤ n) {xs : List Lt} (hx : ∀ x ∈ xs, x.w = who) (h : Int) (b : Option Str) : ∀ m, lns (List.replicate n 1) xs h b m = []
  | 0 => rfl
  | m + 1 => by
    rw [lns, lone_lns h2 hx h b m, lone_q h2 (who := who) fun x hm => by
      obtain ⟨y, hy, rfl⟩ := List.mem_map.mp hm
      exact hx y (List.mem_filter.mp hy).1]
    rfl
theorem lone_ct {who : Int} {n : Nat} (h2 : 2 ≤ n) {xs : List Lt} (hx : ∀ x ∈ xs, x.w = who) (h : Int) (b : Option Str) : ctL (List.replicate n 1) xs h b = [] := by
  unfold ctL
  cases b with
  | none => rfl
  | some b => exact lone_lns h2 hx h _ 60
/-- what a book of one's own letters holds -/
theorem lone_c {N : Ln} {B : Bk} (h2 : 2 ≤ N.n) (e : B.ws = List.replicate N.n 1) (hx : ∀ x ∈ B.xs, x.w = N.who) (b : Option Str) : B.c' b = [] ∧ B.m' b = [] := by
  have hx2 : ∀ x ∈ inB b B.xs, x.w = N.who := fun x hm => hx x (List.mem_filter.mp hm).1
  unfold Bk.c' Bk.m' cmL
  rw [e, lone_ct h2 hx2]
  exact ⟨rfl, rfl⟩
def spTake (P : Program) (w : World) (a : Ads) : Sp := fun vs H Q _ => ∃ (N : Ln) (k : Nat) (v : Lv) (lp : Addr) (m : Sm), vs = [.ref N.p, .ref lp] ∧ LO a N ∧ LA P w a N k H v ∧ k < 900 ∧ LtAt H lp ⟨N.who, m⟩ ∧ OkS m.b ∧ 0 ≤ m.t ∧ m.t < 60 ∧ (m.k = .prop → m.b = some (blkT m.t) ∧ ldr N m.t = true) ∧
  ∀ B kvs H', LA P w a N (k + 1) H' { v with B := B, kvs := kvs } → (∀ b o, b ∉ v.B.S → b ≠ N.pr → H b = some o → H' b = some o) → (m.k ≠ .prop → kvs = v.kvs) → (m.k = .prop → (valV (prV2 v.kvs) (Sum.inl m.t) = none → kvs = v.kvs ++ [(m.t, blkT m.t)]) ∧ (valV (prV2 v.kvs) (Sum.inl m.t) ≠ none → kvs = v.kvs)) → Q .non H'
theorem ok_Replica_take_in (T : Txt K mg a) : ∃ fd, FnOk P w K mg base CX0 7 a.d_Replica_take_in fd ["self", "letter"] (spTake P w a) ∧ Binds K fd ["self", "letter"] [] := by
  obtain ⟨fd, F, b⟩ := T.d_Replica_take_in.F
  obtain ⟨fd_is_vote, G_is_vote, b_is_vote⟩ := ok_is_vote (P := P) (w := w) (base := base) T
  obtain ⟨fd_Book_add, G_Book_add, b_Book_add⟩ := ok_Book_add (P := P) (w := w) (base := base) T
  obtain ⟨fd_Replica_is_leader, G_Replica_is_leader, b_Replica_is_leader⟩ := ok_Replica_is_leader (P := P) (w := w) (base := base) T
  refine ⟨fd, F.ok sc_Replica_take_in (fun vs H Q E h => ?_) (fun cdv A outer s H vs Q E hr h => ?_), b⟩
  · obtain ⟨_, _, _, _, _, rfl, _⟩ := h
    rfl
  · obtain ⟨N, n, v, lp, m, rfl, o, h, few, hlp, okb, m0, m1, mp, k⟩ := h
    obtain ⟨sp, hl, hm⟩ := id hlp
    refine ⟨_, (pss_cons (ps_asg (pv 1) (pg_tup rfl (pgs_cons (pg_name (i := 2) sc_Replica_take_in.nd rfl (Or.inl rfl)) (pgs_cons (pg_name (i := 3) sc_Replica_take_in.nd rfl (Or.inl rfl)) pgs_nil))))
      (pss_one (ps_if (pt_val (pe_call G_is_vote (hr.mono (by decide)) rfl T.d_is_vote.g T.d_is_vote.kp b_is_vote .nil pass0 (pa_cons (pv 3) pa_nil)))
      (pss_one (ps_expr (pe_meth (pe_fld (pv 0) rfl) T.cl_Book T.me_Book_add G_Book_add (hr.mono (by decide)) b_Book_add .nil pass0 (pa_cons (pv 1) pa_nil))))
      (pss_one (ps_if (pt_val (pe_meth (pv 0) T.cl_Replica T.me_Replica_is_leader G_Replica_is_leader (hr.mono (by decide)) b_Replica_is_leader .nil pass0 (pa_cons (pv 2) (pa_cons (pe_ix ix_tup (pv 3) (pe_glob (v := (.int 2)) rfl T.c_TURN.choose_spec ⟨_, rfl⟩) (fun _ _ => rfl)) pa_nil))))
        (pss_one (ps_expr (pe_dsetd (pe_fld (pv 0) rfl) (pe_ix ix_tup (pv 3) (pe_glob (v := (.int 2)) rfl T.c_TURN.choose_spec ⟨_, rfl⟩) (fun _ _ => rfl)) (pe_ix ix_tup (pv 3) (pe_glob (v := (.int 3)) rfl T.c_BLOCK.choose_spec ⟨_, rfl⟩) (fun _ _ => rfl)) ⟨rfl, rfl, rfl, rfl⟩)))
        pss_nil))))), ?_⟩
    walk_at "rs"
    refine ⟨_, _, rfl, SqT.of hl, rfl, _, _, rfl, _, _, rfl, rfl, ?_⟩
    walk_at "rs"
    refine ⟨sp, m, rfl, hm, fun H1 s1 => ?_⟩
    have h1 := h.same s1
    have hlp1 := hlp.same s1
    walk_at "rs"
    refine ite2 (fun c1 => ?_) (fun c1 => ?_)
    · have c1 : m.k ≠ .prop := of_decide_eq_true c1
      obtain ⟨dxb, hb⟩ := h1.bk.obj
      walk_at "rs"
      refine ⟨N.p, _, N.dx, _, .ref N.bo, rfl, h1.ins, T.cl_Replica, T.a_Replica_book, rfl, ?_⟩
      refine ⟨N.bo, dxb, _, rfl, hb, bfs_no _ _ _ _ _ _ (by decide +kernel) (by decide +kernel) (by decide +kernel) (by decide +kernel) (by decide +kernel) (by decide +kernel), ?_⟩
      walk_at "rs"
      refine ⟨N.bo, lp, v.B, ⟨N.who, m⟩, rfl, h1.bk, hlp1, okb, ⟨m0, m1⟩, by have := h1.fx; omega, by rw [h1.bc]; exact Nat.zero_le _, by rw [h1.bm]; exact Nat.zero_le _, fun _ H2 s2 => ?_, fun nin _ kvs q1 q2 H2 k2 rows B2 => ?_⟩
      · refine k v.B v.kvs H2 ((h1.same s2).mono (Nat.le_succ _)) (fun b o _ _ e => s2 _ _ (s1 _ _ e)) (fun _ => rfl) fun e => absurd e c1
      · have bx2 : ∀ x ∈ (v.B.plus lp ⟨N.who, m⟩).xs, x.w = N.who := fun x hx => by
          rcases List.mem_append.mp hx with hx | hx
          · exact h1.bx x hx
          · rw [List.mem_singleton.mp hx]
        obtain ⟨ec, em⟩ := lone_c (N := N) (B := v.B.plus lp ⟨N.who, m⟩) o.n2 h1.bws bx2 m.b
        obtain ⟨B', eB, B2⟩ : ∃ B' : Bk, (B'.S = v.B.Lc :: v.B.Lm :: v.B.Dk :: v.B.Db :: kvs.map (·.2) ∧ B'.ws = v.B.ws ∧ B'.h = v.B.h ∧ B'.cs = [] ∧ B'.ms = [] ∧ B'.xs = v.B.xs ++ [⟨N.who, m⟩] ∧ B'.c = v.B.c) ∧ BookAt P w a.C_Book a.C_Committee H2 N.bo B' :=
          by
            refine ⟨_, ?_, B2⟩
            refine ⟨rfl, rfl, rfl, ?_, ?_, rfl, rfl⟩
            · show v.B.cs ++ (v.B.plus lp ⟨N.who, m⟩).c' m.b = []
              rw [ec, h1.bc]
              rfl
            · show v.B.ms ++ (v.B.plus lp ⟨N.who, m⟩).m' m.b = []
              rw [em, h1.bm]
              rfl
        obtain ⟨eS, ews, eh, ecs, ems, exs, ecc⟩ := eB
        have nf : ∀ b, b ∈ B'.S → b ∈ v.B.S ∨ H1 b = none := fun b hm => by
          rw [eS] at hm
          rcases List.mem_cons.mp hm with q | hm
          · exact .inl (by rw [q]; exact List.mem_cons_self)
          rcases List.mem_cons.mp hm with q | hm
          · exact .inl (by rw [q]; exact List.mem_cons_of_mem _ List.mem_cons_self)
          rcases List.mem_cons.mp hm with q | hm
          · exact .inl (by rw [q]; exact List.mem_cons_of_mem _ (List.mem_cons_of_mem _ List.mem_cons_self))
          rcases List.mem_cons.mp hm with q | hm
          · exact .inl (by rw [q]; exact List.mem_cons_of_mem _ (List.mem_cons_of_mem _ (List.mem_cons_of_mem _ List.mem_cons_self)))
          obtain ⟨e, he, rfl⟩ := List.mem_map.mp hm
          rcases rows e he with he | he
          · exact .inl (List.mem_cons_of_mem _ (List.mem_cons_of_mem _ (List.mem_cons_of_mem _ (List.mem_cons_of_mem _ (List.mem_map.mpr ⟨e, he, rfl⟩)))))
          · exact .inr he
        have nt2 : ∀ p ys, H1 p = some (.tup ys) → p ∉ v.B.S := h1.bk.tupS
        have LS : N.L ∉ v.B.S := fun q => by
          obtain ⟨xs, hx⟩ := o.hL
          rw [h1.nS _ q] at hx
          cases hx
        refine k B' v.kvs H2 { ins := k2 _ _ h1.pS h1.ins, stab := fun b x n1 n2 e => k2 _ _ (fun q => by rw [h1.nS b q] at e; cases e) (h1.stab b x n1 n2 e), hL := k2 _ _ LS h1.hL, hs := ⟨h1.hs.1, fun i hi => k2 _ _ (nt2 _ _ (h1.hs.2 i hi)) (h1.hs.2 i hi)⟩, bk := B2, bws := ews.trans h1.bws, bh := eh.trans h1.bh, bc := ecs, bm := ems, bx := fun x hx => bx2 x (by have hx : x ∈ B'.xs := hx; rw [exs] at hx; exact hx), pr := k2 _ _ h1.dpr h1.pr, sl := k2 _ _ h1.dse h1.sl, hl := h1.hl.keeps k2 nt2, nse := h1.nse, nS := fun b hm => ?_, dse := fun hm => ?_, dpr := fun hm => ?_, md := h1.md, t0 := h1.t0, fm := Nat.le_succ_of_le h1.fm, fx := ?_, fs := Nat.le_succ_of_le h1.fs, fk := Nat.le_succ_of_le h1.fk, bbo := h1.bbo, bcp := fun q => h1.bcp (ecc ▸ q) } (fun b x n _ e => k2 _ _ n (s1 _ _ e)) (fun _ => rfl) fun e => absurd e c1
        · rcases nf b hm with q | q
          · exact h1.nS b q
          · cases e : N.Hd b with
            | none => rfl
            | some x =>
              by_cases q1 : b = N.p
              · rw [q1, h1.ins] at q; cases q
              by_cases q2 : b = N.L
              · rw [q2, h1.hL] at q; cases q
              rw [h1.stab _ _ q1 q2 e] at q
              cases q
        · rcases nf _ hm with q | q
          · exact h1.dse q
          · rw [h1.sl] at q; cases q
        · rcases nf _ hm with q | q
          · exact h1.dpr q
          · rw [h1.pr] at q; cases q
        · show B'.xs.length ≤ n + 1
          rw [exs, List.length_append]
          have := h1.fx
          show v.B.xs.length + 1 ≤ n + 1
          omega
    · have c1 : m.k = .prop := by simpa using c1
      walk_at "rs"
      obtain ⟨mb, ml⟩ := mp c1
      have hm' : H1 sp = some (.tup m.vals) := s1 _ _ hm
      refine ⟨N.p, N.dx, _, rfl, h1.ins, rfl, ?_⟩
      walk_at "rs"
      refine ⟨N, n, v, m.t, rfl, o, h1, ?_⟩
      rw [ml]
      refine ⟨_, rfl, ?_⟩
      refine ite2 (fun _ => ?_) (fun c => absurd rfl c)
      walk_at "rs"
      refine ⟨N.p, _, N.dx, _, .ref N.pr, rfl, h1.ins, T.cl_Replica, T.a_Replica_proposals, rfl, ?_⟩
      walk_at "rs"
      have hm0 : H1 sp = some (.tup m.vals) := hm'
      refine ⟨.inl ⟨_, .inl h1.pr⟩, ?_⟩
      walk_at "rs"
      refine ⟨prV2 v.kvs, Sum.inl m.t, h1.pr, rfl, ?_, fun z hz => ?_, fun hz => ?_⟩
      · unfold prV2
        rw [List.length_map]
        exact small1000 (by have := h1.fk; omega)
      · exact k v.B v.kvs H1 (h1.mono (Nat.le_succ _)) (fun b x _ _ e => s1 _ _ e) (fun _ => rfl) fun _ => ⟨fun e => (by rw [hz] at e; cases e), fun _ => rfl⟩
      · have ek : putK (prV2 v.kvs) (Sum.inl m.t) (oS m.b) = prV2 (v.kvs ++ [(m.t, blkT m.t)]) := by
          rw [putK_new hz, mb]
          unfold prV2
          rw [List.map_append]
          rfl
        have nt : ∀ ys, H1 N.pr ≠ some (.tup ys) := fun ys e => by rw [h1.pr] at e; cases e
        have li : ∀ {b : Addr} {xs : List V}, H1 b = some (.lst xs) → b ≠ N.pr := fun e q => by rw [q, h1.pr] at e; cases e
        have ip : ∀ {b C dx : Addr} {fs : List (Str × V)}, H1 b = some (.ins C dx fs) → b ≠ N.pr := fun e q => by rw [q, h1.pr] at e; cases e
        obtain ⟨dxb, hb⟩ := h1.bk.obj
        obtain ⟨dc, tc, hc1, _⟩ := h1.bk.com
        rw [ek]
        refine k v.B (v.kvs ++ [(m.t, blkT m.t)]) _ { ins := by rw [upd_ne (ip h1.ins)]; exact h1.ins, stab := fun b x n1 n2 e => by rw [upd_ne (fun q => by rw [q, o.npr] at e; cases e)]; exact h1.stab b x n1 n2 e, hL := by rw [upd_ne (li h1.hL)]; exact h1.hL, hs := h1.hs.updM nt, bk := h1.book1 h1.dpr (ip hb).symm (ip hc1).symm nt, bws := h1.bws, bh := h1.bh, bc := h1.bc, bm := h1.bm, bx := h1.bx, pr := upd_same, sl := by rw [upd_ne (li h1.sl)]; exact h1.sl, hl := h1.hl.updM2 nt, nse := h1.nse, nS := h1.nS, dse := h1.dse, dpr := h1.dpr, md := h1.md, t0 := h1.t0, fm := Nat.le_succ_of_le h1.fm, fx := Nat.le_succ_of_le h1.fx, fs := Nat.le_succ_of_le h1.fs, fk := ?_, bbo := h1.bbo, bcp := h1.bcp } (fun b x _ n e => by rw [upd_ne n]; exact s1 _ _ e) (fun e => absurd c1 e) fun _ => ⟨fun _ => rfl, fun e => absurd hz e⟩
        show (v.kvs ++ [(m.t, blkT m.t)]).length ≤ n + 1
        rw [List.length_append]
        have := h1.fk
        show v.kvs.length + 1 ≤ n + 1
        omega

/-- the letter that is signed -/
def spKSign (P : Program) (w : World) (a : Ads) : Sp := fun vs H Q _ => ∃ (N : Ln) (k : Nat) (v : Lv) (sp : Addr) (m : Sm), vs = [.ref N.p, .ref sp] ∧ LO a N ∧ LA P w a N k H v ∧ k < 800 ∧ SmAt H sp m ∧ m.h = 0 ∧ 0 ≤ m.t ∧ m.t < 60 ∧ m.t ≤ v.t ∧ OkS m.b ∧ (m.k = .com → m.b = none) ∧ (m.k = .prop → m.b = some (blkT m.t) ∧ ldr N m.t = true) ∧ (∀ e ∈ v.ms, clashM e m = false) ∧
  ∀ ps ms B kvs ls H', LA P w a N (k + 2) H' { v with ps := ps, ms := ms, B := B, kvs := kvs, ls := ls, xs := v.xs ++ [⟨N.who, m⟩] } → (∀ e ∈ ms, e ∈ v.ms ∨ e = m) →
    (m.k ≠ .prop → kvs = v.kvs) → (m.k = .prop → (valV (prV2 v.kvs) (Sum.inl m.t) = none → kvs = v.kvs ++ [(m.t, blkT m.t)]) ∧ (valV (prV2 v.kvs) (Sum.inl m.t) ≠ none → kvs = v.kvs)) → Q (.bl true) H'
theorem afterM_mem {ms : List Sm} {m e : Sm} (h : e ∈ afterM ms m) : e ∈ ms ∨ e = m := by
  unfold afterM at h
  split at h
  · exact .inl h
  · rcases List.mem_append.mp h with h | h
    · exact .inl h
    · exact .inr (List.mem_singleton.mp h)
theorem fcl_of {ms : List Sm} {m : Sm} (h : ∀ e ∈ ms, clashM e m = false) : ∀ n, n ≤ ms.length → fcl ms m n = none
  | 0, _ => rfl
  | n + 1, hn => by
    rw [fcl, fcl_of h n (by omega)]
    have : clashM (ms.getD n default) m = false := h _ (by
      rw [List.getD_eq_getElem?_getD, List.getElem?_eq_getElem (by omega)]
      exact List.getElem_mem _)
    exact if_neg (by rw [this]; exact Bool.false_ne_true)
theorem abandM_no {x y : Sm} (c : x.k = .com → x.b = none) : abandM x y = false := by
  unfold abandM
  rw [if_neg fun e => e.2.2.1 (c e.1)]
theorem ncl {e m : Sm} (c : e.k = .com → e.b = none) (d : m.k = .com → m.b = none) (p : e.k = m.k → m.k ≠ .prop → e.t ≠ m.t) : clashM e m = false := by
  unfold clashM
  split
  · rfl
  split
  · rename_i ek
    by_cases q : m.k = .prop
    · rw [ek, decide_eq_false (by simpa using q)]
      rfl
    · rw [decide_eq_false (p ek q), Bool.false_and, Bool.and_false]
  · rw [abandM_no c, abandM_no d]
    rfl
theorem ok_Replica_sign (TE : TxtE P K mg a) (T : Txt K mg a) : ∃ fd, FnOk P w K mg base CX0 8 a.d_Replica_sign fd ["self", "statement"] (spKSign P w a) ∧ Binds K fd ["self", "statement"] [] := by
  obtain ⟨fd, F, b⟩ := T.d_Replica_sign.F
  obtain ⟨fd_Replica_take_in, G_Replica_take_in, b_Replica_take_in⟩ := ok_Replica_take_in (P := P) (w := w) (base := base) T
  obtain ⟨fd_Journal_sign, G_Journal_sign, b_Journal_sign⟩ := ok_Journal_sign (P := P) (w := w) (base := base) TE T
  refine ⟨fd, F.ok sc_Replica_sign (fun vs H Q E h => ?_) (fun cdv A outer s H vs Q E hr h => ?_), b⟩
  · obtain ⟨_, _, _, _, _, rfl, _⟩ := h
    rfl
  · obtain ⟨N, n, v, sp, m, rfl, o, h, few, hm, mh, m0, m1, m2, okb, mc, mp, ncl, k⟩ := h
    refine ⟨_, (pss_cons (ps_try_only rfl rfl ⟨rfl, by decide, .inl TE.g_Refused⟩ takes0 (fun W pn xe tk po => (pss_one (ps_set (i := 2) sc_Replica_sign.nd rfl (Or.inl rfl) (pe_methT (pe_fldK (K := K) rfl (pv 0) rfl) T.cl_Journal T.me_Journal_sign G_Journal_sign (hr.mono (by decide)) b_Journal_sign (E := fun σ cls d H => W cls d σ H) (fun σ pins H s u s_ I c => takesN_of tk u s_ (L2N.XE.of_call I (fun _ _ _ h => h) c)) (pa_cons (pv 1) pa_nil))))) (fun ae oe cls d pn hz hf => (pss_one (ps_ret pe_bl))))
      (pss_cons (ps_expr (pe_bm PySem.F.plainAttrs_list PySem.F.slot_list_append PySem.F.type_list_append mt_append (pe_fld (pv 0) rfl) (pa_cons (pv 2) pa_nil)))
      (pss_cons (ps_expr (pe_meth (pv 0) T.cl_Replica T.me_Replica_take_in G_Replica_take_in (hr.mono (by decide)) b_Replica_take_in .nil pass0 (pa_cons (pv 2) pa_nil)))
      (pss_one (ps_ret pe_bl))))), ?_⟩
    walk_at "rs"
    obtain ⟨dxj, hj⟩ := o.jo
    have joL : N.jo ≠ N.L := fun e => by obtain ⟨_, hx⟩ := o.hL; rw [e, hx] at hj; cases hj
    have hj := h.stab _ _ o.jp joL hj
    have okm : OkM v.ms := fun e he => (h.md e he).2.2.2.1
    have nf := fcl_of ncl v.ms.length (Nat.le_refl _)
    refine ⟨N.p, _, N.dx, _, .ref N.jo, rfl, h.ins, T.cl_Replica, T.a_Replica_journal, rfl, ?_⟩
    refine ⟨N.jo, dxj, _, rfl, hj, jfs_no _ _ (by decide +kernel) (by decide +kernel), ?_⟩
    walk_at "rs"
    refine ⟨N.jo, sp, N.L, N.who, v.ps, v.ms, m, rfl, ⟨dxj, hj⟩, h.hL, h.hs, hm, by have := h.fm; omega, okm, okb, fun i e => ?_, fun _ t H1 b1 hL1 ht1 => ?_⟩
    · rw [nf] at e; cases e
    have nt : ∀ p ys, H p = some (.tup ys) → p ∉ [N.L] := fun p ys e q => by rw [List.mem_singleton.mp q, h.hL] at e; cases e
    have kL : Keeps [N.L] H H1 := fun b x n e => b1 b x (fun q => n (List.mem_singleton.mpr q)) e
    have LS : N.L ∉ v.B.S := fun q => by
      obtain ⟨xs, hx⟩ := o.hL
      rw [h.nS _ q] at hx
      cases hx
    have ni : ∀ {b C dx : Addr} {fs : List (Str × V)}, H b = some (.ins C dx fs) → b ≠ N.L := fun e q => by rw [q, h.hL] at e; cases e
    obtain ⟨dxb, hb⟩ := h.bk.obj
    obtain ⟨dc, tc, hc1, _⟩ := h.bk.com
    have seL : v.se ≠ N.L := fun q => by
      obtain ⟨xs, hx⟩ := o.hL
      rw [← q, h.nse] at hx
      cases hx
    have hm1 : SmAt H1 sp m := kL _ _ (nt _ _ hm) hm
    have h1 : LA P w a N (n + 1) H1 { v with ps := after v.ps v.ms sp m, ms := afterM v.ms m } := by
      have hs1 : SsAt H1 v.ps v.ms := ⟨h.hs.1, fun i hi => kL _ _ (nt _ _ (h.hs.2 i hi)) (h.hs.2 i hi)⟩
      refine { ins := kL _ _ (fun q => ni h.ins (List.mem_singleton.mp q)) h.ins, stab := fun b x n1 n2 e => b1 _ _ n2 (h.stab b x n1 n2 e), hL := hL1, hs := ?_, bk := h.bk.frame kL (fun b hb q => LS (List.mem_singleton.mp q ▸ hb)) (fun q => ni hb (List.mem_singleton.mp q)) (fun q => ni hc1 (List.mem_singleton.mp q)) nt, bws := h.bws, bh := h.bh, bc := h.bc, bm := h.bm, bx := h.bx, pr := b1 _ _ (fun q => ?_) h.pr, sl := b1 _ _ seL h.sl, hl := h.hl.keeps kL nt, nse := h.nse, nS := h.nS, dse := h.dse, dpr := h.dpr, md := fun e he => ?_, t0 := h.t0, fm := ?_, fx := Nat.le_succ_of_le h.fx, fs := Nat.le_succ_of_le h.fs, fk := Nat.le_succ_of_le h.fk, bbo := h.bbo, bcp := h.bcp }
      · show SsAt H1 (after v.ps v.ms sp m) (afterM v.ms m)
        unfold after afterM
        cases memS v.ms m with
        | true => exact hs1
        | false => exact hs1.snoc hm1
      · have := h.pr
        rw [q, h.hL] at this
        cases this
      · rcases afterM_mem he with he | rfl
        · exact h.md e he
        · exact ⟨mh, m0, m2, okb, mc⟩
      · show (afterM v.ms m).length ≤ n + 1
        have := h.fm
        unfold afterM
        split
        · omega
        · rw [List.length_append]
          show v.ms.length + 1 ≤ n + 1
          omega
    have fs0 := h.fs
    clear kL nt ni LS hb hc1 hL1 b1 hj h
    walk_at "rs"
    refine ⟨N.p, _, N.dx, _, .ref v.se, rfl, h1.ins, T.cl_Replica, T.a_Replica_sent, rfl, ?_⟩
    have hse := h1.sl
    refine ⟨.inl ⟨rfl, _, SqL.of hse⟩, ?_⟩
    walk_at "rs"
    refine ⟨v.se, _, _, rfl, rfl, hse, by rw [List.length_map, h1.hl.1]; exact small1000 (by show v.xs.length ≤ 1000; omega), ?_⟩
    have hlt : LtAt H1 t ⟨N.who, m⟩ := ⟨sp, ht1, hm1⟩
    have h2 : LA P w a N (n + 1) (upd H1 v.se (.lst (v.ls.map V.ref ++ [V.ref t]))) { v with ps := after v.ps v.ms sp m, ms := afterM v.ms m, ls := v.ls ++ [t], xs := v.xs ++ [⟨N.who, m⟩] } := by
      have nt2 : ∀ ys, H1 v.se ≠ some (.tup ys) := fun ys e => by rw [hse] at e; cases e
      have ni : ∀ {b C dx : Addr} {fs : List (Str × V)}, H1 b = some (.ins C dx fs) → b ≠ v.se := fun e q => by rw [q, hse] at e; cases e
      obtain ⟨dxb, hb⟩ := h1.bk.obj
      obtain ⟨dc, tc, hc1, _⟩ := h1.bk.com
      have prse : N.pr ≠ v.se := fun q => by
        have := h1.pr
        rw [q, hse] at this
        cases this
      refine { h1 with ins := by rw [upd_ne (ni h1.ins)]; exact h1.ins, stab := fun b x n1 n2 e => by rw [upd_ne (fun q => by rw [q, h1.nse] at e; cases e)]; exact h1.stab b x n1 n2 e, hL := by rw [upd_ne seL.symm]; exact h1.hL, hs := h1.hs.updM nt2, bk := h1.book1 h1.dse (ni hb).symm (ni hc1).symm nt2, pr := by rw [upd_ne prse]; exact h1.pr, sl := by rw [upd_same, List.map_append]; rfl, hl := (h1.hl.snoc hlt).updM2 nt2, fs := ?_ }
      · show (v.xs ++ [_]).length ≤ n + 1
        rw [List.length_append]
        show v.xs.length + 1 ≤ n + 1
        omega
    have hlt2 := hlt.upd (o := .lst (v.ls.map V.ref ++ [V.ref t])) hse
    clear h1 hse hlt
    generalize upd H1 v.se (.lst (v.ls.map V.ref ++ [V.ref t])) = H2 at h2 hlt2 ⊢
    walk_at "rs"
    refine ⟨N.p, N.dx, _, rfl, h2.ins, rfl, ?_⟩
    walk_at "rs"
    refine ⟨N, n + 1, _, t, m, rfl, o, h2, by omega, hlt2, okb, m0, m1, mp, fun B kvs H3 h3 _ kn kp => ?_⟩
    walk_at "rs"
    exact k (after v.ps v.ms sp m) (afterM v.ms m) B kvs (v.ls ++ [t]) H3 h3 (fun e he => afterM_mem he) kn kp
def spKPv (P : Program) (w : World) (a : Ads) : Sp := fun vs H Q _ => ∃ (N : Ln) (k : Nat) (v : Lv), vs = [.ref N.p, .str (blkT v.t)] ∧ LO a N ∧ LA P w a N k H v ∧ k < 800 ∧ v.t < 60 ∧ (∀ e ∈ v.ms, e.k = .pre → e.t < v.t) ∧
  ∀ ps ms B ls H', LA P w a N (k + 2) H' { v with ps := ps, ms := ms, B := B, ls := ls, xs := v.xs ++ [⟨N.who, ⟨.pre, 0, v.t, some (blkT v.t), none⟩⟩] } → (∀ e ∈ ms, e ∈ v.ms ∨ e = ⟨.pre, 0, v.t, some (blkT v.t), none⟩) → Q .non H'
theorem strOk_blk {t : Int} (h0 : 0 ≤ t) (h1 : t < 1000) : PyData.strOk (blkT t) = true := by
  unfold PyData.strOk
  rw [← Array.all_toList]
  refine List.all_eq_true.mpr fun c hc => decide_eq_true ?_
  have hc : c ∈ TL.tl (blkT t) := hc
  unfold blkT at hc
  rw [TL.tl_append, List.mem_append] at hc
  rcases hc with hc | hc
  · have : ∀ n ∈ TL.tl "b0t", n < 1114112 := by decide +kernel
    exact this c hc
  · rw [nu_tl ⟨h0, by omega⟩] at hc
    have := TL.numL_digits _ c hc
    omega
theorem ok_Replica_prevote (TE : TxtE P K mg a) (T : Txt K mg a) : ∃ fd, FnOk P w K mg base CX0 9 a.d_Replica_prevote fd ["self", "block"] (spKPv P w a) ∧ Binds K fd ["self", "block"] [] := by
  obtain ⟨fd, F, b⟩ := T.d_Replica_prevote.F
  obtain ⟨fd_Book_latest, G_Book_latest, b_Book_latest⟩ := ok_Book_latest (P := P) (w := w) (base := base) T
  obtain ⟨fd_Replica_sign, G_Replica_sign, b_Replica_sign⟩ := ok_Replica_sign (P := P) (w := w) (base := base) TE T
  obtain ⟨fd_prevote, G_prevote, b_prevote⟩ := ok_prevote (P := P) (w := w) (base := base) T
  refine ⟨fd, F.ok sc_Replica_prevote (fun vs H Q E h => ?_) (fun cdv A outer s H vs Q E hr h => ?_), b⟩
  · obtain ⟨_, _, _, rfl, _⟩ := h
    rfl
  · obtain ⟨N, n, v, rfl, o, h, few, t1, np, k⟩ := h
    obtain ⟨dxb, hb⟩ := h.bk.obj
    refine ⟨_, (pss_cons (ps_set (i := 2) sc_Replica_prevote.nd rfl (Or.inl rfl) (pe_meth (pe_fld (pv 0) rfl) T.cl_Book T.me_Book_latest G_Book_latest (hr.mono (by decide)) b_Book_latest .nil pass0 (pa_cons (pv 1) (pa_cons (pe_fld (pv 0) rfl) pa_nil))))
      (pss_one (ps_if (pt_not (pt_val (pe_meth (pv 0) T.cl_Replica T.me_Replica_sign G_Replica_sign (hr.mono (by decide)) b_Replica_sign .nil pass0 (pa_cons (pe_call G_prevote (hr.mono (by decide)) rfl T.d_prevote.g T.d_prevote.kp b_prevote .nil pass0 (pa_cons (pe_fld (pv 0) rfl) (pa_cons (pe_fld (pv 0) rfl) (pa_cons (pv 1) (pa_cons (pv 2) pa_nil))))) pa_nil))))
      (pss_one (ps_expr (pe_meth (pv 0) T.cl_Replica T.me_Replica_sign G_Replica_sign (hr.mono (by decide)) b_Replica_sign .nil pass0 (pa_cons (pe_call G_prevote (hr.mono (by decide)) rfl T.d_prevote.g T.d_prevote.kp b_prevote .nil pass0 (pa_cons (pe_fld (pv 0) rfl) (pa_cons (pe_fld (pv 0) rfl) (pa_cons pe_non (pa_cons pe_non pa_nil))))) pa_nil))))
      pss_nil))), ?_⟩
    walk_at "rs"
    refine ⟨N.p, _, N.dx, _, .ref N.bo, rfl, h.ins, T.cl_Replica, T.a_Replica_book, rfl, ?_⟩
    refine ⟨N.bo, dxb, _, rfl, hb, bfs_no _ _ _ _ _ _ (by decide +kernel) (by decide +kernel) (by decide +kernel) (by decide +kernel) (by decide +kernel) (by decide +kernel), ?_⟩
    walk_at "rs"
    refine ⟨N.p, _, N.dx, _, .int v.t, rfl, h.ins, T.cl_Replica, T.a_Replica_turn, rfl, ?_⟩
    have bf : befT v.B.cs (some (blkT v.t)) v.t = [] := by rw [h.bc]; rfl
    refine ⟨N.bo, v.B, v.t, some (blkT v.t), rfl, h.bk, by rw [h.bc]; exact Nat.zero_le _, fun _ H1 s1 => ?_, fun m hm => ?_⟩
    · have h1 := h.same s1
      have t0 := h.t0
      clear h hb
      walk_at "rs"
      refine ⟨N.p, N.dx, _, rfl, h1.ins, rfl, ?_⟩
      walk_at "rs"
      refine ⟨N.p, _, N.dx, _, .int 0, rfl, h1.ins, T.cl_Replica, T.a_Replica_height, rfl, ?_⟩
      walk_at "rs"
      refine ⟨N.p, _, N.dx, _, .int v.t, rfl, h1.ins, T.cl_Replica, T.a_Replica_turn, rfl, ?_⟩
      walk_at "rs"
      refine ⟨0, v.t, some (blkT v.t), none, rfl, fun sp H2 s2 hsp => ?_⟩
      have h2 := h1.same s2
      walk_at "rs"
      refine ⟨N, n, v, sp, ⟨.pre, 0, v.t, some (blkT v.t), none⟩, rfl, o, h2, few, hsp, rfl, t0, t1, Int.le_refl _, fun x e => ?_, (fun e => nomatch e), (fun e => nomatch e), fun e he => ?_, fun ps ms B kvs ls H3 h3 em kn _ => ?_⟩
      · cases e
        exact strOk_blk t0 (by omega)
      · exact ncl (h2.md e he).2.2.2.2 (fun e => nomatch e) fun ek _ => by
          have := np e he ek
          show e.t ≠ v.t
          omega
      · have ek : kvs = v.kvs := kn (fun e => nomatch e)
        subst ek
        walk_at "rs"
        exact k ps ms B ls H3 h3 em
    · rw [bf] at hm
      exact absurd hm List.not_mem_nil
/-- behind the entry of a turn: what is signed, what the turn's leader proposes -/
def prop1 (N : Ln) (t : Int) : List Lt := if ldr N t then [⟨N.who, ⟨.prop, 0, t, some (blkT t), none⟩⟩] else []
def spKEnter (P : Program) (w : World) (a : Ads) : Sp := fun vs H Q _ => ∃ (N : Ln) (k : Nat) (v : Lv) (t : Int), vs = [.ref N.p, .int t] ∧ LO a N ∧ LA P w a N k H v ∧ k < 800 ∧ t < 60 ∧ v.t ≤ t ∧ (∀ q ∈ v.kvs, q.1 ≠ t) ∧
  ∀ ps ms B kvs ls H', LA P w a N (k + 2) H' { v with t := t, st := "propose", ps := ps, ms := ms, B := B, kvs := kvs, ls := ls, xs := v.xs ++ prop1 N t } → (∀ e ∈ ms, e ∈ v.ms ∨ e.k = .prop) → (kvs = if ldr N t then v.kvs ++ [(t, blkT t)] else v.kvs) → Q .non H'
theorem ok_Replica_enter (TE : TxtE P K mg a) (T : Txt K mg a) : ∃ fd, FnOk P w K mg base CX0 9 a.d_Replica_enter fd ["self", "turn"] (spKEnter P w a) ∧ Binds K fd ["self", "turn"] [] := by
  obtain ⟨fd, F, b⟩ := T.d_Replica_enter.F
  obtain ⟨fd_Replica_is_leader, G_Replica_is_leader, b_Replica_is_leader⟩ := ok_Replica_is_leader (P := P) (w := w) (base := base) T
  obtain ⟨fd_Replica_sign, G_Replica_sign, b_Replica_sign⟩ := ok_Replica_sign (P := P) (w := w) (base := base) TE T
  obtain ⟨fd_proposal, G_proposal, b_proposal⟩ := ok_proposal (P := P) (w := w) (base := base) T
  obtain ⟨fd_Replica_choice, G_Replica_choice, b_Replica_choice⟩ := ok_Replica_choice (P := P) (w := w) (base := base) T
  refine ⟨fd, F.ok sc_Replica_enter (fun vs H Q E h => ?_) (fun cdv A outer s H vs Q E hr h => ?_), b⟩
  · obtain ⟨_, _, _, _, rfl, _⟩ := h
    rfl
  · obtain ⟨N, n, v, t, rfl, o, h, few, t1, le, nk, k⟩ := h
    have t0 : 0 ≤ t := Int.le_trans h.t0 le
    refine ⟨_, (pss_cons (ps_fld (pv 0) (pv 1) rfl)
      (pss_cons (ps_fld (pv 0) pe_str rfl)
      (pss_one (ps_if (pt_val (pe_meth (pv 0) T.cl_Replica T.me_Replica_is_leader G_Replica_is_leader (hr.mono (by decide)) b_Replica_is_leader .nil pass0 (pa_cons (pe_fld (pv 0) rfl) (pa_cons (pv 1) pa_nil))))
      (pss_one (ps_expr (pe_meth (pv 0) T.cl_Replica T.me_Replica_sign G_Replica_sign (hr.mono (by decide)) b_Replica_sign .nil pass0 (pa_cons (pe_call G_proposal (hr.mono (by decide)) rfl T.d_proposal.g T.d_proposal.kp b_proposal .nil pass0 (pa_cons (pe_fld (pv 0) rfl) (pa_cons (pv 1) (pa_cons (pe_meth0 (pv 0) T.cl_Replica T.me_Replica_choice G_Replica_choice (hr.mono (by decide)) b_Replica_choice .nil pass0) pa_nil)))) pa_nil))))
      pss_nil)))), ?_⟩
    walk_at "rs"
    refine ⟨N.p, _, N.dx, _, rfl, h.ins, T.cl_Replica, T.a_Replica_turn, (by show 13 < 1000; decide), ?_⟩
    have h1 := h.put (v' := { v with t := t }) rfl rfl rfl rfl h.sl h.hl h.nse h.dse le h.fs
    change (_ : Hp → Prop) (upd H N.p (.ins a.C_Replica N.dx (kfs (N.kp { v with t := t }))))
    generalize upd H N.p (.ins a.C_Replica N.dx (kfs (N.kp { v with t := t }))) = H1 at h1 ⊢
    walk_at "rs"
    refine ⟨N.p, _, N.dx, _, rfl, h1.ins, T.cl_Replica, T.a_Replica_step, (by show 13 < 1000; decide), ?_⟩
    have h2 := h1.put (v' := { v with t := t, st := "propose" }) rfl rfl rfl rfl h1.sl h1.hl h1.nse h1.dse (Int.le_refl _) h1.fs
    change (_ : Hp → Prop) (upd H1 N.p (.ins a.C_Replica N.dx (kfs (N.kp { v with t := t, st := "propose" }))))
    generalize upd H1 N.p (.ins a.C_Replica N.dx (kfs (N.kp { v with t := t, st := "propose" }))) = H2 at h2 ⊢
    clear h h1
    walk_at "rs"
    refine ⟨N.p, N.dx, _, rfl, h2.ins, rfl, ?_⟩
    walk_at "rs"
    refine ⟨N.p, _, N.dx, _, .int N.who, rfl, h2.ins, T.cl_Replica, T.a_Replica_who, rfl, ?_⟩
    walk_at "rs"
    refine ⟨N, n, _, t, rfl, o, h2, ?_⟩
    refine ⟨_, rfl, ?_⟩
    refine ite2 (fun c1 => ?_) (fun c1 => ?_)
    · walk_at "rs"
      refine ⟨N.p, N.dx, _, rfl, h2.ins, rfl, ?_⟩
      walk_at "rs"
      refine ⟨N.p, _, N.dx, _, .int 0, rfl, h2.ins, T.cl_Replica, T.a_Replica_height, rfl, ?_⟩
      walk_at "rs"
      refine ⟨N.p, N.dx, _, rfl, h2.ins, rfl, ?_⟩
      walk_at "rs"
      refine ⟨N, n, _, rfl, o, h2, by show t < 1000; omega, fun H3 s3 => ?_⟩
      have h3 := h2.same s3
      walk_at "rs"
      refine ⟨0, t, some (blkT t), rfl, fun sp H4 s4 hsp => ?_⟩
      have h4 := h3.same s4
      walk_at "rs"
      refine ⟨N, n, _, sp, ⟨.prop, 0, t, some (blkT t), none⟩, rfl, o, h4, few, hsp, rfl, t0, t1, Int.le_refl _, fun x e => ?_, (fun e => nomatch e), (fun _ => ⟨rfl, c1⟩), fun e he => ?_, fun ps ms B kvs ls H5 h5 em _ kp => ?_⟩
      · cases e
        exact strOk_blk t0 (by omega)
      · exact ncl (h4.md e he).2.2.2.2 (fun e => nomatch e) fun _ q => absurd rfl q
      · have nv : valV (prV2 v.kvs) (Sum.inl t) = none := by
          unfold valV prV2
          rw [Option.map_eq_none_iff, List.find?_eq_none]
          intro x hx
          obtain ⟨y, hy, rfl⟩ := List.mem_map.mp hx
          simpa using nk y hy
        have ek := (kp rfl).1 nv
        subst ek
        have e1 : prop1 N t = [⟨N.who, ⟨.prop, 0, t, some (blkT t), none⟩⟩] := if_pos c1
        rw [e1, if_pos c1] at k
        walk_at "rs"
        exact k ps ms B _ ls H5 h5 (fun e he => (em e he).imp id fun e => by rw [e]) rfl
    · have e1 : prop1 N t = [] := if_neg c1
      have h3 := h2.mono (show n ≤ n + 2 by omega)
      rw [e1, List.append_nil, if_neg c1] at k
      exact k v.ps v.ms v.B v.kvs v.ls H2 h3 (fun e he => .inl he) rfl
/-- a keeper alone does one thing at most: it votes for what it proposed -/
def spKDo (P : Program) (w : World) (a : Ads) : Sp := fun vs H Q _ => ∃ (N : Ln) (k : Nat) (v : Lv), vs = [.ref N.p] ∧ LO a N ∧ LA P w a N k H v ∧ k < 700 ∧ v.t < 60 ∧ (v.st = "propose" → ∀ e ∈ v.ms, e.k = .pre → e.t < v.t) ∧ (∀ q ∈ v.kvs, q.1 = v.t → q.2 = blkT v.t) ∧
  ((v.st ≠ "propose" ∨ ∀ q ∈ v.kvs, q.1 ≠ v.t) → Q (.bl false) H) ∧
  (v.st = "propose" → (∃ q ∈ v.kvs, q.1 = v.t) → ∀ ps ms B ls H', LA P w a N (k + 2) H' { v with st := "prevote", ps := ps, ms := ms, B := B, ls := ls, xs := v.xs ++ [⟨N.who, ⟨.pre, 0, v.t, some (blkT v.t), none⟩⟩] } → (∀ e ∈ ms, e ∈ v.ms ∨ e = ⟨.pre, 0, v.t, some (blkT v.t), none⟩) → Q (.bl true) H')
theorem ok_Replica_do_first (TE : TxtE P K mg a) (T : Txt K mg a) : ∃ fd, FnOk P w K mg base CX0 10 a.d_Replica_do_first fd ["self"] (spKDo P w a) ∧ Binds K fd ["self"] [] := by
  obtain ⟨fd, F, b⟩ := T.d_Replica_do_first.F
  obtain ⟨fd_Replica_certified, G_Replica_certified, b_Replica_certified⟩ := ok_Replica_certified (P := P) (w := w) (base := base) T
  obtain ⟨fd_Replica_prevote, G_Replica_prevote, b_Replica_prevote⟩ := ok_Replica_prevote (P := P) (w := w) (base := base) TE T
  obtain ⟨fd_Replica_sign, G_Replica_sign, b_Replica_sign⟩ := ok_Replica_sign (P := P) (w := w) (base := base) TE T
  obtain ⟨fd_precommit, G_precommit, b_precommit⟩ := ok_precommit (P := P) (w := w) (base := base) T
  refine ⟨fd, F.ok sc_Replica_do_first (fun vs H Q E h => ?_) (fun cdv A outer s H vs Q E hr h => ?_), b⟩
  · obtain ⟨_, _, _, rfl, _⟩ := h
    rfl
  · obtain ⟨N, n, v, rfl, o, h, few, t1, np, kb, kf, kt⟩ := h
    obtain ⟨dxb, hb⟩ := h.bk.obj
    have hLm := h.bk.lm
    have pm := h.bk.pm
    rw [h.bm] at pm
    have eq : v.B.qm = [] := List.length_eq_zero_iff.mp pm.1
    rw [eq] at hLm
    refine ⟨_, (pss_cons (ps_if (PW.pt (pw_and (pt_cmpR op_gt (pe_callB call_len_seq (by rfl) T.n_len PySem.boot_len (pa_cons (pe_fld (pe_fld (pv 0) rfl) rfl) pa_nil)) pe_int (nomark _)) (pw_and1 (pt_not (pt_val (pe_fld (pv 0) rfl))))))
      (pss_cons ps_never
        (pss_cons ps_never
        (pss_one (ps_ret pe_bl))))
      pss_nil)
      (pss_cons (ps_if (PW.pt (pw_and (pt_cmpR op_eq (pe_fld (pv 0) rfl) pe_str (nomark _)) (pw_and1 (pt_cmp (pc_din (hu_of hr) (pe_fld (pv 0) rfl) (pe_fld (pv 0) rfl))))))
      (pss_cons (ps_fld (pv 0) pe_str rfl)
        (pss_cons (ps_expr (pe_meth (pv 0) T.cl_Replica T.me_Replica_prevote G_Replica_prevote (hr.mono (by decide)) b_Replica_prevote .nil pass0 (pa_cons (pe_dget (hu_of hr) (pe_fld (pv 0) rfl) (pe_fld (pv 0) rfl) (fun _ _ => rfl)) pa_nil)))
        (pss_one (ps_ret pe_bl))))
      pss_nil)
      (pss_cons (ps_set (i := 3) sc_Replica_do_first.nd rfl (Or.inl rfl) (pe_meth (pv 0) T.cl_Replica T.me_Replica_certified G_Replica_certified (hr.mono (by decide)) b_Replica_certified .nil pass0 (pa_cons (pe_fld (pv 0) rfl) pa_nil)))
      (pss_cons (ps_if (PW.pt (pw_and (pt_cmpR op_eq (pe_fld (pv 0) rfl) pe_str (nomark _)) (pw_and1 (pt_cmpR op_notN (pv 3) pe_non (nomark _)))))
      (pss_cons (ps_fld (pv 0) pe_str rfl)
        (pss_cons (ps_expr (pe_meth (pv 0) T.cl_Replica T.me_Replica_sign G_Replica_sign (hr.mono (by decide)) b_Replica_sign .nil pass0 (pa_cons (pe_call G_precommit (hr.mono (by decide)) rfl T.d_precommit.g T.d_precommit.kp b_precommit .nil pass0 (pa_cons (pe_fld (pv 0) rfl) (pa_cons (pe_fld (pv 0) rfl) (pa_cons (pv 3) pa_nil)))) pa_nil)))
        (pss_one (ps_ret pe_bl))))
      pss_nil)
      (pss_one (ps_ret pe_bl)))))), ?_⟩
    walk_at "rs"
    refine ⟨N.p, _, N.dx, _, .ref N.bo, rfl, h.ins, T.cl_Replica, T.a_Replica_book, rfl, ?_⟩
    refine ⟨N.bo, _, dxb, _, .ref v.B.Lm, rfl, hb, T.cl_Book, T.a_Book_commits, bfs_cm _ _ _ _ _ _, ?_⟩
    walk_at "rs"
    refine ⟨v.B.Lm, _, rfl, .inl (SqL.of hLm), ?_⟩
    walk_at "rs"
    refine ⟨N.p, _, N.dx, _, .str v.st, rfl, h.ins, T.cl_Replica, T.a_Replica_step, rfl, ?_⟩
    walk_at "rs"
    -- behind the vote: nothing is certified
    have rest : (v.st ≠ "propose" ∨ ∀ q ∈ v.kvs, q.1 ≠ v.t) → True := fun _ => trivial
    refine ite2 (fun c1 => ?_) (fun c1 => ?_)
    · have c1 : v.st = "propose" := V.str.inj (of_decide_eq_true c1)
      walk_at "rs"
      refine ⟨N.p, _, N.dx, _, .int v.t, rfl, h.ins, T.cl_Replica, T.a_Replica_turn, rfl, ?_⟩
      walk_at "rs"
      refine ⟨N.p, _, N.dx, _, .ref N.pr, rfl, h.ins, T.cl_Replica, T.a_Replica_proposals, rfl, ?_⟩
      walk_at "rs"
      have dg : DGet H N.pr (V.int v.t) (valV (prV2 v.kvs) (Sum.inl v.t)) := DGet.k (k := Sum.inl v.t) h.pr
      refine ⟨N.pr, _, rfl, dg, _, rfl, ?_⟩
      cases ev : valV (prV2 v.kvs) (Sum.inl v.t) with
      | none =>
        have none1 : ∀ q ∈ v.kvs, q.1 ≠ v.t := fun q hq e => by
          unfold valV prV2 at ev
          rw [Option.map_eq_none_iff, List.find?_eq_none] at ev
          exact ev _ (List.mem_map.mpr ⟨q, hq, rfl⟩) (by simpa using e)
        have kf := kf (.inr none1)
        refine ite2 (fun c => absurd c (by decide)) (fun _ => ?_)
        walk_at "rs"
        refine ⟨N.p, N.dx, _, rfl, h.ins, rfl, ?_⟩
        walk_at "rs"
        refine ⟨N.p, _, N.dx, _, .int v.t, rfl, h.ins, T.cl_Replica, T.a_Replica_turn, rfl, ?_⟩
        walk_at "rs"
        refine ⟨N, n, v, v.t, rfl, h, ?_⟩
        walk_at "rs"
        refine ⟨N.p, _, N.dx, _, .str v.st, rfl, h.ins, T.cl_Replica, T.a_Replica_step, rfl, ?_⟩
        walk_at "rs"
        refine ite2 (fun c2 => ?_) (fun c2 => ?_)
        · walk_at "rs"
          exact kf
        · walk_at "rs"
          exact kf
      | some z =>
        obtain ⟨q, hq, eq1, eq2⟩ : ∃ q ∈ v.kvs, q.1 = v.t ∧ z = V.str q.2 := by
          unfold valV prV2 at ev
          obtain ⟨x, hx, ex⟩ := Option.map_eq_some_iff.mp ev
          obtain ⟨q, hq, rfl⟩ := List.mem_map.mp (List.mem_of_find?_eq_some hx)
          have e := List.find?_some hx
          exact ⟨q, hq, by simpa using e, ex.symm⟩
        have kt := kt c1 ⟨q, hq, eq1⟩
        have ez : z = V.str (blkT v.t) := by rw [eq2, kb q hq eq1]
        subst ez
        rw [ev] at dg
        refine ite2 (fun _ => ?_) (fun c => absurd rfl c)
        walk_at "rs"
        refine ⟨N.p, _, N.dx, _, rfl, h.ins, T.cl_Replica, T.a_Replica_step, (by show 13 < 1000; decide), ?_⟩
        have h2 := h.put (v' := { v with st := "prevote" }) rfl rfl rfl rfl h.sl h.hl h.nse h.dse (Int.le_refl _) h.fs
        change (_ : Hp → Prop) (upd H N.p (.ins a.C_Replica N.dx (kfs (N.kp { v with st := "prevote" }))))
        generalize upd H N.p (.ins a.C_Replica N.dx (kfs (N.kp { v with st := "prevote" }))) = H2 at h2 ⊢
        walk_at "rs"
        refine ⟨N.p, N.dx, _, rfl, h2.ins, rfl, ?_⟩
        walk_at "rs"
        refine ⟨N.p, _, N.dx, _, .ref N.pr, rfl, h2.ins, T.cl_Replica, T.a_Replica_proposals, rfl, ?_⟩
        walk_at "rs"
        refine ⟨N.p, _, N.dx, _, .int v.t, rfl, h2.ins, T.cl_Replica, T.a_Replica_turn, rfl, ?_⟩
        have dg2 : DGet H2 N.pr (V.int v.t) (some (V.str (blkT v.t))) := by
          have := DGet.k (k := Sum.inl v.t) h2.pr
          rw [ev] at this
          exact this
        refine ⟨N.pr, _, rfl, dg2, ?_⟩
        walk_at "rs"
        refine ⟨N, n, { v with st := "prevote" }, rfl, o, h2, by omega, t1, np c1, fun ps ms B ls H3 h3 em => ?_⟩
        walk_at "rs"
        exact kt ps ms B ls H3 h3 em
    · have c1 : v.st ≠ "propose" := fun e => c1 (decide_eq_true (congrArg V.str e))
      have kf := kf (.inl c1)
      walk_at "rs"
      refine ⟨N.p, N.dx, _, rfl, h.ins, rfl, ?_⟩
      walk_at "rs"
      refine ⟨N.p, _, N.dx, _, .int v.t, rfl, h.ins, T.cl_Replica, T.a_Replica_turn, rfl, ?_⟩
      walk_at "rs"
      refine ⟨N, n, v, v.t, rfl, h, ?_⟩
      walk_at "rs"
      refine ⟨N.p, _, N.dx, _, .str v.st, rfl, h.ins, T.cl_Replica, T.a_Replica_step, rfl, ?_⟩
      walk_at "rs"
      refine ite2 (fun c2 => ?_) (fun c2 => ?_)
      · walk_at "rs"
        exact kf
      · walk_at "rs"
        exact kf

/-- what a keeper alone sends when it enters a turn -/
def due1 (N : Ln) (t : Int) : List Lt := if ldr N t then [⟨N.who, ⟨.prop, 0, t, some (blkT t), none⟩⟩, ⟨N.who, ⟨.pre, 0, t, some (blkT t), none⟩⟩] else []
def spKGo (P : Program) (w : World) (a : Ads) : Sp := fun vs H Q _ => ∃ (N : Ln) (k : Nat) (v : Lv), vs = [.ref N.p] ∧ LO a N ∧ LA P w a N k H v ∧ k < 600 ∧ v.t < 60 ∧ (v.st = "propose" → ∀ e ∈ v.ms, e.k = .pre → e.t < v.t) ∧ (∀ q ∈ v.kvs, q.1 = v.t → q.2 = blkT v.t) ∧
  ((v.st ≠ "propose" ∨ ∀ q ∈ v.kvs, q.1 ≠ v.t) → Q (.ref v.se) H) ∧
  (v.st = "propose" → (∃ q ∈ v.kvs, q.1 = v.t) → ∀ ps ms B ls H', LA P w a N (k + 2) H' { v with st := "prevote", ps := ps, ms := ms, B := B, ls := ls, xs := v.xs ++ [⟨N.who, ⟨.pre, 0, v.t, some (blkT v.t), none⟩⟩] } → (∀ e ∈ ms, e ∈ v.ms ∨ e = ⟨.pre, 0, v.t, some (blkT v.t), none⟩) → Q (.ref v.se) H')
theorem ok_Replica_go_on (TE : TxtE P K mg a) (T : Txt K mg a) : ∃ fd, FnOk P w K mg base CX0 11 a.d_Replica_go_on fd ["self"] (spKGo P w a) ∧ Binds K fd ["self"] [] := by
  obtain ⟨fd, F, b⟩ := T.d_Replica_go_on.F
  obtain ⟨fd_Replica_do_first, G_Replica_do_first, b_Replica_do_first⟩ := ok_Replica_do_first (P := P) (w := w) (base := base) TE T
  refine ⟨fd, F.ok sc_Replica_go_on (fun vs H Q E h => ?_) (fun cdv A outer s H vs Q E hr h => ?_), b⟩
  · obtain ⟨_, _, _, rfl, _⟩ := h
    rfl
  · obtain ⟨N, n, v, rfl, o, h, few, t1, np, kb, kf, kt⟩ := h
    refine ⟨_, (pss_cons (ps_while PassesOwn.never (pt_val (pe_meth0 (pv 0) T.cl_Replica T.me_Replica_do_first G_Replica_do_first (hr.mono (by decide)) b_Replica_do_first .nil pass0))
      (pss_one ps_pass))
      (pss_one (ps_ret (pe_fld (pv 0) rfl)))), ?_⟩
    walk_at "rs"
    refine ⟨fun m σ Hx => σ = [some (.ref N.p)] ∧ ((m = 1 ∧ Hx = H) ∨ (m = 0 ∧ ∃ v' : Lv, LA P w a N (n + 2) Hx v' ∧ v'.t < 60 ∧ v'.st = "prevote" ∧ v'.se = v.se ∧ (∀ q ∈ v'.kvs, q.1 = v'.t → q.2 = blkT v'.t) ∧ Q (.ref v.se) Hx)), ⟨1, rfl, .inl ⟨rfl, rfl⟩⟩, ?_⟩
    have pv : ("prevote" : Str) ≠ "propose" := by decide +kernel
    rintro m σ Hx ⟨rfl, ⟨rfl, rfl⟩ | ⟨rfl, v', h', t', s', e', kb', q'⟩⟩
    · walk_at "rs"
      refine ⟨N.p, N.dx, _, rfl, h.ins, rfl, ?_⟩
      walk_at "rs"
      refine ⟨N, n, v, rfl, o, h, by omega, t1, np, kb, fun st => ?_, fun st ex ps ms B ls H1 h1 em => ?_⟩
      · refine ⟨_, rfl, ?_⟩
        refine ite2 (fun c => absurd c (by decide)) (fun _ => ?_)
        walk_at "rs"
        refine ⟨N.p, _, N.dx, _, .ref v.se, rfl, h.ins, T.cl_Replica, T.a_Replica_sent, rfl, ?_⟩
        exact kf st
      · refine ⟨_, rfl, ?_⟩
        refine ite2 (fun _ => ?_) (fun c => absurd rfl c)
        refine ⟨_, fun σ' H' w' => ⟨0, Nat.zero_lt_one, w'⟩, ?_⟩
        exact ⟨rfl, .inr ⟨rfl, _, h1, t1, rfl, rfl, kb, kt st ex ps ms B ls H1 h1 em⟩⟩
    · walk_at "rs"
      refine ⟨N.p, N.dx, _, rfl, h'.ins, rfl, ?_⟩
      walk_at "rs"
      refine ⟨N, n + 2, v', rfl, o, h', by omega, t', (fun e => absurd (s'.symm.trans e) pv), kb', fun st => ?_, fun st => absurd (s'.symm.trans st) pv⟩
      refine ⟨_, rfl, ?_⟩
      refine ite2 (fun c => absurd c (by decide)) (fun _ => ?_)
      walk_at "rs"
      refine ⟨N.p, _, N.dx, _, .ref v.se, rfl, h'.ins, T.cl_Replica, T.a_Replica_sent, by rw [← e']; rfl, ?_⟩
      exact q'
def spKEft (P : Program) (w : World) (a : Ads) : Sp := fun vs H Q _ => ∃ (N : Ln) (k : Nat) (v : Lv), vs = [.ref N.p] ∧ LO a N ∧ LA P w a N k H v ∧ k < 800 ∧ v.t = 0 ∧ v.ms = [] ∧ v.kvs = [] ∧
  ∀ ps ms B kvs ls H', LA P w a N (k + 2) H' { v with t := 0, st := "propose", ps := ps, ms := ms, B := B, kvs := kvs, ls := ls, xs := v.xs ++ prop1 N 0 } → (∀ e ∈ ms, e.k = .prop) → (kvs = if ldr N 0 then [(0, blkT 0)] else []) → Q .non H'
theorem ok_Replica_enter_first_turn (TE : TxtE P K mg a) (T : Txt K mg a) : ∃ fd, FnOk P w K mg base CX0 10 a.d_Replica_enter_first_turn fd ["self"] (spKEft P w a) ∧ Binds K fd ["self"] [] := by
  obtain ⟨fd, F, b⟩ := T.d_Replica_enter_first_turn.F
  obtain ⟨fd_Replica_enter, G_Replica_enter, b_Replica_enter⟩ := ok_Replica_enter (P := P) (w := w) (base := base) TE T
  obtain ⟨fd_Journal_last_turn, G_Journal_last_turn, b_Journal_last_turn⟩ := ok_Journal_last_turn (P := P) (w := w) (base := base) T
  refine ⟨fd, F.ok sc_Replica_enter_first_turn (fun vs H Q E h => ?_) (fun cdv A outer s H vs Q E hr h => ?_), b⟩
  · obtain ⟨_, _, _, rfl, _⟩ := h
    rfl
  · obtain ⟨N, n, v, rfl, o, h, few, et, em, ek, k⟩ := h
    obtain ⟨dxj, hj⟩ := o.jo
    have joL : N.jo ≠ N.L := fun e => by obtain ⟨_, hx⟩ := o.hL; rw [e, hx] at hj; cases hj
    have hj := h.stab _ _ o.jp joL hj
    refine ⟨_, (pss_one (ps_expr (pe_meth (pv 0) T.cl_Replica T.me_Replica_enter G_Replica_enter (hr.mono (by decide)) b_Replica_enter .nil pass0 (pa_cons (pe_meth (pe_fld (pv 0) rfl) T.cl_Journal T.me_Journal_last_turn G_Journal_last_turn (hr.mono (by decide)) b_Journal_last_turn .nil pass0 (pa_cons (pe_fld (pv 0) rfl) pa_nil)) pa_nil)))), ?_⟩
    walk_at "rs"
    refine ⟨N.p, N.dx, _, rfl, h.ins, rfl, ?_⟩
    walk_at "rs"
    refine ⟨N.p, _, N.dx, _, .ref N.jo, rfl, h.ins, T.cl_Replica, T.a_Replica_journal, rfl, ?_⟩
    refine ⟨N.jo, dxj, _, rfl, hj, jfs_no _ _ (by decide +kernel) (by decide +kernel), ?_⟩
    walk_at "rs"
    refine ⟨N.p, _, N.dx, _, .int 0, rfl, h.ins, T.cl_Replica, T.a_Replica_height, rfl, ?_⟩
    refine ⟨N.jo, N.L, N.who, 0, v.ps, v.ms, rfl, ⟨dxj, hj⟩, h.hL, h.hs, by have := h.fm; omega, fun m hm => (h.md m hm).2.1, fun z H1 s1 hz _ _ => ?_⟩
    have ez : z = 0 := by
      rcases hz with hz | hz
      · exact hz
      · rw [em] at hz
        exact absurd hz List.not_mem_nil
    subst ez
    walk_at "rs"
    refine ⟨N, n, v, 0, rfl, o, h.same s1, few, by decide, by rw [et]; exact Int.le_refl _, fun q hq => by rw [ek] at hq; exact absurd hq List.not_mem_nil, fun ps ms B kvs ls H2 h2 e1 e2 => ?_⟩
    walk_at "rs"
    refine k ps ms B kvs ls H2 h2 (fun e he => (e1 e he).elim (fun h => by rw [em] at h; exact absurd h List.not_mem_nil) id) ?_
    rw [e2, ek]
    rfl
/-- between calls -/
structure Idle (N : Ln) (v : Lv) : Prop where
  np : v.st = "propose" → ∀ e ∈ v.ms, e.k = .pre → e.t < v.t
  nc : v.st ≠ "precommit" → ∀ e ∈ v.ms, e.k = .com → e.t < v.t
  kv : ∀ q ∈ v.kvs, q.1 ≤ v.t
  kb : ∀ q ∈ v.kvs, q.1 = v.t → q.2 = blkT v.t
  ks : v.st = "propose" → ∀ q ∈ v.kvs, q.1 ≠ v.t
  st : v.st = "propose" ∨ v.st = "prevote" ∨ v.st = "precommit"
def spKStart (P : Program) (w : World) (a : Ads) : Sp := fun vs H Q _ => ∃ (N : Ln) (k : Nat) (v : Lv), vs = [.ref N.p] ∧ LO a N ∧ LA P w a N k H v ∧ k < 500 ∧ v.t = 0 ∧ v.ms = [] ∧ v.kvs = [] ∧
  ∀ v' H', LA P w a N (k + 4) H' v' → Idle N v' → v'.t = 0 → v'.st = (if ldr N 0 then ("prevote" : Str) else ("propose" : Str)) → v'.xs = due1 N 0 → Q (.ref v'.se) H'
theorem ok_Replica_start (TE : TxtE P K mg a) (T : Txt K mg a) : ∃ fd, FnOk P w K mg base CX0 12 a.d_Replica_start fd ["self"] (spKStart P w a) ∧ Binds K fd ["self"] [] := by
  obtain ⟨fd, F, b⟩ := T.d_Replica_start.F
  obtain ⟨fd_Replica_begin_call, G_Replica_begin_call, b_Replica_begin_call⟩ := ok_Replica_begin_call (P := P) (w := w) (base := base) T
  obtain ⟨fd_Replica_enter_first_turn, G_Replica_enter_first_turn, b_Replica_enter_first_turn⟩ := ok_Replica_enter_first_turn (P := P) (w := w) (base := base) TE T
  obtain ⟨fd_Replica_go_on, G_Replica_go_on, b_Replica_go_on⟩ := ok_Replica_go_on (P := P) (w := w) (base := base) TE T
  refine ⟨fd, F.ok sc_Replica_start (fun vs H Q E h => ?_) (fun cdv A outer s H vs Q E hr h => ?_), b⟩
  · obtain ⟨_, _, _, rfl, _⟩ := h
    rfl
  · obtain ⟨N, n, v, rfl, o, h, few, et, em, ek, k⟩ := h
    refine ⟨_, (pss_cons (ps_expr (pe_meth0 (pv 0) T.cl_Replica T.me_Replica_begin_call G_Replica_begin_call (hr.mono (by decide)) b_Replica_begin_call .nil pass0))
      (pss_cons (ps_expr (pe_meth0 (pv 0) T.cl_Replica T.me_Replica_enter_first_turn G_Replica_enter_first_turn (hr.mono (by decide)) b_Replica_enter_first_turn .nil pass0))
      (pss_one (ps_ret (pe_meth0 (pv 0) T.cl_Replica T.me_Replica_go_on G_Replica_go_on (hr.mono (by decide)) b_Replica_go_on .nil pass0))))), ?_⟩
    walk_at "rs"
    refine ⟨N.p, N.dx, _, rfl, h.ins, rfl, ?_⟩
    walk_at "rs"
    refine ⟨N, n, v, rfl, h, fun se H1 h1 => ?_⟩
    walk_at "rs"
    refine ⟨N.p, N.dx, _, rfl, h1.ins, rfl, ?_⟩
    walk_at "rs"
    refine ⟨N, n, _, rfl, o, h1, by omega, et, em, ek, fun ps ms B kvs ls H2 h2 e1 e2 => ?_⟩
    walk_at "rs"
    refine ⟨N.p, N.dx, _, rfl, h2.ins, rfl, ?_⟩
    walk_at "rs"
    have kb : ∀ q ∈ kvs, q.1 = 0 ∧ q.2 = blkT 0 ∧ ldr N 0 = true := fun q hq => by
      rw [e2] at hq
      split at hq
      · rename_i c
        rw [List.mem_singleton.mp hq]
        exact ⟨rfl, rfl, c⟩
      · exact absurd hq List.not_mem_nil
    have np : ∀ e ∈ ms, e.k = .pre → e.t < 0 := fun e he ek => by rw [e1 e he] at ek; cases ek
    have nc : ∀ e ∈ ms, e.k = .com → e.t < 0 := fun e he ek => by rw [e1 e he] at ek; cases ek
    refine ⟨N, n + 2, _, rfl, o, h2, by omega, by show (0 : Int) < 60; decide, fun _ => np, fun q hq _ => (kb q hq).2.1, fun st => ?_, fun _ ex ps' ms' B' ls' H3 h3 em' => ?_⟩
    · have nl : ¬ ldr N 0 = true := fun c => by
        rcases st with st | st
        · exact absurd rfl st
        · rw [if_pos c] at e2
          exact st (0, blkT 0) (by rw [e2]; exact List.mem_singleton.mpr rfl) rfl
      walk_at "rs"
      refine k { se := se, co := false, t := 0, st := "propose", ps := ps, ms := ms, B := B, kvs := kvs, ls := ls, xs := prop1 N 0 } H2 (h2.mono (by omega)) ⟨fun _ => np, fun _ => nc, fun q hq => by rw [(kb q hq).1]; exact Int.le_refl _, fun q hq _ => (kb q hq).2.1, fun _ q hq => absurd (kb q hq).2.2 nl, .inl rfl⟩ rfl (by rw [if_neg nl]) ?_
      show prop1 N 0 = due1 N 0
      unfold prop1 due1
      rw [if_neg nl, if_neg nl]
    · obtain ⟨q, hq, _⟩ := ex
      have l := (kb q hq).2.2
      walk_at "rs"
      refine k { se := se, co := false, t := 0, st := "prevote", ps := ps', ms := ms', B := B', kvs := kvs, ls := ls', xs := prop1 N 0 ++ [⟨N.who, ⟨.pre, 0, 0, some (blkT 0), none⟩⟩] } H3 h3 ⟨fun e => absurd e (by show ¬ ("prevote" : Str) = "propose"; decide +kernel), fun _ e he ek => ?_, fun q hq => by rw [(kb q hq).1]; exact Int.le_refl _, fun q hq _ => (kb q hq).2.1, fun e => absurd e (by show ¬ ("prevote" : Str) = "propose"; decide +kernel), .inr (.inl rfl)⟩ rfl (by rw [if_pos l]) ?_
      · rcases em' e he with he | rfl
        · exact nc e he ek
        · cases ek
      · show prop1 N 0 ++ _ = due1 N 0
        unfold prop1 due1
        rw [if_pos l, if_pos l]
        rfl
/-- what a timeout makes: turn, step, what is sent -/
def nextT (N : Ln) (v : Lv) : Int := if v.st = "propose" ∨ v.st = "prevote" then v.t else v.t + 1
def nextS (N : Ln) (v : Lv) : Str := if v.st = "propose" then "prevote" else if v.st = "prevote" then "precommit" else if ldr N (v.t + 1) then "prevote" else "propose"
def nextD (N : Ln) (v : Lv) : List Lt := if v.st = "propose" then [⟨N.who, ⟨.pre, 0, v.t, none, none⟩⟩] else if v.st = "prevote" then [⟨N.who, ⟨.com, 0, v.t, none, none⟩⟩] else due1 N (v.t + 1)
def spKTime (P : Program) (w : World) (a : Ads) : Sp := fun vs H Q _ => ∃ (N : Ln) (k : Nat) (v : Lv), vs = [.ref N.p] ∧ LO a N ∧ LA P w a N k H v ∧ Idle N v ∧ k < 500 ∧ v.t + 1 < 60 ∧
  ∀ v' H', LA P w a N (k + 4) H' v' → Idle N v' → v'.t = nextT N v → v'.st = nextS N v → v'.xs = nextD N v → Q (.ref v'.se) H'
theorem ok_Replica_timeout (TE : TxtE P K mg a) (T : Txt K mg a) : ∃ fd, FnOk P w K mg base CX0 12 a.d_Replica_timeout fd ["self"] (spKTime P w a) ∧ Binds K fd ["self"] [] := by
  obtain ⟨fd, F, b⟩ := T.d_Replica_timeout.F
  obtain ⟨fd_Replica_begin_call, G_Replica_begin_call, b_Replica_begin_call⟩ := ok_Replica_begin_call (P := P) (w := w) (base := base) T
  obtain ⟨fd_Replica_go_on, G_Replica_go_on, b_Replica_go_on⟩ := ok_Replica_go_on (P := P) (w := w) (base := base) TE T
  obtain ⟨fd_Replica_sign, G_Replica_sign, b_Replica_sign⟩ := ok_Replica_sign (P := P) (w := w) (base := base) TE T
  obtain ⟨fd_prevote, G_prevote, b_prevote⟩ := ok_prevote (P := P) (w := w) (base := base) T
  obtain ⟨fd_Replica_enter, G_Replica_enter, b_Replica_enter⟩ := ok_Replica_enter (P := P) (w := w) (base := base) TE T
  obtain ⟨fd_precommit, G_precommit, b_precommit⟩ := ok_precommit (P := P) (w := w) (base := base) T
  refine ⟨fd, F.ok sc_Replica_timeout (fun vs H Q E h => ?_) (fun cdv A outer s H vs Q E hr h => ?_), b⟩
  · obtain ⟨_, _, _, rfl, _⟩ := h
    rfl
  · obtain ⟨N, n, v, rfl, o, h, idle, few, t1, k⟩ := h
    have p1 : ("prevote" : Str) ≠ "propose" := by decide +kernel
    have p2 : ("precommit" : Str) ≠ "propose" := by decide +kernel
    have p3 : ("precommit" : Str) ≠ "prevote" := by decide +kernel
    have t0 := h.t0
    refine ⟨_, (pss_cons (ps_expr (pe_meth0 (pv 0) T.cl_Replica T.me_Replica_begin_call G_Replica_begin_call (hr.mono (by decide)) b_Replica_begin_call .nil pass0))
      (pss_cons (ps_if (pt_cmpR op_eq (pe_fld (pv 0) rfl) pe_str (nomark _))
      (pss_cons (ps_fld (pv 0) pe_str rfl)
        (pss_one (ps_expr (pe_meth (pv 0) T.cl_Replica T.me_Replica_sign G_Replica_sign (hr.mono (by decide)) b_Replica_sign .nil pass0 (pa_cons (pe_call G_prevote (hr.mono (by decide)) rfl T.d_prevote.g T.d_prevote.kp b_prevote .nil pass0 (pa_cons (pe_fld (pv 0) rfl) (pa_cons (pe_fld (pv 0) rfl) (pa_cons pe_non (pa_cons pe_non pa_nil))))) pa_nil)))))
      (pss_one (ps_if (pt_cmpR op_eq (pe_fld (pv 0) rfl) pe_str (nomark _))
        (pss_cons (ps_fld (pv 0) pe_str rfl)
          (pss_one (ps_expr (pe_meth (pv 0) T.cl_Replica T.me_Replica_sign G_Replica_sign (hr.mono (by decide)) b_Replica_sign .nil pass0 (pa_cons (pe_call G_precommit (hr.mono (by decide)) rfl T.d_precommit.g T.d_precommit.kp b_precommit .nil pass0 (pa_cons (pe_fld (pv 0) rfl) (pa_cons (pe_fld (pv 0) rfl) (pa_cons pe_non pa_nil)))) pa_nil)))))
        (pss_one (ps_expr (pe_meth (pv 0) T.cl_Replica T.me_Replica_enter G_Replica_enter (hr.mono (by decide)) b_Replica_enter .nil pass0 (pa_cons (pe_op op_add (pe_fld (pv 0) rfl) pe_int) pa_nil)))))))
      (pss_one (ps_ret (pe_meth0 (pv 0) T.cl_Replica T.me_Replica_go_on G_Replica_go_on (hr.mono (by decide)) b_Replica_go_on .nil pass0))))), ?_⟩
    walk_at "rs"
    refine ⟨N.p, N.dx, _, rfl, h.ins, rfl, ?_⟩
    walk_at "rs"
    refine ⟨N, n, v, rfl, h, fun se H1 h1 => ?_⟩
    clear h
    walk_at "rs"
    refine ⟨N.p, _, N.dx, _, .str v.st, rfl, h1.ins, T.cl_Replica, T.a_Replica_step, rfl, ?_⟩
    walk_at "rs"
    refine ite2 (fun c1 => ?_) (fun c1 => ?_)
    · have c1 : v.st = "propose" := V.str.inj (of_decide_eq_true c1)
      have et : nextT N v = v.t := if_pos (.inl c1)
      have es : nextS N v = "prevote" := if_pos c1
      have ed : nextD N v = [⟨N.who, ⟨.pre, 0, v.t, none, none⟩⟩] := if_pos c1
      rw [et, es, ed] at k
      walk_at "rs"
      refine ⟨N.p, _, N.dx, _, rfl, h1.ins, T.cl_Replica, T.a_Replica_step, (by show 13 < 1000; decide), ?_⟩
      have h2 := h1.put (v' := { v with se := se, co := false, ls := [], xs := [], st := "prevote" }) rfl rfl rfl rfl h1.sl h1.hl h1.nse h1.dse (Int.le_refl _) h1.fs
      change (_ : Hp → Prop) (upd H1 N.p (.ins a.C_Replica N.dx (kfs (N.kp { v with se := se, co := false, ls := [], xs := [], st := "prevote" }))))
      generalize upd H1 N.p (.ins a.C_Replica N.dx (kfs (N.kp { v with se := se, co := false, ls := [], xs := [], st := "prevote" }))) = H2 at h2 ⊢
      walk_at "rs"
      refine ⟨N.p, N.dx, _, rfl, h2.ins, rfl, ?_⟩
      walk_at "rs"
      refine ⟨N.p, _, N.dx, _, .int 0, rfl, h2.ins, T.cl_Replica, T.a_Replica_height, rfl, ?_⟩
      walk_at "rs"
      refine ⟨N.p, _, N.dx, _, .int v.t, rfl, h2.ins, T.cl_Replica, T.a_Replica_turn, rfl, ?_⟩
      walk_at "rs"
      refine ⟨0, v.t, none, none, rfl, fun sp H3 s3 hsp => ?_⟩
      have h3 := h2.same s3
      walk_at "rs"
      refine ⟨N, n, _, sp, ⟨.pre, 0, v.t, none, none⟩, rfl, o, h3, by omega, hsp, rfl, t0, by show v.t < 60; omega, Int.le_refl _, (fun x e => nomatch e), (fun _ => rfl), (fun e => nomatch e), fun e he => ?_, fun ps ms B kvs ls H4 h4 em kn _ => ?_⟩
      · exact ncl (h3.md e he).2.2.2.2 (fun _ => rfl) fun ek _ => by
          have := idle.np c1 e he ek
          show e.t ≠ v.t
          omega
      · have ek : kvs = v.kvs := kn (fun e => nomatch e)
        subst ek
        walk_at "rs"
        refine ⟨N.p, N.dx, _, rfl, h4.ins, rfl, ?_⟩
        walk_at "rs"
        refine ⟨N, n + 2, _, rfl, o, h4, by omega, by show v.t < 60; omega, fun e => absurd e p1, fun q hq e => absurd e (idle.ks c1 q hq), fun _ => ?_, fun e => absurd e p1⟩
        walk_at "rs"
        refine k { se := se, co := false, t := v.t, st := "prevote", ps := ps, ms := ms, B := B, kvs := v.kvs, ls := ls, xs := [⟨N.who, ⟨.pre, 0, v.t, none, none⟩⟩] } H4 (h4.mono (by omega)) ⟨fun e => absurd e p1, fun _ e he ek => ?_, idle.kv, idle.kb, fun e => absurd e p1, .inr (.inl rfl)⟩ rfl rfl rfl
        rcases em e he with he | rfl
        · exact idle.nc (by rw [c1]; exact p2.symm) e he ek
        · cases ek
    · have c1 : v.st ≠ "propose" := fun e => c1 (decide_eq_true (congrArg V.str e))
      walk_at "rs"
      refine ⟨N.p, _, N.dx, _, .str v.st, rfl, h1.ins, T.cl_Replica, T.a_Replica_step, rfl, ?_⟩
      walk_at "rs"
      refine ite2 (fun c2 => ?_) (fun c2 => ?_)
      · have c2 : v.st = "prevote" := V.str.inj (of_decide_eq_true c2)
        have et : nextT N v = v.t := if_pos (.inr c2)
        have es : nextS N v = "precommit" := (if_neg c1).trans (if_pos c2)
        have ed : nextD N v = [⟨N.who, ⟨.com, 0, v.t, none, none⟩⟩] := (if_neg c1).trans (if_pos c2)
        rw [et, es, ed] at k
        walk_at "rs"
        refine ⟨N.p, _, N.dx, _, rfl, h1.ins, T.cl_Replica, T.a_Replica_step, (by show 13 < 1000; decide), ?_⟩
        have h2 := h1.put (v' := { v with se := se, co := false, ls := [], xs := [], st := "precommit" }) rfl rfl rfl rfl h1.sl h1.hl h1.nse h1.dse (Int.le_refl _) h1.fs
        change (_ : Hp → Prop) (upd H1 N.p (.ins a.C_Replica N.dx (kfs (N.kp { v with se := se, co := false, ls := [], xs := [], st := "precommit" }))))
        generalize upd H1 N.p (.ins a.C_Replica N.dx (kfs (N.kp { v with se := se, co := false, ls := [], xs := [], st := "precommit" }))) = H2 at h2 ⊢
        walk_at "rs"
        refine ⟨N.p, N.dx, _, rfl, h2.ins, rfl, ?_⟩
        walk_at "rs"
        refine ⟨N.p, _, N.dx, _, .int 0, rfl, h2.ins, T.cl_Replica, T.a_Replica_height, rfl, ?_⟩
        walk_at "rs"
        refine ⟨N.p, _, N.dx, _, .int v.t, rfl, h2.ins, T.cl_Replica, T.a_Replica_turn, rfl, ?_⟩
        walk_at "rs"
        refine ⟨0, v.t, none, rfl, fun sp H3 s3 hsp => ?_⟩
        have h3 := h2.same s3
        walk_at "rs"
        refine ⟨N, n, _, sp, ⟨.com, 0, v.t, none, none⟩, rfl, o, h3, by omega, hsp, rfl, t0, by show v.t < 60; omega, Int.le_refl _, (fun x e => nomatch e), (fun _ => rfl), (fun e => nomatch e), fun e he => ?_, fun ps ms B kvs ls H4 h4 em kn _ => ?_⟩
        · exact ncl (h3.md e he).2.2.2.2 (fun _ => rfl) fun ek _ => by
            have := idle.nc (by rw [c2]; exact p3.symm) e he ek
            show e.t ≠ v.t
            omega
        · have ek : kvs = v.kvs := kn (fun e => nomatch e)
          subst ek
          walk_at "rs"
          refine ⟨N.p, N.dx, _, rfl, h4.ins, rfl, ?_⟩
          walk_at "rs"
          refine ⟨N, n + 2, _, rfl, o, h4, by omega, by show v.t < 60; omega, fun e => absurd e p2, idle.kb, fun _ => ?_, fun e => absurd e p2⟩
          walk_at "rs"
          exact k { se := se, co := false, t := v.t, st := "precommit", ps := ps, ms := ms, B := B, kvs := v.kvs, ls := ls, xs := [⟨N.who, ⟨.com, 0, v.t, none, none⟩⟩] } H4 (h4.mono (by omega)) ⟨fun e => absurd e p2, fun e => absurd rfl e, idle.kv, idle.kb, fun e => absurd e p2, .inr (.inr rfl)⟩ rfl rfl rfl
      · have c2 : v.st ≠ "prevote" := fun e => c2 (decide_eq_true (congrArg V.str e))
        have c12 : ¬ (v.st = "propose" ∨ v.st = "prevote") := fun e => e.elim c1 c2
        have et : nextT N v = v.t + 1 := if_neg c12
        have es : nextS N v = (if ldr N (v.t + 1) then ("prevote" : Str) else ("propose" : Str)) := (if_neg c1).trans (if_neg c2)
        have ed : nextD N v = due1 N (v.t + 1) := (if_neg c1).trans (if_neg c2)
        rw [et, es, ed] at k
        walk_at "rs"
        refine ⟨N.p, N.dx, _, rfl, h1.ins, rfl, ?_⟩
        walk_at "rs"
        refine ⟨N.p, _, N.dx, _, .int v.t, rfl, h1.ins, T.cl_Replica, T.a_Replica_turn, rfl, ?_⟩
        walk_at "rs"
        have nk : ∀ q ∈ v.kvs, q.1 ≠ v.t + 1 := fun q hq e => by have := idle.kv q hq; omega
        refine ⟨N, n, _, v.t + 1, rfl, o, h1, by omega, t1, by show v.t ≤ v.t + 1; omega, nk, fun ps ms B kvs ls H2 h2 e1 e2 => ?_⟩
        have e2 : kvs = if ldr N (v.t + 1) then v.kvs ++ [(v.t + 1, blkT (v.t + 1))] else v.kvs := e2
        have md := fun e he => ((h1.md e he).2.2.1 : e.t ≤ v.t)
        have np : ∀ e ∈ ms, e.k = .pre → e.t < v.t + 1 := fun e he ek => by
          rcases e1 e he with he | he
          · have := md e he
            omega
          · rw [he] at ek; cases ek
        have nc : ∀ e ∈ ms, e.k = .com → e.t < v.t + 1 := fun e he ek => by
          rcases e1 e he with he | he
          · have := md e he
            omega
          · rw [he] at ek; cases ek
        have kv : ∀ q ∈ kvs, q.1 ≤ v.t + 1 ∧ (q.1 = v.t + 1 → q.2 = blkT (v.t + 1) ∧ ldr N (v.t + 1) = true) := fun q hq => by
          rw [e2] at hq
          have old : q ∈ v.kvs → q.1 ≤ v.t + 1 ∧ (q.1 = v.t + 1 → q.2 = blkT (v.t + 1) ∧ ldr N (v.t + 1) = true) := fun hq => ⟨by have := idle.kv q hq; omega, fun e => absurd e (nk q hq)⟩
          split at hq
          · rename_i c
            rcases List.mem_append.mp hq with hq | hq
            · exact old hq
            · rw [List.mem_singleton.mp hq]
              exact ⟨Int.le_refl _, fun _ => ⟨rfl, c⟩⟩
          · exact old hq
        walk_at "rs"
        refine ⟨N.p, N.dx, _, rfl, h2.ins, rfl, ?_⟩
        walk_at "rs"
        refine ⟨N, n + 2, _, rfl, o, h2, by omega, t1, fun _ => np, fun q hq e => ((kv q hq).2 e).1, fun st => ?_, fun _ ex ps' ms' B' ls' H3 h3 em' => ?_⟩
        · have nl : ¬ ldr N (v.t + 1) = true := fun c => by
            rcases st with st | st
            · exact absurd rfl st
            · rw [if_pos c] at e2
              exact st (v.t + 1, blkT (v.t + 1)) (by show _ ∈ kvs; rw [e2]; exact List.mem_append_right _ (List.mem_singleton.mpr rfl)) rfl
          rw [if_neg nl] at k
          walk_at "rs"
          refine k { se := se, co := false, t := v.t + 1, st := "propose", ps := ps, ms := ms, B := B, kvs := kvs, ls := ls, xs := prop1 N (v.t + 1) } H2 (h2.mono (by omega)) ⟨fun _ => np, fun _ => nc, fun q hq => (kv q hq).1, fun q hq e => ((kv q hq).2 e).1, fun _ q hq e => absurd ((kv q hq).2 e).2 nl, .inl rfl⟩ rfl rfl ?_
          show prop1 N (v.t + 1) = due1 N (v.t + 1)
          unfold prop1 due1
          rw [if_neg nl, if_neg nl]
        · obtain ⟨q, hq, eq⟩ := ex
          have l := ((kv q hq).2 eq).2
          rw [if_pos l] at k
          walk_at "rs"
          refine k { se := se, co := false, t := v.t + 1, st := "prevote", ps := ps', ms := ms', B := B', kvs := kvs, ls := ls', xs := prop1 N (v.t + 1) ++ [⟨N.who, ⟨.pre, 0, v.t + 1, some (blkT (v.t + 1)), none⟩⟩] } H3 h3 ⟨fun e => absurd e p1, fun _ e he ek => ?_, fun q hq => (kv q hq).1, fun q hq e => ((kv q hq).2 e).1, fun e => absurd e p1, .inr (.inl rfl)⟩ rfl rfl ?_
          · rcases em' e he with he | rfl
            · exact nc e he ek
            · cases ek
          · show prop1 N (v.t + 1) ++ _ = due1 N (v.t + 1)
            unfold prop1 due1
            rw [if_pos l, if_pos l]
            rfl

theorem goodW_ones {n : Nat} (h0 : 2 ≤ n) (h1 : n ≤ 9) : GoodW (List.replicate n 1) :=
  ⟨by rw [List.length_replicate]; omega, by rw [List.length_replicate]; omega, fun x hx => by
    rw [List.eq_of_mem_replicate hx]
    decide⟩
def insLen : Option HO → Nat
  | some (.ins _ _ fs) => fs.length
  | _ => 0
/-- the first fields -/
def kf8 (who : Int) (ch jo pa po la se : Addr) : List (Str × V) := [("who", .int who), ("chain", .ref ch), ("journal", .ref jo), ("papers", .ref pa), ("pool", .ref po), ("later", .ref la), ("sent", .ref se), ("committed", .bl false)]
def kf11 (who : Int) (ch jo pa po la se bo pr : Addr) : List (Str × V) := [("who", .int who), ("chain", .ref ch), ("journal", .ref jo), ("papers", .ref pa), ("pool", .ref po), ("later", .ref la), ("sent", .ref se), ("committed", .bl false), ("height", .int 0), ("book", .ref bo), ("proposals", .ref pr)]
def spReach (P : Program) (w : World) (a : Ads) : Sp := fun vs H Q _ => ∃ (p dx ch jo pa po la se c d : Addr) (who : Int) (q : CnP) (n : Nat) (Hc : Hp), vs = [.ref p] ∧ H p = some (.ins a.C_Replica dx (kf8 who ch jo pa po la se)) ∧ CnAt a.C_Chain a.C_Committee a.C_Ledger Hc ch q ⟨[], [], [c], [List.replicate n 1], [d]⟩ 0 0 ∧ Same Hc H ∧ Hc p = none ∧ 2 ≤ n ∧ n ≤ 9 ∧
  ∀ bo pr Lc Lm Dk Db H', H' p = some (.ins a.C_Replica dx (kf11 who ch jo pa po la se bo pr)) → BookAt P w a.C_Book a.C_Committee H' bo ⟨c, 0, Lc, Lm, Dk, Db, List.replicate n 1, [], [], [], [], [], [], []⟩ → H' pr = some (.dK []) →
    H Lc = none → H Lm = none → H Dk = none → H Db = none → H pr = none → H bo = none → pr ∉ [Lc, Lm, Dk, Db] → But1 p H H' → Q .non H'
theorem ok_Replica_reach (T : Txt K mg a) : ∃ fd, FnOk P w K mg base CX0 3 a.d_Replica_reach fd ["self"] (spReach P w a) ∧ Binds K fd ["self"] [] := by
  obtain ⟨fd, F, b⟩ := T.d_Replica_reach.F
  obtain ⟨fd_Chain_height, G_Chain_height, b_Chain_height⟩ := ok_Chain_height (P := P) (w := w) (base := base) T
  obtain ⟨fd_Book_init, G_Book_init, b_Book_init⟩ := ok_Book_init (P := P) (w := w) (base := base) T
  obtain ⟨fd_Chain_committee, G_Chain_committee, b_Chain_committee⟩ := ok_Chain_committee (P := P) (w := w) (base := base) T
  refine ⟨fd, F.ok sc_Replica_reach (fun vs H Q E h => ?_) (fun cdv A outer s H vs Q E hr h => ?_), b⟩
  · obtain ⟨_, _, _, _, _, _, _, _, _, _, _, _, _, _, rfl, _⟩ := h
    rfl
  · obtain ⟨p, dx, ch, jo, pa, po, la, se, c, d, who, q, n, Hc, rfl, hp, cn0, sc, np, n2, n9, k⟩ := h
    have on : ∀ {Hx : Hp}, But1 p H Hx → CnAt a.C_Chain a.C_Committee a.C_Ledger Hx ch q ⟨[], [], [c], [List.replicate n 1], [d]⟩ 0 0 := fun b => cn0.same fun y o e => b _ _ (fun q => by rw [q, np] at e; cases e) (sc _ _ e)
    have cn := cn0.same sc
    obtain ⟨dxc, hch⟩ := cn.ins
    refine ⟨_, (pss_cons (ps_fld (pv 0) (pe_meth0 (pe_fld (pv 0) rfl) T.cl_Chain T.me_Chain_height G_Chain_height (hr.mono (by decide)) b_Chain_height .nil pass0) rfl)
      (pss_cons (ps_fld (pv 0) (pe_make T.m_Book G_Book_init (hr.mono (by decide)) (by rfl) T.g_Book b_Book_init .nil pass0 (pa_cons (pe_meth0 (pe_fld (pv 0) rfl) T.cl_Chain T.me_Chain_committee G_Chain_committee (hr.mono (by decide)) b_Chain_committee .nil pass0) (pa_cons (pe_fld (pv 0) rfl) pa_nil))) rfl)
      (pss_one (ps_fld (pv 0) pe_dnewK rfl)))), ?_⟩
    walk_at "rs"
    refine ⟨p, _, dx, _, .ref ch, rfl, hp, T.cl_Replica, T.a_Replica_chain, rfl, ?_⟩
    refine ⟨ch, dxc, _, rfl, hch, rfl, ?_⟩
    walk_at "rs"
    refine ⟨ch, q, _, 0, 0, rfl, cn, ?_⟩
    walk_at "rs"
    refine ⟨p, _, dx, _, rfl, hp, T.cl_Replica, T.a_Replica_height, (by show 8 < 1000; decide), ?_⟩
    have b1 : But1 p H (upd H p (.ins a.C_Replica dx (kf8 who ch jo pa po la se ++ [(("height" : Str), V.int 0)]))) := fun b o n e => by rw [upd_ne n]; exact e
    have hp1 : upd H p (.ins a.C_Replica dx (kf8 who ch jo pa po la se ++ [(("height" : Str), V.int 0)])) p = some (.ins a.C_Replica dx (kf8 who ch jo pa po la se ++ [(("height" : Str), V.int 0)])) := upd_same
    change (_ : Hp → Prop) (upd H p (.ins a.C_Replica dx (kf8 who ch jo pa po la se ++ [(("height" : Str), V.int 0)])))
    generalize upd H p (.ins a.C_Replica dx (kf8 who ch jo pa po la se ++ [(("height" : Str), V.int 0)])) = H1 at b1 hp1 ⊢
    have cn1 := on b1
    obtain ⟨dxc1, hch1⟩ := cn1.ins
    obtain ⟨hcm1, gw⟩ := cn1.cm 0 (Nat.zero_lt_succ 0)
    walk_at "rs"
    refine ⟨p, _, dx, _, .ref ch, rfl, hp1, T.cl_Replica, T.a_Replica_chain, rfl, ?_⟩
    refine ⟨ch, dxc1, _, rfl, hch1, rfl, ?_⟩
    walk_at "rs"
    refine ⟨ch, q, _, 0, 0, rfl, cn1, ?_⟩
    walk_at "rs"
    refine ⟨p, _, dx, _, .int 0, rfl, hp1, T.cl_Replica, T.a_Replica_height, rfl, ?_⟩
    walk_at "rs"
    intro bo db hbo hdb ndb
    refine ⟨bo, db, c, 0, List.replicate n 1, rfl, upd_same, ?_, gw, fun Lc Lm Dk Db H2 hbk nLc nLm nDk nDb keep => ⟨rfl, ?_⟩⟩
    · exact hcm1.same (same_upd (same_new hdb) hbo)
    have sM : Same H1 (upd (upd H1 db (.own bo)) bo (.ins a.C_Book db [])) := same_upd (same_new hdb) hbo
    have s2 : Same H1 H2 := fun b o e => keep b o (fun q => by rw [q, hbo] at e; cases e) (sM _ _ e)
    have nLc := sM.free nLc
    have nLm := sM.free nLm
    have nDk := sM.free nDk
    have nDb := sM.free nDb
    walk_at "rs"
    have hp2 := s2 _ _ hp1
    refine ⟨p, _, dx, _, rfl, hp2, T.cl_Replica, T.a_Replica_book, (by show 9 < 1000; decide), ?_⟩
    have bop : bo ≠ p := fun e => by rw [e, hp1] at hbo; cases hbo
    have cp : c ≠ p := fun e => by
      obtain ⟨dc, tc, e1, _⟩ := (cn0.cm 0 (Nat.zero_lt_succ 0)).1
      have e1 : Hc c = _ := e1
      rw [e, np] at e1
      cases e1
    have fp : ∀ {Hx : Hp} {fs : List (Str × V)} {o : HO}, Hx p = some (.ins a.C_Replica dx fs) → BookAt P w a.C_Book a.C_Committee Hx bo ⟨c, 0, Lc, Lm, Dk, Db, List.replicate n 1, [], [], [], [], [], [], []⟩ → BookAt P w a.C_Book a.C_Committee (upd Hx p o) bo ⟨c, 0, Lc, Lm, Dk, Db, List.replicate n 1, [], [], [], [], [], [], []⟩ := fun hx B =>
      B.frame (Z := [p]) (keeps_upd List.mem_cons_self) (fun b m e => B.notS hx True.intro (List.mem_singleton.mp e ▸ m)) (fun e => bop (List.mem_singleton.mp e)) (fun e => cp (List.mem_singleton.mp e)) fun q ys e m => by
        rw [List.mem_singleton.mp m, hx] at e
        cases e
    have hbk3 := fp (o := .ins a.C_Replica dx (kf8 who ch jo pa po la se ++ [(("height" : Str), V.int 0), (("book" : Str), V.ref bo)])) hp2 (hbk P w)
    have b3 : But1 p H2 (upd H2 p (.ins a.C_Replica dx (kf8 who ch jo pa po la se ++ [(("height" : Str), V.int 0), (("book" : Str), V.ref bo)]))) := fun b o n e => by rw [upd_ne n]; exact e
    have hp3 : upd H2 p (.ins a.C_Replica dx (kf8 who ch jo pa po la se ++ [(("height" : Str), V.int 0), (("book" : Str), V.ref bo)])) p = some (.ins a.C_Replica dx (kf8 who ch jo pa po la se ++ [(("height" : Str), V.int 0), (("book" : Str), V.ref bo)])) := upd_same
    change (_ : Hp → Prop) (upd H2 p (.ins a.C_Replica dx (kf8 who ch jo pa po la se ++ [(("height" : Str), V.int 0), (("book" : Str), V.ref bo)])))
    generalize upd H2 p (.ins a.C_Replica dx (kf8 who ch jo pa po la se ++ [(("height" : Str), V.int 0), (("book" : Str), V.ref bo)])) = H3 at hbk3 b3 hp3 ⊢
    walk_at "rs"
    intro pr hpr
    have s4 := same_new (o := .dK []) hpr
    have gpr : upd H3 pr (.dK []) pr = some (.dK []) := upd_same
    have nS : pr ∉ [Lc, Lm, Dk, Db] := fun m => hbk3.someS (p := pr) m hpr
    have hbk4 := hbk3.same s4
    have hp4 := s4 _ _ hp3
    generalize upd H3 pr (.dK []) = H4 at s4 gpr hbk4 hp4 ⊢
    walk_at "rs"
    refine ⟨p, _, dx, _, rfl, hp4, T.cl_Replica, T.a_Replica_proposals, (by show 10 < 1000; decide), ?_⟩
    have prp : pr ≠ p := fun e => by rw [e, hp3] at hpr; cases hpr
    have fr : ∀ {b : Addr} {Hx : Hp}, But1 p H Hx → b ≠ p → Hx b = none → H b = none := fun {b Hx} kx n e => by
      cases q : H b with
      | none => rfl
      | some o => rw [kx _ _ n q] at e; cases e
    have b13 : But1 p H H3 := (b1.trans fun b o _ e => s2 _ _ e).trans b3
    have hL : ∀ {b : Addr} {o : HO}, H2 b = some o → H1 b = none → b ≠ p := fun e n q => by rw [q, hp1] at n; cases n
    have B2 := hbk P w
    have nkept : Dk ≠ p := fun q => by rw [q, hp1] at nDk; cases nDk
    have nbyb : Db ≠ p := fun q => by rw [q, hp1] at nDb; cases nDb
    refine k bo pr Lc Lm Dk Db _ (by rw [upd_same]; rfl) (fp hp4 hbk4) (by rw [upd_ne prp]; exact gpr) (fr b1 (hL B2.lc nLc) nLc) (fr b1 (hL B2.lm nLm) nLm) (fr b1 nkept nDk) (fr b1 nbyb nDb) (fr b13 prp hpr) (fr b1 bop hbo) nS fun b o n e => ?_
    rw [upd_ne n]
    exact s4 _ _ (b13 b o n e)
def spKInit (P : Program) (w : World) (a : Ads) : Sp := fun vs H Q _ => ∃ (p dx ch jo L c d : Addr) (who : Int) (q : CnP) (n : Nat) (Hc : Hp), vs = [.ref p, .int who, .ref ch, .ref jo] ∧ H p = some (.ins a.C_Replica dx []) ∧ CnAt a.C_Chain a.C_Committee a.C_Ledger Hc ch q ⟨[], [], [c], [List.replicate n 1], [d]⟩ 0 0 ∧ Same Hc H ∧ Hc p = none ∧ Hc L = none ∧
  JAt a.C_Journal H jo who L ∧ H L = some (.lst []) ∧ jo ≠ p ∧ 2 ≤ n ∧ n ≤ 9 ∧ 0 ≤ who ∧ who < n ∧
  ∀ (N : Ln) (v : Lv) H', N.p = p → N.n = n → N.who = who → LO a N → LA P w a N 0 H' v → v.t = 0 → v.ms = [] → v.kvs = [] → (∀ b o, b ≠ p → H b = some o → H' b = some o) → Q .non H'
theorem ok_Replica_init (T : Txt K mg a) : ∃ fd, FnOk P w K mg base CX0 4 a.d_Replica_init fd ["self", "who", "chain", "journal"] (spKInit P w a) ∧ Binds K fd ["self", "who", "chain", "journal"] [] := by
  obtain ⟨fd, F, b⟩ := T.d_Replica_init.F
  obtain ⟨fd_Pool_init, G_Pool_init, b_Pool_init⟩ := ok_Pool_init (P := P) (w := w) (base := base) T
  obtain ⟨fd_Replica_reach, G_Replica_reach, b_Replica_reach⟩ := ok_Replica_reach (P := P) (w := w) (base := base) T
  obtain ⟨fd_Journal_last_turn, G_Journal_last_turn, b_Journal_last_turn⟩ := ok_Journal_last_turn (P := P) (w := w) (base := base) T
  refine ⟨fd, F.ok sc_Replica_init (fun vs H Q E h => ?_) (fun cdv A outer s H vs Q E hr h => ?_), b⟩
  · obtain ⟨_, _, _, _, _, _, _, _, _, _, _, rfl, _⟩ := h
    rfl
  · obtain ⟨p, dx, ch, jo, L, c, d, who, q, n, Hc, rfl, hp, cn0, sc, np, nL, ⟨dxj, hj⟩, hL, jop, n2, n9, w0, w1, k⟩ := h
    have pL : L ≠ p := fun e => by rw [e, hp] at hL; cases hL
    refine ⟨_, (pss_cons (ps_fld (pv 0) (pv 1) rfl)
      (pss_cons (ps_fld (pv 0) (pv 2) rfl)
      (pss_cons (ps_fld (pv 0) (pv 3) rfl)
      (pss_cons (ps_fld (pv 0) (pe_lst pa_nil) rfl)
      (pss_cons (ps_fld (pv 0) (pe_make0 T.m_Pool G_Pool_init (hr.mono (by decide)) (by rfl) T.g_Pool b_Pool_init .nil pass0) rfl)
      (pss_cons (ps_fld (pv 0) pe_dnewK rfl)
      (pss_cons (ps_fld (pv 0) (pe_lst pa_nil) rfl)
      (pss_cons (ps_fld (pv 0) pe_bl rfl)
      (pss_cons (ps_expr (pe_meth0 (pv 0) T.cl_Replica T.me_Replica_reach G_Replica_reach (hr.mono (by decide)) b_Replica_reach .nil pass0))
      (pss_cons (ps_fld (pv 0) (pe_meth (pv 3) T.cl_Journal T.me_Journal_last_turn G_Journal_last_turn (hr.mono (by decide)) b_Journal_last_turn .nil pass0 (pa_cons (pe_fld (pv 0) rfl) pa_nil)) rfl)
      (pss_one (ps_fld (pv 0) pe_str rfl)))))))))))), ?_⟩
    walk_at "rs"
    refine ⟨p, _, dx, _, rfl, hp, T.cl_Replica, T.a_Replica_who, (by show 0 < 1000; decide), ?_⟩
    have b1 : But1 p H (upd H p (.ins a.C_Replica dx (putF "who" (.int who) []))) := fun b o n e => by rw [upd_ne n]; exact e
    have hp1 : upd H p (.ins a.C_Replica dx (putF "who" (.int who) [])) p = some (.ins a.C_Replica dx [("who", .int who)]) := by rw [upd_same]; rfl
    generalize upd H p (.ins a.C_Replica dx (putF "who" (.int who) [])) = H1 at b1 hp1 ⊢
    walk_at "rs"
    refine ⟨p, _, dx, _, rfl, hp1, T.cl_Replica, T.a_Replica_chain, (by show 1 < 1000; decide), ?_⟩
    have b2 : But1 p H1 (upd H1 p (.ins a.C_Replica dx (putF "chain" (.ref ch) [("who", .int who)]))) := fun b o n e => by rw [upd_ne n]; exact e
    have hp2 : upd H1 p (.ins a.C_Replica dx (putF "chain" (.ref ch) [("who", .int who)])) p = some (.ins a.C_Replica dx [("who", .int who), ("chain", .ref ch)]) := by rw [upd_same]; rfl
    generalize upd H1 p (.ins a.C_Replica dx (putF "chain" (.ref ch) [("who", .int who)])) = H2 at b2 hp2 ⊢
    walk_at "rs"
    refine ⟨p, _, dx, _, rfl, hp2, T.cl_Replica, T.a_Replica_journal, (by show 2 < 1000; decide), ?_⟩
    have b3 : But1 p H2 (upd H2 p (.ins a.C_Replica dx (putF "journal" (.ref jo) [("who", .int who), ("chain", .ref ch)]))) := fun b o n e => by rw [upd_ne n]; exact e
    have hp3 : upd H2 p (.ins a.C_Replica dx (putF "journal" (.ref jo) [("who", .int who), ("chain", .ref ch)])) p = some (.ins a.C_Replica dx [("who", .int who), ("chain", .ref ch), ("journal", .ref jo)]) := by rw [upd_same]; rfl
    generalize upd H2 p (.ins a.C_Replica dx (putF "journal" (.ref jo) [("who", .int who), ("chain", .ref ch)])) = H3 at b3 hp3 ⊢
    have b03 := (b1.trans b2).trans b3
    clear b1 b2 b3 hp1 hp2
    walk_at "rs"
    refine ⟨(by show 0 ≤ sizeLine; decide), fun pa hpa => ?_⟩
    have s4 := same_new (o := .lst []) hpa
    have gpa : upd H3 pa (.lst []) pa = some (.lst []) := upd_same
    have paL : pa ≠ L := fun e => by rw [e, b03 _ _ pL hL] at hpa; cases hpa
    have pap : pa ≠ p := fun e => by rw [e, hp3] at hpa; cases hpa
    have hp4 := s4 _ _ hp3
    generalize upd H3 pa (.lst []) = H4 at s4 gpa hp4 ⊢
    walk_at "rs"
    refine ⟨p, _, dx, _, rfl, hp4, T.cl_Replica, T.a_Replica_papers, (by show 3 < 1000; decide), ?_⟩
    have b5 : But1 p H4 (upd H4 p (.ins a.C_Replica dx (putF "papers" (.ref pa) [("who", .int who), ("chain", .ref ch), ("journal", .ref jo)]))) := fun b o n e => by rw [upd_ne n]; exact e
    have hp5 : upd H4 p (.ins a.C_Replica dx (putF "papers" (.ref pa) [("who", .int who), ("chain", .ref ch), ("journal", .ref jo)])) p = some (.ins a.C_Replica dx [("who", .int who), ("chain", .ref ch), ("journal", .ref jo), ("papers", .ref pa)]) := by rw [upd_same]; rfl
    generalize upd H4 p (.ins a.C_Replica dx (putF "papers" (.ref pa) [("who", .int who), ("chain", .ref ch), ("journal", .ref jo)])) = H5 at b5 hp5 ⊢
    have b05 := (b03.trans fun b o _ e => s4 _ _ e).trans b5
    have gpa := b5 _ _ pap gpa
    clear b03 s4 b5 hp3 hp4 hpa
    walk_at "rs"
    intro po dp hpo hdp ndp
    have sM : Same H5 (upd (upd H5 dp (.own po)) po (.ins a.C_Pool dp [])) := same_upd (same_new hdp) hpo
    refine ⟨po, dp, rfl, upd_same, fun wl H6 nwl h6 hwl keep => ⟨rfl, ?_⟩⟩
    have s6 : Same H5 H6 := fun b o e => keep b o (fun q => by rw [q, hpo] at e; cases e) (sM _ _ e)
    have pop : po ≠ p := fun e => by rw [e, hp5] at hpo; cases hpo
    have nwl := sM.free nwl
    have wlp : wl ≠ p := fun e => by rw [e, hp5] at nwl; cases nwl
    have wlL : wl ≠ L := fun e => by rw [e, b05 _ _ pL hL] at nwl; cases nwl
    have hp6 := s6 _ _ hp5
    have gpa := s6 _ _ gpa
    walk_at "rs"
    refine ⟨p, _, dx, _, rfl, hp6, T.cl_Replica, T.a_Replica_pool, (by show 4 < 1000; decide), ?_⟩
    have b7 : But1 p H6 (upd H6 p (.ins a.C_Replica dx (putF "pool" (.ref po) [("who", .int who), ("chain", .ref ch), ("journal", .ref jo), ("papers", .ref pa)]))) := fun b o n e => by rw [upd_ne n]; exact e
    have hp7 : upd H6 p (.ins a.C_Replica dx (putF "pool" (.ref po) [("who", .int who), ("chain", .ref ch), ("journal", .ref jo), ("papers", .ref pa)])) p = some (.ins a.C_Replica dx [("who", .int who), ("chain", .ref ch), ("journal", .ref jo), ("papers", .ref pa), ("pool", .ref po)]) := by rw [upd_same]; rfl
    generalize upd H6 p (.ins a.C_Replica dx (putF "pool" (.ref po) [("who", .int who), ("chain", .ref ch), ("journal", .ref jo), ("papers", .ref pa)])) = H7 at b7 hp7 ⊢
    have b07 := (b05.trans fun b o _ e => s6 _ _ e).trans b7
    have gpo := b7 _ _ pop h6
    have gwl := b7 _ _ wlp hwl
    have gpa := b7 _ _ pap gpa
    have gjo := b07 _ _ jop hj
    have gL := b07 _ _ pL hL
    clear b05 s6 b7 hp5 hp6 hpo hdp ndp sM keep h6 hwl nwl
    -- from here on the other lists are new
    walk_at "rs"
    intro la hla
    have s8 := same_new (o := .dK []) hla
    have hp8 := s8 _ _ hp7
    generalize upd H7 la (.dK []) = H8 at s8 hp8 ⊢
    walk_at "rs"
    refine ⟨p, _, dx, _, rfl, hp8, T.cl_Replica, T.a_Replica_later, (by show 5 < 1000; decide), ?_⟩
    have b9 : But1 p H8 (upd H8 p (.ins a.C_Replica dx (putF "later" (.ref la) [("who", .int who), ("chain", .ref ch), ("journal", .ref jo), ("papers", .ref pa), ("pool", .ref po)]))) := fun b o n e => by rw [upd_ne n]; exact e
    have hp9 : upd H8 p (.ins a.C_Replica dx (putF "later" (.ref la) [("who", .int who), ("chain", .ref ch), ("journal", .ref jo), ("papers", .ref pa), ("pool", .ref po)])) p = some (.ins a.C_Replica dx [("who", .int who), ("chain", .ref ch), ("journal", .ref jo), ("papers", .ref pa), ("pool", .ref po), ("later", .ref la)]) := by rw [upd_same]; rfl
    generalize upd H8 p (.ins a.C_Replica dx (putF "later" (.ref la) [("who", .int who), ("chain", .ref ch), ("journal", .ref jo), ("papers", .ref pa), ("pool", .ref po)])) = H9 at b9 hp9 ⊢
    have b79 : But1 p H7 H9 := But1.trans (fun b o _ e => s8 _ _ e) b9
    walk_at "rs"
    refine ⟨(by show 0 ≤ sizeLine; decide), fun se hse => ?_⟩
    have s10 := same_new (o := .lst []) hse
    have gse : upd H9 se (.lst []) se = some (.lst (([] : List Addr).map V.ref)) := upd_same
    have sep : se ≠ p := fun e => by rw [e, hp9] at hse; cases hse
    have fr : ∀ {b : Addr} {Hx : Hp}, But1 p H7 Hx → b ≠ p → Hx b = none → H7 b = none := fun {b Hx} kx n e => by
      cases q : H7 b with
      | none => rfl
      | some o => rw [kx _ _ n q] at e; cases e
    have nse := fr b79 sep hse
    have hp10 := s10 _ _ hp9
    generalize upd H9 se (.lst []) = H10 at s10 gse hp10 ⊢
    walk_at "rs"
    refine ⟨p, _, dx, _, rfl, hp10, T.cl_Replica, T.a_Replica_sent, (by show 6 < 1000; decide), ?_⟩
    have b11 : But1 p H10 (upd H10 p (.ins a.C_Replica dx (putF "sent" (.ref se) [("who", .int who), ("chain", .ref ch), ("journal", .ref jo), ("papers", .ref pa), ("pool", .ref po), ("later", .ref la)]))) := fun b o n e => by rw [upd_ne n]; exact e
    have hp11 : upd H10 p (.ins a.C_Replica dx (putF "sent" (.ref se) [("who", .int who), ("chain", .ref ch), ("journal", .ref jo), ("papers", .ref pa), ("pool", .ref po), ("later", .ref la)])) p = some (.ins a.C_Replica dx [("who", .int who), ("chain", .ref ch), ("journal", .ref jo), ("papers", .ref pa), ("pool", .ref po), ("later", .ref la), ("sent", .ref se)]) := by rw [upd_same]; rfl
    generalize upd H10 p (.ins a.C_Replica dx (putF "sent" (.ref se) [("who", .int who), ("chain", .ref ch), ("journal", .ref jo), ("papers", .ref pa), ("pool", .ref po), ("later", .ref la)])) = H11 at b11 hp11 ⊢
    walk_at "rs"
    refine ⟨p, _, dx, _, rfl, hp11, T.cl_Replica, T.a_Replica_committed, (by show 7 < 1000; decide), ?_⟩
    have b12 : But1 p H11 (upd H11 p (.ins a.C_Replica dx (putF "committed" (.bl false) [("who", .int who), ("chain", .ref ch), ("journal", .ref jo), ("papers", .ref pa), ("pool", .ref po), ("later", .ref la), ("sent", .ref se)]))) := fun b o n e => by rw [upd_ne n]; exact e
    have hp12 : upd H11 p (.ins a.C_Replica dx (putF "committed" (.bl false) [("who", .int who), ("chain", .ref ch), ("journal", .ref jo), ("papers", .ref pa), ("pool", .ref po), ("later", .ref la), ("sent", .ref se)])) p = some (.ins a.C_Replica dx (kf8 who ch jo pa po la se)) := by rw [upd_same]; rfl
    generalize upd H11 p (.ins a.C_Replica dx (putF "committed" (.bl false) [("who", .int who), ("chain", .ref ch), ("journal", .ref jo), ("papers", .ref pa), ("pool", .ref po), ("later", .ref la), ("sent", .ref se)])) = H12 at b12 hp12 ⊢
    have b712 := ((b79.trans fun b o _ e => s10 _ _ e).trans b11).trans b12
    have gse := b12 _ _ sep (b11 _ _ sep gse)
    clear b79 s8 b9 s10 b11 b12 hp8 hp9 hp10 hp11 hse
    walk_at "rs"
    refine ⟨p, dx, _, rfl, hp12, rfl, ?_⟩
    walk_at "rs"
    refine ⟨p, dx, ch, jo, pa, po, la, se, c, d, who, q, n, Hc, rfl, hp12, cn0, fun b o e => ?_, np, n2, n9, fun bo pr Lc Lm Dk Db H13 hp13 hbk gpr nLc nLm nDk nDb npr nbo prS b13 => ?_⟩
    · have bp : b ≠ p := fun q => by rw [q, np] at e; cases e
      exact b712 _ _ bp (b07 _ _ bp (sc _ _ e))
    walk_at "rs"
    have b7 : But1 p H7 H13 := b712.trans b13
    have hj13 := b7 _ _ jop gjo
    have hL13 := b7 _ _ pL gL
    have gse12 := gse
    have gse := b13 _ _ sep gse
    have scH : Same Hc H7 := fun b o e => b07 _ _ (fun q => by rw [q, np] at e; cases e) (sc _ _ e)
    refine ⟨jo, dxj, _, rfl, hj13, jfs_no _ _ (by decide +kernel) (by decide +kernel), ?_⟩
    walk_at "rs"
    refine ⟨p, _, dx, _, .int 0, rfl, hp13, T.cl_Replica, T.a_Replica_height, rfl, ?_⟩
    refine ⟨jo, L, who, 0, [], [], rfl, ⟨dxj, hj13⟩, hL13, .nil, by decide, fun m hm => absurd hm List.not_mem_nil, fun z H14 s14 hz _ _ => ?_⟩
    have ez : z = 0 := hz.elim id fun h => absurd h List.not_mem_nil
    subst ez
    have hp14 := s14 _ _ hp13
    walk_at "rs"
    refine ⟨p, _, dx, _, rfl, hp14, T.cl_Replica, T.a_Replica_turn, (by show 11 < 1000; decide), ?_⟩
    have b15 : But1 p H14 (upd H14 p (.ins a.C_Replica dx (putF "turn" (.int 0) (kf11 who ch jo pa po la se bo pr)))) := fun b o n e => by rw [upd_ne n]; exact e
    have hp15 : upd H14 p (.ins a.C_Replica dx (putF "turn" (.int 0) (kf11 who ch jo pa po la se bo pr))) p = some (.ins a.C_Replica dx (putF "turn" (.int 0) (kf11 who ch jo pa po la se bo pr))) := upd_same
    generalize upd H14 p (.ins a.C_Replica dx (putF "turn" (.int 0) (kf11 who ch jo pa po la se bo pr))) = H15 at b15 hp15 ⊢
    walk_at "rs"
    refine ⟨p, _, dx, _, rfl, hp15, T.cl_Replica, T.a_Replica_step, (by show 12 < 1000; decide), ?_⟩
    have b16 : But1 p H15 (upd H15 p (.ins a.C_Replica dx (putF "step" (.str "propose") (putF "turn" (.int 0) (kf11 who ch jo pa po la se bo pr))))) := fun b o n e => by rw [upd_ne n]; exact e
    have hp16 : upd H15 p (.ins a.C_Replica dx (putF "step" (.str "propose") (putF "turn" (.int 0) (kf11 who ch jo pa po la se bo pr)))) p = some (.ins a.C_Replica dx (kfs ⟨who, ch, jo, pa, po, la, se, false, 0, bo, pr, 0, "propose"⟩)) := by rw [upd_same]; rfl
    generalize upd H15 p (.ins a.C_Replica dx (putF "step" (.str "propose") (putF "turn" (.int 0) (kf11 who ch jo pa po la se bo pr)))) = H16 at b16 hp16 ⊢
    have b1316 : But1 p H13 H16 := (But1.trans (fun b o _ e => s14 _ _ e) b15).trans b16
    have b716 := b7.trans b1316
    have prp : pr ≠ p := fun e => by rw [e, hp13] at gpr; cases gpr
    have bop : bo ≠ p := fun e => by rw [e, hp12] at nbo; cases nbo
    have cp : c ≠ p := fun e => by
      obtain ⟨dc, tc, e1, _⟩ := (cn0.cm 0 (Nat.zero_lt_succ 0)).1
      have e1 : Hc c = _ := e1
      rw [e, np] at e1
      cases e1
    have pn : ∀ {b : Addr}, H12 b = none → b ≠ p := fun e q => by rw [q, hp12] at e; cases e
    have hbk16 : BookAt P w a.C_Book a.C_Committee H16 bo ⟨c, 0, Lc, Lm, Dk, Db, List.replicate n 1, [], [], [], [], [], [], []⟩ :=
      hbk.frame (Z := [p]) (fun b o n e => b1316 _ _ (fun q => n (List.mem_singleton.mpr q)) e) (fun b m e => hbk.notS hp13 True.intro (List.mem_singleton.mp e ▸ m)) (fun e => bop (List.mem_singleton.mp e)) (fun e => cp (List.mem_singleton.mp e)) fun q ys e m => by
        rw [List.mem_singleton.mp m, hp13] at e
        cases e
    have n7 : ∀ {b : Addr}, H12 b = none → H7 b = none := fun e => fr b712 (pn e) e
    refine k ⟨p, dx, ch, jo, L, pa, po, wl, la, bo, pr, c, d, q, n, who, Hc, H7⟩ ⟨se, false, 0, "propose", [], [], ⟨c, 0, Lc, Lm, Dk, Db, List.replicate n 1, [], [], [], [], [], [], []⟩, [], [], []⟩ H16 rfl rfl rfl
      { cn := cn0, sc := scH, cp := np, cL := nL, jo := ⟨dxj, gjo⟩, jp := jop, po := ⟨dp, gpo⟩, pp := pop, wl := gwl, wL := wlL, pa := gpa, paL := paL, hp := ⟨_, hp7⟩, hL := ⟨_, gL⟩, n2 := n2, n9 := n9, w0 := w0, w1 := w1, npr := n7 npr }
      { ins := hp16, stab := fun b o n1 _ e => b716 _ _ n1 e, hL := b1316 _ _ pL hL13, hs := .nil, bk := hbk16, bws := rfl, bh := rfl, bc := rfl, bm := rfl, bx := fun x hx => absurd hx List.not_mem_nil, pr := b1316 _ _ prp gpr, sl := b1316 _ _ sep gse, hl := .nil, nse := nse, nS := fun b hb => ?_, dse := fun m => ?_, dpr := prS, md := fun m hm => absurd hm List.not_mem_nil, t0 := Int.le_refl _, fm := Nat.le_refl _, fx := Nat.le_refl _, fs := Nat.le_refl _, fk := Nat.le_refl _, bbo := bop, bcp := cp }
      rfl rfl rfl fun b o n1 e => b716 _ _ n1 (b07 _ _ n1 e)
    · have hb : b ∈ [Lc, Lm, Dk, Db] := hb
      simp only [List.mem_cons, List.not_mem_nil, or_false] at hb
      rcases hb with rfl | rfl | rfl | rfl
      · exact n7 nLc
      · exact n7 nLm
      · exact n7 nDk
      · exact n7 nDb
    · have m : se ∈ [Lc, Lm, Dk, Db] := m
      simp only [List.mem_cons, List.not_mem_nil, or_false] at m
      rcases m with rfl | rfl | rfl | rfl
      · rw [nLc] at gse12; cases gse12
      · rw [nLm] at gse12; cases gse12
      · rw [nDk] at gse12; cases gse12
      · rw [nDb] at gse12; cases gse12

def spCell (K : PySem.W.Frag) : Sp := fun vs H Q _ => ∃ (a : Addr) (ns : List Int) (k : Int), vs = [.ref a, .int k] ∧ SqL K H a (ns.map V.int) ∧ ns.length ≤ 63 ∧ 0 ≤ k ∧ Q (.int (ns.getD k.toNat 0)) H
theorem ok_law_cell (T : Txt K mg a) : ∃ fd, FnOk P w K mg base CX0 1 a.d_law_cell fd ["script", "k"] (spCell K) ∧ Binds K fd ["script", "k"] [] := by
  obtain ⟨fd, F, b⟩ := T.d_law_cell.F
  refine ⟨fd, F.ok sc_law_cell (fun vs H Q E h => ?_) (fun cdv A outer s H vs Q E hr h => ?_), b⟩
  · obtain ⟨a, ns, k, rfl, _⟩ := h
    rfl
  · obtain ⟨l, ns, k, rfl, hS, hl, hk, q⟩ := h
    refine ⟨_, (pss_cons (ps_if (pt_cmpR op_lt (pv 1) (pe_callB call_len_seq (by rfl) T.n_len PySem.boot_len (pa_cons (pv 0) pa_nil)) (nomark _))
      (pss_one (ps_ret (pe_ix ix_list (pv 0) (pv 1) (fun _ _ => rfl))))
      pss_nil)
      (pss_one (ps_ret pe_int))), ?_⟩
    refine ⟨_, rfl, _, rfl, l, _, rfl, .inl hS, _, _, rfl, rfl, _, rfl, ?_⟩
    refine ite2 (fun hlt => ?_) (fun hge => ?_)
    · have hlt : k < ((ns.map V.int).length : Int) := of_decide_eq_true hlt
      rw [List.length_map] at hlt
      have hj : k.toNat < ns.length := by omega
      have e : ns.getD k.toNat 0 = ns[k.toNat] := by rw [List.getD_eq_getElem?_getD, List.getElem?_eq_getElem hj]; rfl
      rw [e] at q
      refine ⟨_, rfl, _, rfl, l, _, k, .int ns[k.toNat], rfl, rfl, hS, at_of (j := k.toNat) (by omega) (by rw [List.getElem?_map, List.getElem?_eq_getElem hj]; rfl), q⟩
    · have hge : ¬ k < ((ns.map V.int).length : Int) := fun e => hge (decide_eq_true e)
      rw [List.length_map] at hge
      have e : ns.getD k.toNat 0 = 0 := by rw [List.getD_eq_getElem?_getD, List.getElem?_eq_none (by omega)]; rfl
      rw [e] at q
      exact q

def stepS (N : Ln) (t : Int) : Str := if ldr N t then ("prevote" : Str) else ("propose" : Str)
def spEntered : Sp := fun vs H Q _ => ∃ (N : Ln) (t : Int), vs = [.int N.who, .int N.n, .int t] ∧ 2 ≤ N.n ∧ 0 ≤ t ∧ t < 1000 ∧ ∀ (R D : Addr) (ds : List Addr) H', Same H H' → (∀ H9 : Hp, (∀ b o, H b = none → H' b = some o → H9 b = some o) → H9 R = some (.lst [.ref D, .str (stepS N t)]) ∧ H9 D = some (.lst (ds.map V.ref)) ∧ LsAt H9 ds (due1 N t)) → Q (.ref R) H'
theorem ok_law_entered (T : Txt K mg a) : ∃ fd, FnOk P w K mg base CX0 1 a.d_law_entered fd ["who", "size", "turn"] spEntered ∧ Binds K fd ["who", "size", "turn"] [] := by
  obtain ⟨fd, F, b⟩ := T.d_law_entered.F
  skip
  refine ⟨fd, F.ok sc_law_entered (fun vs H Q E h => ?_) (fun cdv A outer s H vs Q E hr h => ?_), b⟩
  · obtain ⟨_, _, rfl, _⟩ := h
    rfl
  · obtain ⟨N, t, rfl, n2, t0, t1, k⟩ := h
    have ow : WOk t := ⟨by omega, by omega⟩
    have ln : (Str.ofString (toString t)).length ≤ 7 := nu_len ow
    have n0 : (0 : Int) < N.n := by omega
    refine ⟨_, (pss_cons (ps_if (pt_cmpR op_ne (pe_op op_mod (pe_callTy call_int1 (by rfl) T.n_int (by decide +kernel) (pa_cons (pv 2) pa_nil)) (pv 1)) (pv 0) (nomark _))
      (pss_one (ps_ret (pe_lst (pa_cons (pe_lst pa_nil) (pa_cons pe_str pa_nil)))))
      pss_nil)
      (pss_cons (ps_set (i := 3) sc_law_entered.nd rfl (Or.inl rfl) (pe_op op_add_str pe_str (pe_callTy cr_strA (by rfl) T.n_str (by decide +kernel) (pa_cons (pv 2) pa_nil))))
      (pss_one (ps_ret (pe_lst (pa_cons (pe_lst (pa_cons (pe_tup (pa_cons (pv 0) (pa_cons (pe_tup (pa_cons pe_str (pa_cons pe_int (pa_cons (pv 2) (pa_cons (pv 3) pa_nil))))) pa_nil))) (pa_cons (pe_tup (pa_cons (pv 0) (pa_cons (pe_tup (pa_cons pe_str (pa_cons pe_int (pa_cons (pv 2) (pa_cons (pv 3) (pa_cons pe_non pa_nil)))))) pa_nil))) pa_nil))) (pa_cons pe_str pa_nil))))))), ?_⟩
    walk_at "rs"
    have dv : decide (V.int (t % (N.n : Int)) = V.int N.who) = ldr N t := by
      unfold ldr
      exact decide_eq_decide.mpr ⟨fun e => (V.int.inj e).symm, fun e => by rw [e]⟩
    refine ite2 (fun c1 => ?_) (fun c1 => ?_)
    · have nl : ¬ ldr N t = true := fun e => by
        rw [← dv] at e
        simp [of_decide_eq_true e] at c1
      have es : stepS N t = "propose" := if_neg nl
      have ed : due1 N t = [] := if_neg nl
      rw [es, ed] at k
      walk_at "rs"
      refine ⟨(by show 0 ≤ sizeLine; decide), fun D hD => ?_⟩
      walk_at "rs"
      refine ⟨(by show 2 ≤ sizeLine; decide), fun R hR => ?_⟩
      have s1 := same_new (o := .lst []) hD
      have s2 := same_new (o := .lst [V.ref D, V.str "propose"]) hR
      exact k R D [] _ (s1.trans s2) fun H9 k9 => ⟨k9 _ _ (s1.free hR) upd_same, k9 _ _ hD (s2 _ _ upd_same), .nil⟩
    · have nl : ldr N t = true := by
        rw [← dv]
        cases e : decide (V.int (t % (N.n : Int)) = V.int N.who) with
        | true => rfl
        | false =>
          refine absurd ?_ c1
          show (!decide _) = true
          rw [e]
          rfl
      have es : stepS N t = "prevote" := if_pos nl
      have ed : due1 N t = [⟨N.who, ⟨.prop, 0, t, some (blkT t), none⟩⟩, ⟨N.who, ⟨.pre, 0, t, some (blkT t), none⟩⟩] := if_pos nl
      rw [es, ed] at k
      walk_at "rs"
      refine ⟨nu_log ow, ?_⟩
      walk_at "rs"
      refine ⟨by rw [sizeLine_eq]; have : ("b0t" : Str).length = 3 := rfl; omega, ?_⟩
      walk_at "rs"
      refine ⟨(by show 4 ≤ sizeLine; decide), fun p1 hp1 => ?_⟩
      have s1 := same_new (o := .tup [V.str "proposal", V.int 0, V.int t, V.str (blkT t)]) hp1
      have g1 : SmAt (upd H p1 (.tup [V.str "proposal", V.int 0, V.int t, V.str (blkT t)])) p1 ⟨.prop, 0, t, some (blkT t), none⟩ := upd_same
      change (_ : Hp → Prop) (upd H p1 (.tup [V.str "proposal", V.int 0, V.int t, V.str (blkT t)]))
      generalize upd H p1 (.tup [V.str "proposal", V.int 0, V.int t, V.str (blkT t)]) = H1 at s1 g1 ⊢
      walk_at "rs"
      refine ⟨(by show 2 ≤ sizeLine; decide), fun l1 hl1 => ?_⟩
      have s2 := same_new (o := .tup [V.int N.who, V.ref p1]) hl1
      have g2 : LtAt (upd H1 l1 (.tup [V.int N.who, V.ref p1])) l1 ⟨N.who, ⟨.prop, 0, t, some (blkT t), none⟩⟩ := ⟨p1, upd_same, s2 _ _ g1⟩
      have h2l : upd H1 l1 (.tup [V.int N.who, V.ref p1]) l1 = some (.tup [V.int N.who, V.ref p1]) := upd_same
      generalize upd H1 l1 (.tup [V.int N.who, V.ref p1]) = H2 at s2 g2 h2l ⊢
      walk_at "rs"
      refine ⟨(by show 5 ≤ sizeLine; decide), fun p2 hp2 => ?_⟩
      have s3 := same_new (o := .tup [V.str "prevote", V.int 0, V.int t, V.str (blkT t), V.non]) hp2
      have g3 : SmAt (upd H2 p2 (.tup [V.str "prevote", V.int 0, V.int t, V.str (blkT t), V.non])) p2 ⟨.pre, 0, t, some (blkT t), none⟩ := upd_same
      change (_ : Hp → Prop) (upd H2 p2 (.tup [V.str "prevote", V.int 0, V.int t, V.str (blkT t), V.non]))
      generalize upd H2 p2 (.tup [V.str "prevote", V.int 0, V.int t, V.str (blkT t), V.non]) = H3 at s3 g3 ⊢
      walk_at "rs"
      refine ⟨(by show 2 ≤ sizeLine; decide), fun l2 hl2 => ?_⟩
      have s4 := same_new (o := .tup [V.int N.who, V.ref p2]) hl2
      have g4 : LtAt (upd H3 l2 (.tup [V.int N.who, V.ref p2])) l2 ⟨N.who, ⟨.pre, 0, t, some (blkT t), none⟩⟩ := ⟨p2, upd_same, s4 _ _ g3⟩
      have h4l : upd H3 l2 (.tup [V.int N.who, V.ref p2]) l2 = some (.tup [V.int N.who, V.ref p2]) := upd_same
      generalize upd H3 l2 (.tup [V.int N.who, V.ref p2]) = H4 at s4 g4 h4l ⊢
      walk_at "rs"
      refine ⟨(by show 2 ≤ sizeLine; decide), fun D hD => ?_⟩
      walk_at "rs"
      have s5 := same_new (o := .lst [V.ref l1, V.ref l2]) hD
      refine ⟨(by show 2 ≤ sizeLine; decide), fun R hR => ?_⟩
      have s6 := same_new (o := .lst [V.ref D, V.str "prevote"]) hR
      have s34 := s3.trans s4
      have s56 := s5.trans s6
      have s12 := s1.trans s2
      have s14 := s12.trans s34
      refine k R D [l1, l2] _ (s14.trans s56) fun H9 k9 => ⟨k9 _ _ ((s14.trans s5).free hR) upd_same, k9 _ _ (s14.free hD) (s6 _ _ upd_same), ?_⟩
      have a1 : SmAt H9 p1 ⟨.prop, 0, t, some (blkT t), none⟩ := k9 _ _ hp1 ((s34.trans s56) _ _ (s2 _ _ g1))
      have a3 : SmAt H9 p2 ⟨.pre, 0, t, some (blkT t), none⟩ := k9 _ _ (s12.free hp2) (s56 _ _ (s4 _ _ g3))
      have b2 := k9 _ _ (s1.free hl1) ((s34.trans s56) _ _ h2l)
      have b4 := k9 _ _ ((s12.trans s3).free hl2) (s56 _ _ h4l)
      exact (LsAt.nil.snoc ⟨p1, b2, a1⟩).snoc ⟨p2, b4, a3⟩
theorem okl_due {N : Ln} {t : Int} (t0 : 0 ≤ t) (t1 : t < 1000) : OkL (due1 N t) := fun x hx => by
  have ob : OkS (some (blkT t)) := fun y e => by cases e; exact strOk_blk t0 t1
  unfold due1 at hx
  split at hx
  · rcases List.mem_cons.mp hx with rfl | hx
    · exact ob
    · rw [List.mem_singleton.mp hx]
      exact ob
  · exact absurd hx List.not_mem_nil
theorem okl_next {N : Ln} {v : Lv} (t0 : 0 ≤ v.t) (t1 : v.t + 1 < 1000) : OkL (nextD N v) := fun x hx => by
  unfold nextD at hx
  split at hx
  · rw [List.mem_singleton.mp hx]
    exact fun y e => nomatch e
  · split at hx
    · rw [List.mem_singleton.mp hx]
      exact fun y e => nomatch e
    · exact okl_due (by omega) t1 x hx
def rk (st : Str) : Int := if st = "propose" then 0 else if st = "prevote" then 1 else 2
/-- what was laid since is kept too -/
def Ln.since (N : Ln) (H H8 : Hp) : Ln := { N with Hd := fun b => match H b with | none => H8 b | some _ => N.Hd b }
theorem since_old {N : Ln} {H H8 : Hp} {b : Addr} {o : HO} (e : H b = some o) : (N.since H H8).Hd b = N.Hd b := by
  show (match H b with | none => H8 b | some _ => N.Hd b) = _
  rw [e]
theorem since_new {N : Ln} {H H8 : Hp} {b : Addr} (e : H b = none) : (N.since H H8).Hd b = H8 b := by
  show (match H b with | none => H8 b | some _ => N.Hd b) = _
  rw [e]
theorem LnAt.since {CR CB CC : Addr} {N : Ln} {k : Nat} {H H8 : Hp} {v : Lv} (h : LnAt P w CR CB CC N k H v) (s : Same H H8) : LnAt P w CR CB CC (N.since H H8) k H8 v :=
  { h.same s with
    stab := fun b o n1 n2 e => by
      cases q : H b with
      | none => rwa [since_new q] at e
      | some x =>
        rw [since_old q] at e
        exact s _ _ (h.stab _ _ n1 n2 e)
    nse := (since_old h.sl).trans h.nse
    nS := fun b hb => by
      cases q : H b with
      | none => exact (h.bk.someS hb q).elim
      | some x => exact (since_old q).trans (h.nS b hb) }
theorem LnOk.since {CR CJ CP CH CC CL CB : Addr} {N : Ln} {k : Nat} {H H8 : Hp} {v : Lv} (o : LnOk CR CJ CP CH CC CL N) (h : LnAt P w CR CB CC N k H v) : LnOk CR CJ CP CH CC CL (N.since H H8) := by
  have up : ∀ {b : Addr} {x : HO}, b ≠ N.p → b ≠ N.L → N.Hd b = some x → (N.since H H8).Hd b = some x := fun n1 n2 e => (since_old (h.stab _ _ n1 n2 e)).trans e
  obtain ⟨dj, hj⟩ := o.jo
  obtain ⟨dp, hpo⟩ := o.po
  obtain ⟨fs, hp⟩ := o.hp
  obtain ⟨xs, hL⟩ := o.hL
  have notp : ∀ {b : Addr} {ys : List V}, N.Hd b = some (.lst ys) → b ≠ N.p := fun e q => by rw [q, hp] at e; cases e
  have notL : ∀ {b C dx : Addr} {fs : List (Str × V)}, N.Hd b = some (.ins C dx fs) → b ≠ N.L := fun e q => by rw [q, hL] at e; cases e
  exact { o with
    sc := fun b x e => by
      have e : N.Hc b = some x := e
      exact up (fun q => by rw [q, o.cp] at e; cases e) (fun q => by rw [q, o.cL] at e; cases e) (o.sc _ _ e)
    jo := ⟨dj, up o.jp (notL hj) hj⟩
    po := ⟨dp, up o.pp (notL hpo) hpo⟩
    wl := up (notp o.wl) o.wL o.wl
    pa := up (notp o.pa) o.paL o.pa
    hp := ⟨fs, (since_old h.ins).trans hp⟩
    hL := ⟨xs, (since_old h.hL).trans hL⟩
    npr := (since_old h.pr).trans o.npr }
def spLaw (K : PySem.W.Frag) : Sp := fun vs H Q _ => ∃ (a : Addr) (ns : List Int), vs = [.ref a] ∧ SqL K H a (ns.map V.int) ∧ ns.length ≤ 63 ∧ ∀ H', Q (.bl true) H'
theorem ok_law {f : Addr} {fd : FuncData} (F : Fun K "law" "law" s_law f fd) (TE : TxtE P K mg a) (T : Txt K mg a) : FnOk P w K mg base CX0 14 f fd ["script"] (spLaw K) := by
  obtain ⟨fd_Replica_init, G_Replica_init, b_Replica_init⟩ := ok_Replica_init (P := P) (w := w) (base := base) T
  obtain ⟨fd_law_entered, G_law_entered, b_law_entered⟩ := ok_law_entered (P := P) (w := w) (base := base) T
  obtain ⟨fd_Replica_start, G_Replica_start, b_Replica_start⟩ := ok_Replica_start (P := P) (w := w) (base := base) TE T
  obtain ⟨fd_Chain_init, G_Chain_init, b_Chain_init⟩ := ok_Chain_init (P := P) (w := w) (base := base) T
  obtain ⟨fd_Journal_init, G_Journal_init, b_Journal_init⟩ := ok_Journal_init (P := P) (w := w) (base := base) T
  obtain ⟨fd_Replica_timeout, G_Replica_timeout, b_Replica_timeout⟩ := ok_Replica_timeout (P := P) (w := w) (base := base) TE T
  obtain ⟨fd_law_cell, G_law_cell, b_law_cell⟩ := ok_law_cell (P := P) (w := w) (base := base) T
  refine F.ok sc_law (fun vs H Q E h => ?_) (fun cdv A outer s H vs Q E hr h => ?_)
  · obtain ⟨_, _, rfl, _⟩ := h
    rfl
  · obtain ⟨l, ns, rfl, hS, hl, k⟩ := h
    have k : ∀ H', Q (.bl true) H' := k
    refine ⟨_, (pss_cons (ps_set (i := 1) sc_law.nd rfl (Or.inl rfl) (pe_op op_add pe_int (pe_op op_mod (pe_callTy call_int1 (by rfl) T.n_int (by decide +kernel) (pa_cons (pe_call G_law_cell (hr.mono (by decide)) rfl T.d_law_cell.g T.d_law_cell.kp b_law_cell .nil pass0 (pa_cons (pv 0) (pa_cons pe_int pa_nil))) pa_nil)) pe_int)))
      (pss_cons (ps_set (i := 2) sc_law.nd rfl (Or.inl rfl) (pe_op op_mod (pe_op op_fdiv (pe_call G_law_cell (hr.mono (by decide)) rfl T.d_law_cell.g T.d_law_cell.kp b_law_cell .nil pass0 (pa_cons (pv 0) (pa_cons pe_int pa_nil))) pe_int) (pv 1)))
      (pss_cons (ps_set (i := 3) sc_law.nd rfl (Or.inl rfl) (pe_callB call_len_seq (by rfl) T.n_len PySem.boot_len (pa_cons (pv 0) pa_nil)))
      (C8.pss_cut (ps_if (pt_cmpR op_eq (pe_op op_mod (pe_op op_fdiv (pe_call G_law_cell (hr.mono (by decide)) rfl T.d_law_cell.g T.d_law_cell.kp b_law_cell .nil pass0 (pa_cons (pv 0) (pa_cons pe_int pa_nil))) pe_int) pe_int) pe_int (nomark _))
      (pss_one (ps_set (i := 3) sc_law.nd rfl (Or.inl rfl) (pe_op op_mod (pe_callTy call_int1 (by rfl) T.n_int (by decide +kernel) (pa_cons (pe_call G_law_cell (hr.mono (by decide)) rfl T.d_law_cell.g T.d_law_cell.kp b_law_cell .nil pass0 (pa_cons (pv 0) (pa_cons pe_int pa_nil))) pa_nil)) pe_int)))
      pss_nil)
      (pss_cons (ps_set (i := 4) sc_law.nd rfl (Or.inl rfl) (pe_make T.m_Replica G_Replica_init (hr.mono (by decide)) (by rfl) T.g_Replica b_Replica_init .nil pass0 (pa_cons (pv 2) (pa_cons (pe_make T.m_Chain G_Chain_init (hr.mono (by decide)) (by rfl) T.g_Chain b_Chain_init .nil pass0 (pa_cons (pe_op op_rep (pe_lst (pa_cons pe_int pa_nil)) (pv 1)) (pa_cons (pe_lst pa_nil) pa_nil))) (pa_cons (pe_make T.m_Journal G_Journal_init (hr.mono (by decide)) (by rfl) T.g_Journal b_Journal_init .nil pass0 (pa_cons (pv 2) pa_nil)) pa_nil)))))
      (pss_cons (ps_set (i := 5) sc_law.nd rfl (Or.inl rfl) pe_int)
      (pss_cons (ps_set (i := 6) sc_law.nd rfl (Or.inl rfl) (pe_call G_law_entered (hr.mono (by decide)) rfl T.d_law_entered.g T.d_law_entered.kp b_law_entered .nil pass0 (pa_cons (pv 2) (pa_cons (pv 1) (pa_cons pe_int pa_nil)))))
      (pss_cons (ps_set (i := 7) sc_law.nd rfl (Or.inl rfl) (pe_ix ix_list (pv 6) pe_int (fun _ _ => rfl)))
      (pss_cons (ps_set (i := 8) sc_law.nd rfl (Or.inl rfl) (pe_meth0 (pv 4) T.cl_Replica T.me_Replica_start G_Replica_start (hr.mono (by decide)) b_Replica_start .nil pass0))
      (pss_cons (ps_if (PW.pt (pw_or (pt_not (pt_val (pe_callB call_isi (by rfl) T.n_isinstance (by decide +kernel) (pa_cons (pv 8) (pa_cons (pe_bltn (v := .ty "list") (u := .type "list") (by rfl) T.n_list (by decide +kernel) rfl) pa_nil))))) (pw_or1 (pt_cmpR (op_neD hr.units) (pv 8) (pe_ix ix_list (pv 6) pe_int (fun _ _ => rfl)) (nomark _)))))
      (pss_one (ps_ret pe_bl))
      pss_nil)
      (pss_cons (ps_for PassesOwn.never rfl (pi_range1 rfl T.n_range (pa_cons (pv 3) pa_nil)) (pg_name (i := 9) sc_law.nd rfl (Or.inl rfl))
      (pss_cons (ps_set (i := 8) sc_law.nd rfl (Or.inl rfl) (pe_meth0 (pv 4) T.cl_Replica T.me_Replica_timeout G_Replica_timeout (hr.mono (by decide)) b_Replica_timeout .nil pass0))
        (C8.pss_cut (ps_if (pt_cmpR op_eq (pv 7) pe_str (nomark _))
        (pss_cons (ps_set (i := 7) sc_law.nd rfl (Or.inl rfl) pe_str)
          (pss_one (ps_set (i := 6) sc_law.nd rfl (Or.inl rfl) (pe_lst (pa_cons (pe_tup (pa_cons (pv 2) (pa_cons (pe_tup (pa_cons pe_str (pa_cons pe_int (pa_cons (pv 5) (pa_cons pe_non (pa_cons pe_non pa_nil)))))) pa_nil))) pa_nil)))))
        (pss_one (ps_if (pt_cmpR op_eq (pv 7) pe_str (nomark _))
          (pss_cons (ps_set (i := 7) sc_law.nd rfl (Or.inl rfl) pe_str)
            (pss_one (ps_set (i := 6) sc_law.nd rfl (Or.inl rfl) (pe_lst (pa_cons (pe_tup (pa_cons (pv 2) (pa_cons (pe_tup (pa_cons pe_str (pa_cons pe_int (pa_cons (pv 5) (pa_cons pe_non pa_nil))))) pa_nil))) pa_nil)))))
          (pss_cons (ps_set (i := 5) sc_law.nd rfl (Or.inl rfl) (pe_op op_add (pv 5) pe_int))
            (pss_cons (ps_set (i := 10) sc_law.nd rfl (Or.inl rfl) (pe_call G_law_entered (hr.mono (by decide)) rfl T.d_law_entered.g T.d_law_entered.kp b_law_entered .nil pass0 (pa_cons (pv 2) (pa_cons (pv 1) (pa_cons (pv 5) pa_nil)))))
            (pss_cons (ps_set (i := 6) sc_law.nd rfl (Or.inl rfl) (pe_ix ix_list (pv 10) pe_int (fun _ _ => rfl)))
            (pss_one (ps_set (i := 7) sc_law.nd rfl (Or.inl rfl) (pe_ix ix_list (pv 10) pe_int (fun _ _ => rfl))))))))))
        (pss_cons (ps_if (PW.pt (pw_or (pt_not (pt_val (pe_callB call_isi (by rfl) T.n_isinstance (by decide +kernel) (pa_cons (pv 8) (pa_cons (pe_bltn (v := .ty "list") (u := .type "list") (by rfl) T.n_list (by decide +kernel) rfl) pa_nil))))) (pw_or1 (pt_cmpR (op_neD hr.units) (pv 8) (pv 6) (nomark _)))))
        (pss_one (ps_ret pe_bl))
        pss_nil)
        (pss_one (ps_if (PW.pt (pw_or (pt_cmpR op_ne (pe_fld (pv 4) rfl) pe_int (nomark _)) (pw_or (pt_cmpR op_ne (pe_fld (pv 4) rfl) (pv 5) (nomark _)) (pw_or1 (pt_cmpR op_ne (pe_fld (pv 4) rfl) (pv 7) (nomark _))))))
        (pss_one (ps_ret pe_bl))
        pss_nil))))))
      (pss_one (ps_ret (pe_and (pe_cmpR (op_eqD hr.units) (pe_fld (pe_fld (pv 4) rfl) rfl) (pe_lst pa_nil) (nomark _)) (pe_one (pe_cmpR (op_eqD hr.units) (pe_fld (pv 4) rfl) (pe_lst pa_nil) (nomark _))))))))))))))))), ?_⟩
    walk_at "rs"
    refine ⟨l, ns, 0, rfl, hS, hl, by decide, ?_⟩
    walk_at "rs"
    walk_at "rs"
    refine ⟨l, ns, 0, rfl, hS, hl, by decide, ?_⟩
    have z0 := Int.emod_nonneg (ns.getD (Int.toNat 0) 0) (show (8 : Int) ≠ 0 by decide)
    have z1 := Int.emod_lt_of_pos (ns.getD (Int.toNat 0) 0) (show (0 : Int) < 8 by decide)
    have ezn : ∃ n : Nat, 2 + ns.getD (Int.toNat 0) 0 % 8 = (n : Int) ∧ 2 ≤ n ∧ n ≤ 9 := ⟨(2 + ns.getD (Int.toNat 0) 0 % 8).toNat, by omega, by omega, by omega⟩
    obtain ⟨n, en, n2, n9⟩ := ezn
    have p0 : (0 : Int) < 2 + ns.getD (Int.toNat 0) 0 % 8 := by omega
    have w0 := Int.emod_nonneg (ns.getD (Int.toNat 0) 0 / 8) (show (2 + ns.getD (Int.toNat 0) 0 % 8 : Int) ≠ 0 by omega)
    have w1 := Int.emod_lt_of_pos (ns.getD (Int.toNat 0) 0 / 8) p0
    walk_at "rs"
    refine ⟨l, _, rfl, .inl hS, ?_⟩
    rw [List.length_map]
    walk_at "rs"
    refine ⟨fun σ H1 => ∃ (cnt : Int) (whoI : Int), σ = [some (.ref l), some (.int n), some (.int whoI), some (.int cnt), none, none, none, none, none, none, none] ∧ H1 = H ∧ 0 ≤ cnt ∧ cnt < 100 ∧ 0 ≤ whoI ∧ whoI < n, ?_, ?_⟩
    · walk_at "rs"
      refine ⟨l, ns, 0, rfl, hS, hl, by decide, ?_⟩
      walk_at "rs"
      refine ite2 (fun c1 => ?_) (fun c1 => ?_)
      · walk_at "rs"
        refine ⟨l, ns, 1, rfl, hS, hl, by decide, ?_⟩
        walk_at "rs"
        have q0 := Int.emod_nonneg (ns.getD (Int.toNat 1) 0) (show (100 : Int) ≠ 0 by decide)
        have q1 := Int.emod_lt_of_pos (ns.getD (Int.toNat 1) 0) (show (0 : Int) < 100 by decide)
        refine ⟨_, _, ?_, rfl, q0, q1, w0, by rw [← en]; exact w1⟩
        rw [← en]
        rfl
      · refine ⟨(ns.length : Int), _, ?_, rfl, by omega, by omega, w0, by rw [← en]; exact w1⟩
        rw [← en]
        rfl
    rintro σ H1 ⟨cnt, who, rfl, rfl, c0, c1, w0, w1⟩
    walk_at "rs"
    refine ⟨(by show 1 ≤ sizeLine; decide), fun o1 ho1 => ?_⟩
    have s1 := same_new (o := .lst [V.int 1]) ho1
    have g1 : upd H1 o1 (.lst [V.int 1]) o1 = some (.lst [V.int 1]) := upd_same
    generalize upd H1 o1 (.lst [V.int 1]) = H2 at s1 g1 ⊢
    walk_at "rs"
    refine ⟨o1, _, _, rfl, rfl, g1, by omega, by omega, (by rw [sizeLine_eq]; show 1 * ((n : Int)).toNat ≤ _; omega), fun wl hwl => ?_⟩
    have s2 := same_upd (o := .lst (List.replicate ((n : Int)).toNat [V.int 1]).flatten) s1 (s1.free hwl)
    have gwl : upd H2 wl (.lst (List.replicate ((n : Int)).toNat [V.int 1]).flatten) wl = some (.lst ((List.replicate n 1).map V.int)) := by
      rw [upd_same, Int.toNat_natCast]
      simp
    generalize upd H2 wl (.lst (List.replicate ((n : Int)).toNat [V.int 1]).flatten) = H3 at s2 gwl ⊢
    walk_at "rs"
    refine ⟨(by show 0 ≤ sizeLine; decide), fun gl hgl => ?_⟩
    have s4 := same_new (o := .lst []) hgl
    have ggl : upd H3 gl (.lst []) gl = some (.lst []) := upd_same
    have gwl := s4 _ _ gwl
    generalize upd H3 gl (.lst []) = H4 at s4 ggl gwl ⊢
    walk_at "rs"
    intro ch dc hch hdc ndc
    have sM : Same H4 (upd (upd H4 dc (.own ch)) ch (.ins a.C_Chain dc [])) := same_upd (same_new hdc) hch
    refine ⟨ch, dc, wl, gl, List.replicate n 1, 0, 0, rfl, upd_same, SqL.of (sM _ _ gwl), goodW_ones n2 n9, SqL.of (sM _ _ ggl), fun q c d H5 cn nB nR nD nL keep => ⟨rfl, ?_⟩⟩
    clear s1 s2 s4 sM g1 ggl gwl ho1 hwl hgl nB nR nD nL keep hch hdc ndc
    walk_at "rs"
    intro jo dj hjo hdj ndj
    have sJ : Same H5 (upd (upd H5 dj (.own jo)) jo (.ins a.C_Journal dj [])) := same_upd (same_new hdj) hjo
    refine ⟨jo, dj, who, rfl, upd_same, fun L H6 hL hj6 hL6 keep6 => ⟨rfl, ?_⟩⟩
    have s6 : Same H5 H6 := fun b o e => keep6 b o (fun q => by rw [q, hjo] at e; cases e) (sJ _ _ e)
    have nL5 := sJ.free hL
    walk_at "rs"
    intro p dx hp hdx ndx
    have sP : Same H6 (upd (upd H6 dx (.own p)) p (.ins a.C_Replica dx [])) := same_upd (same_new hdx) hp
    have jop : jo ≠ p := fun e => by rw [← e, hj6] at hp; cases hp
    refine ⟨p, dx, ch, jo, L, c, d, who, q, n, H5, rfl, upd_same, cn, s6.trans sP, s6.free hp, nL5, ⟨dj, sP _ _ hj6⟩, sP _ _ hL6, jop, n2, n9, w0, w1, fun N v H7 eN eNn ew o h ht hm hk _ => ⟨rfl, ?_⟩⟩
    subst eN eNn ew
    clear s6 sP sJ cn hjo hdj ndj hj6 hL6 hL keep6 hp hdx ndx jop nL5
    walk_at "rs"
    refine ⟨N, 0, rfl, n2, Int.le_refl _, by decide, fun R D ds H8 s8 hnew => ?_⟩
    obtain ⟨hR, hD, hds⟩ := hnew H8 fun _ _ _ e => e
    have h8 := h.since s8
    have o8 : LO a (N.since H7 H8) := o.since h
    walk_at "rs"
    refine ⟨R, _, _, _, rfl, rfl, SqL.of hR, rfl, ?_⟩
    walk_at "rs"
    refine ⟨N.p, N.dx, _, rfl, h8.ins, rfl, ?_⟩
    walk_at "rs"
    refine ⟨N.since H7 H8, 0, v, rfl, o8, h8, by decide, ht, hm, hk, fun v1 H9 h9 idle t9 st9 xs9 => ?_⟩
    obtain ⟨hR, hD, hds⟩ := hnew H9 fun b x e1 e2 => h9.stab b x (fun q => by have := h.ins; rw [show b = N.p from q] at e1; rw [e1] at this; cases this) (fun q => by have := h.hL; rw [show b = N.L from q] at e1; rw [e1] at this; cases this) ((since_new e1).trans e2)
    have xs9 : v1.xs = due1 N 0 := xs9
    clear h8 hnew
    walk_at "rs"
    refine ⟨.ref v1.se, .ty "list", .type "list", .type "list", true, rfl, .ty _, .base (.lst h9.sl), kit_ty (by decide +kernel), ?_⟩
    refine ⟨_, rfl, ?_⟩
    refine ite2 (fun c => absurd c (by decide)) (fun _ => ?_)
    walk_at "rs"
    refine ⟨R, _, _, _, rfl, rfl, SqL.of hR, rfl, ?_⟩
    have hl9 := h9.hl
    rw [xs9] at hl9
    have okd := okl_due (N := N) (t := 0) (Int.le_refl _) (by decide)
    refine ⟨.list ((due1 N 0).map Lt.dat), .list ((due1 N 0).map Lt.dat), .lst (SqL.of h9.sl) (dp_lts hl9), .lst (SqL.of hD) (dp_lts hds), shaped_lts okd, shaped_lts okd, ?_⟩
    rw [eqv_lts okd]
    refine ⟨_, rfl, ?_⟩
    refine ite2 (fun c => absurd c (by decide)) (fun _ => ?_)
    have st9 : v1.st = stepS N 0 := st9
    rw [← st9]
    have p1 : ("prevote" : Str) ≠ "propose" := by decide +kernel
    have p2 : ("precommit" : Str) ≠ "propose" := by decide +kernel
    have p3 : ("precommit" : Str) ≠ "prevote" := by decide +kernel
    have r9 : 2 * v1.t + rk v1.st ≤ ((0 : Nat) : Int) + 1 := by
      rw [t9, st9]
      unfold rk stepS
      by_cases c : ldr N 0 = true
      · rw [if_pos c, if_neg p1, if_pos rfl]
        decide
      · rw [if_neg c, if_pos rfl]
        decide
    clear hR hD hds hl9 xs9 okd st9 s8 h ht hm hk o
    have hr2 := hr
    obtain ⟨N2, eN2⟩ : ∃ N2, N2 = N.since H7 H8 := ⟨_, rfl⟩
    have ep : N.p = N2.p := by rw [eN2]; rfl
    have enn : N.n = N2.n := by rw [eN2]; rfl
    have ew : N.who = N2.who := by rw [eN2]; rfl
    rw [← eN2] at h9 idle o8
    rw [ep, enn, ew]
    clear eN2 ep enn ew n2 n9 w0 w1 hr2
    walk_at "rs"
    refine ⟨by omega, by omega, ?_⟩
    refine for_range (lo := 0) (n := cnt.toNat) (fun i σ Hx => ∃ (v : Lv) (v6 v9 v10 : Option V) (to : V), σ = [some (.ref l), some (.int N2.n), some (.int N2.who), some (.int cnt), some (.ref N2.p), some (.int v.t), v6, some (.str v.st), some to, v9, v10] ∧ LA P w a N2 (4 * (i + 1)) Hx v ∧ Idle N2 v ∧ 2 * v.t + rk v.st ≤ (i : Int) + 1)
      ⟨v1, _, _, _, _, by rw [t9]; rfl, h9, idle, r9⟩ ?_ ?_
    · rintro i σ Hx hi ⟨v, v6, v9, v10, to, rfl, h, idle, r⟩
      have hi : i < 100 := by omega
      have t0 := h.t0
      have rk0 : 0 ≤ rk v.st := by unfold rk; split; decide; split <;> decide
      walk_at "rs"
      refine ⟨N2.p, N2.dx, _, rfl, h.ins, rfl, ?_⟩
      walk_at "rs"
      refine ⟨N2, 4 * (i + 1), v, rfl, o8, h, idle, by omega, by omega, fun v' H2 h2 idle2 et es ex => ?_⟩
      walk_at "rs"
      refine ⟨fun σ H3 => ∃ (D : Addr) (ds : List Addr) (v10 : Option V), σ = [some (.ref l), some (.int N2.n), some (.int N2.who), some (.int cnt), some (.ref N2.p), some (.int v'.t), some (.ref D), some (.str v'.st), some (.ref v'.se), some (.int (0 + (i : Int))), v10] ∧ Same H2 H3 ∧ H3 D = some (.lst (ds.map V.ref)) ∧ LsAt H3 ds (nextD N2 v), ?_, ?_⟩
      · walk_at "rs"
        refine ite2 (fun c1 => ?_) (fun c1 => ?_)
        · have c1 : v.st = "propose" := V.str.inj (of_decide_eq_true c1)
          have e1 : nextT N2 v = v.t := if_pos (.inl c1)
          have e2 : nextS N2 v = "prevote" := if_pos c1
          have e3 : nextD N2 v = [⟨N2.who, ⟨.pre, 0, v.t, none, none⟩⟩] := if_pos c1
          rw [e1] at et
          rw [e2] at es
          rw [e3]
          walk_at "rs"
          refine ⟨(by show 5 ≤ sizeLine; decide), fun q1 hq1 => ?_⟩
          have s1 := same_new (o := .tup [V.str "prevote", V.int 0, V.int v.t, V.non, V.non]) hq1
          have g1 : SmAt (upd H2 q1 (.tup [V.str "prevote", V.int 0, V.int v.t, V.non, V.non])) q1 ⟨.pre, 0, v.t, none, none⟩ := upd_same
          generalize upd H2 q1 (.tup [V.str "prevote", V.int 0, V.int v.t, V.non, V.non]) = H3 at s1 g1 ⊢
          walk_at "rs"
          refine ⟨(by show 2 ≤ sizeLine; decide), fun q2 hq2 => ?_⟩
          have s2 := same_new (o := .tup [V.int N2.who, V.ref q1]) hq2
          have g2 : LtAt (upd H3 q2 (.tup [V.int N2.who, V.ref q1])) q2 ⟨N2.who, ⟨.pre, 0, v.t, none, none⟩⟩ := ⟨q1, upd_same, s2 _ _ g1⟩
          generalize upd H3 q2 (.tup [V.int N2.who, V.ref q1]) = H4 at s2 g2 ⊢
          walk_at "rs"
          refine ⟨(by show 1 ≤ sizeLine; decide), fun D hD => ?_⟩
          have s3 := same_new (o := .lst [V.ref q2]) hD
          refine ⟨D, [q2], v10, ?_, s1.trans (s2.trans s3), upd_same, LsAt.nil.snoc (g2.same s3)⟩
          rw [et, es]
          rfl
        · have c1 : v.st ≠ "propose" := fun e => c1 (decide_eq_true (congrArg V.str e))
          walk_at "rs"
          refine ite2 (fun c2 => ?_) (fun c2 => ?_)
          · have c2 : v.st = "prevote" := V.str.inj (of_decide_eq_true c2)
            have e1 : nextT N2 v = v.t := if_pos (.inr c2)
            have e2 : nextS N2 v = "precommit" := (if_neg c1).trans (if_pos c2)
            have e3 : nextD N2 v = [⟨N2.who, ⟨.com, 0, v.t, none, none⟩⟩] := (if_neg c1).trans (if_pos c2)
            rw [e1] at et
            rw [e2] at es
            rw [e3]
            walk_at "rs"
            refine ⟨(by show 4 ≤ sizeLine; decide), fun q1 hq1 => ?_⟩
            have s1 := same_new (o := .tup [V.str "precommit", V.int 0, V.int v.t, V.non]) hq1
            have g1 : SmAt (upd H2 q1 (.tup [V.str "precommit", V.int 0, V.int v.t, V.non])) q1 ⟨.com, 0, v.t, none, none⟩ := upd_same
            generalize upd H2 q1 (.tup [V.str "precommit", V.int 0, V.int v.t, V.non]) = H3 at s1 g1 ⊢
            walk_at "rs"
            refine ⟨(by show 2 ≤ sizeLine; decide), fun q2 hq2 => ?_⟩
            have s2 := same_new (o := .tup [V.int N2.who, V.ref q1]) hq2
            have g2 : LtAt (upd H3 q2 (.tup [V.int N2.who, V.ref q1])) q2 ⟨N2.who, ⟨.com, 0, v.t, none, none⟩⟩ := ⟨q1, upd_same, s2 _ _ g1⟩
            generalize upd H3 q2 (.tup [V.int N2.who, V.ref q1]) = H4 at s2 g2 ⊢
            walk_at "rs"
            refine ⟨(by show 1 ≤ sizeLine; decide), fun D hD => ?_⟩
            have s3 := same_new (o := .lst [V.ref q2]) hD
            refine ⟨D, [q2], v10, ?_, s1.trans (s2.trans s3), upd_same, LsAt.nil.snoc (g2.same s3)⟩
            rw [et, es]
            rfl
          · have c2 : v.st ≠ "prevote" := fun e => c2 (decide_eq_true (congrArg V.str e))
            have c12 : ¬ (v.st = "propose" ∨ v.st = "prevote") := fun e => e.elim c1 c2
            have e1 : nextT N2 v = v.t + 1 := if_neg c12
            have e2 : nextS N2 v = stepS N2 (v.t + 1) := (if_neg c1).trans (if_neg c2)
            have e3 : nextD N2 v = due1 N2 (v.t + 1) := (if_neg c1).trans (if_neg c2)
            rw [e1] at et
            rw [e2] at es
            rw [e3]
            walk_at "rs"
            refine ⟨N2, v.t + 1, rfl, o8.n2, by omega, by omega, fun R3 D3 ds3 H3 s3 hnew => ?_⟩
            obtain ⟨hR3, hD3, hds3⟩ := hnew H3 fun _ _ _ e => e
            walk_at "rs"
            refine ⟨R3, _, _, _, rfl, rfl, SqL.of hR3, rfl, ?_⟩
            walk_at "rs"
            refine ⟨R3, _, _, _, rfl, rfl, SqL.of hR3, rfl, ?_⟩
            refine ⟨D3, ds3, some (.ref R3), ?_, s3, hD3, hds3⟩
            rw [et, es]
            rfl
      rintro σ H3 ⟨D, ds, v10, rfl, s3, hD, hds⟩
      have h3 := h2.same s3
      have hl3 := h3.hl
      rw [ex] at hl3
      have okd := okl_next (N := N2) (v := v) t0 (by omega)
      walk_at "rs"
      refine ⟨.ref v'.se, .ty "list", .type "list", .type "list", true, rfl, .ty _, .base (.lst h3.sl), kit_ty (by decide +kernel), ?_⟩
      refine ⟨_, rfl, ?_⟩
      refine ite2 (fun c => absurd c (by decide)) (fun _ => ?_)
      walk_at "rs"
      refine ⟨.list ((nextD N2 v).map Lt.dat), .list ((nextD N2 v).map Lt.dat), .lst (SqL.of h3.sl) (dp_lts hl3), .lst (SqL.of hD) (dp_lts hds), shaped_lts okd, shaped_lts okd, ?_⟩
      rw [eqv_lts okd]
      refine ⟨_, rfl, ?_⟩
      refine ite2 (fun c => absurd c (by decide)) (fun _ => ?_)
      walk_at "rs"
      refine ⟨N2.p, _, N2.dx, _, .int 0, rfl, h3.ins, T.cl_Replica, T.a_Replica_height, rfl, ?_⟩
      walk_at "rs"
      refine ⟨N2.p, _, N2.dx, _, .int v'.t, rfl, h3.ins, T.cl_Replica, T.a_Replica_turn, rfl, ?_⟩
      walk_at "rs"
      refine ite2 (fun c => absurd c (by simp)) (fun _ => ?_)
      walk_at "rs"
      refine ⟨N2.p, _, N2.dx, _, .str v'.st, rfl, h3.ins, T.cl_Replica, T.a_Replica_step, rfl, ?_⟩
      walk_at "rs"
      refine ite2 (fun c => absurd c (by simp)) (fun _ => ?_)
      refine ⟨v', _, _, _, _, rfl, h3.mono (by omega), idle2, ?_⟩
      rw [et, es]
      have q1 : rk "prevote" = 1 := by unfold rk; rw [if_neg p1, if_pos rfl]
      have q2 : rk "precommit" = 2 := by unfold rk; rw [if_neg p2, if_neg p3]
      have q0 : rk "propose" = 0 := if_pos rfl
      have := idle.st
      rcases this with e | e | e
      · rw [show nextT N2 v = v.t from if_pos (.inl e), show nextS N2 v = "prevote" from if_pos e, q1]
        rw [e, q0] at r
        omega
      · rw [show nextT N2 v = v.t from if_pos (.inr e), show nextS N2 v = "precommit" from (if_neg (by rw [e]; exact p1)).trans (if_pos e), q2]
        rw [e, q1] at r
        omega
      · have a1 : v.st ≠ "propose" := by rw [e]; exact p2
        have a2 : v.st ≠ "prevote" := by rw [e]; exact p3
        rw [show nextT N2 v = v.t + 1 from if_neg fun z => z.elim a1 a2, show nextS N2 v = stepS N2 (v.t + 1) from (if_neg a1).trans (if_neg a2)]
        rw [e, q2] at r
        have : rk (stepS N2 (v.t + 1)) ≤ 1 := by
          unfold stepS
          split
          · rw [q1]; decide
          · rw [q0]; decide
        omega
    · rintro σ Hx ⟨v, v6, v9, v10, to, rfl, h, idle, r⟩
      walk_at "rs"
      have cn := h.chn o8
      obtain ⟨dxc, hch⟩ := cn.ins
      obtain ⟨xL, hLd⟩ := o8.hL
      obtain ⟨fsp, hpd⟩ := o8.hp
      have hpa := h.stab _ _ (fun q => by have := o8.pa; rw [q, hpd] at this; cases this) o8.paL o8.pa
      refine ⟨N2.p, _, N2.dx, _, .ref N2.ch, rfl, h.ins, T.cl_Replica, T.a_Replica_chain, rfl, ?_⟩
      refine ⟨N2.ch, _, dxc, _, .ref N2.q.B, rfl, hch, T.cl_Chain, T.a_Chain_blocks, rfl, ?_⟩
      walk_at "rs"
      refine ⟨(by show 0 ≤ sizeLine; decide), fun E1 hE1 => ?_⟩
      have s1 := same_new (o := .lst []) hE1
      have gE : upd Hx E1 (.lst []) E1 = some (.lst []) := upd_same
      generalize upd Hx E1 (.lst []) = H2 at s1 gE ⊢
      refine ⟨.list [], .list [], .lst (SqL.of (s1 _ _ cn.hB)) .nil, .lst (SqL.of gE) .nil, rfl, rfl, ?_⟩
      rw [show PyData.eqv (.list []) (.list []) = true from rfl]
      refine ⟨_, rfl, ?_⟩
      refine ite2 (fun _ => ?_) (fun c => absurd rfl c)
      walk_at "rs"
      refine ⟨N2.p, _, N2.dx, _, .ref N2.pa, rfl, s1 _ _ h.ins, T.cl_Replica, T.a_Replica_papers, rfl, ?_⟩
      walk_at "rs"
      refine ⟨(by show 0 ≤ sizeLine; decide), fun E2 hE2 => ?_⟩
      have s2 := same_new (o := .lst []) hE2
      have gE2 : upd H2 E2 (.lst []) E2 = some (.lst []) := upd_same
      generalize upd H2 E2 (.lst []) = H3 at s2 gE2 ⊢
      refine ⟨.list [], .list [], .lst (SqL.of (s2 _ _ (s1 _ _ hpa))) .nil, .lst (SqL.of gE2) .nil, rfl, rfl, ?_⟩
      exact k H3

end

theorem all_mk {l : PySem.W.OpenLaw} {w : World} {K : PySem.W.Frag} {h : Heap} {mg : Str → Option Value} {fa : Addr} (X : K.In h) (G : h.Ns mainGlobals mg) (hfa : mg "law" = some (.ref fa))
    {t_KIND : Tok} {t_HEIGHT : Tok} {t_TURN : Tok} {t_BLOCK : Tok} {t_LEAN : Tok} {t_MOST_MEMBERS : Tok} {t_MOST_WEIGHT : Tok} {C_Committee : Addr} {C_Book : Addr} {C_Journal : Addr} {C_Ledger : Addr} {C_Chain : Addr} {C_Pool : Addr} {C_Replica : Addr} {f_proposal : Addr} {od_proposal an_proposal : Option Addr} {sl_proposal : Array (Option Value)} {oc_proposal kV_proposal dc_proposal pm_proposal cd_proposal ct_proposal : Value} {f_prevote : Addr} {od_prevote an_prevote : Option Addr} {sl_prevote : Array (Option Value)} {oc_prevote kV_prevote dc_prevote pm_prevote cd_prevote ct_prevote : Value} {f_precommit : Addr} {od_precommit an_precommit : Option Addr} {sl_precommit : Array (Option Value)} {oc_precommit kV_precommit dc_precommit pm_precommit cd_precommit ct_precommit : Value} {f_is_vote : Addr} {od_is_vote an_is_vote : Option Addr} {sl_is_vote : Array (Option Value)} {oc_is_vote kV_is_vote dc_is_vote pm_is_vote cd_is_vote ct_is_vote : Value} {f_clash : Addr} {od_clash an_clash : Option Addr} {sl_clash : Array (Option Value)} {oc_clash kV_clash dc_clash pm_clash cd_clash ct_clash : Value} {f_abandons : Addr} {od_abandons an_abandons : Option Addr} {sl_abandons : Array (Option Value)} {oc_abandons kV_abandons dc_abandons pm_abandons cd_abandons ct_abandons : Value} {f_first_wrong : Addr} {od_first_wrong an_first_wrong : Option Addr} {sl_first_wrong : Array (Option Value)} {oc_first_wrong kV_first_wrong dc_first_wrong pm_first_wrong cd_first_wrong ct_first_wrong : Value} {f_Committee_init : Addr} {od_Committee_init an_Committee_init : Option Addr} {sl_Committee_init : Array (Option Value)} {oc_Committee_init kV_Committee_init dc_Committee_init pm_Committee_init cd_Committee_init ct_Committee_init : Value} {f_Committee_weight_of : Addr} {od_Committee_weight_of an_Committee_weight_of : Option Addr} {sl_Committee_weight_of : Array (Option Value)} {oc_Committee_weight_of kV_Committee_weight_of dc_Committee_weight_of pm_Committee_weight_of cd_Committee_weight_of ct_Committee_weight_of : Value} {f_Committee_is_quorum : Addr} {od_Committee_is_quorum an_Committee_is_quorum : Option Addr} {sl_Committee_is_quorum : Array (Option Value)} {oc_Committee_is_quorum kV_Committee_is_quorum dc_Committee_is_quorum pm_Committee_is_quorum cd_Committee_is_quorum ct_Committee_is_quorum : Value} {f_Committee_leader : Addr} {od_Committee_leader an_Committee_leader : Option Addr} {sl_Committee_leader : Array (Option Value)} {oc_Committee_leader kV_Committee_leader dc_Committee_leader pm_Committee_leader cd_Committee_leader ct_Committee_leader : Value} {f_votes_by_turn : Addr} {od_votes_by_turn an_votes_by_turn : Option Addr} {sl_votes_by_turn : Array (Option Value)} {oc_votes_by_turn kV_votes_by_turn dc_votes_by_turn pm_votes_by_turn cd_votes_by_turn ct_votes_by_turn : Value} {f_counts : Addr} {od_counts an_counts : Option Addr} {sl_counts : Array (Option Value)} {oc_counts kV_counts dc_counts pm_counts cd_counts ct_counts : Value} {f_certified_turns : Addr} {od_certified_turns an_certified_turns : Option Addr} {sl_certified_turns : Array (Option Value)} {oc_certified_turns kV_certified_turns dc_certified_turns pm_certified_turns cd_certified_turns ct_certified_turns : Value} {f_committed_turns : Addr} {od_committed_turns an_committed_turns : Option Addr} {sl_committed_turns : Array (Option Value)} {oc_committed_turns kV_committed_turns dc_committed_turns pm_committed_turns cd_committed_turns ct_committed_turns : Value} {f_missing : Addr} {od_missing an_missing : Option Addr} {sl_missing : Array (Option Value)} {oc_missing kV_missing dc_missing pm_missing cd_missing ct_missing : Value} {f_Book_init : Addr} {od_Book_init an_Book_init : Option Addr} {sl_Book_init : Array (Option Value)} {oc_Book_init kV_Book_init dc_Book_init pm_Book_init cd_Book_init ct_Book_init : Value} {f_Book_belongs : Addr} {od_Book_belongs an_Book_belongs : Option Addr} {sl_Book_belongs : Array (Option Value)} {oc_Book_belongs kV_Book_belongs dc_Book_belongs pm_Book_belongs cd_Book_belongs ct_Book_belongs : Value} {f_Book_enter : Addr} {od_Book_enter an_Book_enter : Option Addr} {sl_Book_enter : Array (Option Value)} {oc_Book_enter kV_Book_enter dc_Book_enter pm_Book_enter cd_Book_enter ct_Book_enter : Value} {f_Book_add : Addr} {od_Book_add an_Book_add : Option Addr} {sl_Book_add : Array (Option Value)} {oc_Book_add kV_Book_add dc_Book_add pm_Book_add cd_Book_add ct_Book_add : Value} {f_Book_latest : Addr} {od_Book_latest an_Book_latest : Option Addr} {sl_Book_latest : Array (Option Value)} {oc_Book_latest kV_Book_latest dc_Book_latest pm_Book_latest cd_Book_latest ct_Book_latest : Value} {f_Journal_init : Addr} {od_Journal_init an_Journal_init : Option Addr} {sl_Journal_init : Array (Option Value)} {oc_Journal_init kV_Journal_init dc_Journal_init pm_Journal_init cd_Journal_init ct_Journal_init : Value} {f_Journal_sign : Addr} {od_Journal_sign an_Journal_sign : Option Addr} {sl_Journal_sign : Array (Option Value)} {oc_Journal_sign kV_Journal_sign dc_Journal_sign pm_Journal_sign cd_Journal_sign ct_Journal_sign : Value} {f_Journal_last_turn : Addr} {od_Journal_last_turn an_Journal_last_turn : Option Addr} {sl_Journal_last_turn : Array (Option Value)} {oc_Journal_last_turn kV_Journal_last_turn dc_Journal_last_turn pm_Journal_last_turn cd_Journal_last_turn ct_Journal_last_turn : Value} {f_Ledger_init : Addr} {od_Ledger_init an_Ledger_init : Option Addr} {sl_Ledger_init : Array (Option Value)} {oc_Ledger_init kV_Ledger_init dc_Ledger_init pm_Ledger_init cd_Ledger_init ct_Ledger_init : Value} {f_first_ledger : Addr} {od_first_ledger an_first_ledger : Option Addr} {sl_first_ledger : Array (Option Value)} {oc_first_ledger kV_first_ledger dc_first_ledger pm_first_ledger cd_first_ledger ct_first_ledger : Value} {f_Chain_init : Addr} {od_Chain_init an_Chain_init : Option Addr} {sl_Chain_init : Array (Option Value)} {oc_Chain_init kV_Chain_init dc_Chain_init pm_Chain_init cd_Chain_init ct_Chain_init : Value} {f_Chain_height : Addr} {od_Chain_height an_Chain_height : Option Addr} {sl_Chain_height : Array (Option Value)} {oc_Chain_height kV_Chain_height dc_Chain_height pm_Chain_height cd_Chain_height ct_Chain_height : Value} {f_Chain_committee : Addr} {od_Chain_committee an_Chain_committee : Option Addr} {sl_Chain_committee : Array (Option Value)} {oc_Chain_committee kV_Chain_committee dc_Chain_committee pm_Chain_committee cd_Chain_committee ct_Chain_committee : Value} {f_block_of : Addr} {od_block_of an_block_of : Option Addr} {sl_block_of : Array (Option Value)} {oc_block_of kV_block_of dc_block_of pm_block_of cd_block_of ct_block_of : Value} {f_Pool_init : Addr} {od_Pool_init an_Pool_init : Option Addr} {sl_Pool_init : Array (Option Value)} {oc_Pool_init kV_Pool_init dc_Pool_init pm_Pool_init cd_Pool_init ct_Pool_init : Value} {f_Pool_block : Addr} {od_Pool_block an_Pool_block : Option Addr} {sl_Pool_block : Array (Option Value)} {oc_Pool_block kV_Pool_block dc_Pool_block pm_Pool_block cd_Pool_block ct_Pool_block : Value} {f_Replica_init : Addr} {od_Replica_init an_Replica_init : Option Addr} {sl_Replica_init : Array (Option Value)} {oc_Replica_init kV_Replica_init dc_Replica_init pm_Replica_init cd_Replica_init ct_Replica_init : Value} {f_Replica_start : Addr} {od_Replica_start an_Replica_start : Option Addr} {sl_Replica_start : Array (Option Value)} {oc_Replica_start kV_Replica_start dc_Replica_start pm_Replica_start cd_Replica_start ct_Replica_start : Value} {f_Replica_timeout : Addr} {od_Replica_timeout an_Replica_timeout : Option Addr} {sl_Replica_timeout : Array (Option Value)} {oc_Replica_timeout kV_Replica_timeout dc_Replica_timeout pm_Replica_timeout cd_Replica_timeout ct_Replica_timeout : Value} {f_Replica_begin_call : Addr} {od_Replica_begin_call an_Replica_begin_call : Option Addr} {sl_Replica_begin_call : Array (Option Value)} {oc_Replica_begin_call kV_Replica_begin_call dc_Replica_begin_call pm_Replica_begin_call cd_Replica_begin_call ct_Replica_begin_call : Value} {f_Replica_go_on : Addr} {od_Replica_go_on an_Replica_go_on : Option Addr} {sl_Replica_go_on : Array (Option Value)} {oc_Replica_go_on kV_Replica_go_on dc_Replica_go_on pm_Replica_go_on cd_Replica_go_on ct_Replica_go_on : Value} {f_Replica_do_first : Addr} {od_Replica_do_first an_Replica_do_first : Option Addr} {sl_Replica_do_first : Array (Option Value)} {oc_Replica_do_first kV_Replica_do_first dc_Replica_do_first pm_Replica_do_first cd_Replica_do_first ct_Replica_do_first : Value} {f_Replica_reach : Addr} {od_Replica_reach an_Replica_reach : Option Addr} {sl_Replica_reach : Array (Option Value)} {oc_Replica_reach kV_Replica_reach dc_Replica_reach pm_Replica_reach cd_Replica_reach ct_Replica_reach : Value} {f_Replica_enter_first_turn : Addr} {od_Replica_enter_first_turn an_Replica_enter_first_turn : Option Addr} {sl_Replica_enter_first_turn : Array (Option Value)} {oc_Replica_enter_first_turn kV_Replica_enter_first_turn dc_Replica_enter_first_turn pm_Replica_enter_first_turn cd_Replica_enter_first_turn ct_Replica_enter_first_turn : Value} {f_Replica_enter : Addr} {od_Replica_enter an_Replica_enter : Option Addr} {sl_Replica_enter : Array (Option Value)} {oc_Replica_enter kV_Replica_enter dc_Replica_enter pm_Replica_enter cd_Replica_enter ct_Replica_enter : Value} {f_Replica_choice : Addr} {od_Replica_choice an_Replica_choice : Option Addr} {sl_Replica_choice : Array (Option Value)} {oc_Replica_choice kV_Replica_choice dc_Replica_choice pm_Replica_choice cd_Replica_choice ct_Replica_choice : Value} {f_Replica_certified : Addr} {od_Replica_certified an_Replica_certified : Option Addr} {sl_Replica_certified : Array (Option Value)} {oc_Replica_certified kV_Replica_certified dc_Replica_certified pm_Replica_certified cd_Replica_certified ct_Replica_certified : Value} {f_Replica_prevote : Addr} {od_Replica_prevote an_Replica_prevote : Option Addr} {sl_Replica_prevote : Array (Option Value)} {oc_Replica_prevote kV_Replica_prevote dc_Replica_prevote pm_Replica_prevote cd_Replica_prevote ct_Replica_prevote : Value} {f_Replica_sign : Addr} {od_Replica_sign an_Replica_sign : Option Addr} {sl_Replica_sign : Array (Option Value)} {oc_Replica_sign kV_Replica_sign dc_Replica_sign pm_Replica_sign cd_Replica_sign ct_Replica_sign : Value} {f_Replica_take_in : Addr} {od_Replica_take_in an_Replica_take_in : Option Addr} {sl_Replica_take_in : Array (Option Value)} {oc_Replica_take_in kV_Replica_take_in dc_Replica_take_in pm_Replica_take_in cd_Replica_take_in ct_Replica_take_in : Value} {f_Replica_is_leader : Addr} {od_Replica_is_leader an_Replica_is_leader : Option Addr} {sl_Replica_is_leader : Array (Option Value)} {oc_Replica_is_leader kV_Replica_is_leader dc_Replica_is_leader pm_Replica_is_leader cd_Replica_is_leader ct_Replica_is_leader : Value} {f_law_cell : Addr} {od_law_cell an_law_cell : Option Addr} {sl_law_cell : Array (Option Value)} {oc_law_cell kV_law_cell dc_law_cell pm_law_cell cd_law_cell ct_law_cell : Value} {f_law_entered : Addr} {od_law_entered an_law_entered : Option Addr} {sl_law_entered : Array (Option Value)} {oc_law_entered kV_law_entered dc_law_entered pm_law_entered cd_law_entered ct_law_entered : Value} {f_law : Addr} {od_law an_law : Option Addr} {sl_law : Array (Option Value)} {oc_law kV_law dc_law pm_law cd_law ct_law : Value} {C_Refused f_Refused_init : Addr} {nm_Refused q_Refused : Str} {N_Refused : Addr} {bs_Refused bm_Refused : List Value} {sn_Refused : List Str} {sub_Refused : List Value} {ab_Refused : Bool} {col_Refused : Option Bool} {dd_Refused : Option Addr} {k0_Refused k1_Refused k2_Refused k3_Refused k5_Refused : Option Value} {od_Refused_init an_Refused_init : Option Addr} {sl_Refused_init : Array (Option Value)} {oc_Refused_init kV_Refused_init dc_Refused_init pm_Refused_init ct_Refused_init : Value} {cda_Refused_init cc_Refused_init : Addr} {cl_Refused_init ccl_Refused_init : Value} {cld_Refused_init cdd_Refused_init : Option Addr} {csl_Refused_init ccs_Refused_init : Array (Option Value)} {vs_Refused_init : Array Value} {file_Refused_init : Str} {tf_Refused_init : Tok}
    (c_KIND : PySem.W.nsIn K mainGlobals "KIND" = some (some (.int 0 t_KIND)))
    (c_HEIGHT : PySem.W.nsIn K mainGlobals "HEIGHT" = some (some (.int 1 t_HEIGHT)))
    (c_TURN : PySem.W.nsIn K mainGlobals "TURN" = some (some (.int 2 t_TURN)))
    (c_BLOCK : PySem.W.nsIn K mainGlobals "BLOCK" = some (some (.int 3 t_BLOCK)))
    (c_LEAN : PySem.W.nsIn K mainGlobals "LEAN" = some (some (.int 4 t_LEAN)))
    (c_MOST_MEMBERS : PySem.W.nsIn K mainGlobals "MOST_MEMBERS" = some (some (.int 16 t_MOST_MEMBERS)))
    (c_MOST_WEIGHT : PySem.W.nsIn K mainGlobals "MOST_WEIGHT" = some (some (.int 1000000000000 t_MOST_WEIGHT)))
    (n_len : PySem.W.nsIn K mainGlobals "len" = some none)
    (n_range : PySem.W.nsIn K mainGlobals "range" = some none)
    (n_isinstance : PySem.W.nsIn K mainGlobals "isinstance" = some none)
    (n_int : PySem.W.nsIn K mainGlobals "int" = some none)
    (n_bool : PySem.W.nsIn K mainGlobals "bool" = some none)
    (n_list : PySem.W.nsIn K mainGlobals "list" = some none)
    (n_tuple : PySem.W.nsIn K mainGlobals "tuple" = some none)
    (n_sum : PySem.W.nsIn K mainGlobals "sum" = some none)
    (n_enumerate : PySem.W.nsIn K mainGlobals "enumerate" = some none)
    (n_set : PySem.W.nsIn K mainGlobals "set" = some none)
    (n_sorted : PySem.W.nsIn K mainGlobals "sorted" = some none)
    (n_max : PySem.W.nsIn K mainGlobals "max" = some none)
    (n_str : PySem.W.nsIn K mainGlobals "str" = some none)
    (n_super : PySem.W.nsIn K mainGlobals "super" = some none)
    (n_ValueError : PySem.W.nsIn K mainGlobals "ValueError" = some none)
    (g_Committee : PySem.W.nsIn K mainGlobals "Committee" = some (some (.ref C_Committee)))
    (g_Book : PySem.W.nsIn K mainGlobals "Book" = some (some (.ref C_Book)))
    (g_Journal : PySem.W.nsIn K mainGlobals "Journal" = some (some (.ref C_Journal)))
    (g_Ledger : PySem.W.nsIn K mainGlobals "Ledger" = some (some (.ref C_Ledger)))
    (g_Chain : PySem.W.nsIn K mainGlobals "Chain" = some (some (.ref C_Chain)))
    (g_Pool : PySem.W.nsIn K mainGlobals "Pool" = some (some (.ref C_Pool)))
    (g_Replica : PySem.W.nsIn K mainGlobals "Replica" = some (some (.ref C_Replica)))
    (a_proposal : PySem.W.nsIn K mainGlobals "proposal" = some (some (.ref f_proposal)))
    (l_proposal : K.lookup f_proposal = some ⟨oc_proposal, od_proposal, .func (PySem.W.fnOf "proposal" "proposal" (defArgs s_proposal) (defBody s_proposal) (defScope s_proposal) .none kV_proposal dc_proposal pm_proposal an_proposal cd_proposal ct_proposal), sl_proposal⟩)
    (q_proposal : PySem.W.codeIn K cd_proposal "proposal" = true)
    (k_proposal : PySem.W.keepIn K (.ref f_proposal) = true)
    (a_prevote : PySem.W.nsIn K mainGlobals "prevote" = some (some (.ref f_prevote)))
    (l_prevote : K.lookup f_prevote = some ⟨oc_prevote, od_prevote, .func (PySem.W.fnOf "prevote" "prevote" (defArgs s_prevote) (defBody s_prevote) (defScope s_prevote) .none kV_prevote dc_prevote pm_prevote an_prevote cd_prevote ct_prevote), sl_prevote⟩)
    (q_prevote : PySem.W.codeIn K cd_prevote "prevote" = true)
    (k_prevote : PySem.W.keepIn K (.ref f_prevote) = true)
    (a_precommit : PySem.W.nsIn K mainGlobals "precommit" = some (some (.ref f_precommit)))
    (l_precommit : K.lookup f_precommit = some ⟨oc_precommit, od_precommit, .func (PySem.W.fnOf "precommit" "precommit" (defArgs s_precommit) (defBody s_precommit) (defScope s_precommit) .none kV_precommit dc_precommit pm_precommit an_precommit cd_precommit ct_precommit), sl_precommit⟩)
    (q_precommit : PySem.W.codeIn K cd_precommit "precommit" = true)
    (k_precommit : PySem.W.keepIn K (.ref f_precommit) = true)
    (a_is_vote : PySem.W.nsIn K mainGlobals "is_vote" = some (some (.ref f_is_vote)))
    (l_is_vote : K.lookup f_is_vote = some ⟨oc_is_vote, od_is_vote, .func (PySem.W.fnOf "is_vote" "is_vote" (defArgs s_is_vote) (defBody s_is_vote) (defScope s_is_vote) .none kV_is_vote dc_is_vote pm_is_vote an_is_vote cd_is_vote ct_is_vote), sl_is_vote⟩)
    (q_is_vote : PySem.W.codeIn K cd_is_vote "is_vote" = true)
    (k_is_vote : PySem.W.keepIn K (.ref f_is_vote) = true)
    (a_clash : PySem.W.nsIn K mainGlobals "clash" = some (some (.ref f_clash)))
    (l_clash : K.lookup f_clash = some ⟨oc_clash, od_clash, .func (PySem.W.fnOf "clash" "clash" (defArgs s_clash) (defBody s_clash) (defScope s_clash) .none kV_clash dc_clash pm_clash an_clash cd_clash ct_clash), sl_clash⟩)
    (q_clash : PySem.W.codeIn K cd_clash "clash" = true)
    (k_clash : PySem.W.keepIn K (.ref f_clash) = true)
    (a_abandons : PySem.W.nsIn K mainGlobals "_abandons" = some (some (.ref f_abandons)))
    (l_abandons : K.lookup f_abandons = some ⟨oc_abandons, od_abandons, .func (PySem.W.fnOf "_abandons" "_abandons" (defArgs s_abandons) (defBody s_abandons) (defScope s_abandons) .none kV_abandons dc_abandons pm_abandons an_abandons cd_abandons ct_abandons), sl_abandons⟩)
    (q_abandons : PySem.W.codeIn K cd_abandons "_abandons" = true)
    (k_abandons : PySem.W.keepIn K (.ref f_abandons) = true)
    (a_first_wrong : PySem.W.nsIn K mainGlobals "_first_wrong" = some (some (.ref f_first_wrong)))
    (l_first_wrong : K.lookup f_first_wrong = some ⟨oc_first_wrong, od_first_wrong, .func (PySem.W.fnOf "_first_wrong" "_first_wrong" (defArgs s_first_wrong) (defBody s_first_wrong) (defScope s_first_wrong) .none kV_first_wrong dc_first_wrong pm_first_wrong an_first_wrong cd_first_wrong ct_first_wrong), sl_first_wrong⟩)
    (q_first_wrong : PySem.W.codeIn K cd_first_wrong "_first_wrong" = true)
    (k_first_wrong : PySem.W.keepIn K (.ref f_first_wrong) = true)
    (a_Committee_init : PySem.W.findIn K (.ref C_Committee) "__init__" = some (some (.ref f_Committee_init)))
    (i_Committee_init : PySem.W.isFn K (.ref f_Committee_init) = true)
    (l_Committee_init : K.lookup f_Committee_init = some ⟨oc_Committee_init, od_Committee_init, .func (PySem.W.fnOf "__init__" "Committee.__init__" (defArgs s_Committee_init) (defBody s_Committee_init) (defScope s_Committee_init) .none kV_Committee_init dc_Committee_init pm_Committee_init an_Committee_init cd_Committee_init ct_Committee_init), sl_Committee_init⟩)
    (q_Committee_init : PySem.W.codeIn K cd_Committee_init "Committee.__init__" = true)
    (k_Committee_init : PySem.W.keepIn K (.ref f_Committee_init) = true)
    (a_Committee_weight_of : PySem.W.findIn K (.ref C_Committee) "weight_of" = some (some (.ref f_Committee_weight_of)))
    (i_Committee_weight_of : PySem.W.isFn K (.ref f_Committee_weight_of) = true)
    (l_Committee_weight_of : K.lookup f_Committee_weight_of = some ⟨oc_Committee_weight_of, od_Committee_weight_of, .func (PySem.W.fnOf "weight_of" "Committee.weight_of" (defArgs s_Committee_weight_of) (defBody s_Committee_weight_of) (defScope s_Committee_weight_of) .none kV_Committee_weight_of dc_Committee_weight_of pm_Committee_weight_of an_Committee_weight_of cd_Committee_weight_of ct_Committee_weight_of), sl_Committee_weight_of⟩)
    (q_Committee_weight_of : PySem.W.codeIn K cd_Committee_weight_of "Committee.weight_of" = true)
    (k_Committee_weight_of : PySem.W.keepIn K (.ref f_Committee_weight_of) = true)
    (a_Committee_is_quorum : PySem.W.findIn K (.ref C_Committee) "is_quorum" = some (some (.ref f_Committee_is_quorum)))
    (i_Committee_is_quorum : PySem.W.isFn K (.ref f_Committee_is_quorum) = true)
    (l_Committee_is_quorum : K.lookup f_Committee_is_quorum = some ⟨oc_Committee_is_quorum, od_Committee_is_quorum, .func (PySem.W.fnOf "is_quorum" "Committee.is_quorum" (defArgs s_Committee_is_quorum) (defBody s_Committee_is_quorum) (defScope s_Committee_is_quorum) .none kV_Committee_is_quorum dc_Committee_is_quorum pm_Committee_is_quorum an_Committee_is_quorum cd_Committee_is_quorum ct_Committee_is_quorum), sl_Committee_is_quorum⟩)
    (q_Committee_is_quorum : PySem.W.codeIn K cd_Committee_is_quorum "Committee.is_quorum" = true)
    (k_Committee_is_quorum : PySem.W.keepIn K (.ref f_Committee_is_quorum) = true)
    (a_Committee_leader : PySem.W.findIn K (.ref C_Committee) "leader" = some (some (.ref f_Committee_leader)))
    (i_Committee_leader : PySem.W.isFn K (.ref f_Committee_leader) = true)
    (l_Committee_leader : K.lookup f_Committee_leader = some ⟨oc_Committee_leader, od_Committee_leader, .func (PySem.W.fnOf "leader" "Committee.leader" (defArgs s_Committee_leader) (defBody s_Committee_leader) (defScope s_Committee_leader) .none kV_Committee_leader dc_Committee_leader pm_Committee_leader an_Committee_leader cd_Committee_leader ct_Committee_leader), sl_Committee_leader⟩)
    (q_Committee_leader : PySem.W.codeIn K cd_Committee_leader "Committee.leader" = true)
    (k_Committee_leader : PySem.W.keepIn K (.ref f_Committee_leader) = true)
    (a_votes_by_turn : PySem.W.nsIn K mainGlobals "votes_by_turn" = some (some (.ref f_votes_by_turn)))
    (l_votes_by_turn : K.lookup f_votes_by_turn = some ⟨oc_votes_by_turn, od_votes_by_turn, .func (PySem.W.fnOf "votes_by_turn" "votes_by_turn" (defArgs s_votes_by_turn) (defBody s_votes_by_turn) (defScope s_votes_by_turn) .none kV_votes_by_turn dc_votes_by_turn pm_votes_by_turn an_votes_by_turn cd_votes_by_turn ct_votes_by_turn), sl_votes_by_turn⟩)
    (q_votes_by_turn : PySem.W.codeIn K cd_votes_by_turn "votes_by_turn" = true)
    (k_votes_by_turn : PySem.W.keepIn K (.ref f_votes_by_turn) = true)
    (a_counts : PySem.W.nsIn K mainGlobals "counts" = some (some (.ref f_counts)))
    (l_counts : K.lookup f_counts = some ⟨oc_counts, od_counts, .func (PySem.W.fnOf "counts" "counts" (defArgs s_counts) (defBody s_counts) (defScope s_counts) .none kV_counts dc_counts pm_counts an_counts cd_counts ct_counts), sl_counts⟩)
    (q_counts : PySem.W.codeIn K cd_counts "counts" = true)
    (k_counts : PySem.W.keepIn K (.ref f_counts) = true)
    (a_certified_turns : PySem.W.nsIn K mainGlobals "certified_turns" = some (some (.ref f_certified_turns)))
    (l_certified_turns : K.lookup f_certified_turns = some ⟨oc_certified_turns, od_certified_turns, .func (PySem.W.fnOf "certified_turns" "certified_turns" (defArgs s_certified_turns) (defBody s_certified_turns) (defScope s_certified_turns) .none kV_certified_turns dc_certified_turns pm_certified_turns an_certified_turns cd_certified_turns ct_certified_turns), sl_certified_turns⟩)
    (q_certified_turns : PySem.W.codeIn K cd_certified_turns "certified_turns" = true)
    (k_certified_turns : PySem.W.keepIn K (.ref f_certified_turns) = true)
    (a_committed_turns : PySem.W.nsIn K mainGlobals "committed_turns" = some (some (.ref f_committed_turns)))
    (l_committed_turns : K.lookup f_committed_turns = some ⟨oc_committed_turns, od_committed_turns, .func (PySem.W.fnOf "committed_turns" "committed_turns" (defArgs s_committed_turns) (defBody s_committed_turns) (defScope s_committed_turns) .none kV_committed_turns dc_committed_turns pm_committed_turns an_committed_turns cd_committed_turns ct_committed_turns), sl_committed_turns⟩)
    (q_committed_turns : PySem.W.codeIn K cd_committed_turns "committed_turns" = true)
    (k_committed_turns : PySem.W.keepIn K (.ref f_committed_turns) = true)
    (a_missing : PySem.W.nsIn K mainGlobals "_missing" = some (some (.ref f_missing)))
    (l_missing : K.lookup f_missing = some ⟨oc_missing, od_missing, .func (PySem.W.fnOf "_missing" "_missing" (defArgs s_missing) (defBody s_missing) (defScope s_missing) .none kV_missing dc_missing pm_missing an_missing cd_missing ct_missing), sl_missing⟩)
    (q_missing : PySem.W.codeIn K cd_missing "_missing" = true)
    (k_missing : PySem.W.keepIn K (.ref f_missing) = true)
    (a_Book_init : PySem.W.findIn K (.ref C_Book) "__init__" = some (some (.ref f_Book_init)))
    (i_Book_init : PySem.W.isFn K (.ref f_Book_init) = true)
    (l_Book_init : K.lookup f_Book_init = some ⟨oc_Book_init, od_Book_init, .func (PySem.W.fnOf "__init__" "Book.__init__" (defArgs s_Book_init) (defBody s_Book_init) (defScope s_Book_init) .none kV_Book_init dc_Book_init pm_Book_init an_Book_init cd_Book_init ct_Book_init), sl_Book_init⟩)
    (q_Book_init : PySem.W.codeIn K cd_Book_init "Book.__init__" = true)
    (k_Book_init : PySem.W.keepIn K (.ref f_Book_init) = true)
    (a_Book_belongs : PySem.W.findIn K (.ref C_Book) "_belongs" = some (some (.ref f_Book_belongs)))
    (i_Book_belongs : PySem.W.isFn K (.ref f_Book_belongs) = true)
    (l_Book_belongs : K.lookup f_Book_belongs = some ⟨oc_Book_belongs, od_Book_belongs, .func (PySem.W.fnOf "_belongs" "Book._belongs" (defArgs s_Book_belongs) (defBody s_Book_belongs) (defScope s_Book_belongs) .none kV_Book_belongs dc_Book_belongs pm_Book_belongs an_Book_belongs cd_Book_belongs ct_Book_belongs), sl_Book_belongs⟩)
    (q_Book_belongs : PySem.W.codeIn K cd_Book_belongs "Book._belongs" = true)
    (k_Book_belongs : PySem.W.keepIn K (.ref f_Book_belongs) = true)
    (a_Book_enter : PySem.W.findIn K (.ref C_Book) "_enter" = some (some (.ref f_Book_enter)))
    (i_Book_enter : PySem.W.isFn K (.ref f_Book_enter) = true)
    (l_Book_enter : K.lookup f_Book_enter = some ⟨oc_Book_enter, od_Book_enter, .func (PySem.W.fnOf "_enter" "Book._enter" (defArgs s_Book_enter) (defBody s_Book_enter) (defScope s_Book_enter) .none kV_Book_enter dc_Book_enter pm_Book_enter an_Book_enter cd_Book_enter ct_Book_enter), sl_Book_enter⟩)
    (q_Book_enter : PySem.W.codeIn K cd_Book_enter "Book._enter" = true)
    (k_Book_enter : PySem.W.keepIn K (.ref f_Book_enter) = true)
    (a_Book_add : PySem.W.findIn K (.ref C_Book) "add" = some (some (.ref f_Book_add)))
    (i_Book_add : PySem.W.isFn K (.ref f_Book_add) = true)
    (l_Book_add : K.lookup f_Book_add = some ⟨oc_Book_add, od_Book_add, .func (PySem.W.fnOf "add" "Book.add" (defArgs s_Book_add) (defBody s_Book_add) (defScope s_Book_add) .none kV_Book_add dc_Book_add pm_Book_add an_Book_add cd_Book_add ct_Book_add), sl_Book_add⟩)
    (q_Book_add : PySem.W.codeIn K cd_Book_add "Book.add" = true)
    (k_Book_add : PySem.W.keepIn K (.ref f_Book_add) = true)
    (a_Book_latest : PySem.W.findIn K (.ref C_Book) "latest" = some (some (.ref f_Book_latest)))
    (i_Book_latest : PySem.W.isFn K (.ref f_Book_latest) = true)
    (l_Book_latest : K.lookup f_Book_latest = some ⟨oc_Book_latest, od_Book_latest, .func (PySem.W.fnOf "latest" "Book.latest" (defArgs s_Book_latest) (defBody s_Book_latest) (defScope s_Book_latest) .none kV_Book_latest dc_Book_latest pm_Book_latest an_Book_latest cd_Book_latest ct_Book_latest), sl_Book_latest⟩)
    (q_Book_latest : PySem.W.codeIn K cd_Book_latest "Book.latest" = true)
    (k_Book_latest : PySem.W.keepIn K (.ref f_Book_latest) = true)
    (a_Journal_init : PySem.W.findIn K (.ref C_Journal) "__init__" = some (some (.ref f_Journal_init)))
    (i_Journal_init : PySem.W.isFn K (.ref f_Journal_init) = true)
    (l_Journal_init : K.lookup f_Journal_init = some ⟨oc_Journal_init, od_Journal_init, .func (PySem.W.fnOf "__init__" "Journal.__init__" (defArgs s_Journal_init) (defBody s_Journal_init) (defScope s_Journal_init) .none kV_Journal_init dc_Journal_init pm_Journal_init an_Journal_init cd_Journal_init ct_Journal_init), sl_Journal_init⟩)
    (q_Journal_init : PySem.W.codeIn K cd_Journal_init "Journal.__init__" = true)
    (k_Journal_init : PySem.W.keepIn K (.ref f_Journal_init) = true)
    (a_Journal_sign : PySem.W.findIn K (.ref C_Journal) "sign" = some (some (.ref f_Journal_sign)))
    (i_Journal_sign : PySem.W.isFn K (.ref f_Journal_sign) = true)
    (l_Journal_sign : K.lookup f_Journal_sign = some ⟨oc_Journal_sign, od_Journal_sign, .func (PySem.W.fnOf "sign" "Journal.sign" (defArgs s_Journal_sign) (defBody s_Journal_sign) (defScope s_Journal_sign) .none kV_Journal_sign dc_Journal_sign pm_Journal_sign an_Journal_sign cd_Journal_sign ct_Journal_sign), sl_Journal_sign⟩)
    (q_Journal_sign : PySem.W.codeIn K cd_Journal_sign "Journal.sign" = true)
    (k_Journal_sign : PySem.W.keepIn K (.ref f_Journal_sign) = true)
    (a_Journal_last_turn : PySem.W.findIn K (.ref C_Journal) "last_turn" = some (some (.ref f_Journal_last_turn)))
    (i_Journal_last_turn : PySem.W.isFn K (.ref f_Journal_last_turn) = true)
    (l_Journal_last_turn : K.lookup f_Journal_last_turn = some ⟨oc_Journal_last_turn, od_Journal_last_turn, .func (PySem.W.fnOf "last_turn" "Journal.last_turn" (defArgs s_Journal_last_turn) (defBody s_Journal_last_turn) (defScope s_Journal_last_turn) .none kV_Journal_last_turn dc_Journal_last_turn pm_Journal_last_turn an_Journal_last_turn cd_Journal_last_turn ct_Journal_last_turn), sl_Journal_last_turn⟩)
    (q_Journal_last_turn : PySem.W.codeIn K cd_Journal_last_turn "Journal.last_turn" = true)
    (k_Journal_last_turn : PySem.W.keepIn K (.ref f_Journal_last_turn) = true)
    (a_Ledger_init : PySem.W.findIn K (.ref C_Ledger) "__init__" = some (some (.ref f_Ledger_init)))
    (i_Ledger_init : PySem.W.isFn K (.ref f_Ledger_init) = true)
    (l_Ledger_init : K.lookup f_Ledger_init = some ⟨oc_Ledger_init, od_Ledger_init, .func (PySem.W.fnOf "__init__" "Ledger.__init__" (defArgs s_Ledger_init) (defBody s_Ledger_init) (defScope s_Ledger_init) .none kV_Ledger_init dc_Ledger_init pm_Ledger_init an_Ledger_init cd_Ledger_init ct_Ledger_init), sl_Ledger_init⟩)
    (q_Ledger_init : PySem.W.codeIn K cd_Ledger_init "Ledger.__init__" = true)
    (k_Ledger_init : PySem.W.keepIn K (.ref f_Ledger_init) = true)
    (a_first_ledger : PySem.W.nsIn K mainGlobals "first_ledger" = some (some (.ref f_first_ledger)))
    (l_first_ledger : K.lookup f_first_ledger = some ⟨oc_first_ledger, od_first_ledger, .func (PySem.W.fnOf "first_ledger" "first_ledger" (defArgs s_first_ledger) (defBody s_first_ledger) (defScope s_first_ledger) .none kV_first_ledger dc_first_ledger pm_first_ledger an_first_ledger cd_first_ledger ct_first_ledger), sl_first_ledger⟩)
    (q_first_ledger : PySem.W.codeIn K cd_first_ledger "first_ledger" = true)
    (k_first_ledger : PySem.W.keepIn K (.ref f_first_ledger) = true)
    (a_Chain_init : PySem.W.findIn K (.ref C_Chain) "__init__" = some (some (.ref f_Chain_init)))
    (i_Chain_init : PySem.W.isFn K (.ref f_Chain_init) = true)
    (l_Chain_init : K.lookup f_Chain_init = some ⟨oc_Chain_init, od_Chain_init, .func (PySem.W.fnOf "__init__" "Chain.__init__" (defArgs s_Chain_init) (defBody s_Chain_init) (defScope s_Chain_init) .none kV_Chain_init dc_Chain_init pm_Chain_init an_Chain_init cd_Chain_init ct_Chain_init), sl_Chain_init⟩)
    (q_Chain_init : PySem.W.codeIn K cd_Chain_init "Chain.__init__" = true)
    (k_Chain_init : PySem.W.keepIn K (.ref f_Chain_init) = true)
    (a_Chain_height : PySem.W.findIn K (.ref C_Chain) "height" = some (some (.ref f_Chain_height)))
    (i_Chain_height : PySem.W.isFn K (.ref f_Chain_height) = true)
    (l_Chain_height : K.lookup f_Chain_height = some ⟨oc_Chain_height, od_Chain_height, .func (PySem.W.fnOf "height" "Chain.height" (defArgs s_Chain_height) (defBody s_Chain_height) (defScope s_Chain_height) .none kV_Chain_height dc_Chain_height pm_Chain_height an_Chain_height cd_Chain_height ct_Chain_height), sl_Chain_height⟩)
    (q_Chain_height : PySem.W.codeIn K cd_Chain_height "Chain.height" = true)
    (k_Chain_height : PySem.W.keepIn K (.ref f_Chain_height) = true)
    (a_Chain_committee : PySem.W.findIn K (.ref C_Chain) "committee" = some (some (.ref f_Chain_committee)))
    (i_Chain_committee : PySem.W.isFn K (.ref f_Chain_committee) = true)
    (l_Chain_committee : K.lookup f_Chain_committee = some ⟨oc_Chain_committee, od_Chain_committee, .func (PySem.W.fnOf "committee" "Chain.committee" (defArgs s_Chain_committee) (defBody s_Chain_committee) (defScope s_Chain_committee) .none kV_Chain_committee dc_Chain_committee pm_Chain_committee an_Chain_committee cd_Chain_committee ct_Chain_committee), sl_Chain_committee⟩)
    (q_Chain_committee : PySem.W.codeIn K cd_Chain_committee "Chain.committee" = true)
    (k_Chain_committee : PySem.W.keepIn K (.ref f_Chain_committee) = true)
    (a_block_of : PySem.W.nsIn K mainGlobals "block_of" = some (some (.ref f_block_of)))
    (l_block_of : K.lookup f_block_of = some ⟨oc_block_of, od_block_of, .func (PySem.W.fnOf "block_of" "block_of" (defArgs s_block_of) (defBody s_block_of) (defScope s_block_of) .none kV_block_of dc_block_of pm_block_of an_block_of cd_block_of ct_block_of), sl_block_of⟩)
    (q_block_of : PySem.W.codeIn K cd_block_of "block_of" = true)
    (k_block_of : PySem.W.keepIn K (.ref f_block_of) = true)
    (a_Pool_init : PySem.W.findIn K (.ref C_Pool) "__init__" = some (some (.ref f_Pool_init)))
    (i_Pool_init : PySem.W.isFn K (.ref f_Pool_init) = true)
    (l_Pool_init : K.lookup f_Pool_init = some ⟨oc_Pool_init, od_Pool_init, .func (PySem.W.fnOf "__init__" "Pool.__init__" (defArgs s_Pool_init) (defBody s_Pool_init) (defScope s_Pool_init) .none kV_Pool_init dc_Pool_init pm_Pool_init an_Pool_init cd_Pool_init ct_Pool_init), sl_Pool_init⟩)
    (q_Pool_init : PySem.W.codeIn K cd_Pool_init "Pool.__init__" = true)
    (k_Pool_init : PySem.W.keepIn K (.ref f_Pool_init) = true)
    (a_Pool_block : PySem.W.findIn K (.ref C_Pool) "block" = some (some (.ref f_Pool_block)))
    (i_Pool_block : PySem.W.isFn K (.ref f_Pool_block) = true)
    (l_Pool_block : K.lookup f_Pool_block = some ⟨oc_Pool_block, od_Pool_block, .func (PySem.W.fnOf "block" "Pool.block" (defArgs s_Pool_block) (defBody s_Pool_block) (defScope s_Pool_block) .none kV_Pool_block dc_Pool_block pm_Pool_block an_Pool_block cd_Pool_block ct_Pool_block), sl_Pool_block⟩)
    (q_Pool_block : PySem.W.codeIn K cd_Pool_block "Pool.block" = true)
    (k_Pool_block : PySem.W.keepIn K (.ref f_Pool_block) = true)
    (a_Replica_init : PySem.W.findIn K (.ref C_Replica) "__init__" = some (some (.ref f_Replica_init)))
    (i_Replica_init : PySem.W.isFn K (.ref f_Replica_init) = true)
    (l_Replica_init : K.lookup f_Replica_init = some ⟨oc_Replica_init, od_Replica_init, .func (PySem.W.fnOf "__init__" "Replica.__init__" (defArgs s_Replica_init) (defBody s_Replica_init) (defScope s_Replica_init) .none kV_Replica_init dc_Replica_init pm_Replica_init an_Replica_init cd_Replica_init ct_Replica_init), sl_Replica_init⟩)
    (q_Replica_init : PySem.W.codeIn K cd_Replica_init "Replica.__init__" = true)
    (k_Replica_init : PySem.W.keepIn K (.ref f_Replica_init) = true)
    (a_Replica_start : PySem.W.findIn K (.ref C_Replica) "start" = some (some (.ref f_Replica_start)))
    (i_Replica_start : PySem.W.isFn K (.ref f_Replica_start) = true)
    (l_Replica_start : K.lookup f_Replica_start = some ⟨oc_Replica_start, od_Replica_start, .func (PySem.W.fnOf "start" "Replica.start" (defArgs s_Replica_start) (defBody s_Replica_start) (defScope s_Replica_start) .none kV_Replica_start dc_Replica_start pm_Replica_start an_Replica_start cd_Replica_start ct_Replica_start), sl_Replica_start⟩)
    (q_Replica_start : PySem.W.codeIn K cd_Replica_start "Replica.start" = true)
    (k_Replica_start : PySem.W.keepIn K (.ref f_Replica_start) = true)
    (a_Replica_timeout : PySem.W.findIn K (.ref C_Replica) "timeout" = some (some (.ref f_Replica_timeout)))
    (i_Replica_timeout : PySem.W.isFn K (.ref f_Replica_timeout) = true)
    (l_Replica_timeout : K.lookup f_Replica_timeout = some ⟨oc_Replica_timeout, od_Replica_timeout, .func (PySem.W.fnOf "timeout" "Replica.timeout" (defArgs s_Replica_timeout) (defBody s_Replica_timeout) (defScope s_Replica_timeout) .none kV_Replica_timeout dc_Replica_timeout pm_Replica_timeout an_Replica_timeout cd_Replica_timeout ct_Replica_timeout), sl_Replica_timeout⟩)
    (q_Replica_timeout : PySem.W.codeIn K cd_Replica_timeout "Replica.timeout" = true)
    (k_Replica_timeout : PySem.W.keepIn K (.ref f_Replica_timeout) = true)
    (a_Replica_begin_call : PySem.W.findIn K (.ref C_Replica) "_begin_call" = some (some (.ref f_Replica_begin_call)))
    (i_Replica_begin_call : PySem.W.isFn K (.ref f_Replica_begin_call) = true)
    (l_Replica_begin_call : K.lookup f_Replica_begin_call = some ⟨oc_Replica_begin_call, od_Replica_begin_call, .func (PySem.W.fnOf "_begin_call" "Replica._begin_call" (defArgs s_Replica_begin_call) (defBody s_Replica_begin_call) (defScope s_Replica_begin_call) .none kV_Replica_begin_call dc_Replica_begin_call pm_Replica_begin_call an_Replica_begin_call cd_Replica_begin_call ct_Replica_begin_call), sl_Replica_begin_call⟩)
    (q_Replica_begin_call : PySem.W.codeIn K cd_Replica_begin_call "Replica._begin_call" = true)
    (k_Replica_begin_call : PySem.W.keepIn K (.ref f_Replica_begin_call) = true)
    (a_Replica_go_on : PySem.W.findIn K (.ref C_Replica) "_go_on" = some (some (.ref f_Replica_go_on)))
    (i_Replica_go_on : PySem.W.isFn K (.ref f_Replica_go_on) = true)
    (l_Replica_go_on : K.lookup f_Replica_go_on = some ⟨oc_Replica_go_on, od_Replica_go_on, .func (PySem.W.fnOf "_go_on" "Replica._go_on" (defArgs s_Replica_go_on) (defBody s_Replica_go_on) (defScope s_Replica_go_on) .none kV_Replica_go_on dc_Replica_go_on pm_Replica_go_on an_Replica_go_on cd_Replica_go_on ct_Replica_go_on), sl_Replica_go_on⟩)
    (q_Replica_go_on : PySem.W.codeIn K cd_Replica_go_on "Replica._go_on" = true)
    (k_Replica_go_on : PySem.W.keepIn K (.ref f_Replica_go_on) = true)
    (a_Replica_do_first : PySem.W.findIn K (.ref C_Replica) "_do_first" = some (some (.ref f_Replica_do_first)))
    (i_Replica_do_first : PySem.W.isFn K (.ref f_Replica_do_first) = true)
    (l_Replica_do_first : K.lookup f_Replica_do_first = some ⟨oc_Replica_do_first, od_Replica_do_first, .func (PySem.W.fnOf "_do_first" "Replica._do_first" (defArgs s_Replica_do_first) (defBody s_Replica_do_first) (defScope s_Replica_do_first) .none kV_Replica_do_first dc_Replica_do_first pm_Replica_do_first an_Replica_do_first cd_Replica_do_first ct_Replica_do_first), sl_Replica_do_first⟩)
    (q_Replica_do_first : PySem.W.codeIn K cd_Replica_do_first "Replica._do_first" = true)
    (k_Replica_do_first : PySem.W.keepIn K (.ref f_Replica_do_first) = true)
    (a_Replica_reach : PySem.W.findIn K (.ref C_Replica) "_reach" = some (some (.ref f_Replica_reach)))
    (i_Replica_reach : PySem.W.isFn K (.ref f_Replica_reach) = true)
    (l_Replica_reach : K.lookup f_Replica_reach = some ⟨oc_Replica_reach, od_Replica_reach, .func (PySem.W.fnOf "_reach" "Replica._reach" (defArgs s_Replica_reach) (defBody s_Replica_reach) (defScope s_Replica_reach) .none kV_Replica_reach dc_Replica_reach pm_Replica_reach an_Replica_reach cd_Replica_reach ct_Replica_reach), sl_Replica_reach⟩)
    (q_Replica_reach : PySem.W.codeIn K cd_Replica_reach "Replica._reach" = true)
    (k_Replica_reach : PySem.W.keepIn K (.ref f_Replica_reach) = true)
    (a_Replica_enter_first_turn : PySem.W.findIn K (.ref C_Replica) "_enter_first_turn" = some (some (.ref f_Replica_enter_first_turn)))
    (i_Replica_enter_first_turn : PySem.W.isFn K (.ref f_Replica_enter_first_turn) = true)
    (l_Replica_enter_first_turn : K.lookup f_Replica_enter_first_turn = some ⟨oc_Replica_enter_first_turn, od_Replica_enter_first_turn, .func (PySem.W.fnOf "_enter_first_turn" "Replica._enter_first_turn" (defArgs s_Replica_enter_first_turn) (defBody s_Replica_enter_first_turn) (defScope s_Replica_enter_first_turn) .none kV_Replica_enter_first_turn dc_Replica_enter_first_turn pm_Replica_enter_first_turn an_Replica_enter_first_turn cd_Replica_enter_first_turn ct_Replica_enter_first_turn), sl_Replica_enter_first_turn⟩)
    (q_Replica_enter_first_turn : PySem.W.codeIn K cd_Replica_enter_first_turn "Replica._enter_first_turn" = true)
    (k_Replica_enter_first_turn : PySem.W.keepIn K (.ref f_Replica_enter_first_turn) = true)
    (a_Replica_enter : PySem.W.findIn K (.ref C_Replica) "_enter" = some (some (.ref f_Replica_enter)))
    (i_Replica_enter : PySem.W.isFn K (.ref f_Replica_enter) = true)
    (l_Replica_enter : K.lookup f_Replica_enter = some ⟨oc_Replica_enter, od_Replica_enter, .func (PySem.W.fnOf "_enter" "Replica._enter" (defArgs s_Replica_enter) (defBody s_Replica_enter) (defScope s_Replica_enter) .none kV_Replica_enter dc_Replica_enter pm_Replica_enter an_Replica_enter cd_Replica_enter ct_Replica_enter), sl_Replica_enter⟩)
    (q_Replica_enter : PySem.W.codeIn K cd_Replica_enter "Replica._enter" = true)
    (k_Replica_enter : PySem.W.keepIn K (.ref f_Replica_enter) = true)
    (a_Replica_choice : PySem.W.findIn K (.ref C_Replica) "_choice" = some (some (.ref f_Replica_choice)))
    (i_Replica_choice : PySem.W.isFn K (.ref f_Replica_choice) = true)
    (l_Replica_choice : K.lookup f_Replica_choice = some ⟨oc_Replica_choice, od_Replica_choice, .func (PySem.W.fnOf "_choice" "Replica._choice" (defArgs s_Replica_choice) (defBody s_Replica_choice) (defScope s_Replica_choice) .none kV_Replica_choice dc_Replica_choice pm_Replica_choice an_Replica_choice cd_Replica_choice ct_Replica_choice), sl_Replica_choice⟩)
    (q_Replica_choice : PySem.W.codeIn K cd_Replica_choice "Replica._choice" = true)
    (k_Replica_choice : PySem.W.keepIn K (.ref f_Replica_choice) = true)
    (a_Replica_certified : PySem.W.findIn K (.ref C_Replica) "_certified" = some (some (.ref f_Replica_certified)))
    (i_Replica_certified : PySem.W.isFn K (.ref f_Replica_certified) = true)
    (l_Replica_certified : K.lookup f_Replica_certified = some ⟨oc_Replica_certified, od_Replica_certified, .func (PySem.W.fnOf "_certified" "Replica._certified" (defArgs s_Replica_certified) (defBody s_Replica_certified) (defScope s_Replica_certified) .none kV_Replica_certified dc_Replica_certified pm_Replica_certified an_Replica_certified cd_Replica_certified ct_Replica_certified), sl_Replica_certified⟩)
    (q_Replica_certified : PySem.W.codeIn K cd_Replica_certified "Replica._certified" = true)
    (k_Replica_certified : PySem.W.keepIn K (.ref f_Replica_certified) = true)
    (a_Replica_prevote : PySem.W.findIn K (.ref C_Replica) "_prevote" = some (some (.ref f_Replica_prevote)))
    (i_Replica_prevote : PySem.W.isFn K (.ref f_Replica_prevote) = true)
    (l_Replica_prevote : K.lookup f_Replica_prevote = some ⟨oc_Replica_prevote, od_Replica_prevote, .func (PySem.W.fnOf "_prevote" "Replica._prevote" (defArgs s_Replica_prevote) (defBody s_Replica_prevote) (defScope s_Replica_prevote) .none kV_Replica_prevote dc_Replica_prevote pm_Replica_prevote an_Replica_prevote cd_Replica_prevote ct_Replica_prevote), sl_Replica_prevote⟩)
    (q_Replica_prevote : PySem.W.codeIn K cd_Replica_prevote "Replica._prevote" = true)
    (k_Replica_prevote : PySem.W.keepIn K (.ref f_Replica_prevote) = true)
    (a_Replica_sign : PySem.W.findIn K (.ref C_Replica) "_sign" = some (some (.ref f_Replica_sign)))
    (i_Replica_sign : PySem.W.isFn K (.ref f_Replica_sign) = true)
    (l_Replica_sign : K.lookup f_Replica_sign = some ⟨oc_Replica_sign, od_Replica_sign, .func (PySem.W.fnOf "_sign" "Replica._sign" (defArgs s_Replica_sign) (defBody s_Replica_sign) (defScope s_Replica_sign) .none kV_Replica_sign dc_Replica_sign pm_Replica_sign an_Replica_sign cd_Replica_sign ct_Replica_sign), sl_Replica_sign⟩)
    (q_Replica_sign : PySem.W.codeIn K cd_Replica_sign "Replica._sign" = true)
    (k_Replica_sign : PySem.W.keepIn K (.ref f_Replica_sign) = true)
    (a_Replica_take_in : PySem.W.findIn K (.ref C_Replica) "_take_in" = some (some (.ref f_Replica_take_in)))
    (i_Replica_take_in : PySem.W.isFn K (.ref f_Replica_take_in) = true)
    (l_Replica_take_in : K.lookup f_Replica_take_in = some ⟨oc_Replica_take_in, od_Replica_take_in, .func (PySem.W.fnOf "_take_in" "Replica._take_in" (defArgs s_Replica_take_in) (defBody s_Replica_take_in) (defScope s_Replica_take_in) .none kV_Replica_take_in dc_Replica_take_in pm_Replica_take_in an_Replica_take_in cd_Replica_take_in ct_Replica_take_in), sl_Replica_take_in⟩)
    (q_Replica_take_in : PySem.W.codeIn K cd_Replica_take_in "Replica._take_in" = true)
    (k_Replica_take_in : PySem.W.keepIn K (.ref f_Replica_take_in) = true)
    (a_Replica_is_leader : PySem.W.findIn K (.ref C_Replica) "_is_leader" = some (some (.ref f_Replica_is_leader)))
    (i_Replica_is_leader : PySem.W.isFn K (.ref f_Replica_is_leader) = true)
    (l_Replica_is_leader : K.lookup f_Replica_is_leader = some ⟨oc_Replica_is_leader, od_Replica_is_leader, .func (PySem.W.fnOf "_is_leader" "Replica._is_leader" (defArgs s_Replica_is_leader) (defBody s_Replica_is_leader) (defScope s_Replica_is_leader) .none kV_Replica_is_leader dc_Replica_is_leader pm_Replica_is_leader an_Replica_is_leader cd_Replica_is_leader ct_Replica_is_leader), sl_Replica_is_leader⟩)
    (q_Replica_is_leader : PySem.W.codeIn K cd_Replica_is_leader "Replica._is_leader" = true)
    (k_Replica_is_leader : PySem.W.keepIn K (.ref f_Replica_is_leader) = true)
    (a_law_cell : PySem.W.nsIn K mainGlobals "_law_cell" = some (some (.ref f_law_cell)))
    (l_law_cell : K.lookup f_law_cell = some ⟨oc_law_cell, od_law_cell, .func (PySem.W.fnOf "_law_cell" "_law_cell" (defArgs s_law_cell) (defBody s_law_cell) (defScope s_law_cell) .none kV_law_cell dc_law_cell pm_law_cell an_law_cell cd_law_cell ct_law_cell), sl_law_cell⟩)
    (q_law_cell : PySem.W.codeIn K cd_law_cell "_law_cell" = true)
    (k_law_cell : PySem.W.keepIn K (.ref f_law_cell) = true)
    (a_law_entered : PySem.W.nsIn K mainGlobals "_law_entered" = some (some (.ref f_law_entered)))
    (l_law_entered : K.lookup f_law_entered = some ⟨oc_law_entered, od_law_entered, .func (PySem.W.fnOf "_law_entered" "_law_entered" (defArgs s_law_entered) (defBody s_law_entered) (defScope s_law_entered) .none kV_law_entered dc_law_entered pm_law_entered an_law_entered cd_law_entered ct_law_entered), sl_law_entered⟩)
    (q_law_entered : PySem.W.codeIn K cd_law_entered "_law_entered" = true)
    (k_law_entered : PySem.W.keepIn K (.ref f_law_entered) = true)
    (a_law : PySem.W.nsIn K mainGlobals "law" = some (some (.ref f_law)))
    (l_law : K.lookup f_law = some ⟨oc_law, od_law, .func (PySem.W.fnOf "law" "law" (defArgs s_law) (defBody s_law) (defScope s_law) .none kV_law dc_law pm_law an_law cd_law ct_law), sl_law⟩)
    (q_law : PySem.W.codeIn K cd_law "law" = true)
    (k_law : PySem.W.keepIn K (.ref f_law) = true)
    (pg_Committee : PySem.W.plainGet K C_Committee Str.empty = true)
    (hd_Committee : PySem.W.hasDictIn K C_Committee = true)
    (po_Committee : PySem.W.plainOver K C_Committee = true)
    (sa_Committee : PySem.W.findIn K (.ref C_Committee) "__setattr__" = some (some (.builtin "object.__setattr__")))
    (mk_Committee : PySem.W.makesIn K C_Committee = true)
    (kc_Committee : PySem.W.keepIn K (.ref C_Committee) = true)
    (no_Committee_weights : PySem.W.findIn K (.ref C_Committee) "weights" = some none)
    (no_Committee_size : PySem.W.findIn K (.ref C_Committee) "size" = some none)
    (no_Committee_total : PySem.W.findIn K (.ref C_Committee) "total" = some none)
    (pg_Book : PySem.W.plainGet K C_Book Str.empty = true)
    (hd_Book : PySem.W.hasDictIn K C_Book = true)
    (po_Book : PySem.W.plainOver K C_Book = true)
    (sa_Book : PySem.W.findIn K (.ref C_Book) "__setattr__" = some (some (.builtin "object.__setattr__")))
    (mk_Book : PySem.W.makesIn K C_Book = true)
    (kc_Book : PySem.W.keepIn K (.ref C_Book) = true)
    (no_Book_committee : PySem.W.findIn K (.ref C_Book) "committee" = some none)
    (no_Book_height : PySem.W.findIn K (.ref C_Book) "height" = some none)
    (no_Book_certificates : PySem.W.findIn K (.ref C_Book) "certificates" = some none)
    (no_Book_commits : PySem.W.findIn K (.ref C_Book) "commits" = some none)
    (no_Book__kept : PySem.W.findIn K (.ref C_Book) "_kept" = some none)
    (no_Book__by_block : PySem.W.findIn K (.ref C_Book) "_by_block" = some none)
    (pg_Journal : PySem.W.plainGet K C_Journal Str.empty = true)
    (hd_Journal : PySem.W.hasDictIn K C_Journal = true)
    (po_Journal : PySem.W.plainOver K C_Journal = true)
    (sa_Journal : PySem.W.findIn K (.ref C_Journal) "__setattr__" = some (some (.builtin "object.__setattr__")))
    (mk_Journal : PySem.W.makesIn K C_Journal = true)
    (kc_Journal : PySem.W.keepIn K (.ref C_Journal) = true)
    (no_Journal_who : PySem.W.findIn K (.ref C_Journal) "who" = some none)
    (no_Journal_signed : PySem.W.findIn K (.ref C_Journal) "signed" = some none)
    (pg_Ledger : PySem.W.plainGet K C_Ledger Str.empty = true)
    (hd_Ledger : PySem.W.hasDictIn K C_Ledger = true)
    (po_Ledger : PySem.W.plainOver K C_Ledger = true)
    (sa_Ledger : PySem.W.findIn K (.ref C_Ledger) "__setattr__" = some (some (.builtin "object.__setattr__")))
    (mk_Ledger : PySem.W.makesIn K C_Ledger = true)
    (kc_Ledger : PySem.W.keepIn K (.ref C_Ledger) = true)
    (no_Ledger_balances : PySem.W.findIn K (.ref C_Ledger) "balances" = some none)
    (no_Ledger_codes : PySem.W.findIn K (.ref C_Ledger) "codes" = some none)
    (no_Ledger_stores : PySem.W.findIn K (.ref C_Ledger) "stores" = some none)
    (pg_Chain : PySem.W.plainGet K C_Chain Str.empty = true)
    (hd_Chain : PySem.W.hasDictIn K C_Chain = true)
    (po_Chain : PySem.W.plainOver K C_Chain = true)
    (sa_Chain : PySem.W.findIn K (.ref C_Chain) "__setattr__" = some (some (.builtin "object.__setattr__")))
    (mk_Chain : PySem.W.makesIn K C_Chain = true)
    (kc_Chain : PySem.W.keepIn K (.ref C_Chain) = true)
    (no_Chain_blocks : PySem.W.findIn K (.ref C_Chain) "blocks" = some none)
    (no_Chain_receipts : PySem.W.findIn K (.ref C_Chain) "receipts" = some none)
    (no_Chain_committees : PySem.W.findIn K (.ref C_Chain) "committees" = some none)
    (no_Chain_ledgers : PySem.W.findIn K (.ref C_Chain) "ledgers" = some none)
    (pg_Pool : PySem.W.plainGet K C_Pool Str.empty = true)
    (hd_Pool : PySem.W.hasDictIn K C_Pool = true)
    (po_Pool : PySem.W.plainOver K C_Pool = true)
    (sa_Pool : PySem.W.findIn K (.ref C_Pool) "__setattr__" = some (some (.builtin "object.__setattr__")))
    (mk_Pool : PySem.W.makesIn K C_Pool = true)
    (kc_Pool : PySem.W.keepIn K (.ref C_Pool) = true)
    (no_Pool_waiting : PySem.W.findIn K (.ref C_Pool) "waiting" = some none)
    (pg_Replica : PySem.W.plainGet K C_Replica Str.empty = true)
    (hd_Replica : PySem.W.hasDictIn K C_Replica = true)
    (po_Replica : PySem.W.plainOver K C_Replica = true)
    (sa_Replica : PySem.W.findIn K (.ref C_Replica) "__setattr__" = some (some (.builtin "object.__setattr__")))
    (mk_Replica : PySem.W.makesIn K C_Replica = true)
    (kc_Replica : PySem.W.keepIn K (.ref C_Replica) = true)
    (no_Replica_who : PySem.W.findIn K (.ref C_Replica) "who" = some none)
    (no_Replica_chain : PySem.W.findIn K (.ref C_Replica) "chain" = some none)
    (no_Replica_journal : PySem.W.findIn K (.ref C_Replica) "journal" = some none)
    (no_Replica_papers : PySem.W.findIn K (.ref C_Replica) "papers" = some none)
    (no_Replica_pool : PySem.W.findIn K (.ref C_Replica) "pool" = some none)
    (no_Replica_later : PySem.W.findIn K (.ref C_Replica) "later" = some none)
    (no_Replica_sent : PySem.W.findIn K (.ref C_Replica) "sent" = some none)
    (no_Replica_committed : PySem.W.findIn K (.ref C_Replica) "committed" = some none)
    (no_Replica_height : PySem.W.findIn K (.ref C_Replica) "height" = some none)
    (no_Replica_book : PySem.W.findIn K (.ref C_Replica) "book" = some none)
    (no_Replica_proposals : PySem.W.findIn K (.ref C_Replica) "proposals" = some none)
    (no_Replica_turn : PySem.W.findIn K (.ref C_Replica) "turn" = some none)
    (no_Replica_step : PySem.W.findIn K (.ref C_Replica) "step" = some none)
    (g_Refused : PySem.W.nsIn K mainGlobals "Refused" = some (some (.ref C_Refused)))
    (lc_Refused : K.lookup C_Refused = some (excClassObj nm_Refused q_Refused C_Refused N_Refused bs_Refused bm_Refused true sn_Refused sub_Refused ab_Refused col_Refused dd_Refused k0_Refused k1_Refused k2_Refused k3_Refused k5_Refused "ValueError.__new__"))
    (rb_Refused : PySem.HandSPX.refsVE bm_Refused = true)
    (sa_Refused : PySem.W.findIn K (.ref C_Refused) "__setattr__" = some (some (.builtin "object.__setattr__")))
    (eb_Refused : PySem.W.subIn K (.ref C_Refused) (.type "BaseException") = some true)
    (ty_Refused : PySem.W.typeIn K (.ref C_Refused) = some (.type "type"))
    (kc_Refused : PySem.W.keepIn K (.ref C_Refused) = true)
    (a_Refused_init : PySem.W.findIn K (.ref C_Refused) "__init__" = some (some (.ref f_Refused_init)))
    (tI_Refused_init : PySem.W.typeIn K (.ref f_Refused_init) = some (.type "function"))
    (l_Refused_init : K.lookup f_Refused_init = some ⟨oc_Refused_init, od_Refused_init, .func (PySem.W.ksFn "__init__" "Refused.__init__" (defArgs s_Refused_init) (defBody s_Refused_init) (defScope s_Refused_init) .none kV_Refused_init dc_Refused_init pm_Refused_init an_Refused_init (.ref cda_Refused_init) ct_Refused_init cc_Refused_init), sl_Refused_init⟩)
    (q_Refused_init : PySem.W.codeIn K (.ref cda_Refused_init) "Refused.__init__" = true)
    (ce_Refused_init : K.lookup cc_Refused_init = some ⟨cl_Refused_init, cld_Refused_init, .cell (some (.ref C_Refused)), csl_Refused_init⟩)
    (co_Refused_init : K.lookup cda_Refused_init = some ⟨ccl_Refused_init, cdd_Refused_init, .fields vs_Refused_init, ccs_Refused_init⟩)
    (v2_Refused_init : vs_Refused_init[2]? = some (.str file_Refused_init tf_Refused_init))
    (fi_Refused_init : ((l.prog.main.file : Str) == file_Refused_init) = true)
    (su_Refused : PySem.W.ks_superIn K C_Refused C_Refused "__init__" = some (some (.builtin "ValueError.__init__")))
    (op_Refused : PySem.W.nsIn K cStatics "thirdparty.any" = some none)
    (sv_Refused : PySem.W.subIn K (.ref C_Refused) (.type "ValueError") = some true)
    (mc_Refused : PySem.W.mroIn K C_Refused (.ref C_Refused) = some true)
    (nf_Refused : PySem.W.findIn K (.ref C_Refused) "vote" = some none)
    (ts_Refused : (l.prog.main.scope.names.lookup ("super" : Str)).isSome = false)
    (xga_Refused : PySem.W.findIn K (.ref C_Refused) "__getattribute__" = some (some (.builtin "BaseException.__getattribute__")))
    (xgt_Refused : PySem.W.findIn K (.ref C_Refused) "__getattr__" = some none)
    (xhd_Refused : PySem.W.hasDictIn K C_Refused = true)
    (xcc_Refused : PySem.W.findIn K (.ref C_Refused) "__class__" = some (some (.builtin "object.__class__")))
    (xsp_Refused : PySem.W.specialIn K (.builtin "object.__class__") "__get__" = some (some (.builtin "getset_descriptor.__get__")))
    (xtk_Refused : PySem.W.takesIn K (.builtin "object.__class__") = some true)
    (xmo_Refused : PySem.W.mroIn K C_Refused (.type "object") = some true)
    (te1_Refused : PySem.W.subIn K (.ref C_Refused) (.type "BaseException") = some true)
    (te2_Refused : PySem.W.hasDictIn K C_Refused = true)
    (te3_Refused : PySem.W.typeIn K (.ref C_Refused) = some (.type "type"))
    (te4_Refused_Refused : PySem.W.subIn K (.ref C_Refused) (.ref C_Refused) = some true) :
    ∃ fd : FuncData, (∀ (s : Shared) (v : Value), BindsTo s fd ⟨[v], []⟩ [("script", v)]) ∧ ∀ base : Heap, K.In base → base.Ns mainGlobals mg → FnOk l.prog w K mg base CX0 14 fa fd ["script"] (spLaw K) := by
  have e := hfa.symm.trans (PySem.W.mg_of X G a_law)
  cases e
  have T : Txt K mg ⟨C_Committee, C_Book, C_Journal, C_Ledger, C_Chain, C_Pool, C_Replica, f_proposal, f_prevote, f_precommit, f_is_vote, f_clash, f_abandons, f_first_wrong, f_Committee_init, f_Committee_weight_of, f_Committee_is_quorum, f_Committee_leader, f_votes_by_turn, f_counts, f_certified_turns, f_committed_turns, f_missing, f_Book_init, f_Book_belongs, f_Book_enter, f_Book_add, f_Book_latest, f_Journal_init, f_Journal_sign, f_Journal_last_turn, f_Ledger_init, f_first_ledger, f_Chain_init, f_Chain_height, f_Chain_committee, f_block_of, f_Pool_init, f_Pool_block, f_Replica_init, f_Replica_start, f_Replica_timeout, f_Replica_begin_call, f_Replica_go_on, f_Replica_do_first, f_Replica_reach, f_Replica_enter_first_turn, f_Replica_enter, f_Replica_choice, f_Replica_certified, f_Replica_prevote, f_Replica_sign, f_Replica_take_in, f_Replica_is_leader, f_law_cell, f_law_entered, C_Refused, f_Refused_init⟩ := {
    n_len := mg_no X G n_len
    n_range := mg_no X G n_range
    n_isinstance := mg_no X G n_isinstance
    n_int := mg_no X G n_int
    n_bool := mg_no X G n_bool
    n_list := mg_no X G n_list
    n_tuple := mg_no X G n_tuple
    n_sum := mg_no X G n_sum
    n_enumerate := mg_no X G n_enumerate
    n_set := mg_no X G n_set
    n_sorted := mg_no X G n_sorted
    n_max := mg_no X G n_max
    n_str := mg_no X G n_str
    n_super := mg_no X G n_super
    n_ValueError := mg_no X G n_ValueError
    c_KIND := ⟨_, PySem.W.mg_of X G c_KIND⟩
    c_HEIGHT := ⟨_, PySem.W.mg_of X G c_HEIGHT⟩
    c_TURN := ⟨_, PySem.W.mg_of X G c_TURN⟩
    c_BLOCK := ⟨_, PySem.W.mg_of X G c_BLOCK⟩
    c_LEAN := ⟨_, PySem.W.mg_of X G c_LEAN⟩
    c_MOST_MEMBERS := ⟨_, PySem.W.mg_of X G c_MOST_MEMBERS⟩
    c_MOST_WEIGHT := ⟨_, PySem.W.mg_of X G c_MOST_WEIGHT⟩
    g_Committee := PySem.W.mg_of X G g_Committee
    cl_Committee := ⟨pg_Committee, hd_Committee, po_Committee, sa_Committee⟩
    kc_Committee := kc_Committee
    mk_Committee := mk_Committee
    a_Committee_weights := no_Committee_weights
    a_Committee_size := no_Committee_size
    a_Committee_total := no_Committee_total
    g_Book := PySem.W.mg_of X G g_Book
    cl_Book := ⟨pg_Book, hd_Book, po_Book, sa_Book⟩
    kc_Book := kc_Book
    mk_Book := mk_Book
    a_Book_committee := no_Book_committee
    a_Book_height := no_Book_height
    a_Book_certificates := no_Book_certificates
    a_Book_commits := no_Book_commits
    a_Book__kept := no_Book__kept
    a_Book__by_block := no_Book__by_block
    g_Journal := PySem.W.mg_of X G g_Journal
    cl_Journal := ⟨pg_Journal, hd_Journal, po_Journal, sa_Journal⟩
    kc_Journal := kc_Journal
    mk_Journal := mk_Journal
    a_Journal_who := no_Journal_who
    a_Journal_signed := no_Journal_signed
    g_Ledger := PySem.W.mg_of X G g_Ledger
    cl_Ledger := ⟨pg_Ledger, hd_Ledger, po_Ledger, sa_Ledger⟩
    kc_Ledger := kc_Ledger
    mk_Ledger := mk_Ledger
    a_Ledger_balances := no_Ledger_balances
    a_Ledger_codes := no_Ledger_codes
    a_Ledger_stores := no_Ledger_stores
    g_Chain := PySem.W.mg_of X G g_Chain
    cl_Chain := ⟨pg_Chain, hd_Chain, po_Chain, sa_Chain⟩
    kc_Chain := kc_Chain
    mk_Chain := mk_Chain
    a_Chain_blocks := no_Chain_blocks
    a_Chain_receipts := no_Chain_receipts
    a_Chain_committees := no_Chain_committees
    a_Chain_ledgers := no_Chain_ledgers
    g_Pool := PySem.W.mg_of X G g_Pool
    cl_Pool := ⟨pg_Pool, hd_Pool, po_Pool, sa_Pool⟩
    kc_Pool := kc_Pool
    mk_Pool := mk_Pool
    a_Pool_waiting := no_Pool_waiting
    g_Replica := PySem.W.mg_of X G g_Replica
    cl_Replica := ⟨pg_Replica, hd_Replica, po_Replica, sa_Replica⟩
    kc_Replica := kc_Replica
    mk_Replica := mk_Replica
    a_Replica_who := no_Replica_who
    a_Replica_chain := no_Replica_chain
    a_Replica_journal := no_Replica_journal
    a_Replica_papers := no_Replica_papers
    a_Replica_pool := no_Replica_pool
    a_Replica_later := no_Replica_later
    a_Replica_sent := no_Replica_sent
    a_Replica_committed := no_Replica_committed
    a_Replica_height := no_Replica_height
    a_Replica_book := no_Replica_book
    a_Replica_proposals := no_Replica_proposals
    a_Replica_turn := no_Replica_turn
    a_Replica_step := no_Replica_step
    d_proposal := ⟨def_mk l_proposal q_proposal k_proposal (fun _ _ _ _ _ _ us hl => match us, hl with | [_, _, _], _ => rfl), PySem.W.mg_of X G a_proposal, k_proposal⟩
    d_prevote := ⟨def_mk l_prevote q_prevote k_prevote (fun _ _ _ _ _ _ us hl => match us, hl with | [_, _, _, _], _ => rfl), PySem.W.mg_of X G a_prevote, k_prevote⟩
    d_precommit := ⟨def_mk l_precommit q_precommit k_precommit (fun _ _ _ _ _ _ us hl => match us, hl with | [_, _, _], _ => rfl), PySem.W.mg_of X G a_precommit, k_precommit⟩
    d_is_vote := ⟨def_mk l_is_vote q_is_vote k_is_vote (fun _ _ _ _ _ _ us hl => match us, hl with | [_], _ => rfl), PySem.W.mg_of X G a_is_vote, k_is_vote⟩
    d_clash := ⟨def_mk l_clash q_clash k_clash (fun _ _ _ _ _ _ us hl => match us, hl with | [_, _], _ => rfl), PySem.W.mg_of X G a_clash, k_clash⟩
    d_abandons := ⟨def_mk l_abandons q_abandons k_abandons (fun _ _ _ _ _ _ us hl => match us, hl with | [_, _], _ => rfl), PySem.W.mg_of X G a_abandons, k_abandons⟩
    d_first_wrong := ⟨def_mk l_first_wrong q_first_wrong k_first_wrong (fun _ _ _ _ _ _ us hl => match us, hl with | [_], _ => rfl), PySem.W.mg_of X G a_first_wrong, k_first_wrong⟩
    d_Committee_init := ⟨def_mk l_Committee_init q_Committee_init k_Committee_init (fun _ _ _ _ _ _ us hl => match us, hl with | [_, _], _ => rfl), a_Committee_init, i_Committee_init, k_Committee_init⟩
    d_Committee_weight_of := ⟨def_mk l_Committee_weight_of q_Committee_weight_of k_Committee_weight_of (fun _ _ _ _ _ _ us hl => match us, hl with | [_, _], _ => rfl), a_Committee_weight_of, i_Committee_weight_of, k_Committee_weight_of⟩
    d_Committee_is_quorum := ⟨def_mk l_Committee_is_quorum q_Committee_is_quorum k_Committee_is_quorum (fun _ _ _ _ _ _ us hl => match us, hl with | [_, _], _ => rfl), a_Committee_is_quorum, i_Committee_is_quorum, k_Committee_is_quorum⟩
    d_Committee_leader := ⟨def_mk l_Committee_leader q_Committee_leader k_Committee_leader (fun _ _ _ _ _ _ us hl => match us, hl with | [_, _, _], _ => rfl), a_Committee_leader, i_Committee_leader, k_Committee_leader⟩
    d_votes_by_turn := ⟨def_mk l_votes_by_turn q_votes_by_turn k_votes_by_turn (fun _ _ _ _ _ _ us hl => match us, hl with | [_, _, _, _], _ => rfl), PySem.W.mg_of X G a_votes_by_turn, k_votes_by_turn⟩
    d_counts := ⟨def_mk l_counts q_counts k_counts (fun _ _ _ _ _ _ us hl => match us, hl with | [_, _], _ => rfl), PySem.W.mg_of X G a_counts, k_counts⟩
    d_certified_turns := ⟨def_mk l_certified_turns q_certified_turns k_certified_turns (fun _ _ _ _ _ _ us hl => match us, hl with | [_, _, _, _], _ => rfl), PySem.W.mg_of X G a_certified_turns, k_certified_turns⟩
    d_committed_turns := ⟨def_mk l_committed_turns q_committed_turns k_committed_turns (fun _ _ _ _ _ _ us hl => match us, hl with | [_, _, _, _], _ => rfl), PySem.W.mg_of X G a_committed_turns, k_committed_turns⟩
    d_missing := ⟨def_mk l_missing q_missing k_missing (fun _ _ _ _ _ _ us hl => match us, hl with | [_, _, _], _ => rfl), PySem.W.mg_of X G a_missing, k_missing⟩
    d_Book_init := ⟨def_mk l_Book_init q_Book_init k_Book_init (fun _ _ _ _ _ _ us hl => match us, hl with | [_, _, _], _ => rfl), a_Book_init, i_Book_init, k_Book_init⟩
    d_Book_belongs := ⟨def_mk l_Book_belongs q_Book_belongs k_Book_belongs (fun _ _ _ _ _ _ us hl => match us, hl with | [_, _], _ => rfl), a_Book_belongs, i_Book_belongs, k_Book_belongs⟩
    d_Book_enter := ⟨def_mk l_Book_enter q_Book_enter k_Book_enter (fun _ _ _ _ _ _ us hl => match us, hl with | [_, _], _ => rfl), a_Book_enter, i_Book_enter, k_Book_enter⟩
    d_Book_add := ⟨def_mk l_Book_add q_Book_add k_Book_add (fun _ _ _ _ _ _ us hl => match us, hl with | [_, _], _ => rfl), a_Book_add, i_Book_add, k_Book_add⟩
    d_Book_latest := ⟨def_mk l_Book_latest q_Book_latest k_Book_latest (fun _ _ _ _ _ _ us hl => match us, hl with | [_, _, _], _ => rfl), a_Book_latest, i_Book_latest, k_Book_latest⟩
    d_Journal_init := ⟨def_mk l_Journal_init q_Journal_init k_Journal_init (fun _ _ _ _ _ _ us hl => match us, hl with | [_, _], _ => rfl), a_Journal_init, i_Journal_init, k_Journal_init⟩
    d_Journal_sign := ⟨def_mk l_Journal_sign q_Journal_sign k_Journal_sign (fun _ _ _ _ _ _ us hl => match us, hl with | [_, _], _ => rfl), a_Journal_sign, i_Journal_sign, k_Journal_sign⟩
    d_Journal_last_turn := ⟨def_mk l_Journal_last_turn q_Journal_last_turn k_Journal_last_turn (fun _ _ _ _ _ _ us hl => match us, hl with | [_, _], _ => rfl), a_Journal_last_turn, i_Journal_last_turn, k_Journal_last_turn⟩
    d_Ledger_init := ⟨def_mk l_Ledger_init q_Ledger_init k_Ledger_init (fun _ _ _ _ _ _ us hl => match us, hl with | [_, _, _, _], _ => rfl), a_Ledger_init, i_Ledger_init, k_Ledger_init⟩
    d_first_ledger := ⟨def_mk l_first_ledger q_first_ledger k_first_ledger (fun _ _ _ _ _ _ us hl => match us, hl with | [_], _ => rfl), PySem.W.mg_of X G a_first_ledger, k_first_ledger⟩
    d_Chain_init := ⟨def_mk l_Chain_init q_Chain_init k_Chain_init (fun _ _ _ _ _ _ us hl => match us, hl with | [_, _, _], _ => rfl), a_Chain_init, i_Chain_init, k_Chain_init⟩
    d_Chain_height := ⟨def_mk l_Chain_height q_Chain_height k_Chain_height (fun _ _ _ _ _ _ us hl => match us, hl with | [_], _ => rfl), a_Chain_height, i_Chain_height, k_Chain_height⟩
    d_Chain_committee := ⟨def_mk l_Chain_committee q_Chain_committee k_Chain_committee (fun _ _ _ _ _ _ us hl => match us, hl with | [_], _ => rfl), a_Chain_committee, i_Chain_committee, k_Chain_committee⟩
    d_block_of := ⟨def_mk l_block_of q_block_of k_block_of (fun _ _ _ _ _ _ us hl => match us, hl with | [_], _ => rfl), PySem.W.mg_of X G a_block_of, k_block_of⟩
    d_Pool_init := ⟨def_mk l_Pool_init q_Pool_init k_Pool_init (fun _ _ _ _ _ _ us hl => match us, hl with | [_], _ => rfl), a_Pool_init, i_Pool_init, k_Pool_init⟩
    d_Pool_block := ⟨def_mk l_Pool_block q_Pool_block k_Pool_block (fun _ _ _ _ _ _ us hl => match us, hl with | [_], _ => rfl), a_Pool_block, i_Pool_block, k_Pool_block⟩
    d_Replica_init := ⟨def_mk l_Replica_init q_Replica_init k_Replica_init (fun _ _ _ _ _ _ us hl => match us, hl with | [_, _, _, _], _ => rfl), a_Replica_init, i_Replica_init, k_Replica_init⟩
    d_Replica_start := ⟨def_mk l_Replica_start q_Replica_start k_Replica_start (fun _ _ _ _ _ _ us hl => match us, hl with | [_], _ => rfl), a_Replica_start, i_Replica_start, k_Replica_start⟩
    d_Replica_timeout := ⟨def_mk l_Replica_timeout q_Replica_timeout k_Replica_timeout (fun _ _ _ _ _ _ us hl => match us, hl with | [_], _ => rfl), a_Replica_timeout, i_Replica_timeout, k_Replica_timeout⟩
    d_Replica_begin_call := ⟨def_mk l_Replica_begin_call q_Replica_begin_call k_Replica_begin_call (fun _ _ _ _ _ _ us hl => match us, hl with | [_], _ => rfl), a_Replica_begin_call, i_Replica_begin_call, k_Replica_begin_call⟩
    d_Replica_go_on := ⟨def_mk l_Replica_go_on q_Replica_go_on k_Replica_go_on (fun _ _ _ _ _ _ us hl => match us, hl with | [_], _ => rfl), a_Replica_go_on, i_Replica_go_on, k_Replica_go_on⟩
    d_Replica_do_first := ⟨def_mk l_Replica_do_first q_Replica_do_first k_Replica_do_first (fun _ _ _ _ _ _ us hl => match us, hl with | [_], _ => rfl), a_Replica_do_first, i_Replica_do_first, k_Replica_do_first⟩
    d_Replica_reach := ⟨def_mk l_Replica_reach q_Replica_reach k_Replica_reach (fun _ _ _ _ _ _ us hl => match us, hl with | [_], _ => rfl), a_Replica_reach, i_Replica_reach, k_Replica_reach⟩
    d_Replica_enter_first_turn := ⟨def_mk l_Replica_enter_first_turn q_Replica_enter_first_turn k_Replica_enter_first_turn (fun _ _ _ _ _ _ us hl => match us, hl with | [_], _ => rfl), a_Replica_enter_first_turn, i_Replica_enter_first_turn, k_Replica_enter_first_turn⟩
    d_Replica_enter := ⟨def_mk l_Replica_enter q_Replica_enter k_Replica_enter (fun _ _ _ _ _ _ us hl => match us, hl with | [_, _], _ => rfl), a_Replica_enter, i_Replica_enter, k_Replica_enter⟩
    d_Replica_choice := ⟨def_mk l_Replica_choice q_Replica_choice k_Replica_choice (fun _ _ _ _ _ _ us hl => match us, hl with | [_], _ => rfl), a_Replica_choice, i_Replica_choice, k_Replica_choice⟩
    d_Replica_certified := ⟨def_mk l_Replica_certified q_Replica_certified k_Replica_certified (fun _ _ _ _ _ _ us hl => match us, hl with | [_, _], _ => rfl), a_Replica_certified, i_Replica_certified, k_Replica_certified⟩
    d_Replica_prevote := ⟨def_mk l_Replica_prevote q_Replica_prevote k_Replica_prevote (fun _ _ _ _ _ _ us hl => match us, hl with | [_, _], _ => rfl), a_Replica_prevote, i_Replica_prevote, k_Replica_prevote⟩
    d_Replica_sign := ⟨def_mk l_Replica_sign q_Replica_sign k_Replica_sign (fun _ _ _ _ _ _ us hl => match us, hl with | [_, _], _ => rfl), a_Replica_sign, i_Replica_sign, k_Replica_sign⟩
    d_Replica_take_in := ⟨def_mk l_Replica_take_in q_Replica_take_in k_Replica_take_in (fun _ _ _ _ _ _ us hl => match us, hl with | [_, _], _ => rfl), a_Replica_take_in, i_Replica_take_in, k_Replica_take_in⟩
    d_Replica_is_leader := ⟨def_mk l_Replica_is_leader q_Replica_is_leader k_Replica_is_leader (fun _ _ _ _ _ _ us hl => match us, hl with | [_, _, _], _ => rfl), a_Replica_is_leader, i_Replica_is_leader, k_Replica_is_leader⟩
    d_law_cell := ⟨def_mk l_law_cell q_law_cell k_law_cell (fun _ _ _ _ _ _ us hl => match us, hl with | [_, _], _ => rfl), PySem.W.mg_of X G a_law_cell, k_law_cell⟩
    d_law_entered := ⟨def_mk l_law_entered q_law_entered k_law_entered (fun _ _ _ _ _ _ us hl => match us, hl with | [_, _, _], _ => rfl), PySem.W.mg_of X G a_law_entered, k_law_entered⟩ }
  have TE : TxtE l.prog K mg ⟨C_Committee, C_Book, C_Journal, C_Ledger, C_Chain, C_Pool, C_Replica, f_proposal, f_prevote, f_precommit, f_is_vote, f_clash, f_abandons, f_first_wrong, f_Committee_init, f_Committee_weight_of, f_Committee_is_quorum, f_Committee_leader, f_votes_by_turn, f_counts, f_certified_turns, f_committed_turns, f_missing, f_Book_init, f_Book_belongs, f_Book_enter, f_Book_add, f_Book_latest, f_Journal_init, f_Journal_sign, f_Journal_last_turn, f_Ledger_init, f_first_ledger, f_Chain_init, f_Chain_height, f_Chain_committee, f_block_of, f_Pool_init, f_Pool_block, f_Replica_init, f_Replica_start, f_Replica_timeout, f_Replica_begin_call, f_Replica_go_on, f_Replica_do_first, f_Replica_reach, f_Replica_enter_first_turn, f_Replica_enter, f_Replica_choice, f_Replica_certified, f_Replica_prevote, f_Replica_sign, f_Replica_take_in, f_Replica_is_leader, f_law_cell, f_law_entered, C_Refused, f_Refused_init⟩ := {
    g_Refused := PySem.W.mg_of X G g_Refused
    sup_Refused := ⟨_, { fn := ⟨_, _, _, _, _, _, _, _, _, _, _, _, _, _, _, _, _, _, _, rfl, l_Refused_init, q_Refused_init, ce_Refused_init, co_Refused_init, v2_Refused_init, fi_Refused_init⟩, oex := ⟨⟨_, _, _, _, _, _, _, _, _, _, _, _, _, _, _, lc_Refused, rb_Refused⟩, sa_Refused, eb_Refused, ty_Refused, kc_Refused⟩, sup := su_Refused, opq := op_Refused, subV := sv_Refused, mroC := mc_Refused, nof := nf_Refused, topS := ts_Refused }, .all fun us hl => match us, hl with | [_, _], _ => rfl⟩
    iC_Refused := a_Refused_init
    tI_Refused := tI_Refused_init
    oex_Refused := ⟨⟨_, _, _, _, _, _, _, _, _, _, _, _, _, _, _, lc_Refused, rb_Refused⟩, sa_Refused, eb_Refused, ty_Refused, kc_Refused⟩
    xc_Refused := ⟨by unfold PySem.W.clsIn; rw [lc_Refused]; rfl, xga_Refused, xgt_Refused, eb_Refused, xhd_Refused, xcc_Refused, xsp_Refused, xtk_Refused, xmo_Refused⟩
    exm_Refused_Refused := PySem.W.exm_ref te1_Refused te2_Refused te3_Refused te4_Refused_Refused }
  have F5 := fun_mk (st := s_law) l_law q_law k_law
  exact ⟨PySem.W.fnOf "law" "law" (defArgs s_law) (defBody s_law) (defScope s_law) .none kV_law dc_law pm_law an_law cd_law ct_law, fun s v => .of_eq rfl, fun base _ _ => ok_law F5 TE T⟩
theorem walk {l : PySem.W.OpenLaw} {q : Program} {loose : List Str} {XP : (Str → Option Value) → Heap → Prop} {YP : World → Heap → Prop} {d : DefRec} {K : Params → PySem.W.Frag} (hn : l.most = some 63) (hdf : d.params.defaults = [])
    (hY : ∀ (w : World) (h : Heap), YP w h → (K w.params).In h)
    (F : ∀ (w : World) (mg : Str → Option Value) (fa : Addr) (h : Heap), (K w.params).In h → h.Ns mainGlobals mg → mg d.name = some (.ref fa) →
      ∃ fd : FuncData, (∀ (s : Shared) (u : Value), BindsTo s fd ⟨[u], []⟩ [("script", u)]) ∧ ∀ base : Heap, (K w.params).In base → base.Ns mainGlobals mg → FnOk l.prog w (K w.params) mg base CX0 14 fa fd ["script"] (spLaw (K w.params))) :
    PySem.W.WalkO q loose XP YP l.row.toRowW d [] (fun f vs => PySem.call f vs) :=
  L2.walk_of (n := 63) (k := 14) (x := "script") (CX := fun _ => CX0) (sp := fun w => spLaw (K w.params)) hn (by decide) hdf ⟨rfl, by decide, by decide⟩ hY F (fun _ _ a ns hl _ hS => ⟨a, ns, rfl, hS, hl, fun _ => rfl⟩) fun _ _ _ _ _ z => z
end Toy
namespace PySem.W.Fast
theorem tw2619692467633165532 : True := trivial
theorem tw11013015650752563966 : True := trivial
theorem tw3385090278857068021 : True := trivial
theorem tw12396966311865448064 : True := trivial
theorem tw675965065331939464 : True := trivial
theorem tw7108804610204852171 : True := trivial
theorem tw4281588147071858252 : True := trivial
theorem tw15363265272441372967 : True := trivial
theorem tw3177683898315019514 : True := trivial
theorem tw6836369123790694665 : True := trivial
theorem tw9783076534618906369 : True := trivial
theorem tw4341286307442823289 : True := trivial
theorem tw13891495950257555440 : True := trivial
theorem tw1372072163875572173 : True := trivial
theorem tw6337508566897621976 : True := trivial
theorem tw2738575331823458950 : True := trivial
theorem tw10227030524316191761 : True := trivial
theorem tw18340637308435629532 : True := trivial
theorem tw4222535325395708144 : True := trivial
theorem tw7067400405880944465 : True := trivial
theorem tw12955844616455872900 : True := trivial
theorem tw15508210757552985677 : True := trivial
theorem tw17322209093111284288 : True := trivial
theorem tw4655231368242468978 : True := trivial
theorem tw8475132820953328839 : True := trivial
theorem tw9537263977117808550 : True := trivial
theorem tw14881154051750394174 : True := trivial
theorem tw3624136838630217166 : True := trivial
theorem tw18063076539796510644 : True := trivial
theorem tw11157209654022803560 : True := trivial
theorem tw1135094440678672093 : True := trivial
theorem tw17405557216455212824 : True := trivial
theorem tw6572355551313433758 : True := trivial
theorem tw10945821232307712791 : True := trivial
theorem tw8130665355949065105 : True := trivial
theorem tw6591704154899298335 : True := trivial
theorem tw8311860667451716929 : True := trivial
theorem tw17746191998957970950 : True := trivial
theorem tw14267677965949842534 : True := trivial
theorem tw8441067663571871621 : True := trivial
theorem tw8522037761765131008 : True := trivial
theorem tw1288175204304381614 : True := trivial
theorem tw13843215256170656376 : True := trivial
theorem tw7019988166159101443 : True := trivial
theorem tw7876166565518248494 : True := trivial
theorem tw13337979612981621039 : True := trivial
theorem tw3878446848109329459 : True := trivial
theorem tw203982237438295900 : True := trivial
theorem tw9746927794674353482 : True := trivial
theorem tw15093117538297984788 : True := trivial
theorem tw17597200899586916112 : True := trivial
theorem tw7084921163699849342 : True := trivial
theorem tw5011633206758738499 : True := trivial
theorem tw5982675291621246467 : True := trivial
theorem tw3477602967626606090 : True := trivial
theorem tw9185135422515618635 : True := trivial
theorem tw12091241709645368322 : True := trivial
theorem tw5838347432039018730 : True := trivial
theorem tw13355914122385318149 : True := trivial
theorem tw2067300161085582608 : True := trivial
theorem tw1589652456795111573 : True := trivial
theorem tw6752198605440161993 : True := trivial
theorem tw8005874733750194611 : True := trivial
theorem tw1667724433747210780 : True := trivial
theorem tw4587347035721422854 : True := trivial
theorem tw13251551470538771461 : True := trivial
theorem tw10127548250952521628 : True := trivial
theorem tw17736775969842870685 : True := trivial
theorem tw8119180702207263752 : True := trivial
theorem tw1007284435527583903 : True := trivial
theorem tw9675900608821706680 : True := trivial
theorem tw4549313032370498924 : True := trivial
theorem tw5543342916953797110 : True := trivial
theorem tw8461277888712490239 : True := trivial
theorem tw4447289432145958205 : True := trivial
theorem tw4146032905287242500 : True := trivial
theorem tw2522122553367883416 : True := trivial
theorem tw17787753070569064499 : True := trivial
theorem tw5313429319327381718 : True := trivial
theorem tw14008367829471530824 : True := trivial
theorem tw17239807236088233886 : True := trivial
theorem tw11875205058742878393 : True := trivial
theorem tw10289442991015173435 : True := trivial
theorem tw9556032548174554320 : True := trivial
theorem tw10215997412680181126 : True := trivial
theorem tw10703235062309878432 : True := trivial
theorem tw16022043419064309094 : True := trivial
theorem tw6318564248363946235 : True := trivial
theorem tw3241892377035763676 : True := trivial
theorem tw1712482020749788309 : True := trivial
theorem tw8406441329137467010 : True := trivial
theorem tw10161168069346396242 : True := trivial
theorem tw11384661331622567722 : True := trivial
theorem tw13386086368203088515 : True := trivial
theorem tw6283138087709011589 : True := trivial
theorem tw15459823779596324317 : True := trivial
theorem tw5737742433993699294 : True := trivial
theorem tw10643810438424972514 : True := trivial
theorem tw15822690604367085336 : True := trivial
theorem tw3908973170306539450 : True := trivial
theorem tw9082355507969324852 : True := trivial
theorem tw15138694788574026461 : True := trivial
theorem tw8169382272396959201 : True := trivial
theorem tw18070735867089865192 : True := trivial
theorem tw10709685518570661187 : True := trivial
theorem tw8633846278556371218 : True := trivial
theorem tw8781718276928106134 : True := trivial
theorem tw14964707581931637187 : True := trivial
theorem tw11773778037525211070 : True := trivial
theorem tw7243130723868959375 : True := trivial
theorem tw2614794405964219252 : True := trivial
theorem tw14768800128944963717 : True := trivial
theorem tw6672185709510602620 : True := trivial
theorem tw18216661898077188909 : True := trivial
theorem tw5888585664924069513 : True := trivial
theorem tw4415199649242855485 : True := trivial
theorem tw7868751481229769229 : True := trivial
theorem tw6522458004266857700 : True := trivial
theorem tw18072792718381658538 : True := trivial
theorem tw6846588914440616159 : True := trivial
theorem tw7362129536399537720 : True := trivial
theorem tw17538856471625631320 : True := trivial
theorem tw13936524787686224374 : True := trivial
theorem tw11993820090874095102 : True := trivial
theorem tw8622263559667202279 : True := trivial
theorem tw301393400765666137 : True := trivial
theorem tw14647698482672941808 : True := trivial
theorem tw12294334195025873919 : True := trivial
theorem tw17666492733160395715 : True := trivial
theorem tw14806864354639755610 : True := trivial
theorem tw14070280623677828356 : True := trivial
theorem tw15458227290715871867 : True := trivial
theorem tw8003556243184833057 : True := trivial
theorem tw3810940418065999866 : True := trivial
theorem tw155554116934785911 : True := trivial
theorem tw4871126934259297940 : True := trivial
theorem tw11567759680494813489 : True := trivial
theorem tw18140159398312981218 : True := trivial
theorem tw1163080797372692856 : True := trivial
theorem tw8200931292415337132 : True := trivial
theorem tw12784501290771550965 : True := trivial
theorem tw11809013295313738333 : True := trivial
theorem tw6173767368992869573 : True := trivial
theorem tw15427918497897969707 : True := trivial
theorem tw7860320879379979623 : True := trivial
theorem tw15985990401763948338 : True := trivial
theorem tw11556374202926931340 : True := trivial
theorem tw6933673751908374326 : True := trivial
theorem tw5942657497972351662 : True := trivial
theorem tw6794825582800299723 : True := trivial
theorem tw14178037196348007148 : True := trivial
theorem tw3913493665688387763 : True := trivial
theorem tw7743362709102340067 : True := trivial
theorem tw17678026838438311173 : True := trivial
theorem tw12565341029561385482 : True := trivial
theorem tw9262932715843422754 : True := trivial
theorem tw8592531187945443067 : True := trivial
theorem tw196160380723431112 : True := trivial
theorem tw8815900559181094687 : True := trivial
theorem tw2948368650640055457 : True := trivial
theorem tw13721360810208763458 : True := trivial
theorem tw333541393864137966 : True := trivial
theorem tw5171788623801491609 : True := trivial
theorem tw14405274301914243575 : True := trivial
theorem tw1097579175775206931 : True := trivial
theorem tw17347727915940623240 : True := trivial
theorem tw12805682302482149435 : True := trivial
theorem tw2739947009655009432 : True := trivial
theorem tw5857261029295415774 : True := trivial
theorem tw1273115416035959575 : True := trivial
theorem tw17037178517046747912 : True := trivial
theorem tw16487767949174188265 : True := trivial
theorem tw2655545370685182050 : True := trivial
theorem tw16256889844287004714 : True := trivial
theorem tw12481817288886129110 : True := trivial
theorem tw18313541147265033787 : True := trivial
theorem tw5666883281721794868 : True := trivial
theorem tw5382344811651823664 : True := trivial
theorem tw3897985510395654110 : True := trivial
theorem tw5068013022506629370 : True := trivial
theorem tw4189767204309843526 : True := trivial
theorem tw6550595584155004118 : True := trivial
theorem tw18069560060053307026 : True := trivial
theorem tw11168818111709856469 : True := trivial
theorem tw15979254321912337873 : True := trivial
theorem tw14866128912556913184 : True := trivial
theorem tw3115585442824664499 : True := trivial
theorem tw11425656426055339570 : True := trivial
theorem tw3826136888147677806 : True := trivial
theorem tw3393814721859016407 : True := trivial
theorem tw8691070456630788640 : True := trivial
theorem tw13887003743026947099 : True := trivial
theorem tw16840859068553481722 : True := trivial
theorem tw5728513826867128564 : True := trivial
theorem tw4055965662140437023 : True := trivial
theorem tw11411359380606072478 : True := trivial
theorem tw7599828543158022770 : True := trivial
theorem tw15517299020078463059 : True := trivial
theorem tw4363812256989228377 : True := trivial
theorem tw14093240617133303286 : True := trivial
theorem tw91372805828890436 : True := trivial
theorem tw18143419623740066492 : True := trivial
theorem tw12506063360023640740 : True := trivial
theorem tw10822772136393063236 : True := trivial
theorem tw5163896242425967367 : True := trivial
theorem tw13467138642294268421 : True := trivial
theorem tw14922683771523993643 : True := trivial
theorem tw10288141215700873132 : True := trivial
theorem tw10610955641949775894 : True := trivial
theorem tw16128659074442127165 : True := trivial
theorem tw10167065112256901727 : True := trivial
theorem tw15212145595795787575 : True := trivial
theorem tw8111574681906420950 : True := trivial
theorem tw4286020702963799213 : True := trivial
theorem tw16956245044063835365 : True := trivial
theorem tw7931713524805283733 : True := trivial
theorem tw3389484553375620962 : True := trivial
theorem tw7299525294436881759 : True := trivial
theorem tw13518182365342933815 : True := trivial
theorem tw8938224040923834757 : True := trivial
theorem tw8210627198218882841 : True := trivial
theorem tw15938576176317998067 : True := trivial
theorem tw5634610690251966596 : True := trivial
theorem tw6003889114698023779 : True := trivial
theorem tw1312817794787010040 : True := trivial
theorem tw17510155418588313976 : True := trivial
theorem tw4255293805831252772 : True := trivial
theorem tw361920744704429667 : True := trivial
theorem tw3683875429174459341 : True := trivial
theorem tw559156862820961129 : True := trivial
theorem tw9311535599265671463 : True := trivial
theorem tw13776247356372788219 : True := trivial
theorem tw4389307695036133692 : True := trivial
theorem tw753935742179241734 : True := trivial
theorem tw2069551898068054246 : True := trivial
theorem tw16586837085845365264 : True := trivial
theorem tw10016015783276305070 : True := trivial
theorem tw12850758815413835818 : True := trivial
theorem tw1599718823120853601 : True := trivial
theorem tw6709668327848593614 : True := trivial
theorem tw13428627826700025863 : True := trivial
theorem tw14726683076364391423 : True := trivial
theorem tw16923284992962367419 : True := trivial
theorem tw7911846543150945870 : True := trivial
theorem tw5484959451341159911 : True := trivial
theorem tw14022295829313228327 : True := trivial
theorem tw14952958378996086187 : True := trivial
theorem tw7331453888986107695 : True := trivial
theorem tw9493800984403198393 : True := trivial
theorem tw1308425425192715927 : True := trivial
theorem tw13820504572779288981 : True := trivial
theorem tw8538874693126660282 : True := trivial
theorem tw6866508452915692120 : True := trivial
theorem tw47868813146103916 : True := trivial
theorem tw4474323999085316295 : True := trivial
theorem tw4646962003445193827 : True := trivial
theorem tw2259196910928780187 : True := trivial
theorem tw1332197464787436618 : True := trivial
theorem tw14817531085616471993 : True := trivial
theorem tw4245859523457511815 : True := trivial
theorem tw4244387324267646111 : True := trivial
theorem tw9389342306223046822 : True := trivial
theorem tw10541112276183043677 : True := trivial
theorem tw11028676257513696461 : True := trivial
theorem tw17582658991117506486 : True := trivial
theorem tw6942920763352667599 : True := trivial
theorem tw13647903357909112205 : True := trivial
theorem tw2039679330770869238 : True := trivial
theorem tw1590813930993035009 : True := trivial
theorem tw14745264029390262165 : True := trivial
theorem tw3898088328949508242 : True := trivial
theorem tw17561556012017301260 : True := trivial
theorem tw16013141284620287934 : True := trivial
theorem tw427186606288631142 : True := trivial
theorem tw9847057571191384403 : True := trivial
theorem tw15703666506977688849 : True := trivial
theorem tw2959343810158504419 : True := trivial
theorem tw14139270492535775960 : True := trivial
theorem tw632487415782850440 : True := trivial
theorem tw2752241145250278750 : True := trivial
theorem tw12464317061540449736 : True := trivial
theorem tw4821140727330755633 : True := trivial
theorem tw10963341152472698349 : True := trivial
theorem tw17444661150388040283 : True := trivial
theorem tw18214355020665795984 : True := trivial
theorem tw6340089337490520872 : True := trivial
theorem tw13232810808747742569 : True := trivial
theorem tw17489546748762935414 : True := trivial
theorem tw16559591486581046266 : True := trivial
theorem tw2494029848345465132 : True := trivial
theorem tw2841300515242157336 : True := trivial
theorem tw469244821379012727 : True := trivial
theorem tw13264227050056378351 : True := trivial
theorem tw870937280399420570 : True := trivial
theorem tw2834000104243702015 : True := trivial
theorem tw17774603231469996093 : True := trivial
theorem tw12639215030555080552 : True := trivial
theorem tw6398860434270532868 : True := trivial
theorem tw1101212851872917157 : True := trivial
theorem tw9151042811651475005 : True := trivial
theorem tw1961014363019921680 : True := trivial
theorem tw6480333310115010017 : True := trivial
theorem tw16495973879630160422 : True := trivial
theorem tw13649862612621695836 : True := trivial
theorem tw6814761817675340197 : True := trivial
theorem tw12750586706336768851 : True := trivial
theorem tw5300116364468685880 : True := trivial
theorem tw1780977555659904108 : True := trivial
theorem tw12287430524083189515 : True := trivial
theorem tw14672115161549709661 : True := trivial
theorem tw17431905161828991102 : True := trivial
theorem tw1968136312041753246 : True := trivial
theorem tw3176605270397517352 : True := trivial
theorem tw6765552393544854115 : True := trivial
theorem tw3573898293541595638 : True := trivial
theorem tw9907152964831128274 : True := trivial
theorem tw10470636363514420120 : True := trivial
theorem tw2214864549781392566 : True := trivial
theorem tw8376847358929611405 : True := trivial
theorem tw5645606877869899151 : True := trivial
theorem tw15847378751149518767 : True := trivial
theorem tw15456328947080863136 : True := trivial
theorem tw15412574098287893293 : True := trivial
theorem tw7512497626129939097 : True := trivial
theorem tw1974493672040622552 : True := trivial
theorem tw15033645303899480174 : True := trivial
theorem tw9130185212086464846 : True := trivial
theorem tw15296598113599607100 : True := trivial
theorem tw18236335628130887614 : True := trivial
theorem tw5084335107574628955 : True := trivial
theorem tw4497084965923063404 : True := trivial
theorem tw3554487666894593697 : True := trivial
theorem tw8851673851528913421 : True := trivial
theorem tw6823549460851705577 : True := trivial
theorem tw7087404628062520355 : True := trivial
theorem tw8988797661271343288 : True := trivial
theorem tw6234578014824989191 : True := trivial
theorem tw4623998136740813647 : True := trivial
theorem tw10350037081974696498 : True := trivial
theorem tw12431400001641509132 : True := trivial
theorem tw10692718437996576052 : True := trivial
theorem tw11973807634717735795 : True := trivial
theorem tw5492834046382194993 : True := trivial
theorem tw14157002129069370688 : True := trivial
theorem tw10013599175076938987 : True := trivial
theorem tw6193914299805885803 : True := trivial
theorem tw162327719203808028 : True := trivial
theorem tw17959430120573077307 : True := trivial
theorem tw17759798214623885569 : True := trivial
theorem tw14664639802851598280 : True := trivial
theorem tw13609821185174850071 : True := trivial
theorem tw3762041176135809324 : True := trivial
theorem tw5346314968874081108 : True := trivial
theorem tw11454002364284029492 : True := trivial
theorem tw722167468494655424 : True := trivial
theorem tw7601681498762326511 : True := trivial
theorem tw14173790509353839609 : True := trivial
theorem tw9618598541413340101 : True := trivial
theorem tw539397038207657416 : True := trivial
theorem tw9671845050877670356 : True := trivial
theorem tw10683870614294524768 : True := trivial
theorem tw14568715521690634880 : True := trivial
theorem tw14974336279474544585 : True := trivial
theorem tw7732504484447463845 : True := trivial
theorem tw1950214484866744025 : True := trivial
theorem tw12624924684794132779 : True := trivial
theorem tw5092675062345876557 : True := trivial
theorem tw4129572469484134864 : True := trivial
theorem tw10555629914783432311 : True := trivial
theorem tw17593479711371019714 : True := trivial
theorem tw3784871726000088823 : True := trivial
theorem tw9669685455717790526 : True := trivial
theorem tw12721373141353332921 : True := trivial
theorem tw8279571984469588381 : True := trivial
theorem tw4970191035051616563 : True := trivial
theorem tw14235752196938524728 : True := trivial
theorem tw10413130384678757101 : True := trivial
theorem tw3233339595341124720 : True := trivial
theorem tw14766986001273017707 : True := trivial
theorem tw4895875681788178272 : True := trivial
theorem tw8453733226464042753 : True := trivial
theorem tw8128391734234796544 : True := trivial
theorem tw5445193271769107035 : True := trivial
theorem tw15324378239543373386 : True := trivial
theorem tw1210540852767533669 : True := trivial
theorem tw16151007304981363624 : True := trivial
theorem tw9650914609365307551 : True := trivial
theorem tw12891305822975820873 : True := trivial
theorem tw480217829764532965 : True := trivial
theorem tw7068676493003247449 : True := trivial
theorem tw11605149671773581369 : True := trivial
theorem tw6778904630626977904 : True := trivial
theorem tw4672177606389028050 : True := trivial
theorem tw1840448434740443167 : True := trivial
theorem tw1118952691130619600 : True := trivial
theorem tw14697224569769408731 : True := trivial
theorem tw4669202754457322874 : True := trivial
theorem tw1976271333383854679 : True := trivial
theorem tw5626598928298230409 : True := trivial
theorem tw6862180300190852705 : True := trivial
theorem tw9425560759853549783 : True := trivial
theorem tw5263248520624773817 : True := trivial
theorem tw6100276271363555512 : True := trivial
theorem tw13020602056662824872 : True := trivial
theorem tw15433021064071359477 : True := trivial
theorem tw4185800374901252090 : True := trivial
theorem tw9816893527943298435 : True := trivial
theorem tw9607019453584292992 : True := trivial
theorem tw7782182962691275885 : True := trivial
theorem tw14690153969538172863 : True := trivial
theorem tw6371226454347020952 : True := trivial
theorem tw6005545722034277114 : True := trivial
theorem tw7033679948356303006 : True := trivial
theorem tw10340602466145750022 : True := trivial
theorem tw11786624831588027107 : True := trivial
theorem tw15701843918339246643 : True := trivial
theorem tw12086448095461991676 : True := trivial
theorem tw3975528181961434266 : True := trivial
theorem tw5460463121293681800 : True := trivial
theorem tw6210018001583062082 : True := trivial
theorem tw1128825847580698002 : True := trivial
theorem tw242686107851703115 : True := trivial
theorem tw12567431423174227854 : True := trivial
theorem tw8140177017468148001 : True := trivial
theorem tw3829546783608231743 : True := trivial
theorem tw5491771003472899590 : True := trivial
theorem tw974328866515650372 : True := trivial
theorem tw14746983310584408901 : True := trivial
theorem tw11636889573389389295 : True := trivial
theorem tw5467314610626383400 : True := trivial
theorem tw1871310224786958142 : True := trivial
theorem tw13427137523058735941 : True := trivial
theorem tw12984814358672819730 : True := trivial
theorem tw16372405348301173913 : True := trivial
theorem tw9854126045321308893 : True := trivial
theorem tw7771000777622494211 : True := trivial
theorem tw3918056425421175998 : True := trivial
theorem tw5639183533224985865 : True := trivial
theorem tw11497922902168953168 : True := trivial
theorem tw16020379206953996832 : True := trivial
theorem tw6297741077975100570 : True := trivial
theorem tw5757355252954854000 : True := trivial
theorem tw7831574883633957418 : True := trivial
theorem tw6252481159296673434 : True := trivial
theorem tw11028419071228317445 : True := trivial
theorem tw9500863950570342024 : True := trivial
theorem tw60476127665991744 : True := trivial
theorem tw17445123070462251958 : True := trivial
theorem tw15591067784648447135 : True := trivial
theorem tw11671425312595276275 : True := trivial
theorem tw16227910985217851362 : True := trivial
theorem tw7957313906901716243 : True := trivial
theorem tw12470468371564485491 : True := trivial
theorem tw10171596873430322457 : True := trivial
theorem tw8120345595181843763 : True := trivial
theorem tw1449302073710718845 : True := trivial
theorem tw6342416605701650797 : True := trivial
theorem tw5031130120268565660 : True := trivial
theorem tw11884237270751935262 : True := trivial
theorem tw7572456113628961985 : True := trivial
theorem tw12096012429477696431 : True := trivial
theorem tw570143093937584586 : True := trivial
theorem tw9191385300691315504 : True := trivial
theorem tw16523843177147580150 : True := trivial
theorem tw7399550467789633169 : True := trivial
theorem tw9502285403881572770 : True := trivial
theorem tw8002323083833061668 : True := trivial
theorem tw12240057052883434245 : True := trivial
theorem tw11786469277094777205 : True := trivial
theorem tw4521842795702112377 : True := trivial
theorem tw9057332101345262632 : True := trivial
theorem tw2710822843884014481 : True := trivial
theorem tw13226845700413123100 : True := trivial
theorem tw16367759076918068188 : True := trivial
theorem tw15599416781356985518 : True := trivial
theorem tw9037518021565529117 : True := trivial
theorem tw1400491507052087651 : True := trivial
theorem tw755271738365807187 : True := trivial
theorem tw6479712535043268036 : True := trivial
theorem tw3701035991301484682 : True := trivial
theorem tw1041830108640073260 : True := trivial
theorem tw1129571493347568899 : True := trivial
theorem tw12364137221247277326 : True := trivial
theorem tw15000215469542281423 : True := trivial
theorem tw7725315795739114892 : True := trivial
theorem tw9169473767376553624 : True := trivial
theorem tw11236090562469329962 : True := trivial
theorem tw1515005043637061109 : True := trivial
theorem tw1538565918750861652 : True := trivial
theorem tw4894491566557284026 : True := trivial
theorem tw17636136789518112121 : True := trivial
theorem tw16916287957992042592 : True := trivial
theorem tw428464716683111788 : True := trivial
theorem tw5528960053351492600 : True := trivial
theorem tw10420358924390473393 : True := trivial
theorem tw947549830066473273 : True := trivial
theorem tw12232224041378003786 : True := trivial
theorem tw2383831629928033327 : True := trivial
theorem tw10505510515619550017 : True := trivial
theorem tw2264493068092442976 : True := trivial
theorem tw6045765739189317998 : True := trivial
theorem tw12877199772383335816 : True := trivial
theorem tw9715699510683606276 : True := trivial
theorem tw2186099823956111365 : True := trivial
theorem tw12074758615347885788 : True := trivial
theorem tw14539121037291257245 : True := trivial
theorem tw6774467236782223011 : True := trivial
theorem tw16164058564138620530 : True := trivial
theorem tw16651179709653357289 : True := trivial
theorem tw2094568253158334480 : True := trivial
theorem tw234922795863588659 : True := trivial
theorem tw1604249804937894474 : True := trivial
theorem tw18190870347987031245 : True := trivial
theorem tw11275022634612503194 : True := trivial
theorem tw763450807766325029 : True := trivial
theorem tw265272712632649533 : True := trivial
theorem tw12309564959237263613 : True := trivial
theorem tw17478905691618923791 : True := trivial
theorem tw9945182992644985729 : True := trivial
theorem tw4326759677346192058 : True := trivial
theorem tw15058385768575020665 : True := trivial
theorem tw615182380430471674 : True := trivial
theorem tw5155857081470771793 : True := trivial
theorem tw17987413688555434183 : True := trivial
theorem tw4415224918880674890 : True := trivial
theorem tw16867253564788767720 : True := trivial
theorem tw371544028212628690 : True := trivial
theorem tw8011877867853167696 : True := trivial
theorem tw14911478681675942675 : True := trivial
theorem tw2242778903805826648 : True := trivial
theorem tw17092591258825779230 : True := trivial
theorem tw3973673719046217033 : True := trivial
theorem tw9325881061653094727 : True := trivial
theorem tw11451271595537825512 : True := trivial
theorem tw17364536657969609735 : True := trivial
theorem tw6639930188208925362 : True := trivial
theorem tw8483449813442262625 : True := trivial
theorem tw16358292494672621323 : True := trivial
theorem tw6677905678096196954 : True := trivial
theorem tw17661902515969763053 : True := trivial
theorem tw5909688806704217227 : True := trivial
theorem tw14609061318564160296 : True := trivial
theorem tw490456117374809512 : True := trivial
theorem tw7634370589992595846 : True := trivial
theorem tw17735006362090936077 : True := trivial
theorem tw14506302678179849169 : True := trivial
theorem tw9216894785634166641 : True := trivial
theorem tw13788115421678537712 : True := trivial
theorem tw7551535857395152089 : True := trivial
theorem tw1278795254502305377 : True := trivial
theorem tw3911853980463765248 : True := trivial
theorem tw5631720234153565716 : True := trivial
theorem tw17963161009774939799 : True := trivial
theorem tw8699401803884638755 : True := trivial
theorem tw6873046654488905154 : True := trivial
theorem tw3956269311516149880 : True := trivial
theorem tw739787048331336483 : True := trivial
theorem tw14579771720524378532 : True := trivial
theorem tw16261586672767743927 : True := trivial
theorem tw5241264436802644303 : True := trivial
theorem tw13539049769073319465 : True := trivial
theorem tw662978882816592566 : True := trivial
theorem tw13729166450518771472 : True := trivial
theorem tw2592715669988916639 : True := trivial
theorem tw7978699108160076291 : True := trivial
theorem tw7816874540741689898 : True := trivial
theorem tw7800648401260480492 : True := trivial
theorem tw1407612109613510921 : True := trivial
theorem tw13377643761409343423 : True := trivial
theorem tw14511062248529207003 : True := trivial
theorem tw5183575422909209018 : True := trivial
theorem tw8734313704058219474 : True := trivial
theorem tw4145551301743870507 : True := trivial
theorem tw15523174146557668245 : True := trivial
theorem tw9611219473409349810 : True := trivial
theorem tw18008476385730842204 : True := trivial
theorem tw3334245457792547543 : True := trivial
theorem tw1171053358589316998 : True := trivial
theorem tw12825025267166971831 : True := trivial
theorem tw9653333409001554986 : True := trivial
theorem tw1685829164824772107 : True := trivial
theorem tw1644582860316196771 : True := trivial
theorem tw7933389889800144950 : True := trivial
theorem tw9892063791796628367 : True := trivial
theorem tw12136129026300607416 : True := trivial
theorem tw17269853727660765051 : True := trivial
theorem tw13962848717497419071 : True := trivial
theorem tw8283709501252786582 : True := trivial
theorem tw2075387739392578032 : True := trivial
theorem tw5292645766659530912 : True := trivial
theorem tw9294854562952429406 : True := trivial
theorem tw8139716651168353387 : True := trivial
theorem tw6460833206489078063 : True := trivial
theorem tw2674363366207443604 : True := trivial
theorem tw16213837004038956672 : True := trivial
theorem tw2528186878613057074 : True := trivial
theorem tw17294905235766828809 : True := trivial
theorem tw2831067309036335237 : True := trivial
theorem tw7531846182675438253 : True := trivial
theorem tw15482094427195145303 : True := trivial
theorem tw4863497962931347702 : True := trivial
theorem tw6768670259041241070 : True := trivial
theorem tw7082230989599419088 : True := trivial
theorem tw8046461827786843950 : True := trivial
theorem tw462019522055754698 : True := trivial
theorem tw14902924347907783620 : True := trivial
theorem tw15879679321878511029 : True := trivial
theorem tw2926881529947313090 : True := trivial
theorem tw5666876442993244600 : True := trivial
theorem tw3988593686119686739 : True := trivial
theorem tw483428089684376480 : True := trivial
theorem tw6139879127388380437 : True := trivial
theorem tw15667971505426017367 : True := trivial
theorem tw15311112884105884305 : True := trivial
theorem tw9833168805355583437 : True := trivial
theorem tw3333812508383310092 : True := trivial
theorem tw3196900169520185061 : True := trivial
theorem tw9915714440861354043 : True := trivial
theorem tw11720018702384041510 : True := trivial
theorem tw13215837290262839559 : True := trivial
theorem tw15475045950400905115 : True := trivial
theorem tw17377513406746963748 : True := trivial
theorem tw4762245414303642010 : True := trivial
theorem tw14175168087742014841 : True := trivial
theorem tw6727793109512029305 : True := trivial
theorem tw14457558452640832855 : True := trivial
theorem tw13225245778448007278 : True := trivial
theorem tw10295212444825629415 : True := trivial
theorem tw1477779856389148923 : True := trivial
theorem tw14193500151814097314 : True := trivial
theorem tw14571300041342719064 : True := trivial
theorem tw11803519499516480975 : True := trivial
theorem tw925598111171644519 : True := trivial
theorem tw17155132309207631573 : True := trivial
theorem tw480007506021597397 : True := trivial
theorem tw10184849484335807703 : True := trivial
theorem tw10345565265792860741 : True := trivial
theorem tw16381244104335350868 : True := trivial
theorem tw6021723514545764259 : True := trivial
theorem tw9654565611144409168 : True := trivial
theorem tw1711278882234507420 : True := trivial
theorem tw7827545587348357488 : True := trivial
theorem tw737505757752083507 : True := trivial
theorem tw17603638042004266732 : True := trivial
theorem tw14677960859325660399 : True := trivial
theorem tw4045444713188114756 : True := trivial
theorem tw10676351360275470394 : True := trivial
theorem tw16440496212731672899 : True := trivial
theorem tw8152641950659698873 : True := trivial
theorem tw18277457684354937098 : True := trivial
theorem tw13501186271406166503 : True := trivial
theorem tw7113976371658175059 : True := trivial
theorem tw15367240433720630583 : True := trivial
theorem tw13765146799190651612 : True := trivial
theorem tw10031749142048052822 : True := trivial
theorem tw14325804113460040211 : True := trivial
theorem tw17184670472105646514 : True := trivial
theorem tw12703749304428106216 : True := trivial
theorem tw2818441933392384542 : True := trivial
theorem tw12898839802630316151 : True := trivial
theorem tw3036619514094242879 : True := trivial
theorem tw13442705338660373841 : True := trivial
theorem tw7703999160320025386 : True := trivial
theorem tw4197964440570633955 : True := trivial
theorem tw10737148581731358932 : True := trivial
theorem tw16794234447285789143 : True := trivial
theorem tw14821470149426382964 : True := trivial
theorem tw7534100857118972011 : True := trivial
theorem tw18443806587987721506 : True := trivial
theorem tw5851259333662428964 : True := trivial
theorem tw14043873363512246537 : True := trivial
theorem tw3369467284338001628 : True := trivial
theorem tw1504419756482776601 : True := trivial
theorem tw82373902192934845 : True := trivial
theorem tw5067344247478307121 : True := trivial
theorem tw16697812041110879016 : True := trivial
theorem tw8939051498156656783 : True := trivial
theorem tw7621748866409041181 : True := trivial
theorem tw7607887416190374724 : True := trivial
theorem tw8813155944911511233 : True := trivial
theorem tw4371011259959425855 : True := trivial
theorem tw17176347988914735540 : True := trivial
theorem tw10302021426227589390 : True := trivial
theorem tw1886987363945394489 : True := trivial
theorem tw4949955581263574892 : True := trivial
theorem tw2359299271878742882 : True := trivial
theorem tw11727819419456322027 : True := trivial
theorem tw15561833047547332271 : True := trivial
theorem tw12946429564934247206 : True := trivial
theorem tw5983001907126562015 : True := trivial
theorem tw4552668897706051293 : True := trivial
theorem tw1706802031323124768 : True := trivial
theorem tw15483607651084772219 : True := trivial
theorem tw6250461477991159958 : True := trivial
theorem tw8997348686381101248 : True := trivial
theorem tw1910770616070592315 : True := trivial
theorem tw3436479211615145889 : True := trivial
theorem tw6653077358440814705 : True := trivial
theorem tw14867901988363750983 : True := trivial
theorem tw13783935690556560948 : True := trivial
theorem tw5298595049218962088 : True := trivial
theorem tw4150719385704143029 : True := trivial
theorem tw12279481457540619940 : True := trivial
theorem tw1651843015559284612 : True := trivial
theorem tw4797918693650221328 : True := trivial
theorem tw16992724655258076714 : True := trivial
theorem tw9362885486944846224 : True := trivial
theorem tw1215255237584523626 : True := trivial
theorem tw12164975296079429376 : True := trivial
theorem tw8471742741812508229 : True := trivial
theorem tw8107479354017420192 : True := trivial
theorem tw16811523440050498051 : True := trivial
theorem tw11043217602507042936 : True := trivial
theorem tw6829567872662136241 : True := trivial
theorem tw815635603813833382 : True := trivial
theorem tw15530201762602061647 : True := trivial
theorem tw17930573348407411384 : True := trivial
theorem tw15911892197792152832 : True := trivial
theorem tw3358180625622844189 : True := trivial
theorem tw9377316064232915374 : True := trivial
theorem tw3066324125427907703 : True := trivial
theorem tw17638386545409590111 : True := trivial
theorem tw989904380622261424 : True := trivial
theorem tw10455615092166603065 : True := trivial
theorem tw10071973707507649007 : True := trivial
theorem tw6339293241797754774 : True := trivial
theorem tw11223127138685638996 : True := trivial
theorem tw14889279626538390560 : True := trivial
theorem tw1596224700037693242 : True := trivial
theorem tw14290044701213222553 : True := trivial
theorem tw13631288096508159198 : True := trivial
theorem tw7521846198995089396 : True := trivial
theorem tw9409765028776249275 : True := trivial
theorem tw1228187255742437190 : True := trivial
theorem tw15751265172193064932 : True := trivial
theorem tw7666801519691558881 : True := trivial
theorem tw4744450064860764879 : True := trivial
theorem tw4286334787824642793 : True := trivial
theorem tw7122670031398413620 : True := trivial
theorem tw12438484708338694631 : True := trivial
theorem tw11881545557918165539 : True := trivial
theorem tw6948940052349213403 : True := trivial
theorem tw8523106198299855687 : True := trivial
theorem tw3560147643645194346 : True := trivial
theorem tw13431661724791065678 : True := trivial
theorem tw1806223530869336570 : True := trivial
theorem tw15393042064671620186 : True := trivial
theorem tw11024954056869740309 : True := trivial
theorem tw15925308744576137188 : True := trivial
theorem tw1326262285927064947 : True := trivial
theorem tw15873970756618573407 : True := trivial
theorem tw6155660942389509811 : True := trivial
theorem tw3932847982771054457 : True := trivial
theorem tw1301166208752701643 : True := trivial
theorem tw5041561003973851546 : True := trivial
theorem tw8932597534597864930 : True := trivial
theorem tw3059244615042792213 : True := trivial
theorem tw18434608888608438704 : True := trivial
theorem tw3730061134977639974 : True := trivial
theorem tw5281804558599946947 : True := trivial
theorem tw3748295136790510426 : True := trivial
theorem tw3798625964698898045 : True := trivial
theorem tw10030290155961903312 : True := trivial
theorem tw16151539167619859676 : True := trivial
theorem tw2186026191206869038 : True := trivial
theorem tw15574303831064856950 : True := trivial
theorem tw8185912566650538666 : True := trivial
theorem tw3309483793758537380 : True := trivial
theorem tw8933575800346036136 : True := trivial
theorem tw10716848002088285770 : True := trivial
theorem tw2429595649008494145 : True := trivial
theorem tw8866728358238266513 : True := trivial
theorem tw12673592990912766075 : True := trivial
theorem tw10347254144606458197 : True := trivial
theorem tw10482819036960050956 : True := trivial
theorem tw18404575671720344967 : True := trivial
theorem tw2724959839248662950 : True := trivial
theorem tw4754037736581682419 : True := trivial
theorem tw12506907987855733316 : True := trivial
theorem tw17107122792271356100 : True := trivial
theorem tw17451762392194448552 : True := trivial
theorem tw7058416339358180249 : True := trivial
theorem tw124955146845739000 : True := trivial
theorem tw11577770841303122803 : True := trivial
theorem tw3401116364005534439 : True := trivial
theorem tw13401144658640689557 : True := trivial
theorem tw959088212043582908 : True := trivial
theorem tw16724727307640290812 : True := trivial
theorem tw1394414681706996262 : True := trivial
theorem tw12024732367870294837 : True := trivial
theorem tw5585870893016437359 : True := trivial
theorem tw15145082928424721603 : True := trivial
theorem tw8307415152577442881 : True := trivial
theorem tw17253796487894528748 : True := trivial
theorem tw13224351020861651020 : True := trivial
theorem tw10406995811394990406 : True := trivial
theorem tw12070970427637483053 : True := trivial
theorem tw13576969576969942572 : True := trivial
theorem tw17453737203466274218 : True := trivial
theorem tw4053569648071633720 : True := trivial
theorem tw17843246582802238225 : True := trivial
theorem tw14833114192712216318 : True := trivial
theorem tw8147754259895178944 : True := trivial
theorem tw66400093269911078 : True := trivial
theorem tw2711801787222208296 : True := trivial
theorem tw5213628944063326207 : True := trivial
theorem tw17950919321320658061 : True := trivial
theorem tw3050772500849282623 : True := trivial
theorem tw2220669794347259916 : True := trivial
theorem tw695047926519396738 : True := trivial
theorem tw6912575594370269295 : True := trivial
theorem tw4227975012217356557 : True := trivial
theorem tw10299393813637707704 : True := trivial
theorem tw17648730625613719184 : True := trivial
theorem tw2469620144495153673 : True := trivial
theorem tw11163797490391675695 : True := trivial
theorem tw10126077514319793544 : True := trivial
theorem tw12255379316662209080 : True := trivial
theorem tw5566365656874688791 : True := trivial
theorem tw16024712428986482101 : True := trivial
theorem tw17783442256403942503 : True := trivial
theorem tw8118208529821021391 : True := trivial
theorem tw16780626722786726573 : True := trivial
theorem tw10114709956248953332 : True := trivial
theorem tw1810717722859028872 : True := trivial
theorem tw987304224394658351 : True := trivial
theorem tw15105644598816240164 : True := trivial
theorem tw13209059498339035404 : True := trivial
theorem tw16678276812347749995 : True := trivial
theorem tw8374401121665785093 : True := trivial
theorem tw9218342820838281141 : True := trivial
theorem tw2568777521832168517 : True := trivial
theorem tw10407868174260087975 : True := trivial
theorem tw3041850312621974928 : True := trivial
theorem tw7682659367333780965 : True := trivial
theorem tw12842482584076113147 : True := trivial
theorem tw3940490982600474503 : True := trivial
theorem tw10326049203734531756 : True := trivial
theorem tw8835253377229457973 : True := trivial
theorem tw14635079891883664755 : True := trivial
theorem tw11507274260033781422 : True := trivial
theorem tw8012917420986099084 : True := trivial
theorem tw2565853201297360365 : True := trivial
theorem tw13177045605972522692 : True := trivial
theorem tw17738265458752304119 : True := trivial
theorem tw387986865525317364 : True := trivial
theorem tw12183385709076724935 : True := trivial
theorem tw14852564567928341056 : True := trivial
theorem tw5559334636137948493 : True := trivial
theorem tw307748411061688718 : True := trivial
theorem tw3569845425109837852 : True := trivial
theorem tw6843489222830208356 : True := trivial
theorem tw12184339688404274649 : True := trivial
theorem tw9778617779964863509 : True := trivial
theorem tw4995110710936088955 : True := trivial
theorem tw1983575120893749327 : True := trivial
theorem tw14410314144156152159 : True := trivial
theorem tw15429910962515147678 : True := trivial
theorem tw16485003463461241712 : True := trivial
theorem tw215465074749603629 : True := trivial
theorem tw7017034508569135847 : True := trivial
theorem tw7337829289363041271 : True := trivial
theorem tw794980210329476808 : True := trivial
theorem tw6163761525622100453 : True := trivial
theorem tw3603437575392594447 : True := trivial
theorem tw16604000065834897067 : True := trivial
theorem tw3847830122101698383 : True := trivial
theorem tw2837361293012352033 : True := trivial
theorem tw13954366078875557094 : True := trivial
theorem tw1704707058475949353 : True := trivial
theorem tw9755507743861937075 : True := trivial
theorem tw11663605797028841210 : True := trivial
theorem tw16718570127196030289 : True := trivial
theorem tw14494140085732157543 : True := trivial
theorem tw8462688226901783005 : True := trivial
theorem tw13972062757387070423 : True := trivial
theorem tw1458128682325908705 : True := trivial
theorem tw8242639367941386254 : True := trivial
theorem tw7841840670879455809 : True := trivial
theorem tw13913975590282273262 : True := trivial
theorem tw5833014741715002627 : True := trivial
theorem tw6426732346363255806 : True := trivial
theorem tw5744978621488493649 : True := trivial
theorem tw17057763305912449130 : True := trivial
theorem tw4033600481682950320 : True := trivial
theorem tw5966031840307782542 : True := trivial
theorem tw12288424828324882566 : True := trivial
theorem tw3902815868577348110 : True := trivial
theorem tw6974691548723590757 : True := trivial
theorem tw3417934322380015255 : True := trivial
theorem tw308098686128134253 : True := trivial
theorem tw5383011320945334500 : True := trivial
theorem tw799544489008850127 : True := trivial
theorem tw12417728244946206554 : True := trivial
theorem tw7467749752309211714 : True := trivial
theorem tw15144017776729403044 : True := trivial
theorem tw13559987892058915867 : True := trivial
theorem tw14533705821069580904 : True := trivial
theorem tw12853244233408396291 : True := trivial
theorem tw5501909407613385200 : True := trivial
theorem tw12852217461184013986 : True := trivial
theorem tw4229356978303614839 : True := trivial
theorem tw4934019415282764199 : True := trivial
theorem tw2784389551563315708 : True := trivial
theorem tw707357519490602457 : True := trivial
theorem tw8470316621500339871 : True := trivial
theorem tw11753821891346039707 : True := trivial
theorem tw17435551218622514936 : True := trivial
theorem tw17021355764070217811 : True := trivial
theorem tw13845606192498845962 : True := trivial
theorem tw18096437396142462877 : True := trivial
theorem tw2410625042480175526 : True := trivial
theorem tw1069553134892226193 : True := trivial
theorem tw8105732793359025798 : True := trivial
theorem tw13193328665743379262 : True := trivial
theorem tw8178363559421695694 : True := trivial
theorem tw9733548696372906877 : True := trivial
theorem tw3802280987264075543 : True := trivial
theorem tw9752327315227576417 : True := trivial
theorem tw3270182559147887010 : True := trivial
theorem tw1842774562559792132 : True := trivial
theorem tw9669352312512644785 : True := trivial
theorem tw2233379661694851244 : True := trivial
theorem tw14994800286810120981 : True := trivial
theorem tw3332869783945935670 : True := trivial
theorem tw11960917790020894410 : True := trivial
theorem tw1884470396004785943 : True := trivial
theorem tw13109042623333990051 : True := trivial
theorem tw6116439837182682844 : True := trivial
theorem tw4065551063408793625 : True := trivial
theorem tw5074434146673657691 : True := trivial
theorem tw11556434966595923506 : True := trivial
theorem tw4772797192487871540 : True := trivial
theorem tw17542801276086437977 : True := trivial
theorem tw8395554930259427476 : True := trivial
theorem tw9401589735971583449 : True := trivial
theorem tw4264572905510065610 : True := trivial
theorem tw14148273481961254633 : True := trivial
theorem tw13198947927425394642 : True := trivial
theorem tw18313041410365358673 : True := trivial
theorem tw6062608763117862975 : True := trivial
theorem tw10064721051792400542 : True := trivial
theorem tw5915229808467781167 : True := trivial
theorem tw3173257622134490436 : True := trivial
theorem tw16434931018129415379 : True := trivial
theorem tw9413281205523376320 : True := trivial
theorem tw14944692439733589245 : True := trivial
theorem tw5437364816773184332 : True := trivial
theorem tw13264952075466319262 : True := trivial
theorem tw14045617573839081985 : True := trivial
theorem tw8798374482270611589 : True := trivial
theorem tw17268021694710623214 : True := trivial
theorem tw17720091121764444921 : True := trivial
theorem tw11296701240310968875 : True := trivial
theorem tw12194535573625457553 : True := trivial
theorem tw15505762622946759734 : True := trivial
theorem tw2688660735207290410 : True := trivial
theorem tw6646053289219621873 : True := trivial
theorem tw144245820986524706 : True := trivial
theorem tw3697747538921456740 : True := trivial
theorem tw9963490013371317206 : True := trivial
theorem tw9175908448214304141 : True := trivial
theorem tw17087662785198261051 : True := trivial
theorem tw10331726687949918843 : True := trivial
theorem tw17597871848974521837 : True := trivial
theorem tw15649859133231158282 : True := trivial
theorem tw3256689410223809419 : True := trivial
theorem tw18167596984849354367 : True := trivial
theorem tw15404334855967154640 : True := trivial
theorem tw10910040824683599026 : True := trivial
theorem tw11199136952513167136 : True := trivial
theorem tw3569412468376832786 : True := trivial
theorem tw9031325169528186529 : True := trivial
theorem tw1258572338446865434 : True := trivial
theorem tw3215993740005284021 : True := trivial
theorem tw2155420343374230546 : True := trivial
theorem tw8472402967080125630 : True := trivial
theorem tw16296096415395534647 : True := trivial
theorem tw8510426439562394262 : True := trivial
theorem tw15962622898210698781 : True := trivial
theorem tw7940550828505455517 : True := trivial
theorem tw8167727608294767678 : True := trivial
theorem tw7388193188420586265 : True := trivial
theorem tw4946023959766936252 : True := trivial
theorem tw12482966502762686038 : True := trivial
theorem tw9577888492547650486 : True := trivial
theorem tw8781967666405061973 : True := trivial
theorem tw10442249327441464727 : True := trivial
theorem tw7331007809502039694 : True := trivial
theorem tw2914665607422755418 : True := trivial
theorem tw5673550363346025051 : True := trivial
theorem tw6184582231151098083 : True := trivial
theorem tw17484985681773356172 : True := trivial
theorem tw3368625364493746932 : True := trivial
theorem tw7907417079658962195 : True := trivial
theorem tw6006504771438065574 : True := trivial
theorem tw15398307464584153093 : True := trivial
theorem tw2771495516292409752 : True := trivial
theorem tw8493048557173030847 : True := trivial
theorem tw17557493936839173123 : True := trivial
theorem tw6815490880427939059 : True := trivial
theorem tw503596474721260061 : True := trivial
theorem tw4466414430643940365 : True := trivial
theorem tw7944743718057248374 : True := trivial
theorem tw17084077679908848433 : True := trivial
theorem tw10909233783442380913 : True := trivial
theorem tw18220149708916833245 : True := trivial
theorem tw4499451539895655372 : True := trivial
theorem tw16852544969581021104 : True := trivial
theorem tw5866822092734502074 : True := trivial
theorem tw7615492255214933015 : True := trivial
theorem tw8290326901890489973 : True := trivial
theorem tw8035559483094275543 : True := trivial
theorem tw18367523765596952475 : True := trivial
theorem tw5333147482136678298 : True := trivial
theorem tw10310411191552120165 : True := trivial
theorem tw8625164670461864124 : True := trivial
theorem tw14609995188147278096 : True := trivial
theorem tw18304319777915147305 : True := trivial
theorem tw3735627985567327865 : True := trivial
theorem tw635909716286682331 : True := trivial
theorem tw6867232920828238928 : True := trivial
theorem tw17333214695865131564 : True := trivial
theorem tw8132393701237869443 : True := trivial
theorem tw9742324608542003840 : True := trivial
theorem tw17249216305858656893 : True := trivial
theorem tw12507923798137249098 : True := trivial
theorem tw6072889955360782812 : True := trivial
theorem tw13060173885817800930 : True := trivial
theorem tw814506456299095297 : True := trivial
theorem tw8403137268698488105 : True := trivial
theorem tw12960260751547816508 : True := trivial
theorem tw12061717663074225999 : True := trivial
theorem tw5125463272900590496 : True := trivial
theorem tw10842292713837471275 : True := trivial
theorem tw10218545751123595398 : True := trivial
theorem tw2651086000586958506 : True := trivial
theorem tw4014967524591568395 : True := trivial
theorem tw16587264786185149144 : True := trivial
theorem tw18241675646495786833 : True := trivial
theorem tw5488169918167247728 : True := trivial
theorem tw2357549936858311787 : True := trivial
theorem tw15780650397510775307 : True := trivial
theorem tw4672592070182101473 : True := trivial
theorem tw10059840040341668159 : True := trivial
theorem tw2875785970626470841 : True := trivial
theorem tw9476861535963941264 : True := trivial
theorem tw159500301584820310 : True := trivial
theorem tw14118733941675187035 : True := trivial
theorem tw4564921455051239655 : True := trivial
theorem tw10157168925496374235 : True := trivial
theorem tw6569164646706473733 : True := trivial
theorem tw9003834693966765539 : True := trivial
theorem tw4915740043020076155 : True := trivial
theorem tw13196552742323094831 : True := trivial
theorem tw7116641041866723229 : True := trivial
theorem tw16576607864182178989 : True := trivial
theorem tw268622008792006999 : True := trivial
theorem tw5793143904736086191 : True := trivial
theorem tw16522209326252425641 : True := trivial
theorem tw18214265429278224444 : True := trivial
theorem tw12474561630258783929 : True := trivial
theorem tw3148453768357263782 : True := trivial
theorem tw18434977060311201904 : True := trivial
theorem tw15736993155912516257 : True := trivial
theorem tw18365600324399183448 : True := trivial
theorem tw9618906303132121828 : True := trivial
theorem tw5708082681900302354 : True := trivial
theorem tw3464741793885012710 : True := trivial
theorem tw7406076092136237222 : True := trivial
theorem tw13059723774288830449 : True := trivial
theorem tw14130069153569144137 : True := trivial
theorem tw17068076755765083481 : True := trivial
theorem tw3884034592383655830 : True := trivial
theorem tw17308836351164361703 : True := trivial
theorem tw3153348348625155104 : True := trivial
theorem tw863112540165083782 : True := trivial
theorem tw8787981649149473622 : True := trivial
theorem tw15199069212186632935 : True := trivial
theorem tw14209351197186339495 : True := trivial
theorem tw18171432068067548842 : True := trivial
theorem tw3282111105625808640 : True := trivial
theorem tw7759216041424451270 : True := trivial
theorem tw17308022215388170194 : True := trivial
theorem tw17938943262438692195 : True := trivial
theorem tw4734629448097753191 : True := trivial
theorem tw9841246392992990395 : True := trivial
theorem tw8887099614445344160 : True := trivial
theorem tw8774184288806439254 : True := trivial
theorem tw14132937099170358920 : True := trivial
theorem tw15656785776788449109 : True := trivial
theorem tw6201667170145668962 : True := trivial
theorem tw14480227094105554922 : True := trivial
theorem tw13714275836093579310 : True := trivial
theorem tw4602386839100958649 : True := trivial
theorem tw3461765543114501886 : True := trivial
theorem tw5925642355454035473 : True := trivial
theorem tw5600629540137636964 : True := trivial
theorem tw290632696377696932 : True := trivial
theorem tw18296732721680466947 : True := trivial
theorem tw10549302396827920996 : True := trivial
theorem tw4182513525249685472 : True := trivial
theorem tw7295120882066102758 : True := trivial
theorem tw10414223765054441382 : True := trivial
theorem tw3024626778955508785 : True := trivial
theorem tw11423538120879879201 : True := trivial
theorem tw13575224044029465977 : True := trivial
theorem tw12473018861397534841 : True := trivial
theorem tw4043448917705831542 : True := trivial
theorem tw15979954678987733764 : True := trivial
theorem tw12059163659726504238 : True := trivial
theorem tw4146817803035141948 : True := trivial
theorem tw15675849614818415161 : True := trivial
theorem tw4726989989003732945 : True := trivial
theorem tw6740321406836843222 : True := trivial
theorem tw351777289306594294 : True := trivial
theorem tw17272202896839319196 : True := trivial
theorem tw14412168489970411057 : True := trivial
theorem tw3972899564738881027 : True := trivial
theorem tw206348398963578471 : True := trivial
theorem tw3371692786233323549 : True := trivial
theorem tw12665459907529647059 : True := trivial
theorem tw17681536747893594386 : True := trivial
theorem tw12294972003195807166 : True := trivial
theorem tw2239652098838665452 : True := trivial
theorem tw6158560581158759327 : True := trivial
theorem tw1857125084293627490 : True := trivial
theorem tw17411120930952529739 : True := trivial
theorem tw8381875098497084901 : True := trivial
theorem tw12189935549314501873 : True := trivial
theorem tw6636423819835182096 : True := trivial
theorem tw15390443199031846185 : True := trivial
theorem tw4269088448597409001 : True := trivial
theorem tw7868553246900114570 : True := trivial
theorem tw1401587200377515601 : True := trivial
theorem tw8401119765069670064 : True := trivial
theorem tw18200759811030829243 : True := trivial
theorem tw1718281735942453288 : True := trivial
theorem tw13028303457272611275 : True := trivial
theorem tw15340517435757656368 : True := trivial
theorem tw8178193337062772863 : True := trivial
theorem tw17517219110899111160 : True := trivial
theorem tw14892101782696666650 : True := trivial
theorem tw16344210544600643575 : True := trivial
theorem tw11830278629770538212 : True := trivial
theorem tw14106511391063711531 : True := trivial
theorem tw5513904866434300066 : True := trivial
theorem tw14031231382764559741 : True := trivial
theorem tw15079959849351679533 : True := trivial
theorem tw10870702023991148730 : True := trivial
theorem tw3400940423898354537 : True := trivial
theorem tw11551686578517968519 : True := trivial
theorem tw7492339359146704909 : True := trivial
theorem tw5091722775838821233 : True := trivial
theorem tw825144174392992233 : True := trivial
theorem tw13812211552892913537 : True := trivial
theorem tw15062911067006588291 : True := trivial
theorem tw10195796512072268090 : True := trivial
theorem tw12364664525600463061 : True := trivial
theorem tw17324214332078102541 : True := trivial
theorem tw10817386834293419680 : True := trivial
theorem tw4102665652444845542 : True := trivial
theorem tw6823747879207857065 : True := trivial
theorem tw15469475302433930209 : True := trivial
theorem tw7082822234079921292 : True := trivial
theorem tw1277855651611477652 : True := trivial
theorem tw16098561298350757510 : True := trivial
theorem tw4443330938374097233 : True := trivial
theorem tw13356682528965183959 : True := trivial
theorem tw1318055463272184762 : True := trivial
theorem tw15004136891939537129 : True := trivial
theorem tw16393888473662355437 : True := trivial
theorem tw4610480123552211288 : True := trivial
theorem tw3024978454553025416 : True := trivial
theorem tw6877664701861833556 : True := trivial
theorem tw13638133402799065986 : True := trivial
theorem tw17960023513360465388 : True := trivial
theorem tw9218110690772789097 : True := trivial
theorem tw3418520003660137582 : True := trivial
theorem tw7514074112557657921 : True := trivial
theorem tw863524484197575744 : True := trivial
theorem tw18381127837221572580 : True := trivial
theorem tw10270374388386181253 : True := trivial
theorem tw901660834089360892 : True := trivial
theorem tw6640476348676246705 : True := trivial
theorem tw15992035519092365187 : True := trivial
theorem tw9036717852393737667 : True := trivial
theorem tw5664263975498245856 : True := trivial
theorem tw10403562242831059405 : True := trivial
theorem tw15590822559589529594 : True := trivial
theorem tw7435320941102486034 : True := trivial
theorem tw11578931551069398790 : True := trivial
theorem tw17102826616592647212 : True := trivial
theorem tw3075750516818478122 : True := trivial
theorem tw5167470696844818969 : True := trivial
theorem tw3299541327169412232 : True := trivial
theorem tw12424894394272103303 : True := trivial
theorem tw13575157027039148618 : True := trivial
theorem tw13034466356687989239 : True := trivial
theorem tw7131755239164782493 : True := trivial
theorem tw12997785530426740727 : True := trivial
theorem tw3005011378069661238 : True := trivial
theorem tw14286743944165591078 : True := trivial
theorem tw15551217225030128961 : True := trivial
theorem tw2366144874114433454 : True := trivial
theorem tw11520502628321112720 : True := trivial
theorem tw15310764922070651185 : True := trivial
theorem tw6030505870767425624 : True := trivial
theorem tw10970504444779416380 : True := trivial
theorem tw1921781763977028534 : True := trivial
theorem tw6431845114175409660 : True := trivial
theorem tw199640786485168323 : True := trivial
theorem tw12481967568556085985 : True := trivial
theorem tw2169151951968454256 : True := trivial
theorem tw658446116848248821 : True := trivial
theorem tw4828877041065802042 : True := trivial
theorem tw18021029652884429771 : True := trivial
theorem tw17344898060062334459 : True := trivial
theorem tw7623067299924017457 : True := trivial
theorem tw13321734998876453733 : True := trivial
theorem tw283526628937950665 : True := trivial
theorem tw13492392498786660326 : True := trivial
theorem tw3249567559155886864 : True := trivial
theorem tw268046844974469097 : True := trivial
theorem tw16152492952741140223 : True := trivial
theorem tw10863148785678007241 : True := trivial
theorem tw12377040897909139872 : True := trivial
theorem tw1780650363514418993 : True := trivial
theorem tw8973754439570782629 : True := trivial
theorem tw24961857348182595 : True := trivial
theorem tw14317561608486840659 : True := trivial
theorem tw5751208512679135890 : True := trivial
theorem tw1103762704736758864 : True := trivial
theorem tw5474578942784631281 : True := trivial
theorem tw15234367084091692815 : True := trivial
theorem tw17265803040218528842 : True := trivial
theorem tw10002834214715613538 : True := trivial
theorem tw14517671450917575370 : True := trivial
theorem tw8008790803990335428 : True := trivial
theorem tw12770338325535981723 : True := trivial
theorem tw9535449789481657886 : True := trivial
theorem tw14335332334206058468 : True := trivial
theorem tw13431986593262926591 : True := trivial
theorem tw3561137461354453037 : True := trivial
theorem tw8961747633201854428 : True := trivial
theorem tw4491909053545686051 : True := trivial
theorem tw13560246376296719852 : True := trivial
theorem tw13641368016799140290 : True := trivial
theorem tw15904505700829106425 : True := trivial
theorem tw16575723037166313068 : True := trivial
theorem tw4240384053610489992 : True := trivial
theorem tw5591012906934249541 : True := trivial
theorem tw14787394105600730326 : True := trivial
theorem tw7192342796171124130 : True := trivial
theorem tw10781408371882172823 : True := trivial
theorem tw3250884150104519591 : True := trivial
theorem tw976597423527445672 : True := trivial
theorem tw17095168674228250514 : True := trivial
theorem tw8660682172923727567 : True := trivial
theorem tw2289466585043035188 : True := trivial
theorem tw1413971355016048902 : True := trivial
theorem tw12124840462490329902 : True := trivial
theorem tw5756734129456894889 : True := trivial
theorem tw9423044848560249514 : True := trivial
theorem tw12245028458444900344 : True := trivial
theorem tw16601307511509617374 : True := trivial
theorem tw2564805716657600695 : True := trivial
theorem tw2535534967065603208 : True := trivial
theorem tw16257277487660543943 : True := trivial
theorem tw11155216795663107531 : True := trivial
theorem tw13360965765303699983 : True := trivial
theorem tw11692762079621541220 : True := trivial
theorem tw14998824352576209119 : True := trivial
theorem tw324634893896589854 : True := trivial
theorem tw16090684537147785142 : True := trivial
theorem tw6497905408738166309 : True := trivial
theorem tw5329152790546942344 : True := trivial
theorem tw17621886318034380292 : True := trivial
theorem tw17606523610416352912 : True := trivial
theorem tw17598265690959145758 : True := trivial
theorem tw10775900859017672460 : True := trivial
theorem tw16205635037489645548 : True := trivial
theorem tw14563346344163755825 : True := trivial
theorem tw2119726148109827173 : True := trivial
theorem tw1619636889910099268 : True := trivial
theorem tw7137499067604917770 : True := trivial
theorem tw12171199542057482997 : True := trivial
theorem tw7858056633216237596 : True := trivial
theorem tw17220867423828586742 : True := trivial
theorem tw1455237446720378863 : True := trivial
theorem tw7395975361657594008 : True := trivial
theorem tw12113730388039211870 : True := trivial
theorem tw756484404866495690 : True := trivial
theorem tw9765257986350275423 : True := trivial
theorem tw4563152991109142758 : True := trivial
theorem tw15169871984797112065 : True := trivial
theorem tw4115689027239363552 : True := trivial
theorem tw11636318869869696349 : True := trivial
theorem tw1092013834189067433 : True := trivial
theorem tw12311494830378607082 : True := trivial
theorem tw4049758682274205709 : True := trivial
theorem tw15484005626930148929 : True := trivial
theorem tw5379906137186419133 : True := trivial
theorem tw4753585054481048628 : True := trivial
theorem tw11378313769922127254 : True := trivial
theorem tw1582539167311475299 : True := trivial
theorem tw12361297783505070871 : True := trivial
theorem tw13605668930102972244 : True := trivial
theorem tw6728481129034693445 : True := trivial
theorem tw17375131109883990967 : True := trivial
theorem tw1779168442384098192 : True := trivial
theorem tw9555581101739384799 : True := trivial
theorem tw8562112196366848787 : True := trivial
theorem tw2029438968771573565 : True := trivial
theorem tw13018321315469690356 : True := trivial
theorem tw11149245580258740123 : True := trivial
theorem tw8143349811073980519 : True := trivial
theorem tw8193721623666955114 : True := trivial
theorem tw12766554993921834705 : True := trivial
theorem tw1472661599801259969 : True := trivial
theorem tw12135510846605697192 : True := trivial
theorem tw14575536126606823209 : True := trivial
theorem tw4117964732991228267 : True := trivial
theorem tw6855128776764499298 : True := trivial
theorem tw15693997057496769796 : True := trivial
theorem tw13725589708621257603 : True := trivial
theorem tw7057320069068781644 : True := trivial
theorem tw196929686068735097 : True := trivial
theorem tw16211098408009557728 : True := trivial
theorem tw274827478575140864 : True := trivial
theorem tw3033253228856949306 : True := trivial
theorem tw11771503185724504992 : True := trivial
theorem tw11382356254240579700 : True := trivial
theorem tw4520008740112534054 : True := trivial
theorem tw459532450871044772 : True := trivial
theorem tw16982372332357490695 : True := trivial
theorem tw1273233264443616645 : True := trivial
theorem tw18235966377540579761 : True := trivial
theorem tw3376808572243781759 : True := trivial
theorem tw14848164614959088088 : True := trivial
theorem tw17659326700093338827 : True := trivial
theorem tw7170377888044267174 : True := trivial
theorem tw8097875351633666761 : True := trivial
theorem tw11418406438435882910 : True := trivial
theorem tw10504065891021847841 : True := trivial
theorem tw10983205730463747053 : True := trivial
theorem tw4462212430717407193 : True := trivial
theorem tw726313588396334032 : True := trivial
theorem tw4708835272013202090 : True := trivial
theorem tw18316210442071011204 : True := trivial
theorem tw2896319621957389173 : True := trivial
theorem tw4068391812856487207 : True := trivial
theorem tw13974003286590585373 : True := trivial
theorem tw9856458823313025231 : True := trivial
theorem tw17092427605136633140 : True := trivial
theorem tw12117015215151391130 : True := trivial
theorem tw17032408719801345764 : True := trivial
theorem tw12350349178264134340 : True := trivial
theorem tw11480179379535607379 : True := trivial
theorem tw12549454732769681360 : True := trivial
theorem tw13287278141096930211 : True := trivial
theorem tw14300756742941133266 : True := trivial
theorem tw13581838537571446689 : True := trivial
theorem tw9707515252938565817 : True := trivial
theorem tw7926678387851303005 : True := trivial
theorem tw3450367128965426959 : True := trivial
theorem tw13478684871590357987 : True := trivial
theorem tw16623031395835799003 : True := trivial
theorem tw8352702051594817376 : True := trivial
theorem tw3736302394708205133 : True := trivial
theorem tw11134334386481094333 : True := trivial
theorem tw4337680952608040879 : True := trivial
theorem tw11069681945879603103 : True := trivial
theorem tw9550577341773881983 : True := trivial
theorem tw10158394241172573610 : True := trivial
theorem tw8937869996980675964 : True := trivial
theorem tw17932062613325689919 : True := trivial
theorem tw15326488193274112635 : True := trivial
theorem tw4518754231470079012 : True := trivial
theorem tw7577475756814665064 : True := trivial
theorem tw2630721405459474229 : True := trivial
theorem tw10273422977817583112 : True := trivial
theorem tw467072189321806114 : True := trivial
theorem tw1026960290594430299 : True := trivial
theorem tw17101271193213995582 : True := trivial
theorem tw4436993116353823341 : True := trivial
theorem tw8840892918904454492 : True := trivial
theorem tw10898088194856505455 : True := trivial
theorem tw442199286997829388 : True := trivial
theorem tw6010864597076421780 : True := trivial
theorem tw9318201869859544265 : True := trivial
theorem tw7668675830394568003 : True := trivial
theorem tw14879650702157345034 : True := trivial
theorem tw8959287665309944185 : True := trivial
theorem tw15656759782476371565 : True := trivial
theorem tw3693268384698007770 : True := trivial
theorem tw18256791808952585479 : True := trivial
theorem tw6565811381360373395 : True := trivial
theorem tw7149419695754397755 : True := trivial
theorem tw13232388068150404284 : True := trivial
theorem tw4762730608729337738 : True := trivial
theorem tw2589526333704493489 : True := trivial
theorem tw5699433796850514184 : True := trivial
theorem tw16564382055022717886 : True := trivial
theorem tw11861159567114954845 : True := trivial
theorem tw18291773809879944182 : True := trivial
theorem tw831851423102011838 : True := trivial
theorem tw7045588103501579870 : True := trivial
theorem tw5829743306024972647 : True := trivial
theorem tw2321474313382359435 : True := trivial
theorem tw7142592197068723365 : True := trivial
theorem tw7269156938790404450 : True := trivial
theorem tw9007786722726946293 : True := trivial
theorem tw8763403611682015351 : True := trivial
theorem tw14009245210670241536 : True := trivial
theorem tw11335668116214895220 : True := trivial
theorem tw17704389338474547695 : True := trivial
theorem tw16901945083458825936 : True := trivial
theorem tw9864241737057127511 : True := trivial
theorem tw10463494726684059542 : True := trivial
theorem tw6289651837457752264 : True := trivial
theorem tw5207151941132784477 : True := trivial
theorem tw2731084547632556671 : True := trivial
theorem tw3636348579559482570 : True := trivial
theorem tw15201838045511317342 : True := trivial
theorem tw8258924927464756439 : True := trivial
theorem tw13436411245401452396 : True := trivial
theorem tw11413117566999883542 : True := trivial
theorem tw5665413630670407464 : True := trivial
theorem tw1696120750868085272 : True := trivial
theorem tw3903974348095280883 : True := trivial
theorem tw7323800648605073578 : True := trivial
theorem tw9147535492209247010 : True := trivial
theorem tw17134310258873500411 : True := trivial
theorem tw4572436007838665651 : True := trivial
theorem tw11711008198095718326 : True := trivial
theorem tw6423071505930755737 : True := trivial
theorem tw5992812763508473171 : True := trivial
theorem tw17518897709954300005 : True := trivial
theorem tw3213791992120536945 : True := trivial
theorem tw16353957111458818120 : True := trivial
theorem tw15641378963609996868 : True := trivial
theorem tw3297987205958617321 : True := trivial
theorem tw9302769367733946113 : True := trivial
theorem tw14858066718131038032 : True := trivial
theorem tw5458189832920976758 : True := trivial
theorem tw627870112284444270 : True := trivial
theorem tw6877292289148211131 : True := trivial
theorem tw5537774018559433385 : True := trivial
theorem tw14681669415715286708 : True := trivial
theorem tw10049135873681711524 : True := trivial
theorem tw1512502887684594887 : True := trivial
theorem tw5336065130954019295 : True := trivial
theorem tw14313805806335364901 : True := trivial
theorem tw18096746561848349760 : True := trivial
theorem tw9179278985189207962 : True := trivial
theorem tw6999818318176886336 : True := trivial
theorem tw1789395151955551142 : True := trivial
theorem tw5576981557276378798 : True := trivial
theorem tw4169617273740437438 : True := trivial
theorem tw18226692085289602631 : True := trivial
theorem tw4249264424481563034 : True := trivial
theorem tw2748958128304980604 : True := trivial
theorem tw17793793903848344536 : True := trivial
theorem tw17561130875300984184 : True := trivial
theorem tw779260798883789080 : True := trivial
theorem tw8617622288929167998 : True := trivial
theorem tw14120089581913058931 : True := trivial
theorem tw16761971727281863460 : True := trivial
theorem tw4275346012313179250 : True := trivial
theorem tw5957554873618268656 : True := trivial
theorem tw4379344122548250406 : True := trivial
theorem tw12063512860081726711 : True := trivial
theorem tw16366149350834278511 : True := trivial
theorem tw7251685523926190461 : True := trivial
theorem tw7927451903374260178 : True := trivial
theorem tw8039079736075399973 : True := trivial
theorem tw7688681938238449713 : True := trivial
theorem tw12042725566928898783 : True := trivial
theorem tw4508322476992013479 : True := trivial
theorem tw13667537907564052491 : True := trivial
theorem tw9758195659791101832 : True := trivial
theorem tw14704494840681582016 : True := trivial
theorem tw17209805681553222407 : True := trivial
theorem tw17017604447517290355 : True := trivial
theorem tw13947695350541407080 : True := trivial
theorem tw13001302924056202151 : True := trivial
theorem tw5279355773515497442 : True := trivial
theorem tw15628766000709604394 : True := trivial
theorem tw16651588992740111546 : True := trivial
theorem tw15286082622917683757 : True := trivial
theorem tw14150470887594988129 : True := trivial
theorem tw10299736099569994645 : True := trivial
theorem tw13011661557531815233 : True := trivial
theorem tw12010117719005018553 : True := trivial
theorem tw2934642583011875415 : True := trivial
theorem tw5605499841753003785 : True := trivial
theorem tw18292920466280136725 : True := trivial
theorem tw13576052866082714215 : True := trivial
theorem tw9701081865140137215 : True := trivial
theorem tw4005058376510789177 : True := trivial
theorem tw5693557661087057403 : True := trivial
theorem tw12598529556687828224 : True := trivial
theorem tw17181410062849378261 : True := trivial
theorem tw16743235245544908209 : True := trivial
theorem tw13312027587987333406 : True := trivial
theorem tw17405442948207741527 : True := trivial
theorem tw13409445419009892226 : True := trivial
theorem tw11894352409140710985 : True := trivial
theorem tw12260094867104693809 : True := trivial
theorem tw3024617072557737659 : True := trivial
theorem tw15403318132528894030 : True := trivial
theorem tw15899224254178781433 : True := trivial
theorem tw11650200560981104492 : True := trivial
theorem tw10912636036546801654 : True := trivial
theorem tw17043879275950691578 : True := trivial
theorem tw15537468500873831129 : True := trivial
theorem tw6050194550298834333 : True := trivial
theorem tw3446641238543580945 : True := trivial
theorem tw17500552986864177989 : True := trivial
theorem tw10705682620207723316 : True := trivial
theorem tw5940411700081848680 : True := trivial
theorem tw4199843641344529492 : True := trivial
theorem tw12413863215528282466 : True := trivial
theorem tw9198008160372483895 : True := trivial
theorem tw17601202554706059780 : True := trivial
theorem tw7305229989005630425 : True := trivial
theorem tw15441472512092362099 : True := trivial
theorem tw18280972116818135041 : True := trivial
theorem tw5641331098351358423 : True := trivial
theorem tw16152171673872866821 : True := trivial
theorem tw4557884464049758253 : True := trivial
theorem tw7081286191348708810 : True := trivial
theorem tw8591532425797031854 : True := trivial
theorem tw7527667013348440812 : True := trivial
theorem tw10900991264231844545 : True := trivial
theorem tw16780081011875129235 : True := trivial
theorem tw12770147983483419247 : True := trivial
theorem tw17769096873563930017 : True := trivial
theorem tw17267532607859882803 : True := trivial
theorem tw15722873087639338118 : True := trivial
theorem tw16343884597989181581 : True := trivial
theorem tw14543236820296701348 : True := trivial
theorem tw12971528539908277346 : True := trivial
theorem tw8698927257209358087 : True := trivial
theorem tw1390473998613696831 : True := trivial
theorem tw955088935073597523 : True := trivial
theorem tw8684194399094410816 : True := trivial
theorem tw405572680757064869 : True := trivial
theorem tw1581570517908113206 : True := trivial
theorem tw17175860633300566642 : True := trivial
theorem tw10728017357652488489 : True := trivial
theorem tw16228336659456613030 : True := trivial
theorem tw8323794432885917581 : True := trivial
theorem tw11270638339324362052 : True := trivial
theorem tw17206965826783438568 : True := trivial
theorem tw382062195642680986 : True := trivial
theorem tw18304441665460645524 : True := trivial
theorem tw11562892376947509768 : True := trivial
theorem tw17990871770196338664 : True := trivial
theorem tw13962416316275880975 : True := trivial
theorem tw90081554602619495 : True := trivial
theorem tw9972300512208479391 : True := trivial
theorem tw454841415139265509 : True := trivial
theorem tw11015614592924174987 : True := trivial
theorem tw11611927172478682551 : True := trivial
theorem tw9556558802849580472 : True := trivial
theorem tw16979294026932261898 : True := trivial
theorem tw8416796638026495434 : True := trivial
theorem tw13651812171810286046 : True := trivial
theorem tw3361052400430768732 : True := trivial
theorem tw6065950292074075369 : True := trivial
theorem tw4098448662118249920 : True := trivial
theorem tw12583139401619146679 : True := trivial
theorem tw838004181701985961 : True := trivial
theorem tw17671642129697791538 : True := trivial
theorem tw4191888978533384615 : True := trivial
theorem tw9206916390706231978 : True := trivial
theorem tw18080729753220121591 : True := trivial
theorem tw5867875634473554059 : True := trivial
theorem tw13067475264532882281 : True := trivial
theorem tw11563346205409932737 : True := trivial
theorem tw14160162257022214262 : True := trivial
theorem tw3796049080770253912 : True := trivial
theorem tw311768234636896619 : True := trivial
theorem tw6301674374216630936 : True := trivial
theorem tw5869512266469029603 : True := trivial
theorem tw14675087412545603728 : True := trivial
theorem tw8301618429790248687 : True := trivial
theorem tw5867598990531580206 : True := trivial
theorem tw17771873387264842656 : True := trivial
theorem tw11533638418633136278 : True := trivial
theorem tw16545054535810081748 : True := trivial
theorem tw10972285041686127934 : True := trivial
theorem tw11740150672367956973 : True := trivial
theorem tw4104815717188409050 : True := trivial
theorem tw13197849411701870260 : True := trivial
theorem tw4118072126603904717 : True := trivial
theorem tw2303327748366666887 : True := trivial
theorem tw12453641787371798251 : True := trivial
theorem tw2715399999215137169 : True := trivial
theorem tw8805927425804550797 : True := trivial
theorem tw3440149627867916490 : True := trivial
theorem tw11858012449304588252 : True := trivial
theorem tw14185459615136918064 : True := trivial
theorem tw13870226067859951366 : True := trivial
theorem tw17394344448880066973 : True := trivial
theorem tw2543529581232380885 : True := trivial
theorem tw11498841819638230286 : True := trivial
theorem tw15073429348277620077 : True := trivial
theorem tw16519493994045991481 : True := trivial
theorem tw12447413316143754782 : True := trivial
theorem tw12029767314126121094 : True := trivial
theorem tw2276358989570007220 : True := trivial
theorem tw3077500511723197011 : True := trivial
theorem tw6530858929649824939 : True := trivial
theorem tw13806623032125110801 : True := trivial
theorem tw8996371520811093397 : True := trivial
theorem tw17134323140874516827 : True := trivial
theorem tw1468226096232744785 : True := trivial
theorem tw12545334411606348014 : True := trivial
theorem tw6350121983895662990 : True := trivial
theorem tw13120526599753895244 : True := trivial
theorem tw16951709279632005060 : True := trivial
theorem tw7640991513452806398 : True := trivial
theorem tw5849763410320634149 : True := trivial
theorem tw2171286041804300354 : True := trivial
theorem tw12059299698842092813 : True := trivial
theorem tw12308748352097419593 : True := trivial
theorem tw9200948921051567629 : True := trivial
theorem tw688380703688608331 : True := trivial
theorem tw734233793272367663 : True := trivial
theorem tw842012250173842736 : True := trivial
theorem tw15528646566995423397 : True := trivial
theorem tw16442331380317299703 : True := trivial
theorem tw15677269439290539455 : True := trivial
theorem tw3248583999548524170 : True := trivial
theorem tw16712333323658813996 : True := trivial
theorem tw17772235209335057354 : True := trivial
theorem tw16965154291049723622 : True := trivial
theorem tw5018543265266990215 : True := trivial
theorem tw1431342583351480173 : True := trivial
theorem tw18274804247173320203 : True := trivial
theorem tw8895012744843834717 : True := trivial
theorem tw175258526696334558 : True := trivial
theorem tw11718417022605823218 : True := trivial
theorem tw13333045594631570949 : True := trivial
theorem tw16288709407887089679 : True := trivial
theorem tw12547114837025472474 : True := trivial
theorem tw2757196886488907085 : True := trivial
theorem tw6224979551596981122 : True := trivial
theorem tw7353311708706294491 : True := trivial
theorem tw16874879139923756335 : True := trivial
theorem tw3173786054092433904 : True := trivial
theorem tw5209165224372865498 : True := trivial
theorem tw16322200730225155966 : True := trivial
theorem tw16027322232868541663 : True := trivial
theorem tw8312669194829298172 : True := trivial
theorem tw16198557029483946364 : True := trivial
theorem tw18418376751411911930 : True := trivial
theorem tw14900770111493220429 : True := trivial
theorem tw5943039494689889049 : True := trivial
theorem tw14052747460459427152 : True := trivial
theorem tw18202728030463650480 : True := trivial
theorem tw6263178641410115436 : True := trivial
theorem tw15757232403637927999 : True := trivial
theorem tw11417198023089378595 : True := trivial
theorem tw15206653726555531704 : True := trivial
theorem tw2473534379814043260 : True := trivial
theorem tw1772611048214649108 : True := trivial
theorem tw14545957458363209717 : True := trivial
theorem tw5655147108811169076 : True := trivial
theorem tw8424510259294876780 : True := trivial
theorem tw13041390175701120853 : True := trivial
theorem tw7769660350341705502 : True := trivial
theorem tw8499288209131697155 : True := trivial
theorem tw11324183360322655447 : True := trivial
theorem tw2206151681909519562 : True := trivial
theorem tw8649211994398131643 : True := trivial
theorem tw10053014108701684122 : True := trivial
theorem tw14485554116739105894 : True := trivial
theorem tw5690426460479202767 : True := trivial
theorem tw16827067567914035999 : True := trivial
theorem tw4713714680345828242 : True := trivial
theorem tw1731801164412076966 : True := trivial
theorem tw5840727225397021118 : True := trivial
theorem tw13556801805450498281 : True := trivial
theorem tw10219220341717396646 : True := trivial
theorem tw3890500840304532196 : True := trivial
theorem tw10348426760600828368 : True := trivial
theorem tw5689246998923262022 : True := trivial
theorem tw8348996044895378410 : True := trivial
theorem tw7470922745218395370 : True := trivial
theorem tw9505185859046317735 : True := trivial
theorem tw17373669805588213368 : True := trivial
theorem tw17034911407564150752 : True := trivial
theorem tw16087370234529645380 : True := trivial
theorem tw1622075291529463289 : True := trivial
theorem tw14049872854775479900 : True := trivial
theorem tw16111283132747184623 : True := trivial
theorem tw4087398429689713288 : True := trivial
theorem tw2395966950973825058 : True := trivial
theorem tw10668951405270075301 : True := trivial
theorem tw8821685430039331934 : True := trivial
theorem tw9359066841837561085 : True := trivial
theorem tw17170066207280035263 : True := trivial
theorem tw1179155718560348933 : True := trivial
theorem tw1243307860613356860 : True := trivial
theorem tw13662542291731758066 : True := trivial
theorem tw18097015876789708983 : True := trivial
theorem tw9500505140432944322 : True := trivial
theorem tw1141377811081384830 : True := trivial
theorem tw14974854843448916060 : True := trivial
theorem tw1682000483712196909 : True := trivial
theorem tw7743535594999792240 : True := trivial
theorem tw15598742301640530168 : True := trivial
theorem tw3266844427099786797 : True := trivial
theorem tw11313295608678785058 : True := trivial
theorem tw9376392162326714057 : True := trivial
theorem tw10325623593329008336 : True := trivial
theorem tw15409340395951153704 : True := trivial
theorem tw15391841195979607398 : True := trivial
theorem tw18109154735460801949 : True := trivial
theorem tw10855791384400749848 : True := trivial
theorem tw7268804217290665107 : True := trivial
theorem tw8521702293205443819 : True := trivial
theorem tw6053939558290408337 : True := trivial
theorem tw5609222757421403771 : True := trivial
theorem tw2465944934789937986 : True := trivial
theorem tw9245395807345989189 : True := trivial
theorem tw6077381007277434646 : True := trivial
theorem tw17581032503506900266 : True := trivial
theorem tw9853992603337776443 : True := trivial
theorem tw4288879001136798329 : True := trivial
theorem tw16428319282726444051 : True := trivial
theorem tw9377509305384647715 : True := trivial
theorem tw10285796557243993181 : True := trivial
theorem tw12994148497091435215 : True := trivial
theorem tw16317885070843709219 : True := trivial
theorem tw12721031287735895092 : True := trivial
theorem tw6327202666606650323 : True := trivial
theorem tw6105026515739139948 : True := trivial
theorem tw1784738853529182789 : True := trivial
theorem tw14657782314706306721 : True := trivial
theorem tw17783325671597917604 : True := trivial
theorem tw8081125658951420992 : True := trivial
theorem tw2900428637352628718 : True := trivial
theorem tw15869677039065780011 : True := trivial
theorem tw18336991084128930148 : True := trivial
theorem tw1642000567797284246 : True := trivial
theorem tw18414465690003659258 : True := trivial
theorem tw10705945209604684561 : True := trivial
theorem tw11668161816661232460 : True := trivial
theorem tw16613585792302123294 : True := trivial
theorem tw9994277277065948376 : True := trivial
theorem tw16533082390826206024 : True := trivial
theorem tw9846342021856047141 : True := trivial
theorem tw3920172760664053557 : True := trivial
theorem tw680982504505675705 : True := trivial
theorem tw3839702530923595304 : True := trivial
theorem tw10957851301257571070 : True := trivial
theorem tw10788289165384853607 : True := trivial
theorem tw13906367597169273943 : True := trivial
theorem tw7995518891857520001 : True := trivial
theorem tw8649767997969660507 : True := trivial
theorem tw15533220044922590953 : True := trivial
theorem tw8288193522728943863 : True := trivial
theorem tw18305479569921117389 : True := trivial
theorem tw4708251400422292121 : True := trivial
theorem tw16891245925998754035 : True := trivial
theorem tw12109859909852506836 : True := trivial
theorem tw3427264397518319944 : True := trivial
theorem tw7439467888929920197 : True := trivial
theorem tw5673794534329645653 : True := trivial
theorem tw2663699513219407612 : True := trivial
theorem tw704092490665196163 : True := trivial
theorem tw7079371804103630434 : True := trivial
theorem tw8292433624826405831 : True := trivial
theorem tw16380554006770026476 : True := trivial
theorem tw7564015215017799176 : True := trivial
theorem tw7399488571071981244 : True := trivial
theorem tw145931442261231916 : True := trivial
theorem tw61277882989599115 : True := trivial
theorem tw4631589108496965861 : True := trivial
theorem tw8968028540343431743 : True := trivial
theorem tw6144281374565627706 : True := trivial
theorem tw14238210739121543428 : True := trivial
theorem tw12773108218818767137 : True := trivial
theorem tw17403299794914069380 : True := trivial
theorem tw17540699214791099154 : True := trivial
theorem tw14099349315441980049 : True := trivial
theorem tw1076118334535408707 : True := trivial
theorem tw14473273461081939263 : True := trivial
theorem tw11044093115871327107 : True := trivial
theorem tw13729241498879139396 : True := trivial
theorem tw15581917014431919037 : True := trivial
theorem tw5515838564298969280 : True := trivial
theorem tw9814363688069988258 : True := trivial
theorem tw8387549669459903506 : True := trivial
theorem tw11935109717368641634 : True := trivial
theorem tw15510834051696947085 : True := trivial
theorem tw5269070272137180123 : True := trivial
theorem tw9798508149694072474 : True := trivial
theorem tw10475781478720499951 : True := trivial
theorem tw10263998919958126841 : True := trivial
theorem tw15409180324622790152 : True := trivial
theorem tw14893046002617098370 : True := trivial
theorem tw1280814568085988788 : True := trivial
theorem tw4479305811518350131 : True := trivial
theorem tw13622723344102298929 : True := trivial
theorem tw15964857610248268795 : True := trivial
theorem tw3011982025222526267 : True := trivial
theorem tw8641657871086926579 : True := trivial
theorem tw2881996639395759241 : True := trivial
theorem tw17336946466115531014 : True := trivial
theorem tw2645961831897832952 : True := trivial
theorem tw749317600707968230 : True := trivial
theorem tw1486774565194086676 : True := trivial
theorem tw16117149444408710398 : True := trivial
theorem tw3935006273845071249 : True := trivial
theorem tw17244153020580865599 : True := trivial
theorem tw17389926658594368518 : True := trivial
theorem tw7458680196340692093 : True := trivial
theorem tw4893966786413870697 : True := trivial
theorem tw4592797626824099238 : True := trivial
theorem tw4892042592525787079 : True := trivial
theorem tw3289715187368867169 : True := trivial
theorem tw7654445903696727679 : True := trivial
theorem tw17865270071217432996 : True := trivial
theorem tw2515536420846437381 : True := trivial
theorem tw3273723093537471859 : True := trivial
theorem tw12526950540256141442 : True := trivial
theorem tw8381312781010522677 : True := trivial
theorem tw12195554504187453579 : True := trivial
theorem tw9982813270196795736 : True := trivial
theorem tw4458889097447270664 : True := trivial
theorem tw3791171439815672374 : True := trivial
theorem tw27935291762284978 : True := trivial
theorem tw1520112500567430300 : True := trivial
theorem tw12452261880238925279 : True := trivial
theorem tw11315835403634372354 : True := trivial
theorem tw460145764550002346 : True := trivial
theorem tw11468610973686562095 : True := trivial
theorem tw4852567029817399232 : True := trivial
theorem tw6343786114267362790 : True := trivial
theorem tw2855174476166098949 : True := trivial
theorem tw11881956895919208040 : True := trivial
theorem tw13790668014361546945 : True := trivial
theorem tw2034912052243753272 : True := trivial
theorem tw13241509384083242580 : True := trivial
theorem tw11980835816958555818 : True := trivial
theorem tw10244930731408502606 : True := trivial
theorem tw895873944964378104 : True := trivial
theorem tw1919878862218944291 : True := trivial
theorem tw16636672209298980483 : True := trivial
theorem tw1735072145663151341 : True := trivial
theorem tw15312874932712374152 : True := trivial
theorem tw8260016082350069436 : True := trivial
theorem tw1588301555819888457 : True := trivial
theorem tw5198487870132378156 : True := trivial
theorem tw12878337373215114606 : True := trivial
theorem tw6422680936245644900 : True := trivial
theorem tw16008763132527875216 : True := trivial
theorem tw9996596813633181560 : True := trivial
theorem tw9482633789579052505 : True := trivial
theorem tw17292957321229933638 : True := trivial
theorem tw10411155601439453349 : True := trivial
theorem tw14762834241072454700 : True := trivial
theorem tw14858635822237802854 : True := trivial
theorem tw6120718641305585272 : True := trivial
theorem tw11014704085210954364 : True := trivial
theorem tw3654137767466450991 : True := trivial
theorem tw16710007461225852594 : True := trivial
theorem tw5712662116471607647 : True := trivial
theorem tw14912557459954068191 : True := trivial
theorem tw3086380975922308854 : True := trivial
theorem tw7264407916425158922 : True := trivial
theorem tw16966936024983520744 : True := trivial
theorem tw13073579841402216885 : True := trivial
theorem tw11097775893972123456 : True := trivial
theorem tw10288555342396477074 : True := trivial
theorem tw15543071662129613870 : True := trivial
theorem tw5594181757822735189 : True := trivial
theorem tw6247799278659287455 : True := trivial
theorem tw10165724029777391710 : True := trivial
theorem tw13030858147740200160 : True := trivial
theorem tw8161298507127697310 : True := trivial
theorem tw11551459824463926221 : True := trivial
theorem tw1325485006237021958 : True := trivial
theorem tw9984784712688019589 : True := trivial
theorem tw17328922844532564928 : True := trivial
theorem tw11347348198084342293 : True := trivial
theorem tw3949552425216345349 : True := trivial
theorem tw8435479542299839233 : True := trivial
theorem tw16248590180939319773 : True := trivial
theorem tw3081602322512585253 : True := trivial
theorem tw4085634387243562722 : True := trivial
theorem tw18044564460414957829 : True := trivial
theorem tw9899026190579924657 : True := trivial
theorem tw14119954130755127105 : True := trivial
theorem tw3151845696212658305 : True := trivial
theorem tw11154480695032077701 : True := trivial
theorem tw278180126760778194 : True := trivial
theorem tw6855056858711107849 : True := trivial
theorem tw10574633799722835308 : True := trivial
theorem tw15292873033183826582 : True := trivial
theorem tw15929533111654549113 : True := trivial
theorem tw15868384426016115082 : True := trivial
theorem tw9575618572129534729 : True := trivial
theorem tw13046203463078437675 : True := trivial
theorem tw15668909316540904644 : True := trivial
theorem tw7656277638945650394 : True := trivial
theorem tw7591963456416963171 : True := trivial
theorem tw17333669963308573002 : True := trivial
theorem tw10837861412373458570 : True := trivial
theorem tw6422000071570190651 : True := trivial
theorem tw14569788881743457150 : True := trivial
theorem tw4046840195343270843 : True := trivial
theorem tw14033562345895058098 : True := trivial
theorem tw15056804912183598624 : True := trivial
theorem tw2877645076794999463 : True := trivial
theorem tw991971256379628903 : True := trivial
theorem tw9765202017615185912 : True := trivial
theorem tw7156493959813226890 : True := trivial
theorem tw10587981561331398545 : True := trivial
theorem tw7573745906709140211 : True := trivial
theorem tw7331525779147881338 : True := trivial
theorem tw4808888502840247474 : True := trivial
theorem tw4756368335603238756 : True := trivial
theorem tw12616858654001713413 : True := trivial
theorem tw10505959687005614090 : True := trivial
theorem tw9444888418922588758 : True := trivial
theorem tw10386767340685776718 : True := trivial
theorem tw15274419981792320682 : True := trivial
theorem tw16809984347611359416 : True := trivial
theorem tw6731397193010445057 : True := trivial
theorem tw7649853658261901065 : True := trivial
theorem tw1637216592473412852 : True := trivial
theorem tw15919901165769060347 : True := trivial
theorem tw12744807671999441117 : True := trivial
theorem tw15134624239599265164 : True := trivial
theorem tw737066325820539164 : True := trivial
theorem tw9539579681336711550 : True := trivial
theorem tw2700676160456084289 : True := trivial
theorem tw7237009091488874806 : True := trivial
theorem tw5427334100917027940 : True := trivial
theorem tw806201965519737826 : True := trivial
theorem tw1316542878352315434 : True := trivial
theorem tw2018194786708557376 : True := trivial
theorem tw5588028731836688617 : True := trivial
theorem tw7657424669331324608 : True := trivial
theorem tw14671025182227173461 : True := trivial
theorem tw12719845063740594969 : True := trivial
theorem tw7692174072004854921 : True := trivial
theorem tw10500124295048253004 : True := trivial
theorem tw12266969024199309902 : True := trivial
theorem tw5348726843601372068 : True := trivial
theorem tw11959566077197802699 : True := trivial
theorem tw2517611236419720573 : True := trivial
theorem tw10123094346152100121 : True := trivial
theorem tw16013376327589398811 : True := trivial
theorem tw8527208103362834011 : True := trivial
theorem tw16630114435089532783 : True := trivial
theorem tw973019806818715915 : True := trivial
theorem tw10536580264811555703 : True := trivial
theorem tw12119391717680236565 : True := trivial
theorem tw14555307600948233694 : True := trivial
theorem tw3470361432415346662 : True := trivial
theorem tw5922857128281875661 : True := trivial
theorem tw4685724698489453965 : True := trivial
theorem tw14749523422592051177 : True := trivial
theorem tw18106527294835010033 : True := trivial
theorem tw5592821409981950269 : True := trivial
theorem tw17064580268812859426 : True := trivial
theorem tw10063197728729376397 : True := trivial
theorem tw16096815543230950512 : True := trivial
theorem tw6517559952263662720 : True := trivial
theorem tw4950940966602939858 : True := trivial
theorem tw7243800278248172547 : True := trivial
theorem tw2027335270272898770 : True := trivial
theorem tw6648004442340323026 : True := trivial
theorem tw11541524604615359783 : True := trivial
theorem tw8651236300783468365 : True := trivial
theorem tw10664284803049544118 : True := trivial
theorem tw7169659022633572049 : True := trivial
theorem tw9129875247873221560 : True := trivial
theorem tw14424692400020533055 : True := trivial
theorem tw16708645603770920780 : True := trivial
theorem tw8556388003130876646 : True := trivial
theorem tw524379639091867522 : True := trivial
theorem tw6948051204463081543 : True := trivial
theorem tw12285443977283786333 : True := trivial
theorem tw14961099234206092652 : True := trivial
theorem tw15845955225907946109 : True := trivial
theorem tw12609428388103844484 : True := trivial
theorem tw9104926115714059308 : True := trivial
theorem tw8215874429452580398 : True := trivial
theorem tw8345529776657721212 : True := trivial
theorem tw8395334180468706679 : True := trivial
theorem tw539342080186753284 : True := trivial
theorem tw3735876074357950158 : True := trivial
theorem tw1822564660160379645 : True := trivial
theorem tw5848069869417762983 : True := trivial
theorem tw14231952663582428961 : True := trivial
theorem tw5429836527256460611 : True := trivial
theorem tw2876181808714655420 : True := trivial
theorem tw10632427290277282076 : True := trivial
theorem tw11298252463362261735 : True := trivial
theorem tw5638017758928570524 : True := trivial
theorem tw15743170957615569962 : True := trivial
theorem tw6583150072599350073 : True := trivial
theorem tw4785961083050448963 : True := trivial
theorem tw15977009243650384753 : True := trivial
theorem tw14938335803344033167 : True := trivial
theorem tw9720944429201956323 : True := trivial
theorem tw2156031429837413875 : True := trivial
theorem tw4973651286704219974 : True := trivial
theorem tw16548994093374166690 : True := trivial
theorem tw6480682311626787013 : True := trivial
theorem tw4065255707192145743 : True := trivial
theorem tw7441368400539096579 : True := trivial
theorem tw2847942880829679331 : True := trivial
theorem tw13512753782784501892 : True := trivial
theorem tw5831275360617884351 : True := trivial
theorem tw2694762215786948753 : True := trivial
theorem tw468086459639954047 : True := trivial
theorem tw1344071328568203741 : True := trivial
theorem tw10227490997869215102 : True := trivial
theorem tw10185484508783238148 : True := trivial
theorem tw16024134316404262485 : True := trivial
theorem tw4322360664681457053 : True := trivial
theorem tw4516835299998286319 : True := trivial
theorem tw3445451194860899759 : True := trivial
theorem tw888554127947237557 : True := trivial
theorem tw4088171062874215232 : True := trivial
theorem tw16591033088408993452 : True := trivial
theorem tw3905882336666031328 : True := trivial
theorem tw5084485702915242973 : True := trivial
theorem tw12025425436834794103 : True := trivial
theorem tw9129744658429726339 : True := trivial
theorem tw12713225930391223813 : True := trivial
theorem tw13734383509586025307 : True := trivial
theorem tw6419876257976426596 : True := trivial
theorem tw1156272059072028442 : True := trivial
theorem tw6041141981622856217 : True := trivial
theorem tw13023795846995688962 : True := trivial
theorem tw12353173261124887436 : True := trivial
theorem tw5312021771735342287 : True := trivial
theorem tw3293939647136600037 : True := trivial
theorem tw7896092071843007429 : True := trivial
theorem tw8928875714759809600 : True := trivial
theorem tw17024408141061596653 : True := trivial
theorem tw441245479859845642 : True := trivial
theorem tw4223196937969864225 : True := trivial
theorem tw13997543782269987396 : True := trivial
theorem tw8610192687894198534 : True := trivial
theorem tw5383189605731295286 : True := trivial
theorem tw17943978751252103253 : True := trivial
theorem tw12548454180713286303 : True := trivial
theorem tw13791200692019499145 : True := trivial
theorem tw11489182133815185279 : True := trivial
theorem tw3172465517347247595 : True := trivial
theorem tw7361515012629655661 : True := trivial
theorem tw14898202484756311863 : True := trivial
theorem tw6755175150233182131 : True := trivial
theorem tw3752658493686329983 : True := trivial
theorem tw6339006066441013910 : True := trivial
theorem tw14399287918089321218 : True := trivial
theorem tw16822986912024649710 : True := trivial
theorem tw1889229489628255294 : True := trivial
theorem tw6130485697729473167 : True := trivial
theorem tw12131936114832988922 : True := trivial
theorem tw9143537589597459534 : True := trivial
theorem tw10975934847043406414 : True := trivial
theorem tw11171123007311532817 : True := trivial
theorem tw5013531970107387399 : True := trivial
theorem tw3065134087349992454 : True := trivial
theorem tw10243701479527826102 : True := trivial
theorem tw14263222003829213492 : True := trivial
theorem tw14689006180299615490 : True := trivial
theorem tw16353655011236934269 : True := trivial
theorem tw17665158433662340725 : True := trivial
theorem tw4397032094083185054 : True := trivial
theorem tw9624621558125526969 : True := trivial
theorem tw17972008990935619247 : True := trivial
theorem tw6165424393919242915 : True := trivial
theorem tw12454428956867634235 : True := trivial
theorem tw14618673687328459757 : True := trivial
theorem tw12494328042331327469 : True := trivial
theorem tw4473883217920973922 : True := trivial
theorem tw4691199593384002040 : True := trivial
theorem tw7964971401899357276 : True := trivial
theorem tw4361082799359591881 : True := trivial
theorem tw3157584721629236456 : True := trivial
theorem tw9803303537602289941 : True := trivial
theorem tw9484794533430123522 : True := trivial
theorem tw6292470454847038757 : True := trivial
theorem tw7075598959966357457 : True := trivial
theorem tw9763808715695312766 : True := trivial
theorem tw8133736319341729848 : True := trivial
theorem tw2908237248958220919 : True := trivial
theorem tw13452348424439132955 : True := trivial
theorem tw4135224993641105767 : True := trivial
theorem tw11584587263695479845 : True := trivial
theorem tw11317749724963816533 : True := trivial
theorem tw17370474132659358317 : True := trivial
theorem tw13938491097112166493 : True := trivial
theorem tw12818051772968392 : True := trivial
theorem tw14152476152418326501 : True := trivial
theorem tw734901167437614546 : True := trivial
theorem tw2266257126947598215 : True := trivial
theorem tw14071435871515866214 : True := trivial
theorem tw11239072232612751688 : True := trivial
theorem tw6965347857942742507 : True := trivial
theorem tw2278579729836346816 : True := trivial
theorem tw10598732337007509937 : True := trivial
theorem tw17380184106068885303 : True := trivial
theorem tw4446775021716647308 : True := trivial
theorem tw584711476464409342 : True := trivial
theorem tw1758663917645597346 : True := trivial
theorem tw11639288339504817433 : True := trivial
theorem tw4757783606232342398 : True := trivial
theorem tw10031466041088916059 : True := trivial
theorem tw7421245085294107526 : True := trivial
theorem tw9332216065829653385 : True := trivial
theorem tw14055556452444165240 : True := trivial
theorem tw12139650931871204588 : True := trivial
theorem tw6663633779142935460 : True := trivial
theorem tw7925942271294469907 : True := trivial
theorem tw5410947649492688434 : True := trivial
theorem tw12362151589009803624 : True := trivial
theorem tw16332748329246030291 : True := trivial
theorem tw8699017199944665827 : True := trivial
theorem tw6616309168627148447 : True := trivial
theorem tw16901475549486821819 : True := trivial
theorem tw4736770298538476161 : True := trivial
theorem tw6558345884794061462 : True := trivial
theorem tw12209446435349189482 : True := trivial
theorem tw12080904335104046227 : True := trivial
theorem tw939780854516825126 : True := trivial
theorem tw18065256244285919535 : True := trivial
theorem tw10527247104195118008 : True := trivial
theorem tw3706522026735785359 : True := trivial
theorem tw3606431074827966639 : True := trivial
theorem tw8135239352911556769 : True := trivial
theorem tw15200857336997041242 : True := trivial
theorem tw14641524486464437458 : True := trivial
theorem tw11594989820280975871 : True := trivial
theorem tw15927424560772023961 : True := trivial
theorem tw5313442751457454164 : True := trivial
theorem tw9076345763031305722 : True := trivial
theorem tw12799940785161749896 : True := trivial
theorem tw12996470365818465415 : True := trivial
theorem tw12861829447154893334 : True := trivial
theorem tw14840705644883450498 : True := trivial
theorem tw7587662512825476009 : True := trivial
theorem tw10001907187517432696 : True := trivial
theorem tw4765350200623054529 : True := trivial
theorem tw131148349431206297 : True := trivial
theorem tw7483943245396149657 : True := trivial
theorem tw55576111317335252 : True := trivial
theorem tw18080246672258972252 : True := trivial
theorem tw13536293853270947856 : True := trivial
theorem tw8140917321418283087 : True := trivial
theorem tw7024839363318272128 : True := trivial
theorem tw3094922041989394340 : True := trivial
theorem tw5620419392104404730 : True := trivial
theorem tw6761241325043507043 : True := trivial
theorem tw15287380107040066445 : True := trivial
theorem tw4654818267625116188 : True := trivial
theorem tw13334556923183542347 : True := trivial
theorem tw12297712004755213017 : True := trivial
theorem tw6119955796831045925 : True := trivial
theorem tw10567118956651056015 : True := trivial
theorem tw17758625973462634262 : True := trivial
theorem tw15495244703452678542 : True := trivial
theorem tw7009299298910122502 : True := trivial
theorem tw1384701601181690616 : True := trivial
theorem tw5838356276218245068 : True := trivial
theorem tw17397997391370992028 : True := trivial
theorem tw6152332697664536037 : True := trivial
theorem tw15817717378461483841 : True := trivial
theorem tw13049774897187581671 : True := trivial
theorem tw8090556208207098331 : True := trivial
theorem tw9306209424953570082 : True := trivial
theorem tw16518386942817137583 : True := trivial
theorem tw9870000469864890241 : True := trivial
theorem tw14264815307000305993 : True := trivial
theorem tw11538865016416474827 : True := trivial
theorem tw5359673821611880167 : True := trivial
theorem tw12099965586809477719 : True := trivial
theorem tw6575898310459732490 : True := trivial
theorem tw12986428321674904795 : True := trivial
theorem tw2323468904507626020 : True := trivial
theorem tw11058843100057517046 : True := trivial
theorem tw9601950341769118683 : True := trivial
theorem tw10763081465805457769 : True := trivial
theorem tw3622034375438608536 : True := trivial
theorem tw9152353681300496250 : True := trivial
theorem tw10169582810299444041 : True := trivial
theorem tw11160084843967294451 : True := trivial
theorem tw1046545735309503128 : True := trivial
theorem tw1383928980520713032 : True := trivial
theorem tw5274563419126831126 : True := trivial
theorem tw189593996980020082 : True := trivial
theorem tw5458961056427109108 : True := trivial
theorem tw8024229362416490346 : True := trivial
theorem tw8187780299416005722 : True := trivial
theorem tw16154431975699796554 : True := trivial
theorem tw3504407424573644222 : True := trivial
theorem tw3685353523135292274 : True := trivial
theorem tw13528555097228146076 : True := trivial
theorem tw17762893505494161125 : True := trivial
theorem tw4039206763618735794 : True := trivial
theorem tw6052403121301827244 : True := trivial
theorem tw14748311443199441163 : True := trivial
theorem tw10308452966424572696 : True := trivial
theorem tw4563844665449721520 : True := trivial
theorem tw13690844824721365760 : True := trivial
theorem tw3692816214825185660 : True := trivial
theorem tw15995938213126111579 : True := trivial
theorem tw9979769888002500521 : True := trivial
theorem tw9278858731863308123 : True := trivial
theorem tw10855496687557818151 : True := trivial
theorem tw10744024000269148433 : True := trivial
theorem tw10389129819262449872 : True := trivial
theorem tw1278589988175595990 : True := trivial
theorem tw3129334047246959962 : True := trivial
theorem tw14548310409336575521 : True := trivial
theorem tw4562485920135037358 : True := trivial
theorem tw18121558553960129944 : True := trivial
theorem tw9475780299763286903 : True := trivial
theorem tw10600521547923691455 : True := trivial
theorem tw7655315817553627319 : True := trivial
theorem tw3816461759868226504 : True := trivial
theorem tw523564389373607798 : True := trivial
theorem tw4469285481774534569 : True := trivial
theorem tw16933127160910320574 : True := trivial
theorem tw2840041211036840192 : True := trivial
theorem tw14864385953690606105 : True := trivial
theorem tw17599566597602128198 : True := trivial
theorem tw15686963000228277928 : True := trivial
theorem tw7825045566557388099 : True := trivial
theorem tw7907067251550914579 : True := trivial
theorem tw9776695045619324437 : True := trivial
theorem tw4469172253254467746 : True := trivial
theorem tw8259451583723604416 : True := trivial
theorem tw13326677520510609219 : True := trivial
theorem tw9632651348632934400 : True := trivial
theorem tw8274298664773794349 : True := trivial
theorem tw14226596139448826559 : True := trivial
theorem tw295655943522987499 : True := trivial
theorem tw4855788766887406579 : True := trivial
theorem tw2452508523877845385 : True := trivial
theorem tw11811480786261059476 : True := trivial
theorem tw1640100299390089562 : True := trivial
theorem tw2366986327628101410 : True := trivial
theorem tw13866694233409428234 : True := trivial
theorem tw6679918188403113005 : True := trivial
theorem tw16609948133979088072 : True := trivial
theorem tw13011838715534867481 : True := trivial
theorem tw16757186016170459928 : True := trivial
theorem tw1323379720863945379 : True := trivial
theorem tw17891514091910196434 : True := trivial
theorem tw2331127074527721219 : True := trivial
theorem tw6076444116429713401 : True := trivial
theorem tw17467834163141255705 : True := trivial
theorem tw941537808397991140 : True := trivial
theorem tw188791528487018986 : True := trivial
theorem tw1799146950637816758 : True := trivial
theorem tw4799660880808413672 : True := trivial
theorem tw10278812209031885869 : True := trivial
theorem tw4201482838673584016 : True := trivial
theorem tw2937568627758556098 : True := trivial
theorem tw10441172374672855825 : True := trivial
theorem tw7601997984454926271 : True := trivial
theorem tw16631704562901918886 : True := trivial
theorem tw8533840224241826196 : True := trivial
theorem tw10225115031979243284 : True := trivial
theorem tw5126166127177380785 : True := trivial
theorem tw14528038320187869234 : True := trivial
theorem tw2818695048056615100 : True := trivial
theorem tw15560646431078795268 : True := trivial
theorem tw4828953894988474658 : True := trivial
theorem tw6948102833795920849 : True := trivial
theorem tw16367192936845083546 : True := trivial
theorem tw4346001938751212760 : True := trivial
theorem tw2425832168404365770 : True := trivial
theorem tw11863942912453824151 : True := trivial
theorem tw6984741512524221152 : True := trivial
theorem tw10730112655462377326 : True := trivial
theorem tw5697270453957518018 : True := trivial
theorem tw3257942790177994986 : True := trivial
theorem tw13937358935913480654 : True := trivial
theorem tw13550986792172908499 : True := trivial
theorem tw8227624155952604679 : True := trivial
theorem tw10063594395714486421 : True := trivial
theorem tw18131924932091915507 : True := trivial
theorem tw17244597770131942069 : True := trivial
theorem tw18166885830736100013 : True := trivial
theorem tw1037598487846236151 : True := trivial
theorem tw1036170808106325819 : True := trivial
theorem tw4815912770953829836 : True := trivial
theorem tw4740788003250745517 : True := trivial
theorem tw9178036913669469015 : True := trivial
theorem tw12807226866552803314 : True := trivial
theorem tw9774183669090001774 : True := trivial
theorem tw3969296112783104840 : True := trivial
theorem tw3777580170846002666 : True := trivial
theorem tw17502485305889204843 : True := trivial
theorem tw1343988951574267158 : True := trivial
theorem tw13209968792567736851 : True := trivial
theorem tw17607507973808710539 : True := trivial
theorem tw17894732819070715654 : True := trivial
theorem tw12057206818648466380 : True := trivial
theorem tw4709236607484524053 : True := trivial
theorem tw9555285529530546082 : True := trivial
theorem tw2927697139201201599 : True := trivial
theorem tw8494810461253930883 : True := trivial
theorem tw6623863888550442469 : True := trivial
theorem tw16344689380509253444 : True := trivial
theorem tw18281023232144219709 : True := trivial
theorem tw17107001065276872023 : True := trivial
theorem tw14057470095265174053 : True := trivial
theorem tw838606914093523040 : True := trivial
theorem tw11432641706114266841 : True := trivial
theorem tw9160551240363375366 : True := trivial
theorem tw12872146990210550690 : True := trivial
theorem tw4777148036565483550 : True := trivial
theorem tw12479540649740456090 : True := trivial
theorem tw9125200616995436693 : True := trivial
theorem tw8018924224069962212 : True := trivial
theorem tw8792928845283295296 : True := trivial
theorem tw4777141050831502914 : True := trivial
theorem tw14340022363395486504 : True := trivial
theorem tw8701941450494912755 : True := trivial
theorem tw1059057976454251784 : True := trivial
theorem tw14092636459563371974 : True := trivial
theorem tw18244053500281403239 : True := trivial
theorem tw15039255169124236173 : True := trivial
theorem tw3240633310047329917 : True := trivial
theorem tw16246630154160753397 : True := trivial
theorem tw4315483156305354194 : True := trivial
theorem tw8384905601573535197 : True := trivial
theorem tw15646870138648109740 : True := trivial
theorem tw11233749829756418474 : True := trivial
theorem tw3972577402923175344 : True := trivial
theorem tw14620707583352302412 : True := trivial
theorem tw4329077433283897652 : True := trivial
theorem tw9144880432080346396 : True := trivial
theorem tw6656886771195437789 : True := trivial
theorem tw2264410525439938418 : True := trivial
theorem tw3015057052842629739 : True := trivial
theorem tw5232769913130571784 : True := trivial
theorem tw2658370281450024867 : True := trivial
theorem tw10439960854011445372 : True := trivial
theorem tw12592694878980443991 : True := trivial
theorem tw14750107893596462551 : True := trivial
theorem tw12123665491232072073 : True := trivial
theorem tw3527638470839468659 : True := trivial
theorem tw5786174185594923082 : True := trivial
theorem tw4503493486675327338 : True := trivial
theorem tw15034142788921896768 : True := trivial
theorem tw5231704015601212258 : True := trivial
theorem tw16882127936314664252 : True := trivial
theorem tw7039018734774614736 : True := trivial
theorem tw14000284947462252592 : True := trivial
theorem tw9269798797936850080 : True := trivial
theorem tw3261070557847947826 : True := trivial
theorem tw16885042628204454995 : True := trivial
theorem tw17088208258415186306 : True := trivial
theorem tw15398761350597088524 : True := trivial
theorem tw6360028056698909829 : True := trivial
theorem tw10362028142190019325 : True := trivial
theorem tw13673660805658421916 : True := trivial
theorem tw8190156129001000356 : True := trivial
theorem tw10296631676985107223 : True := trivial
theorem tw7601394867261597504 : True := trivial
theorem tw10233941840425034103 : True := trivial
theorem tw7363913527917506690 : True := trivial
theorem tw10277871033688342216 : True := trivial
theorem tw317125450304011996 : True := trivial
theorem tw17137683546069814812 : True := trivial
theorem tw2725908820317294675 : True := trivial
theorem tw5703618926639816250 : True := trivial
theorem tw11180454046834447927 : True := trivial
theorem tw7597491739231041476 : True := trivial
theorem tw15536132002667929461 : True := trivial
theorem tw15099037248840948938 : True := trivial
theorem tw8591379493849888935 : True := trivial
theorem tw12659886022884953195 : True := trivial
theorem tw14886263711325072538 : True := trivial
theorem tw7750255846551908655 : True := trivial
theorem tw4784854915159453766 : True := trivial
theorem tw16730049066119391459 : True := trivial
theorem tw8494742952016473844 : True := trivial
theorem tw10789736098048303023 : True := trivial
theorem tw9455669529981827248 : True := trivial
theorem tw10083276609707377085 : True := trivial
theorem tw12483552034371522771 : True := trivial
theorem tw13268850012538226906 : True := trivial
theorem tw8640480558571737826 : True := trivial
theorem tw11941940659490034476 : True := trivial
theorem tw12608648178385689049 : True := trivial
theorem tw9815949159828805232 : True := trivial
theorem tw10051889631903215950 : True := trivial
theorem tw9406937386413214559 : True := trivial
theorem tw8963857589837876211 : True := trivial
theorem tw9827063589365623961 : True := trivial
theorem tw16232333051631931452 : True := trivial
theorem tw17497097761292266564 : True := trivial
theorem tw16602457140972399551 : True := trivial
theorem tw13688939773989161064 : True := trivial
theorem tw6165286843887512059 : True := trivial
theorem tw13713634017688282500 : True := trivial
theorem tw7632525052207827499 : True := trivial
theorem tw18197205919768893837 : True := trivial
theorem tw14882125424138139730 : True := trivial
theorem tw14763318169014285574 : True := trivial
theorem tw401041144787793539 : True := trivial
theorem tw3479871571290838706 : True := trivial
theorem tw6404295958886798489 : True := trivial
theorem tw15948303008891158267 : True := trivial
theorem tw16732603730456512377 : True := trivial
theorem tw14562359372156993653 : True := trivial
theorem tw10902383986027677859 : True := trivial
theorem tw3086052220706066809 : True := trivial
theorem tw13538255251161115459 : True := trivial
theorem tw9315587893187998257 : True := trivial
theorem tw10861289010838990208 : True := trivial
theorem tw8634630040456995059 : True := trivial
theorem tw16229323959075206624 : True := trivial
theorem tw729107618593597148 : True := trivial
theorem tw6220756817838843125 : True := trivial
theorem tw971316912595463083 : True := trivial
theorem tw12288632941239089821 : True := trivial
theorem tw4512474294307747894 : True := trivial
theorem tw10736652294808293454 : True := trivial
theorem tw16952599767556994872 : True := trivial
theorem tw6848856728870980439 : True := trivial
theorem tw15914203390398884401 : True := trivial
theorem tw2348242227271815464 : True := trivial
theorem tw2442222781835754705 : True := trivial
theorem tw2865632629996560927 : True := trivial
theorem tw2379538654907565989 : True := trivial
theorem tw4507732634809436155 : True := trivial
theorem tw16634020806576503955 : True := trivial
theorem tw1437674819080901030 : True := trivial
theorem tw9726959520245680410 : True := trivial
theorem tw15026839048958754533 : True := trivial
theorem tw18041530542538674130 : True := trivial
theorem tw13993965229964199004 : True := trivial
theorem tw9620041616580128950 : True := trivial
theorem tw3231179358315500248 : True := trivial
theorem tw17490273288396720498 : True := trivial
theorem tw3423288993185773016 : True := trivial
theorem tw7749946882399154103 : True := trivial
theorem tw11262849317177184443 : True := trivial
theorem tw13822226314378921629 : True := trivial
theorem tw13442799720350713720 : True := trivial
theorem tw8942018878646578263 : True := trivial
theorem tw5206874426253940517 : True := trivial
theorem tw5627281719507204707 : True := trivial
theorem tw2572439175762915455 : True := trivial
theorem tw12973052285527180740 : True := trivial
theorem tw7156039996146517578 : True := trivial
theorem tw6019756409677186250 : True := trivial
theorem tw13482205144020587718 : True := trivial
theorem tw4945197812958046900 : True := trivial
theorem tw9493040746270922954 : True := trivial
theorem tw18300417931632581661 : True := trivial
theorem tw6318898431757352243 : True := trivial
theorem tw372919322552060688 : True := trivial
theorem tw13452918695005901811 : True := trivial
theorem tw6040160566482104125 : True := trivial
theorem tw13928883378224716380 : True := trivial
theorem tw2205534109882970336 : True := trivial
theorem tw3579727259571851838 : True := trivial
theorem tw9416763381254597487 : True := trivial
theorem tw3091609166640808934 : True := trivial
theorem tw14738658629326414119 : True := trivial
theorem tw4677576402642176520 : True := trivial
theorem tw12653365675218080300 : True := trivial
theorem tw17757080465238314870 : True := trivial
theorem tw3103759290397419795 : True := trivial
theorem tw17554264305817081865 : True := trivial
theorem tw18044106852573754388 : True := trivial
theorem tw16865663065437166710 : True := trivial
theorem tw1576672449527146861 : True := trivial
theorem tw16442998855167642693 : True := trivial
theorem tw9806696334024511597 : True := trivial
theorem tw11608206379076232368 : True := trivial
theorem tw13359796687055680241 : True := trivial
theorem tw7972420651441618337 : True := trivial
theorem tw10225639760149843881 : True := trivial
theorem tw17308606655701409535 : True := trivial
theorem tw9252588816529950327 : True := trivial
theorem tw3693923940433638214 : True := trivial
theorem tw6717781094707374459 : True := trivial
theorem tw11641979855714614614 : True := trivial
theorem tw13972151293794238505 : True := trivial
theorem tw12646162242909358128 : True := trivial
theorem tw17544399990997573550 : True := trivial
theorem tw9611827068668194096 : True := trivial
theorem tw6825275971160024703 : True := trivial
theorem tw7959304526115776303 : True := trivial
theorem tw17878000469086516420 : True := trivial
theorem tw9339591767944839617 : True := trivial
theorem tw740095583318757788 : True := trivial
theorem tw9172576905574808078 : True := trivial
theorem tw14540196041545055427 : True := trivial
theorem tw9236348169799699603 : True := trivial
theorem tw13143247480736261459 : True := trivial
theorem tw11847486910172208655 : True := trivial
theorem tw6316883440182632893 : True := trivial
theorem tw10206784812273491871 : True := trivial
theorem tw8342591271728135296 : True := trivial
theorem tw15675254076547583782 : True := trivial
theorem tw14723661410928987934 : True := trivial
theorem tw10545191184131999622 : True := trivial
theorem tw6209790877689604511 : True := trivial
theorem tw9936626919498308980 : True := trivial
theorem tw3052929586079849045 : True := trivial
theorem tw2419398829446318683 : True := trivial
theorem tw16891736669801342520 : True := trivial
theorem tw3314752292637699473 : True := trivial
theorem tw5697096194466839427 : True := trivial
theorem tw18369325011625872006 : True := trivial
theorem tw16216490817670905977 : True := trivial
theorem tw542347668562138766 : True := trivial
theorem tw1963781331925139749 : True := trivial
theorem tw11314448519399648519 : True := trivial
theorem tw7437439998275372376 : True := trivial
theorem tw6315812788979092458 : True := trivial
theorem tw11041649180117226566 : True := trivial
theorem tw12600696667930848471 : True := trivial
theorem tw253225304505033929 : True := trivial
theorem tw7790625244137487248 : True := trivial
theorem tw12157211258975489796 : True := trivial
theorem tw8126056510676722448 : True := trivial
theorem tw13141129130499874531 : True := trivial
theorem tw944749814252681809 : True := trivial
theorem tw6887472480733694886 : True := trivial
theorem tw11489535764780482928 : True := trivial
theorem tw13297091815538533296 : True := trivial
theorem tw3945322537251595646 : True := trivial
theorem tw12950478204706523683 : True := trivial
theorem tw2409131539356311914 : True := trivial
theorem tw13064390605443150173 : True := trivial
theorem tw2590852446539609588 : True := trivial
theorem tw15327079915792391789 : True := trivial
theorem tw11951043970868484865 : True := trivial
theorem tw9498011453612873802 : True := trivial
theorem tw5790315619781473027 : True := trivial
theorem tw10176671708608396643 : True := trivial
theorem tw10371637641723924294 : True := trivial
theorem tw17883848610355654063 : True := trivial
theorem tw16836030395106276107 : True := trivial
theorem tw1547762238950875855 : True := trivial
theorem tw15182544708634444951 : True := trivial
theorem tw9867557293120719946 : True := trivial
theorem tw7474162410728989351 : True := trivial
theorem tw8210414028075644095 : True := trivial
theorem tw12296426673566460009 : True := trivial
theorem tw11595512822969350741 : True := trivial
theorem tw9382815638134747625 : True := trivial
theorem tw10571521689537212216 : True := trivial
theorem tw3600715264595331396 : True := trivial
theorem tw2190017841833980813 : True := trivial
theorem tw1959731163889119738 : True := trivial
theorem tw16468547614000518242 : True := trivial
theorem tw16222925585542808755 : True := trivial
theorem tw8338161890708198285 : True := trivial
theorem tw4475255944447615595 : True := trivial
theorem tw11499770974721984125 : True := trivial
theorem tw7029489328999268604 : True := trivial
theorem tw15183564917441583145 : True := trivial
theorem tw8968413015094710145 : True := trivial
theorem tw9159160389679128858 : True := trivial
theorem tw12179399746952502983 : True := trivial
theorem tw6000073960111513166 : True := trivial
theorem tw6798268606678541318 : True := trivial
theorem tw15752133127190761429 : True := trivial
theorem tw5722544483730479708 : True := trivial
theorem tw4660721441436189464 : True := trivial
theorem tw1131762154639266729 : True := trivial
theorem tw15860191285619343405 : True := trivial
theorem tw7696200023680231626 : True := trivial
theorem tw16438997619103356543 : True := trivial
theorem tw6324147451569263313 : True := trivial
theorem tw4398234026407406001 : True := trivial
theorem tw7440990619764768191 : True := trivial
theorem tw12968557107695584318 : True := trivial
theorem tw3890271749622510914 : True := trivial
theorem tw16314097702700385688 : True := trivial
theorem tw10114156532138084240 : True := trivial
theorem tw7912012868204190469 : True := trivial
theorem tw11337301246361724064 : True := trivial
theorem tw999242089241589825 : True := trivial
theorem tw4587492095046746587 : True := trivial
theorem tw12206828485888989848 : True := trivial
theorem tw3035969057460455096 : True := trivial
theorem tw16765492719578331474 : True := trivial
theorem tw11298935419239451386 : True := trivial
theorem tw17938166051200193833 : True := trivial
theorem tw17236551136894782845 : True := trivial
theorem tw1144150254880843644 : True := trivial
theorem tw9612634642634261964 : True := trivial
theorem tw17746054788554836863 : True := trivial
theorem tw15033548039462756544 : True := trivial
theorem tw694563028154127774 : True := trivial
theorem tw17250295444280225648 : True := trivial
theorem tw9559471947264521738 : True := trivial
theorem tw15862311081813960997 : True := trivial
theorem tw14512758089634079727 : True := trivial
theorem tw16640485529984440167 : True := trivial
theorem tw12967042737219372251 : True := trivial
theorem tw9207020198780618606 : True := trivial
theorem tw8972850430264613211 : True := trivial
theorem tw5777117522151931696 : True := trivial
theorem tw2690403028554923150 : True := trivial
theorem tw7400156078788240520 : True := trivial
theorem tw8376099792468540419 : True := trivial
theorem tw8557521952131258833 : True := trivial
theorem tw15108321016226551270 : True := trivial
theorem tw2493804661746486281 : True := trivial
theorem tw2751411108212252756 : True := trivial
theorem tw3405699565061491933 : True := trivial
theorem tw13414159362815576576 : True := trivial
theorem tw17760276915889399757 : True := trivial
theorem tw12762419017525148088 : True := trivial
theorem tw16478838341448299024 : True := trivial
theorem tw3844386381837602165 : True := trivial
theorem tw5410328697859838432 : True := trivial
theorem tw17444937158444846095 : True := trivial
theorem tw13060298521544605653 : True := trivial
theorem tw11593852423070262641 : True := trivial
theorem tw5275279705684849317 : True := trivial
theorem tw16635937420332523802 : True := trivial
theorem tw11188912981567658022 : True := trivial
theorem tw8299975232976927007 : True := trivial
theorem tw7572461933204746958 : True := trivial
theorem tw4284023890753323739 : True := trivial
theorem tw3093791267271160233 : True := trivial
theorem tw7121614403439086520 : True := trivial
theorem tw17189250336466109025 : True := trivial
theorem tw11600837235209320767 : True := trivial
theorem tw16483467337309687736 : True := trivial
theorem tw9113976964224267934 : True := trivial
theorem tw7998308218025518897 : True := trivial
theorem tw17589058270140563752 : True := trivial
theorem tw13611895212521840960 : True := trivial
theorem tw85376849230799383 : True := trivial
theorem tw13637342217665850662 : True := trivial
theorem tw1756688078302403912 : True := trivial
theorem tw759217539811487930 : True := trivial
theorem tw11404351858952537141 : True := trivial
theorem tw18001890580055323529 : True := trivial
theorem tw7260052327992749950 : True := trivial
theorem tw12825311805376949436 : True := trivial
theorem tw11902026777679976217 : True := trivial
theorem tw6627872822113044431 : True := trivial
theorem tw8871599752235515330 : True := trivial
theorem tw10269517095277330611 : True := trivial
theorem tw10366660712796478065 : True := trivial
theorem tw8909991716071845153 : True := trivial
theorem tw15663665568869592239 : True := trivial
theorem tw5392386570516786041 : True := trivial
theorem tw8127867791612195017 : True := trivial
theorem tw5227401440600665377 : True := trivial
theorem tw9688401992549516857 : True := trivial
theorem tw5157720310858332173 : True := trivial
theorem tw13858334877473465025 : True := trivial
theorem tw6265917886245122828 : True := trivial
theorem tw4029511805693340843 : True := trivial
theorem tw10689892592005144454 : True := trivial
theorem tw17322261780862165127 : True := trivial
theorem tw11721757759023075576 : True := trivial
theorem tw13759445783949246338 : True := trivial
theorem tw6384473424768647775 : True := trivial
theorem tw3574038565459200859 : True := trivial
theorem tw15933117150482618538 : True := trivial
theorem tw7708681199491078468 : True := trivial
theorem tw1294149409989842300 : True := trivial
theorem tw6478480227313080635 : True := trivial
theorem tw7939169044935937187 : True := trivial
theorem tw11904506410591643011 : True := trivial
theorem tw12536605364931931935 : True := trivial
theorem tw10958189900475239343 : True := trivial
theorem tw17521937345160201304 : True := trivial
theorem tw6387574906561238723 : True := trivial
theorem tw14374816680371082865 : True := trivial
theorem tw16781462451295465773 : True := trivial
theorem tw17256941140435847109 : True := trivial
theorem tw11586709614755806845 : True := trivial
theorem tw18093511170032343411 : True := trivial
theorem tw15646407166616959314 : True := trivial
theorem tw11857837782559129069 : True := trivial
theorem tw2255548716485518626 : True := trivial
theorem tw11979797306425405267 : True := trivial
theorem tw7913346946755666745 : True := trivial
theorem tw10438481555437156202 : True := trivial
theorem tw7752582867973822121 : True := trivial
theorem tw1403654136320257112 : True := trivial
theorem tw3300825552613017650 : True := trivial
theorem tw12616884013599465790 : True := trivial
theorem tw12941779051124413850 : True := trivial
theorem tw16448238834776575261 : True := trivial
theorem tw6730510385162905020 : True := trivial
theorem tw6289495467161323865 : True := trivial
theorem tw2330120424512819147 : True := trivial
theorem tw3875357724682617936 : True := trivial
theorem tw3975828995991298884 : True := trivial
theorem tw4674892692422631590 : True := trivial
theorem tw4679409404804628738 : True := trivial
theorem tw301150138899594866 : True := trivial
theorem tw7827730684396765058 : True := trivial
theorem tw18131526964485343147 : True := trivial
theorem tw12379228711870217348 : True := trivial
theorem tw6944310333841198555 : True := trivial
theorem tw6826740310601092321 : True := trivial
theorem tw9052627945166383798 : True := trivial
theorem tw3868574228523133733 : True := trivial
theorem tw15442915218613728282 : True := trivial
theorem tw7616459033415355530 : True := trivial
theorem tw16367976825404231557 : True := trivial
theorem tw199966642374225492 : True := trivial
theorem tw17226172979506810992 : True := trivial
theorem tw9291084349831362161 : True := trivial
theorem tw6284946711561561703 : True := trivial
theorem tw11015314477053124542 : True := trivial
theorem tw8957566100968382909 : True := trivial
theorem tw13680036962689929915 : True := trivial
theorem tw12301599660011668653 : True := trivial
theorem tw12710846990817917688 : True := trivial
theorem tw3854095436950976279 : True := trivial
theorem tw15337749217085727392 : True := trivial
theorem tw620542799744108489 : True := trivial
theorem tw3378569293481928645 : True := trivial
theorem tw7948060017541505394 : True := trivial
theorem tw5704241102639747301 : True := trivial
theorem tw2924870233810754380 : True := trivial
theorem tw9604153306366688875 : True := trivial
theorem tw11516012717017939829 : True := trivial
theorem tw9661889371985548923 : True := trivial
theorem tw11102311903323213636 : True := trivial
theorem tw16533894060217591751 : True := trivial
theorem tw4569698496688034071 : True := trivial
theorem tw3675011249059675085 : True := trivial
theorem tw14600715015691721652 : True := trivial
theorem tw3824432299465973352 : True := trivial
theorem tw9846701742665512605 : True := trivial
theorem tw11932102226395151938 : True := trivial
theorem tw10350722351539498585 : True := trivial
theorem tw1624222750354922302 : True := trivial
theorem tw15768126878917105970 : True := trivial
theorem tw7029727343491751539 : True := trivial
theorem tw17721180823751488111 : True := trivial
theorem tw4773244457277077739 : True := trivial
theorem tw9496878716736502738 : True := trivial
theorem tw7583029783999621409 : True := trivial
theorem tw17787424328844752555 : True := trivial
theorem tw9030000344370438126 : True := trivial
theorem tw9204167545948350534 : True := trivial
theorem tw610387749804683337 : True := trivial
theorem tw15545046112707546527 : True := trivial
theorem tw14968509144506911595 : True := trivial
theorem tw5108373420894210918 : True := trivial
theorem tw12472451262240857080 : True := trivial
theorem tw17003808955045244488 : True := trivial
theorem tw3676455420946095390 : True := trivial
theorem tw5220798534089555087 : True := trivial
theorem tw11518792503092016047 : True := trivial
theorem tw2343126439065802996 : True := trivial
theorem tw12278461892749331346 : True := trivial
theorem tw12362566711578541515 : True := trivial
theorem tw10212811508217685435 : True := trivial
theorem tw16740677324386004417 : True := trivial
theorem tw10295711511812621185 : True := trivial
theorem tw9910979378102538440 : True := trivial
theorem tw5115780910952435241 : True := trivial
theorem tw7078766612321241944 : True := trivial
theorem tw13816058644291355397 : True := trivial
theorem tw6774605983108614276 : True := trivial
theorem tw11766197295569390173 : True := trivial
theorem tw1089551986621391363 : True := trivial
theorem tw1084176100704765924 : True := trivial
theorem tw4634493767839702621 : True := trivial
theorem tw6077627170678169557 : True := trivial
theorem tw15394644676242215274 : True := trivial
theorem tw14608746456435937822 : True := trivial
theorem tw17218613750646715438 : True := trivial
theorem tw12964302149414809318 : True := trivial
theorem tw12900804435875942331 : True := trivial
theorem tw196078622768744544 : True := trivial
theorem tw2765627731847100654 : True := trivial
theorem tw17668915620618735498 : True := trivial
theorem tw13706985363656883378 : True := trivial
theorem tw34152428092742915 : True := trivial
theorem tw1517969612124653856 : True := trivial
theorem tw1464423757199517537 : True := trivial
theorem tw1077608591837043172 : True := trivial
theorem tw6798514636209772699 : True := trivial
theorem tw7418120690275774983 : True := trivial
theorem tw1387827717009587652 : True := trivial
theorem tw11269056243209021654 : True := trivial
theorem tw12937127219794682251 : True := trivial
theorem tw983156372661646381 : True := trivial
theorem tw1758599793559486144 : True := trivial
theorem tw15177133013725658232 : True := trivial
theorem tw14795838846954353030 : True := trivial
theorem tw8009845857018575388 : True := trivial
theorem tw27505493291406225 : True := trivial
theorem tw5369519191129589726 : True := trivial
theorem tw17585432483523014658 : True := trivial
theorem tw8301420407971888757 : True := trivial
theorem tw12825587635198508639 : True := trivial
theorem tw18409533712885988106 : True := trivial
theorem tw6627167840235304779 : True := trivial
theorem tw12926915473330921032 : True := trivial
theorem tw16935015316125028934 : True := trivial
theorem tw11243344601830000811 : True := trivial
theorem tw2857930207135378887 : True := trivial
theorem tw15218282136807004095 : True := trivial
theorem tw1458668137857794853 : True := trivial
theorem tw1430431171689022246 : True := trivial
theorem tw11931965619298578545 : True := trivial
theorem tw4907282712211986144 : True := trivial
theorem tw8097692111745951363 : True := trivial
theorem tw16823199713702259836 : True := trivial
theorem tw14613391672957806904 : True := trivial
theorem tw14559070696709755875 : True := trivial
theorem tw8114011764913295418 : True := trivial
theorem tw7392573077034851815 : True := trivial
theorem tw18378654715906818426 : True := trivial
theorem tw11268199854153070143 : True := trivial
theorem tw12219633725860804767 : True := trivial
theorem tw2164982772615881731 : True := trivial
theorem tw10171981045168379132 : True := trivial
theorem tw3961195663789121809 : True := trivial
theorem tw13962284148716918674 : True := trivial
theorem tw5780422892283152062 : True := trivial
theorem tw16649414676049969314 : True := trivial
theorem tw4543447909370512370 : True := trivial
theorem tw180183015664022631 : True := trivial
theorem tw1038091311851379113 : True := trivial
theorem tw9687376631330494321 : True := trivial
theorem tw11584659939612222174 : True := trivial
theorem tw6376898249054764329 : True := trivial
theorem tw1119839843339971269 : True := trivial
theorem tw516670241816886059 : True := trivial
theorem tw17374374291011438571 : True := trivial
theorem tw12742914825437649707 : True := trivial
theorem tw7332504627206574256 : True := trivial
theorem tw2974053622875508335 : True := trivial
theorem tw5230655526810966325 : True := trivial
theorem tw13406229167635731178 : True := trivial
theorem tw8236594191866393059 : True := trivial
theorem tw10885873423360077221 : True := trivial
theorem tw8170374864448823880 : True := trivial
theorem tw1388066783207677141 : True := trivial
theorem tw9375595000392032605 : True := trivial
theorem tw15431120490951853729 : True := trivial
theorem tw8123275006754497118 : True := trivial
theorem tw10533973087550542877 : True := trivial
theorem tw14387458242534216003 : True := trivial
theorem tw18178369744329055541 : True := trivial
theorem tw14087788452595383617 : True := trivial
theorem tw231205383214708830 : True := trivial
theorem tw13176035637315902734 : True := trivial
theorem tw9507165183533360923 : True := trivial
theorem tw11677827327458337599 : True := trivial
theorem tw7964333407706675164 : True := trivial
theorem tw6241397762378325217 : True := trivial
theorem tw6934859783566902949 : True := trivial
theorem tw16431571211202943769 : True := trivial
theorem tw12867400739411700382 : True := trivial
theorem tw16548074713366593148 : True := trivial
theorem tw6713407193773654654 : True := trivial
theorem tw6508986433460061750 : True := trivial
theorem tw4917910054011513465 : True := trivial
theorem tw15402137537431615750 : True := trivial
theorem tw8763070097180701537 : True := trivial
theorem tw9139427374957522850 : True := trivial
theorem tw17580786785537460400 : True := trivial
theorem tw16641566868905906130 : True := trivial
theorem tw11443367268950612259 : True := trivial
theorem tw5376243515190518068 : True := trivial
theorem tw14341605360779039029 : True := trivial
theorem tw13227657731647751319 : True := trivial
theorem tw5118072852412907435 : True := trivial
theorem tw11860699622666785831 : True := trivial
theorem tw7680289694420930069 : True := trivial
theorem tw6128724283011722547 : True := trivial
theorem tw3056933741512781845 : True := trivial
theorem tw7024986285155454689 : True := trivial
theorem tw17582583864601942132 : True := trivial
theorem tw6250750298116311729 : True := trivial
theorem tw16944963002164490256 : True := trivial
theorem tw7533203483712516202 : True := trivial
theorem tw966663092881851235 : True := trivial
theorem tw7260097502091675785 : True := trivial
theorem tw2936953754471238436 : True := trivial
theorem tw11586074200773179017 : True := trivial
theorem tw18370798995866563064 : True := trivial
theorem tw12823064698473273708 : True := trivial
theorem tw13533134418446396870 : True := trivial
theorem tw468166458815981908 : True := trivial
theorem tw6558381508828413739 : True := trivial
theorem tw13886328528361575281 : True := trivial
theorem tw14814668277355989345 : True := trivial
theorem tw15411520719440835331 : True := trivial
theorem tw1648902969177643219 : True := trivial
theorem tw6739616474544251235 : True := trivial
theorem tw672969233040770163 : True := trivial
theorem tw17305613512237590342 : True := trivial
theorem tw6909747668643836952 : True := trivial
theorem tw2988320115313091780 : True := trivial
theorem tw1986134246989231367 : True := trivial
theorem tw982758179624491130 : True := trivial
theorem tw16407438157198364372 : True := trivial
theorem tw17320139327964591851 : True := trivial
theorem tw11249251357126924381 : True := trivial
theorem tw15158520220608374215 : True := trivial
theorem tw16841303285597906675 : True := trivial
theorem tw14455703013718789337 : True := trivial
theorem tw11729373114798832262 : True := trivial
theorem tw903545959669205599 : True := trivial
theorem tw15760303584120268456 : True := trivial
theorem tw368710495134632908 : True := trivial
theorem tw16634236421358198511 : True := trivial
theorem tw12695202006617668671 : True := trivial
theorem tw17521450405128633880 : True := trivial
theorem tw5073505478761546342 : True := trivial
theorem tw4593452283111154774 : True := trivial
theorem tw332050293910425050 : True := trivial
theorem tw12680764014448572554 : True := trivial
theorem tw6498435176965158631 : True := trivial
theorem tw13690206705126536954 : True := trivial
theorem tw12348057826964147111 : True := trivial
theorem tw8441175847997529067 : True := trivial
theorem tw15735616536427731832 : True := trivial
theorem tw12355869945218696729 : True := trivial
theorem tw1139180685902181489 : True := trivial
theorem tw4403087455935748064 : True := trivial
theorem tw274060651267657257 : True := trivial
theorem tw17756448416180113526 : True := trivial
theorem tw8349980407224476055 : True := trivial
theorem tw4661801542070958451 : True := trivial
theorem tw10322209277656126469 : True := trivial
theorem tw236783102075148653 : True := trivial
theorem tw9451418508013347046 : True := trivial
theorem tw11243282509347030202 : True := trivial
theorem tw9896719786784262800 : True := trivial
theorem tw2673414838222045857 : True := trivial
theorem tw4620503887634616645 : True := trivial
theorem tw5872707373510753275 : True := trivial
theorem tw2171458721172793721 : True := trivial
theorem tw11775154578504767358 : True := trivial
theorem tw7450915801665589378 : True := trivial
theorem tw14044002869924393513 : True := trivial
theorem tw3793756149630680839 : True := trivial
theorem tw140949676337927700 : True := trivial
theorem tw9723477354668033374 : True := trivial
theorem tw7190750717666674293 : True := trivial
theorem tw16135673247969660328 : True := trivial
theorem tw6881657680613438364 : True := trivial
theorem tw4165160724424038669 : True := trivial
theorem tw12053470445637213881 : True := trivial
theorem tw10526503878475152517 : True := trivial
theorem tw6820673707431849768 : True := trivial
theorem tw6703119388893494927 : True := trivial
theorem tw13442082644684928657 : True := trivial
theorem tw17785077992558732550 : True := trivial
theorem tw13147656999046532988 : True := trivial
theorem tw9100860366716865169 : True := trivial
theorem tw15002373304794927450 : True := trivial
theorem tw11541907224290293187 : True := trivial
theorem tw10146396197404953243 : True := trivial
theorem tw18126613792628522287 : True := trivial
theorem tw18410915046247689092 : True := trivial
theorem tw9406992490679241030 : True := trivial
theorem tw3396893200781489739 : True := trivial
theorem tw5931513285842045543 : True := trivial
theorem tw9800560808054569845 : True := trivial
theorem tw17714997231785632857 : True := trivial
theorem tw364587313977319553 : True := trivial
theorem tw16123872192192003467 : True := trivial
theorem tw5173285741960591315 : True := trivial
theorem tw12369583529001098535 : True := trivial
theorem tw14912595018816343565 : True := trivial
theorem tw7389643953761914957 : True := trivial
theorem tw16361890885635488366 : True := trivial
theorem tw10927066923316604744 : True := trivial
theorem tw3308428285245594818 : True := trivial
theorem tw4418463832222484531 : True := trivial
theorem tw6104380961203833230 : True := trivial
theorem tw14872637806621654217 : True := trivial
theorem tw7378770958380076243 : True := trivial
theorem tw3731694864728938761 : True := trivial
theorem tw17011464067527356591 : True := trivial
theorem tw10757674458996249135 : True := trivial
theorem tw14816508402369128623 : True := trivial
theorem tw5715463442932849746 : True := trivial
theorem tw12939725458362022515 : True := trivial
theorem tw15761122942811381790 : True := trivial
theorem tw7064907061708962092 : True := trivial
theorem tw9162279571192660190 : True := trivial
theorem tw13029918677323022212 : True := trivial
theorem tw8940104850170471156 : True := trivial
theorem tw6882383773403074840 : True := trivial
theorem tw16625721352535669053 : True := trivial
theorem tw7920485468969417896 : True := trivial
theorem tw10999684056523351253 : True := trivial
theorem tw15424476458347231572 : True := trivial
theorem tw7839774414446449520 : True := trivial
theorem tw16533528965789612761 : True := trivial
theorem tw4294535611974140983 : True := trivial
theorem tw3593442798480573068 : True := trivial
theorem tw1360021817164404744 : True := trivial
theorem tw8521961775296298774 : True := trivial
theorem tw13745652080959234895 : True := trivial
theorem tw11018148857884090662 : True := trivial
theorem tw2326283512138166695 : True := trivial
theorem tw7174755069923221186 : True := trivial
theorem tw4701459319207996818 : True := trivial
theorem tw10832054396850321632 : True := trivial
theorem tw11203927589585233768 : True := trivial
theorem tw1403370881896178213 : True := trivial
theorem tw8131156240649840522 : True := trivial
theorem tw4788559300240764063 : True := trivial
theorem tw6919848585671214427 : True := trivial
theorem tw3478870108089069267 : True := trivial
theorem tw16218489103679044552 : True := trivial
theorem tw14191808950635099321 : True := trivial
theorem tw15041603196341378010 : True := trivial
theorem tw7807714513663646061 : True := trivial
theorem tw9376243576738562056 : True := trivial
theorem tw8397736566151583259 : True := trivial
theorem tw16274193893101124318 : True := trivial
theorem tw18427387483062774949 : True := trivial
theorem tw6461385347996946938 : True := trivial
theorem tw18018185863180129109 : True := trivial
theorem tw8529002643892639748 : True := trivial
theorem tw2032623692983625889 : True := trivial
theorem tw15200235051176627289 : True := trivial
theorem tw5706629227850087403 : True := trivial
theorem tw3409586071408812115 : True := trivial
theorem tw4678579165212937231 : True := trivial
theorem tw1350197245619158343 : True := trivial
theorem tw8120918109872952508 : True := trivial
theorem tw13793542542648940447 : True := trivial
theorem tw5424619981924752918 : True := trivial
theorem tw6075258943405719463 : True := trivial
theorem tw17761836139391478412 : True := trivial
theorem tw7620294283842236938 : True := trivial
theorem tw6148320949175043159 : True := trivial
theorem tw18097504005073433802 : True := trivial
theorem tw2652696121522136633 : True := trivial
theorem tw15344101208430386108 : True := trivial
theorem tw16014647948585162245 : True := trivial
theorem tw879937958147201901 : True := trivial
theorem tw4839948568168975144 : True := trivial
theorem tw7044840148785326496 : True := trivial
theorem tw6034110385586365075 : True := trivial
theorem tw11746657824254944947 : True := trivial
theorem tw448897379668144440 : True := trivial
theorem tw6926984110329797089 : True := trivial
theorem tw12647327643909326591 : True := trivial
theorem tw5010530218692702211 : True := trivial
theorem tw15910099168624801577 : True := trivial
theorem tw16202095241122478537 : True := trivial
theorem tw12761406443109846161 : True := trivial
theorem tw5926156647278581293 : True := trivial
theorem tw1653007731541328972 : True := trivial
theorem tw9055467009370396659 : True := trivial
theorem tw11263028890531831851 : True := trivial
theorem tw8858775254768623258 : True := trivial
theorem tw4059879917524718777 : True := trivial
theorem tw8834038342250898586 : True := trivial
theorem tw18178831416537369816 : True := trivial
theorem tw11483527873001937881 : True := trivial
theorem tw11336281526438398936 : True := trivial
theorem tw5066137962397594478 : True := trivial
theorem tw14558309145129592242 : True := trivial
theorem tw4432010286409927517 : True := trivial
theorem tw11616303076344535613 : True := trivial
theorem tw6729573994255844915 : True := trivial
theorem tw12986436558279929431 : True := trivial
theorem tw10995460839036882834 : True := trivial
theorem tw15590937673291451570 : True := trivial
theorem tw1880169102767837092 : True := trivial
theorem tw15349464346913452642 : True := trivial
theorem tw3543386993191538834 : True := trivial
theorem tw1431075428401492061 : True := trivial
theorem tw12582591913014997987 : True := trivial
theorem tw11407507468500338186 : True := trivial
theorem tw1801980783175025084 : True := trivial
theorem tw6993207629623741496 : True := trivial
theorem tw10770163792464959703 : True := trivial
theorem tw4760667654158239246 : True := trivial
theorem tw11088771908084611228 : True := trivial
theorem tw15751867587981309638 : True := trivial
theorem tw14192035659711450845 : True := trivial
theorem tw11054288999376741106 : True := trivial
theorem tw4745200101813727983 : True := trivial
theorem tw1209000043782249742 : True := trivial
theorem tw18250123820719886504 : True := trivial
theorem tw11638748756735075920 : True := trivial
theorem tw6676821360354118951 : True := trivial
theorem tw3154448646001899842 : True := trivial
theorem tw5857139150278204189 : True := trivial
theorem tw1090951477367541417 : True := trivial
theorem tw9311368143980276130 : True := trivial
theorem tw6223381802423874537 : True := trivial
theorem tw6491721014806153244 : True := trivial
theorem tw17867730209318895381 : True := trivial
theorem tw17392709751546306939 : True := trivial
theorem tw6785274807979640722 : True := trivial
theorem tw11892677892810107395 : True := trivial
theorem tw1051194203296758516 : True := trivial
theorem tw6632568665146438625 : True := trivial
theorem tw14764623404146727891 : True := trivial
theorem tw7972828229152212908 : True := trivial
theorem tw10240986524650617916 : True := trivial
theorem tw17775195264990992723 : True := trivial
theorem tw14217126197555047373 : True := trivial
theorem tw3301593825865223531 : True := trivial
theorem tw9468868556240953376 : True := trivial
theorem tw5084048720913424248 : True := trivial
theorem tw6667425285159191367 : True := trivial
theorem tw8837093142498873061 : True := trivial
theorem tw14032630439323024447 : True := trivial
theorem tw14940542989060737833 : True := trivial
theorem tw6387302755531683813 : True := trivial
theorem tw14868738564137188791 : True := trivial
theorem tw3692021090806699198 : True := trivial
theorem tw3591322312773530299 : True := trivial
theorem tw12808834194753966848 : True := trivial
theorem tw8520141386720831713 : True := trivial
theorem tw14238672654373558007 : True := trivial
theorem tw644108749679453033 : True := trivial
theorem tw4257683951002263422 : True := trivial
theorem tw5026216462931014874 : True := trivial
theorem tw3249755592834846090 : True := trivial
theorem tw14021761004221318733 : True := trivial
theorem tw13029468399542878137 : True := trivial
theorem tw16943430643061707568 : True := trivial
theorem tw4184156275240456302 : True := trivial
theorem tw8191095670352708075 : True := trivial
theorem tw5157049330047647788 : True := trivial
theorem tw984836791236597808 : True := trivial
theorem tw2098996377791337737 : True := trivial
theorem tw8940842162063546877 : True := trivial
theorem tw14938007658784587417 : True := trivial
theorem tw6118323410414225355 : True := trivial
theorem tw13068523859648477294 : True := trivial
theorem tw10287990678592222658 : True := trivial
theorem tw5739215224894603863 : True := trivial
theorem tw6118747275986594284 : True := trivial
theorem tw6696036797270982310 : True := trivial
theorem tw7148475066925546974 : True := trivial
theorem tw2323519027545984518 : True := trivial
theorem tw9035012627476824984 : True := trivial
theorem tw4855602386127508383 : True := trivial
theorem tw9372207105009611227 : True := trivial
theorem tw13794495230280741546 : True := trivial
theorem tw13865257949865606114 : True := trivial
theorem tw8603509926485400409 : True := trivial
theorem tw14062420212949723584 : True := trivial
theorem tw10984590713668169868 : True := trivial
theorem tw8677981482587898352 : True := trivial
theorem tw1401475642120527579 : True := trivial
theorem tw12716747254899059391 : True := trivial
theorem tw4187939221442513302 : True := trivial
theorem tw8383419447895124341 : True := trivial
theorem tw16987844673655973108 : True := trivial
theorem tw8549044597292082987 : True := trivial
theorem tw10071007505493983036 : True := trivial
theorem tw13167759103972543977 : True := trivial
theorem tw17612999598726839001 : True := trivial
theorem tw11137811006031068233 : True := trivial
theorem tw9985289275823600478 : True := trivial
theorem tw13666048502804529583 : True := trivial
theorem tw15443675868105881036 : True := trivial
theorem tw1615683938647403854 : True := trivial
theorem tw17331876621609541423 : True := trivial
theorem tw7385152862980621440 : True := trivial
theorem tw16369001906587934637 : True := trivial
theorem tw10500186015092263102 : True := trivial
theorem tw8108387768026564468 : True := trivial
theorem tw4104850762017136684 : True := trivial
theorem tw1864752104962030116 : True := trivial
theorem tw14255454905801728622 : True := trivial
theorem tw3542456748350135615 : True := trivial
theorem tw9659942426526099733 : True := trivial
theorem tw1375006276396758715 : True := trivial
theorem tw18030203133786895745 : True := trivial
theorem tw14335136197089755692 : True := trivial
theorem tw12333023805580007025 : True := trivial
theorem tw7696625647242452396 : True := trivial
theorem tw1052186094944030240 : True := trivial
theorem tw7236875351380417498 : True := trivial
theorem tw18106391652581988829 : True := trivial
theorem tw14865841661597110086 : True := trivial
theorem tw6304954021835154209 : True := trivial
theorem tw17295655897263315962 : True := trivial
theorem tw6950648648351280749 : True := trivial
theorem tw6709823835764621292 : True := trivial
theorem tw18385246711478926967 : True := trivial
theorem tw2464602343773662174 : True := trivial
theorem tw18203628896215274642 : True := trivial
theorem tw6812261079031206751 : True := trivial
theorem tw9831012325059830604 : True := trivial
theorem tw12720934517957483333 : True := trivial
theorem tw1377881212159252158 : True := trivial
theorem tw5719692422419463821 : True := trivial
theorem tw10290015780286540301 : True := trivial
theorem tw18049345203008234666 : True := trivial
theorem tw9546188849071964982 : True := trivial
theorem tw15345452141104280803 : True := trivial
theorem tw10831340433177956105 : True := trivial
theorem tw9713443521891031991 : True := trivial
theorem tw10889296065829587222 : True := trivial
theorem tw16043254597773056658 : True := trivial
theorem tw4399980348695796330 : True := trivial
theorem tw15448956753861721514 : True := trivial
theorem tw2775305659372396799 : True := trivial
theorem tw5445932578395179266 : True := trivial
theorem tw14715377037739240660 : True := trivial
theorem tw11194997342846978525 : True := trivial
theorem tw11851799057568799756 : True := trivial
theorem tw14490726135737698024 : True := trivial
theorem tw15491525810314698146 : True := trivial
theorem tw395361059312919243 : True := trivial
theorem tw7744800320857911715 : True := trivial
theorem tw4016489495079272929 : True := trivial
theorem tw4732575130418661885 : True := trivial
theorem tw16648359038711999310 : True := trivial
theorem tw1851945421667068282 : True := trivial
theorem tw9855211888598979579 : True := trivial
theorem tw7220942518929776399 : True := trivial
theorem tw1841261865362701792 : True := trivial
theorem tw16004284937616014361 : True := trivial
theorem tw2994454541689671640 : True := trivial
theorem tw11222700994823418170 : True := trivial
theorem tw10566435062680568303 : True := trivial
theorem tw4764355766935827126 : True := trivial
theorem tw5307589036906313708 : True := trivial
theorem tw8579470124898958227 : True := trivial
theorem tw14807917919587298103 : True := trivial
theorem tw2578864782429177048 : True := trivial
theorem tw4418223425635834629 : True := trivial
theorem tw9865594522279754511 : True := trivial
theorem tw8798001905896667602 : True := trivial
theorem tw7593090392516744761 : True := trivial
theorem tw6131835340950996639 : True := trivial
theorem tw5911672879869772474 : True := trivial
theorem tw9420214289291903376 : True := trivial
theorem tw13580842711686826102 : True := trivial
theorem tw16912713085528492057 : True := trivial
theorem tw13852280521916181714 : True := trivial
theorem tw2308871036702696379 : True := trivial
theorem tw443422200971700994 : True := trivial
theorem tw14677996069544728927 : True := trivial
theorem tw15017321102078278216 : True := trivial
theorem tw8337947179801293978 : True := trivial
theorem tw15271992777220693035 : True := trivial
theorem tw9725310342391467389 : True := trivial
theorem tw16520133807589746247 : True := trivial
theorem tw8924648617893256419 : True := trivial
theorem tw5826939679814015245 : True := trivial
theorem tw5826093973994113623 : True := trivial
theorem tw7726819018091690196 : True := trivial
theorem tw742552490785771254 : True := trivial
theorem tw3205095241889182925 : True := trivial
theorem tw18340911036244551723 : True := trivial
theorem tw18430526353621601831 : True := trivial
theorem tw17740976305810893108 : True := trivial
theorem tw582429129831363991 : True := trivial
theorem tw18045265360200118815 : True := trivial
theorem tw7489421063220001736 : True := trivial
theorem tw10335487609154134125 : True := trivial
theorem tw9070289694051337553 : True := trivial
theorem tw7281071087475965158 : True := trivial
theorem tw17866250401898621244 : True := trivial
theorem tw12789440031125363816 : True := trivial
theorem tw18027612253545075278 : True := trivial
theorem tw1577125629170813911 : True := trivial
theorem tw2253231512746604438 : True := trivial
theorem tw4290301400725902184 : True := trivial
theorem tw13575387133955902042 : True := trivial
theorem tw17977918458292966331 : True := trivial
theorem tw1336666147601385676 : True := trivial
theorem tw14533348443895666431 : True := trivial
theorem tw5291164432108965104 : True := trivial
theorem tw11428076735229650760 : True := trivial
theorem tw924653304994607074 : True := trivial
theorem tw16370096211902643190 : True := trivial
theorem tw145682876498834491 : True := trivial
theorem tw16727242788092725752 : True := trivial
theorem tw6128305026835259111 : True := trivial
theorem tw10076960676210619168 : True := trivial
theorem tw12520499051288711408 : True := trivial
theorem tw9600325367829625161 : True := trivial
theorem tw12722475464493746863 : True := trivial
theorem tw5026553137044810841 : True := trivial
theorem tw193899120857904808 : True := trivial
theorem tw15977714167199806199 : True := trivial
theorem tw13717514097812074038 : True := trivial
theorem tw16039542387331849549 : True := trivial
theorem tw15051235734108666805 : True := trivial
theorem tw12560630817348100342 : True := trivial
theorem tw17290463935249841373 : True := trivial
theorem tw9155089646227143025 : True := trivial
theorem tw18248108562687924343 : True := trivial
theorem tw6116324558492918775 : True := trivial
theorem tw15461652809033349503 : True := trivial
theorem tw5095085531338085393 : True := trivial
theorem tw1785977191925906619 : True := trivial
theorem tw6655779479553613653 : True := trivial
theorem tw9092013892517891451 : True := trivial
theorem tw11159522191017687792 : True := trivial
theorem tw9115121011882213041 : True := trivial
theorem tw17420778883624116867 : True := trivial
theorem tw13452633403732513002 : True := trivial
theorem tw1308347951149068144 : True := trivial
theorem tw17871733755077071196 : True := trivial
theorem tw11963542220723476937 : True := trivial
theorem tw10062487448124131656 : True := trivial
theorem tw6068087956933854570 : True := trivial
theorem tw7232051496073442799 : True := trivial
theorem tw7382958377652431917 : True := trivial
theorem tw2216910993629576396 : True := trivial
theorem tw4270876494205448103 : True := trivial
theorem tw11775258629411428732 : True := trivial
theorem tw9764901991775623176 : True := trivial
theorem tw9297770904787493447 : True := trivial
theorem tw18274051218320828477 : True := trivial
theorem tw8189996044764705952 : True := trivial
theorem tw3467425879178024796 : True := trivial
theorem tw16198432280999361864 : True := trivial
theorem tw10293168954094550811 : True := trivial
theorem tw15564583728647936079 : True := trivial
theorem tw13205314298050689758 : True := trivial
theorem tw4872125716987122672 : True := trivial
theorem tw14590960563140590410 : True := trivial
theorem tw930411075391366902 : True := trivial
theorem tw1514298214766509511 : True := trivial
theorem tw8772762797872868046 : True := trivial
theorem tw4274917719515901078 : True := trivial
theorem tw5643270510676713925 : True := trivial
theorem tw11828262738266319188 : True := trivial
theorem tw13802150508632050807 : True := trivial
theorem tw241251718622152939 : True := trivial
theorem tw11504110688895596560 : True := trivial
theorem tw7578724738280817171 : True := trivial
theorem tw14204681022203148285 : True := trivial
theorem tw3565155466155191262 : True := trivial
theorem tw9620702642868447983 : True := trivial
theorem tw3516238919864447944 : True := trivial
theorem tw3801594882466506514 : True := trivial
theorem tw17674174251419029588 : True := trivial
theorem tw283663413184757018 : True := trivial
theorem tw289299940081680917 : True := trivial
theorem tw11939834582892203949 : True := trivial
theorem tw3619661909844090278 : True := trivial
theorem tw14819886642811176761 : True := trivial
theorem tw3021733076802373636 : True := trivial
theorem tw10206390613636500417 : True := trivial
theorem tw8128551062824491491 : True := trivial
theorem tw2033303648545803986 : True := trivial
theorem tw1113568398697341620 : True := trivial
theorem tw1839085247015915231 : True := trivial
theorem tw2578415790068117554 : True := trivial
theorem tw4590078366971402599 : True := trivial
theorem tw558211322152493070 : True := trivial
theorem tw5364907807592086791 : True := trivial
theorem tw13187274740275399640 : True := trivial
theorem tw909600378960211461 : True := trivial
theorem tw5484229479246209298 : True := trivial
theorem tw11153033862094565239 : True := trivial
theorem tw14130227111758582880 : True := trivial
theorem tw18364001704082818929 : True := trivial
theorem tw5214790455723654793 : True := trivial
theorem tw16833129536661089663 : True := trivial
theorem tw16961442214927708944 : True := trivial
theorem tw10076681861047435008 : True := trivial
theorem tw11997695502395648278 : True := trivial
theorem tw10935179153623903595 : True := trivial
theorem tw9791193634338521899 : True := trivial
theorem tw5015111372364758212 : True := trivial
theorem tw8879422584741162425 : True := trivial
theorem tw4801128619702447745 : True := trivial
theorem tw3745146609933244832 : True := trivial
theorem tw3844896276817523235 : True := trivial
theorem tw15730811699523382910 : True := trivial
theorem tw16609236456862153361 : True := trivial
theorem tw6679960297738080352 : True := trivial
theorem tw8245841374744881787 : True := trivial
theorem tw8604053239061664024 : True := trivial
theorem tw6511693048983287745 : True := trivial
theorem tw6663379162346824995 : True := trivial
theorem tw9725695581893003163 : True := trivial
theorem tw11090261615351453280 : True := trivial
theorem tw15636396244478276642 : True := trivial
theorem tw2278293038103370813 : True := trivial
theorem tw1209675959104906732 : True := trivial
theorem tw6075013978875592687 : True := trivial
theorem tw14547882232828497965 : True := trivial
theorem tw6911827706785933809 : True := trivial
theorem tw4004500595685155792 : True := trivial
theorem tw17214819509181056657 : True := trivial
theorem tw12786048590681340774 : True := trivial
theorem tw4591366432567360567 : True := trivial
theorem tw760431329374296340 : True := trivial
theorem tw11008752029216490260 : True := trivial
theorem tw15860008600496375925 : True := trivial
theorem tw10395909033636602958 : True := trivial
theorem tw14629397488328905484 : True := trivial
theorem tw5968313914691871555 : True := trivial
theorem tw10172276715951978144 : True := trivial
theorem tw727713866923761967 : True := trivial
theorem tw838180358875447558 : True := trivial
theorem tw6012880693522079641 : True := trivial
theorem tw13611152493852467138 : True := trivial
theorem tw9098552091579804810 : True := trivial
theorem tw4548692501651694667 : True := trivial
theorem tw950055269339994921 : True := trivial
theorem tw16735587833696315442 : True := trivial
theorem tw12475097192521185522 : True := trivial
theorem tw9154487051964706000 : True := trivial
theorem tw2800893577714513371 : True := trivial
theorem tw8923456027946237333 : True := trivial
theorem tw653989364003816266 : True := trivial
theorem tw7801408345001687907 : True := trivial
theorem tw4013205589574077201 : True := trivial
theorem tw11177438068757689287 : True := trivial
theorem tw7890281468254898403 : True := trivial
theorem tw13059644759132103184 : True := trivial
theorem tw17640354284306784678 : True := trivial
theorem tw7587134302904447088 : True := trivial
theorem tw8379329262242187571 : True := trivial
theorem tw1510149083160243669 : True := trivial
theorem tw9686775506269808360 : True := trivial
theorem tw530720870804119375 : True := trivial
theorem tw17090172806945494609 : True := trivial
theorem tw18404600620218745260 : True := trivial
theorem tw6177846690145376699 : True := trivial
theorem tw275865975064947930 : True := trivial
theorem tw15656199482619012398 : True := trivial
theorem tw13680593800653506748 : True := trivial
theorem tw12272055982996144508 : True := trivial
theorem tw1982949317480551743 : True := trivial
theorem tw18104000464910581029 : True := trivial
theorem tw13145275749659272304 : True := trivial
theorem tw13159734412252027693 : True := trivial
theorem tw3596492757370394200 : True := trivial
theorem tw9355992553562183064 : True := trivial
theorem tw2809741720324938563 : True := trivial
theorem tw17873225753781423803 : True := trivial
theorem tw12375688695212855882 : True := trivial
theorem tw18024479452014449423 : True := trivial
theorem tw17491971378200006183 : True := trivial
theorem tw8994779014475387131 : True := trivial
theorem tw15669238763243991809 : True := trivial
theorem tw9354144889547939748 : True := trivial
theorem tw16481670264281129147 : True := trivial
theorem tw11145049067827012897 : True := trivial
theorem tw15257151526384687367 : True := trivial
theorem tw16046591327204262557 : True := trivial
theorem tw399281752024417257 : True := trivial
theorem tw8927253932741444880 : True := trivial
theorem tw10713267123385654458 : True := trivial
theorem tw1871380926457065209 : True := trivial
theorem tw4323418126994490902 : True := trivial
theorem tw6368207604573238119 : True := trivial
theorem tw13477296388880579951 : True := trivial
theorem tw5737044145003630379 : True := trivial
theorem tw15173289310362437414 : True := trivial
theorem tw11361508967349611945 : True := trivial
theorem tw12588551080976900193 : True := trivial
theorem tw13098469856614655177 : True := trivial
theorem tw2155727293177176970 : True := trivial
theorem tw2301115399850100178 : True := trivial
theorem tw2249429033091170016 : True := trivial
theorem tw4537144257675805999 : True := trivial
theorem tw2291480279761947881 : True := trivial
theorem tw9214271785670727749 : True := trivial
theorem tw366325227321208555 : True := trivial
theorem tw14305737709918550771 : True := trivial
theorem tw13795048682682628316 : True := trivial
theorem tw2588103096958659249 : True := trivial
theorem tw1056494630393360970 : True := trivial
theorem tw2423203416860742856 : True := trivial
theorem tw7558770436687300533 : True := trivial
theorem tw2125360062894103290 : True := trivial
theorem tw416423983907133971 : True := trivial
theorem tw1080477131923084610 : True := trivial
theorem tw17566962590097841436 : True := trivial
theorem tw3412141431847558689 : True := trivial
theorem tw2285309039110819277 : True := trivial
theorem tw11576874915645112600 : True := trivial
theorem tw10045620797251386249 : True := trivial
theorem tw12665789345197473462 : True := trivial
theorem tw98882210147731247 : True := trivial
theorem tw14615966188631529742 : True := trivial
theorem tw5624140634373596708 : True := trivial
theorem tw6346174655735041335 : True := trivial
theorem tw12626555763102572264 : True := trivial
theorem tw9068318397798623200 : True := trivial
theorem tw15825941793766544714 : True := trivial
theorem tw5719720344493906519 : True := trivial
theorem tw1154876579069956938 : True := trivial
theorem tw2215200107617234866 : True := trivial
theorem tw11125519939890392101 : True := trivial
theorem tw1346803862652442264 : True := trivial
theorem tw6582546397996426531 : True := trivial
theorem tw61517470998166427 : True := trivial
theorem tw7644015139970625542 : True := trivial
theorem tw3042334558220856620 : True := trivial
theorem tw14522555981095810353 : True := trivial
theorem tw8266453729838539196 : True := trivial
theorem tw5374640393573964490 : True := trivial
theorem tw7777065398227536465 : True := trivial
theorem tw2372297177060764056 : True := trivial
theorem tw7403009266766748815 : True := trivial
theorem tw15704443858218649939 : True := trivial
theorem tw16349028545960505462 : True := trivial
theorem tw10831049620005296195 : True := trivial
theorem tw4559910835117496833 : True := trivial
theorem tw14187664559596335133 : True := trivial
theorem tw11673875056580783399 : True := trivial
theorem tw17821343946270383022 : True := trivial
theorem tw1326913832068377711 : True := trivial
theorem tw14478041472395876320 : True := trivial
theorem tw12470756956982481103 : True := trivial
theorem tw11617016753108632025 : True := trivial
theorem tw3392697655479256074 : True := trivial
theorem tw6681299525214807220 : True := trivial
theorem tw1743978847089342805 : True := trivial
theorem tw17109459356940170646 : True := trivial
theorem tw12818850149132005309 : True := trivial
theorem tw15463898580794742450 : True := trivial
theorem tw8784037802357389014 : True := trivial
theorem tw4074848065704145032 : True := trivial
theorem tw18420230091771178750 : True := trivial
theorem tw9279701380188037253 : True := trivial
theorem tw11996665056295576180 : True := trivial
theorem tw13071737435427542154 : True := trivial
theorem tw3540530628281369337 : True := trivial
theorem tw5275687220691014832 : True := trivial
theorem tw17524227884189794425 : True := trivial
theorem tw10342675112533138362 : True := trivial
theorem tw12844845361513148839 : True := trivial
theorem tw2534789475196652986 : True := trivial
theorem tw18060504662284210541 : True := trivial
theorem tw4244250456164551318 : True := trivial
theorem tw2895529610536409413 : True := trivial
theorem tw1163064675421097130 : True := trivial
theorem tw17558367935705518328 : True := trivial
theorem tw7453814172061109740 : True := trivial
theorem tw14451142377615414715 : True := trivial
theorem tw1857872887729765286 : True := trivial
theorem tw809873277537847625 : True := trivial
theorem tw701514972044214557 : True := trivial
theorem tw7865733766042786265 : True := trivial
theorem tw17631085051818836411 : True := trivial
theorem tw3187432900369243790 : True := trivial
theorem tw10631288171112645051 : True := trivial
theorem tw223695221154727064 : True := trivial
theorem tw10924914697924254415 : True := trivial
theorem tw8388308757710133194 : True := trivial
theorem tw12741339919822126909 : True := trivial
theorem tw3596781989241229753 : True := trivial
theorem tw8148689800236267725 : True := trivial
theorem tw590914428366402596 : True := trivial
theorem tw15729351192980718842 : True := trivial
theorem tw4531348088272349463 : True := trivial
theorem tw16547124194365293959 : True := trivial
theorem tw7640332952565369381 : True := trivial
theorem tw9361319157623340886 : True := trivial
theorem tw6847679564957816820 : True := trivial
theorem tw17405006141139253700 : True := trivial
theorem tw7906738312412495610 : True := trivial
theorem tw8106357461544052263 : True := trivial
theorem tw12668005640132296695 : True := trivial
theorem tw15045449829627728199 : True := trivial
theorem tw17227559763426135604 : True := trivial
theorem tw145160373270132415 : True := trivial
theorem tw9481293705821135827 : True := trivial
theorem tw8302296501386835824 : True := trivial
theorem tw6535715612556096738 : True := trivial
theorem tw15566592829634677604 : True := trivial
theorem tw177975725591105097 : True := trivial
theorem tw4747257691952119066 : True := trivial
theorem tw11590394441475187375 : True := trivial
theorem tw9526284412462443698 : True := trivial
theorem tw10850796852191156240 : True := trivial
theorem tw10948217153309215975 : True := trivial
theorem tw7894360665378823063 : True := trivial
theorem tw14863225883631987914 : True := trivial
theorem tw11329020283225431585 : True := trivial
theorem tw1183779470668318052 : True := trivial
theorem tw7904591892558902402 : True := trivial
theorem tw6778104610230074774 : True := trivial
theorem tw7877629564932993119 : True := trivial
theorem tw10579566229179260191 : True := trivial
theorem tw3161850652788951602 : True := trivial
theorem tw884906636919235700 : True := trivial
theorem tw509168114588130477 : True := trivial
theorem tw2547276210050122861 : True := trivial
theorem tw15288554953892692631 : True := trivial
theorem tw10117235961051936384 : True := trivial
theorem tw10486929718690108729 : True := trivial
theorem tw1277393470388813555 : True := trivial
theorem tw6271343409879306121 : True := trivial
theorem tw12488123186627856112 : True := trivial
theorem tw4183023477813305141 : True := trivial
theorem tw10522880624857201890 : True := trivial
theorem tw833643474416091292 : True := trivial
theorem tw9534341946819458997 : True := trivial
theorem tw15258151363587588430 : True := trivial
theorem tw9256360021993440952 : True := trivial
theorem tw15949509481696868984 : True := trivial
theorem tw1533934865219762636 : True := trivial
theorem tw5765627778753423031 : True := trivial
theorem tw1358165145154668831 : True := trivial
theorem tw13747131203577314176 : True := trivial
theorem tw11987003199172282808 : True := trivial
theorem tw14841500443369003729 : True := trivial
theorem tw12695041048599578665 : True := trivial
theorem tw2775826780507065291 : True := trivial
theorem tw4002995496842626309 : True := trivial
theorem tw799190993365792545 : True := trivial
theorem tw1749011797976217469 : True := trivial
theorem tw8660949954687982269 : True := trivial
theorem tw17137954927529699953 : True := trivial
theorem tw2801799835087584816 : True := trivial
theorem tw4346225683338814302 : True := trivial
theorem tw3285957547841972759 : True := trivial
theorem tw11302217473439736276 : True := trivial
theorem tw17469991552029175135 : True := trivial
theorem tw15473751589574910085 : True := trivial
theorem tw4941491510390948508 : True := trivial
theorem tw4541925600803156344 : True := trivial
theorem tw14929736849123914283 : True := trivial
theorem tw7034455000486600691 : True := trivial
theorem tw16070140941161224827 : True := trivial
theorem tw5169283193850017973 : True := trivial
theorem tw3864462139827968336 : True := trivial
theorem tw9740772867613382907 : True := trivial
theorem tw11503884410917446405 : True := trivial
theorem tw987603118167028897 : True := trivial
theorem tw16951141046248803737 : True := trivial
theorem tw6006761789915223229 : True := trivial
theorem tw11701333263731015572 : True := trivial
theorem tw9023644603942564367 : True := trivial
theorem tw16357873870588855389 : True := trivial
theorem tw15802772048023460857 : True := trivial
theorem tw13590713290684405484 : True := trivial
theorem tw1043634904816292685 : True := trivial
theorem tw3549341432249709675 : True := trivial
theorem tw12760852984212702310 : True := trivial
theorem tw4697701729163730357 : True := trivial
theorem tw1449725635750727547 : True := trivial
theorem tw17521096624756424262 : True := trivial
theorem tw10973507089369342369 : True := trivial
theorem tw1842394245477945334 : True := trivial
theorem tw5396898666726782721 : True := trivial
theorem tw15074071905226135186 : True := trivial
theorem tw4804121549984577701 : True := trivial
theorem tw16334341425244909536 : True := trivial
theorem tw299739665306883913 : True := trivial
theorem tw11192552736723903794 : True := trivial
theorem tw11323663662767124717 : True := trivial
theorem tw896089906231713724 : True := trivial
theorem tw11184389602753067818 : True := trivial
theorem tw3704617642487064924 : True := trivial
theorem tw18327493173806987491 : True := trivial
theorem tw5006083146755408927 : True := trivial
theorem tw9936041009202595416 : True := trivial
theorem tw15689433071399245976 : True := trivial
theorem tw863940627228547463 : True := trivial
theorem tw12493779288156418342 : True := trivial
theorem tw612811004420803400 : True := trivial
theorem tw11205478004912772513 : True := trivial
theorem tw1174931099224302858 : True := trivial
theorem tw15487219768820785791 : True := trivial
theorem tw10584642431407153428 : True := trivial
theorem tw10950545601918053345 : True := trivial
theorem tw9334180557131922291 : True := trivial
theorem tw2259562231565725723 : True := trivial
theorem tw70314561699251032 : True := trivial
theorem tw16792344319897563334 : True := trivial
theorem tw5271591536487958359 : True := trivial
theorem tw6416978756766434381 : True := trivial
theorem tw15637079094568350496 : True := trivial
theorem tw6076808486169445474 : True := trivial
theorem tw15471421257206790673 : True := trivial
theorem tw10701829516183553573 : True := trivial
theorem tw1401291957781534544 : True := trivial
theorem tw9036321193190722453 : True := trivial
theorem tw12843068341691218748 : True := trivial
theorem tw2268090849564774998 : True := trivial
theorem tw3103573862042125023 : True := trivial
theorem tw17415232786902409827 : True := trivial
theorem tw17133107651727402361 : True := trivial
theorem tw6230177323092373341 : True := trivial
theorem tw788007529303858805 : True := trivial
theorem tw9847053220601130502 : True := trivial
theorem tw2833119670456517527 : True := trivial
theorem tw7602810540153584758 : True := trivial
theorem tw15359004238715155111 : True := trivial
theorem tw17567294532209741545 : True := trivial
theorem tw16307828733702170959 : True := trivial
theorem tw9613159204101446072 : True := trivial
theorem tw13884741634402441785 : True := trivial
theorem tw701374626551906691 : True := trivial
theorem tw11699074641083279813 : True := trivial
theorem tw13202382600902509072 : True := trivial
theorem tw336814196412391730 : True := trivial
theorem tw15204774552973886053 : True := trivial
theorem tw18334261566062911770 : True := trivial
theorem tw13687416323435144828 : True := trivial
theorem tw15297142258532293176 : True := trivial
theorem tw1206586680203628863 : True := trivial
theorem tw3343524933934117335 : True := trivial
theorem tw2127300932259533536 : True := trivial
theorem tw14129020401335167547 : True := trivial
theorem tw17315312332184802079 : True := trivial
theorem tw2085994862240752458 : True := trivial
theorem tw6653304029400134712 : True := trivial
theorem tw18255873883583684196 : True := trivial
theorem tw3383101434331592888 : True := trivial
theorem tw6555589856114302052 : True := trivial
theorem tw340224975301460736 : True := trivial
theorem tw5880126403572675399 : True := trivial
theorem tw14276453504657745795 : True := trivial
theorem tw9785829423004868971 : True := trivial
theorem tw2702592209509979088 : True := trivial
theorem tw15613516284411330048 : True := trivial
theorem tw14731808580470405504 : True := trivial
theorem tw443385289204353911 : True := trivial
theorem tw14465726220039131650 : True := trivial
theorem tw6942544344751842771 : True := trivial
theorem tw2595806010684669978 : True := trivial
theorem tw1561799781776589615 : True := trivial
theorem tw2201318032148095533 : True := trivial
theorem tw17074298422140478595 : True := trivial
theorem tw871541586704659155 : True := trivial
theorem tw296917085149058116 : True := trivial
theorem tw8715205864863340963 : True := trivial
theorem tw5134006977179885808 : True := trivial
theorem tw15032530392983093739 : True := trivial
theorem tw13485677630747501622 : True := trivial
theorem tw2313161406248754142 : True := trivial
theorem tw17793795184624266993 : True := trivial
theorem tw5570731900544434343 : True := trivial
theorem tw1375074212372456415 : True := trivial
theorem tw7938145401539968035 : True := trivial
theorem tw3063028606410871808 : True := trivial
theorem tw1449934643232199561 : True := trivial
theorem tw667656566537893791 : True := trivial
theorem tw11110059312707174797 : True := trivial
theorem tw777125982405907598 : True := trivial
theorem tw15461675626173068572 : True := trivial
theorem tw245257048826122478 : True := trivial
theorem tw11867838405468253774 : True := trivial
theorem tw14659941155085522375 : True := trivial
theorem tw9115960017792900173 : True := trivial
theorem tw12299552073481899698 : True := trivial
theorem tw16860364139843433508 : True := trivial
theorem tw1788648208612719422 : True := trivial
theorem tw7910966673172062351 : True := trivial
theorem tw17336922836845271361 : True := trivial
theorem tw16457231391883813016 : True := trivial
theorem tw8487365095587293882 : True := trivial
theorem tw12607479752009175092 : True := trivial
theorem tw1753316538854122090 : True := trivial
theorem tw475622766555429059 : True := trivial
theorem tw14577221591823590862 : True := trivial
theorem tw13313379468534364706 : True := trivial
theorem tw15401774969519553110 : True := trivial
theorem tw10182371338829706741 : True := trivial
theorem tw17323717474685631741 : True := trivial
theorem tw5053105806708436735 : True := trivial
theorem tw7950996678520622663 : True := trivial
theorem tw17148982049210415758 : True := trivial
theorem tw11278884391352377674 : True := trivial
theorem tw3714624953597072253 : True := trivial
theorem tw3395561506153503824 : True := trivial
theorem tw7086242296184980236 : True := trivial
theorem tw6675434539486725892 : True := trivial
theorem tw13356507128258339822 : True := trivial
theorem tw16196613586563442470 : True := trivial
theorem tw3262310420145844719 : True := trivial
theorem tw11597255552465852045 : True := trivial
theorem tw9259273085117403009 : True := trivial
theorem tw7892401555303212454 : True := trivial
theorem tw2540224959642175265 : True := trivial
theorem tw4282542293134601339 : True := trivial
theorem tw16567070909495420353 : True := trivial
theorem tw189908463006140249 : True := trivial
theorem tw12807408895248606319 : True := trivial
theorem tw4630491863111347387 : True := trivial
theorem tw15457400038915291698 : True := trivial
theorem tw9199006696127161832 : True := trivial
theorem tw13078196181983971837 : True := trivial
theorem tw10256498549681977514 : True := trivial
theorem tw15651323130152755761 : True := trivial
theorem tw9512524907831746041 : True := trivial
theorem tw13154366377980863702 : True := trivial
theorem tw13256818354766621173 : True := trivial
theorem tw6055939208202867275 : True := trivial
theorem tw5204915676517094706 : True := trivial
theorem tw2790116603508209371 : True := trivial
theorem tw2792930291844886699 : True := trivial
theorem tw8152813005597426943 : True := trivial
theorem tw14007435913266726465 : True := trivial
theorem tw4414994947835161728 : True := trivial
theorem tw7544438711106082295 : True := trivial
theorem tw15025671985068898616 : True := trivial
theorem tw16017710463420877783 : True := trivial
theorem tw5507191601905330278 : True := trivial
theorem tw10586234809263917869 : True := trivial
theorem tw15779491669109908470 : True := trivial
theorem tw4349958867542879194 : True := trivial
theorem tw1551788051524793448 : True := trivial
theorem tw17893223934473762017 : True := trivial
theorem tw17223478846567442855 : True := trivial
theorem tw12794737592123421639 : True := trivial
theorem tw4640249778403413662 : True := trivial
theorem tw8881133927375984972 : True := trivial
theorem tw6250796791297165672 : True := trivial
theorem tw13972861580073039129 : True := trivial
theorem tw5716058507727390790 : True := trivial
theorem tw9157833158313585868 : True := trivial
theorem tw6313763591327315665 : True := trivial
theorem tw10648458806503346835 : True := trivial
theorem tw2999694457788507742 : True := trivial
theorem tw17915721486644646706 : True := trivial
theorem tw1275529131857588654 : True := trivial
theorem tw3355763331039175004 : True := trivial
theorem tw12864930890579818288 : True := trivial
theorem tw11147250970812835044 : True := trivial
theorem tw7961999647198924687 : True := trivial
theorem tw9334785256632112812 : True := trivial
theorem tw12897982342063924609 : True := trivial
theorem tw6864667780450055876 : True := trivial
theorem tw2912525262566226456 : True := trivial
theorem tw3427746926300836633 : True := trivial
theorem tw4102451276261581062 : True := trivial
theorem tw6503113235535279711 : True := trivial
theorem tw1114478731190690096 : True := trivial
theorem tw6667062777616096382 : True := trivial
theorem tw13829955980377525474 : True := trivial
theorem tw7917430848061344597 : True := trivial
theorem tw5271161747962669778 : True := trivial
theorem tw5159012381740320091 : True := trivial
theorem tw7800487621174251896 : True := trivial
theorem tw13115216851275715005 : True := trivial
theorem tw7190935232881947845 : True := trivial
theorem tw16134209141312116031 : True := trivial
theorem tw5842585455443747763 : True := trivial
theorem tw7166705132659404408 : True := trivial
theorem tw4309088068026708194 : True := trivial
theorem tw2105527544634681431 : True := trivial
theorem tw7700797272982189936 : True := trivial
theorem tw13607551403165577827 : True := trivial
theorem tw2756928096256366055 : True := trivial
theorem tw13222159759381001008 : True := trivial
theorem tw10114919768606562765 : True := trivial
theorem tw3958132936597927242 : True := trivial
theorem tw15265364385906986502 : True := trivial
theorem tw15581890357928795036 : True := trivial
theorem tw4781675644231036649 : True := trivial
theorem tw18363355182658794744 : True := trivial
theorem tw13297814065925465559 : True := trivial
theorem tw7108967850797732679 : True := trivial
theorem tw5732449782451958576 : True := trivial
theorem tw11755366001823844978 : True := trivial
theorem tw15146491484376704790 : True := trivial
theorem tw1668570969920787307 : True := trivial
theorem tw10446002465332601538 : True := trivial
theorem tw12679133154321676798 : True := trivial
theorem tw17573872667337656217 : True := trivial
theorem tw14084881416008711376 : True := trivial
theorem tw9430178104930656594 : True := trivial
theorem tw2057514453229029098 : True := trivial
theorem tw1741351274868919794 : True := trivial
theorem tw5934618208272506297 : True := trivial
theorem tw2485136009754414949 : True := trivial
theorem tw10752957098844625919 : True := trivial
theorem tw931208404672155757 : True := trivial
theorem tw5058471083836667371 : True := trivial
theorem tw2698538940133332214 : True := trivial
theorem tw6021345932872017786 : True := trivial
theorem tw14511249279932315909 : True := trivial
theorem tw6516373377275234770 : True := trivial
theorem tw12612009728492503875 : True := trivial
theorem tw1486504251287071138 : True := trivial
theorem tw1766443651027780676 : True := trivial
theorem tw6049136693175481002 : True := trivial
theorem tw14012767915205127610 : True := trivial
theorem tw5207923576700545809 : True := trivial
theorem tw2309229688955451295 : True := trivial
theorem tw9742425701988709793 : True := trivial
theorem tw8298849286930665016 : True := trivial
theorem tw5843608379272120238 : True := trivial
theorem tw17486419119153045863 : True := trivial
theorem tw15861780436284580523 : True := trivial
theorem tw12283048213298696150 : True := trivial
theorem tw14581982414024869072 : True := trivial
theorem tw854170565447035765 : True := trivial
theorem tw8056647787614546780 : True := trivial
theorem tw1724669106516369254 : True := trivial
theorem tw10111387825196388465 : True := trivial
theorem tw12183491584316164676 : True := trivial
theorem tw12678207185685349080 : True := trivial
theorem tw14802106659485048934 : True := trivial
theorem tw3841589728693802841 : True := trivial
theorem tw15762215047748782189 : True := trivial
theorem tw5896081899391833947 : True := trivial
theorem tw10115920540058730170 : True := trivial
theorem tw168930645511856569 : True := trivial
theorem tw15634303873123528248 : True := trivial
theorem tw18331213650575788519 : True := trivial
theorem tw527222931651971363 : True := trivial
theorem tw5843599365769441384 : True := trivial
theorem tw988865401630998836 : True := trivial
theorem tw5619593894998104441 : True := trivial
theorem tw4091772039402250720 : True := trivial
theorem tw12266263653680326957 : True := trivial
theorem tw2576259608580882109 : True := trivial
theorem tw3378506835015664390 : True := trivial
theorem tw14081315087576319076 : True := trivial
theorem tw10359906782339449484 : True := trivial
theorem tw14490217975552956197 : True := trivial
theorem tw6151031440527966359 : True := trivial
theorem tw2833418082438251622 : True := trivial
theorem tw9161840165930983084 : True := trivial
theorem tw481129888029638545 : True := trivial
theorem tw7602916554690050404 : True := trivial
theorem tw17715373010510354394 : True := trivial
theorem tw4553548212439066210 : True := trivial
theorem tw6443513681791723132 : True := trivial
theorem tw5507681560949339463 : True := trivial
theorem tw3936249770810812613 : True := trivial
theorem tw6758839306253817150 : True := trivial
theorem tw8852589622228166845 : True := trivial
theorem tw7294559233336898450 : True := trivial
theorem tw3064803849171422776 : True := trivial
theorem tw9116740453581552034 : True := trivial
theorem tw9110140690080033571 : True := trivial
theorem tw8090619832188197299 : True := trivial
theorem tw4351232502395257548 : True := trivial
theorem tw15793650242450828444 : True := trivial
theorem tw11614084613233325824 : True := trivial
theorem tw309519687111527272 : True := trivial
end PySem.W.Fast
open PySem PySem.W PyProof.Rows
set_option maxRecDepth 100000 in
set_option maxHeartbeats 0 in
theorem PySem.Challenge.cw_tribunal_k13_keepers_that_hear_nothing_holds : PySem.Challenge.rw_tribunal_k13_keepers_that_hear_nothing.Holds := by
  w_on; o_law; k_head; (case hw => w_witness2)
  k_fill
  refine Toy.walk (l := PySem.Challenge.rw_tribunal_k13_keepers_that_hear_nothing) rfl rfl (fun w h Y => PySem.W.kIn_of Y) ?F
  case F =>
    intro w mg fa h KX G hmg
    refine' Toy.all_mk KX G hmg ?c_KIND ?c_HEIGHT ?c_TURN ?c_BLOCK ?c_LEAN ?c_MOST_MEMBERS ?c_MOST_WEIGHT ?n_len ?n_range ?n_isinstance ?n_int ?n_bool ?n_list ?n_tuple ?n_sum ?n_enumerate ?n_set ?n_sorted ?n_max ?n_str ?n_super ?n_ValueError ?g_Committee ?g_Book ?g_Journal ?g_Ledger ?g_Chain ?g_Pool ?g_Replica ?a_proposal ?l_proposal ?q_proposal ?k_proposal ?a_prevote ?l_prevote ?q_prevote ?k_prevote ?a_precommit ?l_precommit ?q_precommit ?k_precommit ?a_is_vote ?l_is_vote ?q_is_vote ?k_is_vote ?a_clash ?l_clash ?q_clash ?k_clash ?a_abandons ?l_abandons ?q_abandons ?k_abandons ?a_first_wrong ?l_first_wrong ?q_first_wrong ?k_first_wrong ?a_Committee_init ?i_Committee_init ?l_Committee_init ?q_Committee_init ?k_Committee_init ?a_Committee_weight_of ?i_Committee_weight_of ?l_Committee_weight_of ?q_Committee_weight_of ?k_Committee_weight_of ?a_Committee_is_quorum ?i_Committee_is_quorum ?l_Committee_is_quorum ?q_Committee_is_quorum ?k_Committee_is_quorum ?a_Committee_leader ?i_Committee_leader ?l_Committee_leader ?q_Committee_leader ?k_Committee_leader ?a_votes_by_turn ?l_votes_by_turn ?q_votes_by_turn ?k_votes_by_turn ?a_counts ?l_counts ?q_counts ?k_counts ?a_certified_turns ?l_certified_turns ?q_certified_turns ?k_certified_turns ?a_committed_turns ?l_committed_turns ?q_committed_turns ?k_committed_turns ?a_missing ?l_missing ?q_missing ?k_missing ?a_Book_init ?i_Book_init ?l_Book_init ?q_Book_init ?k_Book_init ?a_Book_belongs ?i_Book_belongs ?l_Book_belongs ?q_Book_belongs ?k_Book_belongs ?a_Book_enter ?i_Book_enter ?l_Book_enter ?q_Book_enter ?k_Book_enter ?a_Book_add ?i_Book_add ?l_Book_add ?q_Book_add ?k_Book_add ?a_Book_latest ?i_Book_latest ?l_Book_latest ?q_Book_latest ?k_Book_latest ?a_Journal_init ?i_Journal_init ?l_Journal_init ?q_Journal_init ?k_Journal_init ?a_Journal_sign ?i_Journal_sign ?l_Journal_sign ?q_Journal_sign ?k_Journal_sign ?a_Journal_last_turn ?i_Journal_last_turn ?l_Journal_last_turn ?q_Journal_last_turn ?k_Journal_last_turn ?a_Ledger_init ?i_Ledger_init ?l_Ledger_init ?q_Ledger_init ?k_Ledger_init ?a_first_ledger ?l_first_ledger ?q_first_ledger ?k_first_ledger ?a_Chain_init ?i_Chain_init ?l_Chain_init ?q_Chain_init ?k_Chain_init ?a_Chain_height ?i_Chain_height ?l_Chain_height ?q_Chain_height ?k_Chain_height ?a_Chain_committee ?i_Chain_committee ?l_Chain_committee ?q_Chain_committee ?k_Chain_committee ?a_block_of ?l_block_of ?q_block_of ?k_block_of ?a_Pool_init ?i_Pool_init ?l_Pool_init ?q_Pool_init ?k_Pool_init ?a_Pool_block ?i_Pool_block ?l_Pool_block ?q_Pool_block ?k_Pool_block ?a_Replica_init ?i_Replica_init ?l_Replica_init ?q_Replica_init ?k_Replica_init ?a_Replica_start ?i_Replica_start ?l_Replica_start ?q_Replica_start ?k_Replica_start ?a_Replica_timeout ?i_Replica_timeout ?l_Replica_timeout ?q_Replica_timeout ?k_Replica_timeout ?a_Replica_begin_call ?i_Replica_begin_call ?l_Replica_begin_call ?q_Replica_begin_call ?k_Replica_begin_call ?a_Replica_go_on ?i_Replica_go_on ?l_Replica_go_on ?q_Replica_go_on ?k_Replica_go_on ?a_Replica_do_first ?i_Replica_do_first ?l_Replica_do_first ?q_Replica_do_first ?k_Replica_do_first ?a_Replica_reach ?i_Replica_reach ?l_Replica_reach ?q_Replica_reach ?k_Replica_reach ?a_Replica_enter_first_turn ?i_Replica_enter_first_turn ?l_Replica_enter_first_turn ?q_Replica_enter_first_turn ?k_Replica_enter_first_turn ?a_Replica_enter ?i_Replica_enter ?l_Replica_enter ?q_Replica_enter ?k_Replica_enter ?a_Replica_choice ?i_Replica_choice ?l_Replica_choice ?q_Replica_choice ?k_Replica_choice ?a_Replica_certified ?i_Replica_certified ?l_Replica_certified ?q_Replica_certified ?k_Replica_certified ?a_Replica_prevote ?i_Replica_prevote ?l_Replica_prevote ?q_Replica_prevote ?k_Replica_prevote ?a_Replica_sign ?i_Replica_sign ?l_Replica_sign ?q_Replica_sign ?k_Replica_sign ?a_Replica_take_in ?i_Replica_take_in ?l_Replica_take_in ?q_Replica_take_in ?k_Replica_take_in ?a_Replica_is_leader ?i_Replica_is_leader ?l_Replica_is_leader ?q_Replica_is_leader ?k_Replica_is_leader ?a_law_cell ?l_law_cell ?q_law_cell ?k_law_cell ?a_law_entered ?l_law_entered ?q_law_entered ?k_law_entered ?a_law ?l_law ?q_law ?k_law ?pg_Committee ?hd_Committee ?po_Committee ?sa_Committee ?mk_Committee ?kc_Committee ?no_Committee_weights ?no_Committee_size ?no_Committee_total ?pg_Book ?hd_Book ?po_Book ?sa_Book ?mk_Book ?kc_Book ?no_Book_committee ?no_Book_height ?no_Book_certificates ?no_Book_commits ?no_Book__kept ?no_Book__by_block ?pg_Journal ?hd_Journal ?po_Journal ?sa_Journal ?mk_Journal ?kc_Journal ?no_Journal_who ?no_Journal_signed ?pg_Ledger ?hd_Ledger ?po_Ledger ?sa_Ledger ?mk_Ledger ?kc_Ledger ?no_Ledger_balances ?no_Ledger_codes ?no_Ledger_stores ?pg_Chain ?hd_Chain ?po_Chain ?sa_Chain ?mk_Chain ?kc_Chain ?no_Chain_blocks ?no_Chain_receipts ?no_Chain_committees ?no_Chain_ledgers ?pg_Pool ?hd_Pool ?po_Pool ?sa_Pool ?mk_Pool ?kc_Pool ?no_Pool_waiting ?pg_Replica ?hd_Replica ?po_Replica ?sa_Replica ?mk_Replica ?kc_Replica ?no_Replica_who ?no_Replica_chain ?no_Replica_journal ?no_Replica_papers ?no_Replica_pool ?no_Replica_later ?no_Replica_sent ?no_Replica_committed ?no_Replica_height ?no_Replica_book ?no_Replica_proposals ?no_Replica_turn ?no_Replica_step ?g_Refused ?lc_Refused ?rb_Refused ?sa_Refused ?eb_Refused ?ty_Refused ?kc_Refused ?a_Refused_init ?tI_Refused_init ?l_Refused_init ?q_Refused_init ?ce_Refused_init ?co_Refused_init ?v2_Refused_init ?fi_Refused_init ?su_Refused ?op_Refused ?sv_Refused ?mc_Refused ?nf_Refused ?ts_Refused ?xga_Refused ?xgt_Refused ?xhd_Refused ?xcc_Refused ?xsp_Refused ?xtk_Refused ?xmo_Refused ?te1_Refused ?te2_Refused ?te3_Refused ?te4_Refused_Refused
    (case c_KIND => k_is)
    (case c_HEIGHT => k_is)
    (case c_TURN => k_is)
    (case c_BLOCK => k_is)
    (case c_LEAN => k_is)
    (case c_MOST_MEMBERS => k_is)
    (case c_MOST_WEIGHT => k_is)
    (case n_len => k_is)
    (case n_range => k_is)
    (case n_isinstance => k_is)
    (case n_int => k_is)
    (case n_bool => k_is)
    (case n_list => k_is)
    (case n_tuple => k_is)
    (case n_sum => k_is)
    (case n_enumerate => k_is)
    (case n_set => k_is)
    (case n_sorted => k_is)
    (case n_max => k_is)
    (case n_str => k_is)
    (case n_super => k_is)
    (case n_ValueError => k_is)
    (case g_Committee => k_is)
    (case g_Book => k_is)
    (case g_Journal => k_is)
    (case g_Ledger => k_is)
    (case g_Chain => k_is)
    (case g_Pool => k_is)
    (case g_Replica => k_is)
    (case a_proposal => k_is)
    (case l_proposal => k_is)
    (case q_proposal => k_is)
    (case k_proposal => k_is)
    (case a_prevote => k_is)
    (case l_prevote => k_is)
    (case q_prevote => k_is)
    (case k_prevote => k_is)
    (case a_precommit => k_is)
    (case l_precommit => k_is)
    (case q_precommit => k_is)
    (case k_precommit => k_is)
    (case a_is_vote => k_is)
    (case l_is_vote => k_is)
    (case q_is_vote => k_is)
    (case k_is_vote => k_is)
    (case a_clash => k_is)
    (case l_clash => k_is)
    (case q_clash => k_is)
    (case k_clash => k_is)
    (case a_abandons => k_is)
    (case l_abandons => k_is)
    (case q_abandons => k_is)
    (case k_abandons => k_is)
    (case a_first_wrong => k_is)
    (case l_first_wrong => k_is)
    (case q_first_wrong => k_is)
    (case k_first_wrong => k_is)
    (case a_Committee_init => k_is)
    (case i_Committee_init => k_is)
    (case l_Committee_init => k_is)
    (case q_Committee_init => k_is)
    (case k_Committee_init => k_is)
    (case a_Committee_weight_of => k_is)
    (case i_Committee_weight_of => k_is)
    (case l_Committee_weight_of => k_is)
    (case q_Committee_weight_of => k_is)
    (case k_Committee_weight_of => k_is)
    (case a_Committee_is_quorum => k_is)
    (case i_Committee_is_quorum => k_is)
    (case l_Committee_is_quorum => k_is)
    (case q_Committee_is_quorum => k_is)
    (case k_Committee_is_quorum => k_is)
    (case a_Committee_leader => k_is)
    (case i_Committee_leader => k_is)
    (case l_Committee_leader => k_is)
    (case q_Committee_leader => k_is)
    (case k_Committee_leader => k_is)
    (case a_votes_by_turn => k_is)
    (case l_votes_by_turn => k_is)
    (case q_votes_by_turn => k_is)
    (case k_votes_by_turn => k_is)
    (case a_counts => k_is)
    (case l_counts => k_is)
    (case q_counts => k_is)
    (case k_counts => k_is)
    (case a_certified_turns => k_is)
    (case l_certified_turns => k_is)
    (case q_certified_turns => k_is)
    (case k_certified_turns => k_is)
    (case a_committed_turns => k_is)
    (case l_committed_turns => k_is)
    (case q_committed_turns => k_is)
    (case k_committed_turns => k_is)
    (case a_missing => k_is)
    (case l_missing => k_is)
    (case q_missing => k_is)
    (case k_missing => k_is)
    (case a_Book_init => k_is)
    (case i_Book_init => k_is)
    (case l_Book_init => k_is)
    (case q_Book_init => k_is)
    (case k_Book_init => k_is)
    (case a_Book_belongs => k_is)
    (case i_Book_belongs => k_is)
    (case l_Book_belongs => k_is)
    (case q_Book_belongs => k_is)
    (case k_Book_belongs => k_is)
    (case a_Book_enter => k_is)
    (case i_Book_enter => k_is)
    (case l_Book_enter => k_is)
    (case q_Book_enter => k_is)
    (case k_Book_enter => k_is)
    (case a_Book_add => k_is)
    (case i_Book_add => k_is)
    (case l_Book_add => k_is)
    (case q_Book_add => k_is)
    (case k_Book_add => k_is)
    (case a_Book_latest => k_is)
    (case i_Book_latest => k_is)
    (case l_Book_latest => k_is)
    (case q_Book_latest => k_is)
    (case k_Book_latest => k_is)
    (case a_Journal_init => k_is)
    (case i_Journal_init => k_is)
    (case l_Journal_init => k_is)
    (case q_Journal_init => k_is)
    (case k_Journal_init => k_is)
    (case a_Journal_sign => k_is)
    (case i_Journal_sign => k_is)
    (case l_Journal_sign => k_is)
    (case q_Journal_sign => k_is)
    (case k_Journal_sign => k_is)
    (case a_Journal_last_turn => k_is)
    (case i_Journal_last_turn => k_is)
    (case l_Journal_last_turn => k_is)
    (case q_Journal_last_turn => k_is)
    (case k_Journal_last_turn => k_is)
    (case a_Ledger_init => k_is)
    (case i_Ledger_init => k_is)
    (case l_Ledger_init => k_is)
    (case q_Ledger_init => k_is)
    (case k_Ledger_init => k_is)
    (case a_first_ledger => k_is)
    (case l_first_ledger => k_is)
    (case q_first_ledger => k_is)
    (case k_first_ledger => k_is)
    (case a_Chain_init => k_is)
    (case i_Chain_init => k_is)
    (case l_Chain_init => k_is)
    (case q_Chain_init => k_is)
    (case k_Chain_init => k_is)
    (case a_Chain_height => k_is)
    (case i_Chain_height => k_is)
    (case l_Chain_height => k_is)
    (case q_Chain_height => k_is)
    (case k_Chain_height => k_is)
    (case a_Chain_committee => k_is)
    (case i_Chain_committee => k_is)
    (case l_Chain_committee => k_is)
    (case q_Chain_committee => k_is)
    (case k_Chain_committee => k_is)
    (case a_block_of => k_is)
    (case l_block_of => k_is)
    (case q_block_of => k_is)
    (case k_block_of => k_is)
    (case a_Pool_init => k_is)
    (case i_Pool_init => k_is)
    (case l_Pool_init => k_is)
    (case q_Pool_init => k_is)
    (case k_Pool_init => k_is)
    (case a_Pool_block => k_is)
    (case i_Pool_block => k_is)
    (case l_Pool_block => k_is)
    (case q_Pool_block => k_is)
    (case k_Pool_block => k_is)
    (case a_Replica_init => k_is)
    (case i_Replica_init => k_is)
    (case l_Replica_init => k_is)
    (case q_Replica_init => k_is)
    (case k_Replica_init => k_is)
    (case a_Replica_start => k_is)
    (case i_Replica_start => k_is)
    (case l_Replica_start => k_is)
    (case q_Replica_start => k_is)
    (case k_Replica_start => k_is)
    (case a_Replica_timeout => k_is)
    (case i_Replica_timeout => k_is)
    (case l_Replica_timeout => k_is)
    (case q_Replica_timeout => k_is)
    (case k_Replica_timeout => k_is)
    (case a_Replica_begin_call => k_is)
    (case i_Replica_begin_call => k_is)
    (case l_Replica_begin_call => k_is)
    (case q_Replica_begin_call => k_is)
    (case k_Replica_begin_call => k_is)
    (case a_Replica_go_on => k_is)
    (case i_Replica_go_on => k_is)
    (case l_Replica_go_on => k_is)
    (case q_Replica_go_on => k_is)
    (case k_Replica_go_on => k_is)
    (case a_Replica_do_first => k_is)
    (case i_Replica_do_first => k_is)
    (case l_Replica_do_first => k_is)
    (case q_Replica_do_first => k_is)
    (case k_Replica_do_first => k_is)
    (case a_Replica_reach => k_is)
    (case i_Replica_reach => k_is)
    (case l_Replica_reach => k_is)
    (case q_Replica_reach => k_is)
    (case k_Replica_reach => k_is)
    (case a_Replica_enter_first_turn => k_is)
    (case i_Replica_enter_first_turn => k_is)
    (case l_Replica_enter_first_turn => k_is)
    (case q_Replica_enter_first_turn => k_is)
    (case k_Replica_enter_first_turn => k_is)
    (case a_Replica_enter => k_is)
    (case i_Replica_enter => k_is)
    (case l_Replica_enter => k_is)
    (case q_Replica_enter => k_is)
    (case k_Replica_enter => k_is)
    (case a_Replica_choice => k_is)
    (case i_Replica_choice => k_is)
    (case l_Replica_choice => k_is)
    (case q_Replica_choice => k_is)
    (case k_Replica_choice => k_is)
    (case a_Replica_certified => k_is)
    (case i_Replica_certified => k_is)
    (case l_Replica_certified => k_is)
    (case q_Replica_certified => k_is)
    (case k_Replica_certified => k_is)
    (case a_Replica_prevote => k_is)
    (case i_Replica_prevote => k_is)
    (case l_Replica_prevote => k_is)
    (case q_Replica_prevote => k_is)
    (case k_Replica_prevote => k_is)
    (case a_Replica_sign => k_is)
    (case i_Replica_sign => k_is)
    (case l_Replica_sign => k_is)
    (case q_Replica_sign => k_is)
    (case k_Replica_sign => k_is)
    (case a_Replica_take_in => k_is)
    (case i_Replica_take_in => k_is)
    (case l_Replica_take_in => k_is)
    (case q_Replica_take_in => k_is)
    (case k_Replica_take_in => k_is)
    (case a_Replica_is_leader => k_is)
    (case i_Replica_is_leader => k_is)
    (case l_Replica_is_leader => k_is)
    (case q_Replica_is_leader => k_is)
    (case k_Replica_is_leader => k_is)
    (case a_law_cell => k_is)
    (case l_law_cell => k_is)
    (case q_law_cell => k_is)
    (case k_law_cell => k_is)
    (case a_law_entered => k_is)
    (case l_law_entered => k_is)
    (case q_law_entered => k_is)
    (case k_law_entered => k_is)
    (case a_law => k_is)
    (case l_law => k_is)
    (case q_law => k_is)
    (case k_law => k_is)
    (case pg_Committee => k_is)
    (case hd_Committee => k_is)
    (case po_Committee => k_is)
    (case sa_Committee => k_is)
    (case mk_Committee => k_is)
    (case kc_Committee => k_is)
    (case no_Committee_weights => k_is)
    (case no_Committee_size => k_is)
    (case no_Committee_total => k_is)
    (case pg_Book => k_is)
    (case hd_Book => k_is)
    (case po_Book => k_is)
    (case sa_Book => k_is)
    (case mk_Book => k_is)
    (case kc_Book => k_is)
    (case no_Book_committee => k_is)
    (case no_Book_height => k_is)
    (case no_Book_certificates => k_is)
    (case no_Book_commits => k_is)
    (case no_Book__kept => k_is)
    (case no_Book__by_block => k_is)
    (case pg_Journal => k_is)
    (case hd_Journal => k_is)
    (case po_Journal => k_is)
    (case sa_Journal => k_is)
    (case mk_Journal => k_is)
    (case kc_Journal => k_is)
    (case no_Journal_who => k_is)
    (case no_Journal_signed => k_is)
    (case pg_Ledger => k_is)
    (case hd_Ledger => k_is)
    (case po_Ledger => k_is)
    (case sa_Ledger => k_is)
    (case mk_Ledger => k_is)
    (case kc_Ledger => k_is)
    (case no_Ledger_balances => k_is)
    (case no_Ledger_codes => k_is)
    (case no_Ledger_stores => k_is)
    (case pg_Chain => k_is)
    (case hd_Chain => k_is)
    (case po_Chain => k_is)
    (case sa_Chain => k_is)
    (case mk_Chain => k_is)
    (case kc_Chain => k_is)
    (case no_Chain_blocks => k_is)
    (case no_Chain_receipts => k_is)
    (case no_Chain_committees => k_is)
    (case no_Chain_ledgers => k_is)
    (case pg_Pool => k_is)
    (case hd_Pool => k_is)
    (case po_Pool => k_is)
    (case sa_Pool => k_is)
    (case mk_Pool => k_is)
    (case kc_Pool => k_is)
    (case no_Pool_waiting => k_is)
    (case pg_Replica => k_is)
    (case hd_Replica => k_is)
    (case po_Replica => k_is)
    (case sa_Replica => k_is)
    (case mk_Replica => k_is)
    (case kc_Replica => k_is)
    (case no_Replica_who => k_is)
    (case no_Replica_chain => k_is)
    (case no_Replica_journal => k_is)
    (case no_Replica_papers => k_is)
    (case no_Replica_pool => k_is)
    (case no_Replica_later => k_is)
    (case no_Replica_sent => k_is)
    (case no_Replica_committed => k_is)
    (case no_Replica_height => k_is)
    (case no_Replica_book => k_is)
    (case no_Replica_proposals => k_is)
    (case no_Replica_turn => k_is)
    (case no_Replica_step => k_is)
    (case g_Refused => k_is)
    (case lc_Refused => k_is)
    (case rb_Refused => decide +kernel)
    (case sa_Refused => k_is)
    (case eb_Refused => k_is)
    (case ty_Refused => k_is)
    (case kc_Refused => k_is)
    (case a_Refused_init => k_is)
    (case tI_Refused_init => k_is)
    (case l_Refused_init => k_is)
    (case q_Refused_init => k_is)
    (case ce_Refused_init => k_is)
    (case co_Refused_init => k_is)
    (case v2_Refused_init => rfl)
    (case fi_Refused_init => decide +kernel)
    (case su_Refused => ks_is)
    (case op_Refused => k_is)
    (case sv_Refused => k_is)
    (case mc_Refused => k_is)
    (case nf_Refused => k_is)
    (case ts_Refused => decide +kernel)
    (case xga_Refused => k_is)
    (case xgt_Refused => k_is)
    (case xhd_Refused => k_is)
    (case xcc_Refused => k_is)
    (case xsp_Refused => k_is)
    (case xtk_Refused => k_is)
    (case xmo_Refused => k_is)
    (case te1_Refused => k_is)
    (case te2_Refused => k_is)
    (case te3_Refused => k_is)
    (case te4_Refused_Refused => k_is)
