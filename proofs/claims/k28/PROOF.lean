import PyProof.Rows.All
import Wide.All
import OpenK.AllK
import Wide.FinOn
import HandS.ForMost
import HandS.IsInst
import HandS.TupLe
import HandS.Codes
import HandS.More
import HandS.Exc
import HandS.ExcOwn
import HandS.WordsExc
import HandS.ExcIs
import KE.KExcIs
import HandS.FStr
import HandS.Zip
import HandS.Star
import HandS.StrMore
import HandS.Text
import HandS.Walk
import HandS.Deep
import HandS.TryOnly
import KE.IntTextText
import KE.KUnpackStar
import KE.IntTextLaws
import KE.GoesMore
import KE.GoesEnum
import HandS.TupAny
import HandS.SetKeys
import HandS.SortKw
import KE.KMinBuiltin
import KE.KTupSum
import HandS.TupMul
import KE.KDictZip
import PySem.Challenge.RW_tribunal_k28_whole_disputes_convict_a_th
set_option Elab.async false
set_option pp.maxSteps 300
set_option pp.deepTerms.threshold 6
set_option linter.all false
set_option maxRecDepth 100000
set_option maxHeartbeats 4000000
namespace Toy
open PySem L2
def top (i : Nat) : Stmt := PySem.Challenge.pw_tribunal_k28_whole_disputes_convict_a_th.main.body.getD i (.Pass ⟨0, 0, 0, 0⟩)
abbrev s_is_vote : Stmt := (top 29)
abbrev s_clash : Stmt := (top 30)
abbrev s_abandons : Stmt := (top 31)
abbrev s_Charge_init : Stmt := (inClass (top 58) 0)
abbrev s_first_clash : Stmt := (top 61)
abbrev s_charge_of : Stmt := (top 59)
abbrev s_charges : Stmt := (top 60)
abbrev s_first_wrong : Stmt := (top 42)
abbrev s_Committee_init : Stmt := (inClass (top 41) 0)
abbrev s_Committee_weight_of : Stmt := (inClass (top 41) 1)
abbrev s_Committee_is_quorum : Stmt := (inClass (top 41) 2)
abbrev s_votes_by_turn : Stmt := (top 65)
abbrev s_counts : Stmt := (top 66)
abbrev s_certified_turns : Stmt := (top 63)
abbrev s_committed_turns : Stmt := (top 64)
abbrev s_shown_turn : Stmt := (top 69)
abbrev s_shows : Stmt := (top 68)
abbrev s_accuse : Stmt := (top 70)
abbrev s_law_cell : Stmt := (top 75)
abbrev s_law_row : Stmt := (top 77)
abbrev s_law_weights : Stmt := (top 78)
abbrev s_law_weight : Stmt := (top 79)
abbrev s_law_clash : Stmt := (top 80)
abbrev s_Reader_init : Stmt := (inClass (top 37) 0)
abbrev s_Reader_read_signs : Stmt := (inClass (top 37) 5)
abbrev s_Reader_skip : Stmt := (inClass (top 37) 2)
abbrev s_Reader_read_number : Stmt := (inClass (top 37) 3)
abbrev s_Reader_read_code : Stmt := (inClass (top 37) 4)
abbrev s_Reader_read_command : Stmt := (inClass (top 37) 1)
abbrev s_commands_of : Stmt := (top 36)
abbrev s_Ledger_init : Stmt := (inClass (top 44) 0)
abbrev s_first_ledger : Stmt := (top 45)
abbrev s_Chain_init : Stmt := (inClass (top 55) 0)
abbrev s_Chain_height : Stmt := (inClass (top 55) 1)
abbrev s_Chain_committee : Stmt := (inClass (top 55) 2)
abbrev s_Chain_extend : Stmt := (inClass (top 55) 3)
abbrev s_after_weight : Stmt := (top 56)
abbrev s_Client_init : Stmt := (inClass (top 72) 0)
abbrev s_Client_follow : Stmt := (inClass (top 72) 1)
abbrev s_dispute : Stmt := (top 73)
abbrev s_law_paper : Stmt := (top 83)
abbrev s_law_block : Stmt := (top 86)
abbrev s_law_reweighted : Stmt := (top 85)
abbrev s_law_is_integer : Stmt := (top 76)
abbrev s_law_followed : Stmt := (top 87)
abbrev s_law_least : Stmt := (top 88)
abbrev s_law : Stmt := (top 89)
abbrev sc_is_vote_N : List Str := ["statement"]
theorem sc_is_vote : FnScope sc_is_vote_N ["statement"] (defScope s_is_vote) := ⟨rfl, rfl, rfl, by decide +kernel, rfl, by decide +kernel, by decide +kernel⟩
abbrev sc_clash_N : List Str := ["one", "other"]
theorem sc_clash : FnScope sc_clash_N ["one", "other"] (defScope s_clash) := ⟨rfl, rfl, rfl, by decide +kernel, rfl, by decide +kernel, by decide +kernel⟩
abbrev sc_abandons_N : List Str := ["one", "other"]
theorem sc_abandons : FnScope sc_abandons_N ["one", "other"] (defScope s_abandons) := ⟨rfl, rfl, rfl, by decide +kernel, rfl, by decide +kernel, by decide +kernel⟩
abbrev sc_Charge_init_N : List Str := ["self", "who", "first", "second"]
theorem sc_Charge_init : FnScope sc_Charge_init_N ["self", "who", "first", "second"] (defScope s_Charge_init) := ⟨rfl, rfl, rfl, by decide +kernel, rfl, by decide +kernel, by decide +kernel⟩
abbrev sc_first_clash_N : List Str := ["earlier", "letter", "before"]
theorem sc_first_clash : FnScope sc_first_clash_N ["earlier", "letter"] (defScope s_first_clash) := ⟨rfl, rfl, rfl, by decide +kernel, rfl, by decide +kernel, by decide +kernel⟩
abbrev sc_charge_of_N : List Str := ["letters", "who", "earlier", "letter", "first"]
theorem sc_charge_of : FnScope sc_charge_of_N ["letters", "who"] (defScope s_charge_of) := ⟨rfl, rfl, rfl, by decide +kernel, rfl, by decide +kernel, by decide +kernel⟩
abbrev sc_charges_N : List Str := ["committee", "letters", "found", "who", "charge"]
theorem sc_charges : FnScope sc_charges_N ["committee", "letters"] (defScope s_charges) := ⟨rfl, rfl, rfl, by decide +kernel, rfl, by decide +kernel, by decide +kernel⟩
abbrev sc_first_wrong_N : List Str := ["weights", "at", "weight"]
theorem sc_first_wrong : FnScope sc_first_wrong_N ["weights"] (defScope s_first_wrong) := ⟨rfl, rfl, rfl, by decide +kernel, rfl, by decide +kernel, by decide +kernel⟩
abbrev sc_Committee_init_N : List Str := ["self", "weights", "wrong"]
theorem sc_Committee_init : FnScope sc_Committee_init_N ["self", "weights"] (defScope s_Committee_init) := ⟨rfl, rfl, rfl, by decide +kernel, rfl, by decide +kernel, by decide +kernel⟩
abbrev sc_Committee_weight_of_N : List Str := ["self", "members", "listed", "member", "weight"]
theorem sc_Committee_weight_of : FnScope sc_Committee_weight_of_N ["self", "members"] (defScope s_Committee_weight_of) := ⟨rfl, rfl, rfl, by decide +kernel, rfl, by decide +kernel, by decide +kernel⟩
abbrev sc_Committee_is_quorum_N : List Str := ["self", "members"]
theorem sc_Committee_is_quorum : FnScope sc_Committee_is_quorum_N ["self", "members"] (defScope s_Committee_is_quorum) := ⟨rfl, rfl, rfl, by decide +kernel, rfl, by decide +kernel, by decide +kernel⟩
abbrev sc_votes_by_turn_N : List Str := ["letters", "kind", "height", "block", "found", "letter", "vote"]
theorem sc_votes_by_turn : FnScope sc_votes_by_turn_N ["letters", "kind", "height", "block"] (defScope s_votes_by_turn) := ⟨rfl, rfl, rfl, by decide +kernel, rfl, by decide +kernel, by decide +kernel⟩
abbrev sc_counts_N : List Str := ["prevote", "turns", "lean"]
theorem sc_counts : FnScope sc_counts_N ["prevote", "turns"] (defScope s_counts) := ⟨rfl, rfl, rfl, by decide +kernel, rfl, by decide +kernel, by decide +kernel⟩
abbrev sc_certified_turns_N : List Str := ["committee", "letters", "height", "block", "prevotes", "found", "turn", "members", "letter"]
theorem sc_certified_turns : FnScope sc_certified_turns_N ["committee", "letters", "height", "block"] (defScope s_certified_turns) := ⟨rfl, rfl, rfl, by decide +kernel, rfl, by decide +kernel, by decide +kernel⟩
abbrev sc_committed_turns_N : List Str := ["committee", "letters", "height", "block", "precommits", "found", "turn", "members", "letter"]
theorem sc_committed_turns : FnScope sc_committed_turns_N ["committee", "letters", "height", "block"] (defScope s_committed_turns) := ⟨rfl, rfl, rfl, by decide +kernel, rfl, by decide +kernel, by decide +kernel⟩
abbrev sc_shown_turn_N : List Str := ["committee", "height", "block", "letters"]
theorem sc_shown_turn : FnScope sc_shown_turn_N ["committee", "height", "block", "letters"] (defScope s_shown_turn) := ⟨rfl, rfl, rfl, by decide +kernel, rfl, by decide +kernel, by decide +kernel⟩
abbrev sc_shows_N : List Str := ["committee", "height", "block", "letters"]
theorem sc_shows : FnScope sc_shows_N ["committee", "height", "block", "letters"] (defScope s_shows) := ⟨rfl, rfl, rfl, by decide +kernel, rfl, by decide +kernel, by decide +kernel⟩
abbrev sc_accuse_N : List Str := ["committee", "height", "one", "other", "first_block", "first_paper", "second_block", "second_paper", "block", "paper"]
theorem sc_accuse : FnScope sc_accuse_N ["committee", "height", "one", "other"] (defScope s_accuse) := ⟨rfl, rfl, rfl, by decide +kernel, rfl, by decide +kernel, by decide +kernel⟩
abbrev sc_law_cell_N : List Str := ["script", "k"]
theorem sc_law_cell : FnScope sc_law_cell_N ["script", "k"] (defScope s_law_cell) := ⟨rfl, rfl, rfl, by decide +kernel, rfl, by decide +kernel, by decide +kernel⟩
abbrev sc_law_row_N : List Str := ["cell", "count", "size", "state", "row", "k"]
theorem sc_law_row : FnScope sc_law_row_N ["cell", "count", "size"] (defScope s_law_row) := ⟨rfl, rfl, rfl, by decide +kernel, rfl, by decide +kernel, by decide +kernel⟩
abbrev sc_law_weights_N : List Str := ["cell", "most", "count", "value"]
theorem sc_law_weights : FnScope sc_law_weights_N ["cell", "most"] (defScope s_law_weights) := ⟨rfl, rfl, rfl, by decide +kernel, rfl, by decide +kernel, by decide +kernel⟩
abbrev sc_law_weight_N : List Str := ["weights", "members", "k"]
theorem sc_law_weight : FnScope sc_law_weight_N ["weights", "members"] (defScope s_law_weight) := ⟨rfl, rfl, rfl, by decide +kernel, rfl, by decide +kernel, by decide +kernel⟩
abbrev sc_law_clash_N : List Str := ["one", "other", "first", "second"]
theorem sc_law_clash : FnScope sc_law_clash_N ["one", "other"] (defScope s_law_clash) := ⟨rfl, rfl, rfl, by decide +kernel, rfl, by decide +kernel, by decide +kernel⟩
abbrev sc_Reader_init_N : List Str := ["self", "text"]
theorem sc_Reader_init : FnScope sc_Reader_init_N ["self", "text"] (defScope s_Reader_init) := ⟨rfl, rfl, rfl, by decide +kernel, rfl, by decide +kernel, by decide +kernel⟩
abbrev sc_Reader_read_signs_N : List Str := ["self", "allowed", "begin"]
theorem sc_Reader_read_signs : FnScope sc_Reader_read_signs_N ["self", "allowed"] (defScope s_Reader_read_signs) := ⟨rfl, rfl, rfl, by decide +kernel, rfl, by decide +kernel, by decide +kernel⟩
abbrev sc_Reader_skip_N : List Str := ["self", "mark"]
theorem sc_Reader_skip : FnScope sc_Reader_skip_N ["self", "mark"] (defScope s_Reader_skip) := ⟨rfl, rfl, rfl, by decide +kernel, rfl, by decide +kernel, by decide +kernel⟩
abbrev sc_Reader_read_number_N : List Str := ["self", "digits"]
theorem sc_Reader_read_number : FnScope sc_Reader_read_number_N ["self"] (defScope s_Reader_read_number) := ⟨rfl, rfl, rfl, by decide +kernel, rfl, by decide +kernel, by decide +kernel⟩
abbrev sc_Reader_read_code_N : List Str := ["self", "code"]
theorem sc_Reader_read_code : FnScope sc_Reader_read_code_N ["self"] (defScope s_Reader_read_code) := ⟨rfl, rfl, rfl, by decide +kernel, rfl, by decide +kernel, by decide +kernel⟩
abbrev sc_Reader_read_command_N : List Str := ["self", "kind", "parts", "mark", "part"]
theorem sc_Reader_read_command : FnScope sc_Reader_read_command_N ["self"] (defScope s_Reader_read_command) := ⟨rfl, rfl, rfl, by decide +kernel, rfl, by decide +kernel, by decide +kernel⟩
abbrev sc_commands_of_N : List Str := ["block", "reader", "found"]
theorem sc_commands_of : FnScope sc_commands_of_N ["block"] (defScope s_commands_of) := ⟨rfl, rfl, rfl, by decide +kernel, rfl, by decide +kernel, by decide +kernel⟩
abbrev sc_Ledger_init_N : List Str := ["self", "balances", "codes", "stores"]
theorem sc_Ledger_init : FnScope sc_Ledger_init_N ["self", "balances", "codes", "stores"] (defScope s_Ledger_init) := ⟨rfl, rfl, rfl, by decide +kernel, rfl, by decide +kernel, by decide +kernel⟩
abbrev sc_first_ledger_N : List Str := ["grants", "balances"]
theorem sc_first_ledger : FnScope sc_first_ledger_N ["grants"] (defScope s_first_ledger) := ⟨rfl, rfl, rfl, by decide +kernel, rfl, by decide +kernel, by decide +kernel⟩
abbrev sc_Chain_init_N : List Str := ["self", "weights", "grants"]
theorem sc_Chain_init : FnScope sc_Chain_init_N ["self", "weights", "grants"] (defScope s_Chain_init) := ⟨rfl, rfl, rfl, by decide +kernel, rfl, by decide +kernel, by decide +kernel⟩
abbrev sc_Chain_height_N : List Str := ["self"]
theorem sc_Chain_height : FnScope sc_Chain_height_N ["self"] (defScope s_Chain_height) := ⟨rfl, rfl, rfl, by decide +kernel, rfl, by decide +kernel, by decide +kernel⟩
abbrev sc_Chain_committee_N : List Str := ["self"]
theorem sc_Chain_committee : FnScope sc_Chain_committee_N ["self"] (defScope s_Chain_committee) := ⟨rfl, rfl, rfl, by decide +kernel, rfl, by decide +kernel, by decide +kernel⟩
abbrev sc_Chain_extend_N : List Str := ["self", "block", "weights", "ledger", "receipts", "command", "done"]
theorem sc_Chain_extend : FnScope sc_Chain_extend_N ["self", "block"] (defScope s_Chain_extend) := ⟨rfl, rfl, rfl, by decide +kernel, rfl, by decide +kernel, by decide +kernel⟩
abbrev sc_after_weight_N : List Str := ["weights", "command", "_", "member", "weight"]
theorem sc_after_weight : FnScope sc_after_weight_N ["weights", "command"] (defScope s_after_weight) := ⟨rfl, rfl, rfl, by decide +kernel, rfl, by decide +kernel, by decide +kernel⟩
abbrev sc_Client_init_N : List Str := ["self", "weights", "grants"]
theorem sc_Client_init : FnScope sc_Client_init_N ["self", "weights", "grants"] (defScope s_Client_init) := ⟨rfl, rfl, rfl, by decide +kernel, rfl, by decide +kernel, by decide +kernel⟩
abbrev sc_Client_follow_N : List Str := ["self", "block", "paper"]
theorem sc_Client_follow : FnScope sc_Client_follow_N ["self", "block", "paper"] (defScope s_Client_follow) := ⟨rfl, rfl, rfl, by decide +kernel, rfl, by decide +kernel, by decide +kernel⟩
abbrev sc_dispute_N : List Str := ["client", "other", "height", "block", "another"]
theorem sc_dispute : FnScope sc_dispute_N ["client", "other"] (defScope s_dispute) := ⟨rfl, rfl, rfl, by decide +kernel, rfl, by decide +kernel, by decide +kernel⟩
abbrev sc_law_paper_N : List Str := ["cell", "size", "height", "block", "digits", "turn", "letters", "k", "who"]
theorem sc_law_paper : FnScope sc_law_paper_N ["cell", "size", "height", "block"] (defScope s_law_paper) := ⟨rfl, rfl, rfl, by decide +kernel, rfl, by decide +kernel, by decide +kernel⟩
abbrev sc_law_block_N : List Str := ["cell", "height"]
theorem sc_law_block : FnScope sc_law_block_N ["cell", "height"] (defScope s_law_block) := ⟨rfl, rfl, rfl, by decide +kernel, rfl, by decide +kernel, by decide +kernel⟩
abbrev sc_law_reweighted_N : List Str := ["weights", "block", "changed"]
theorem sc_law_reweighted : FnScope sc_law_reweighted_N ["weights", "block"] (defScope s_law_reweighted) := ⟨rfl, rfl, rfl, by decide +kernel, rfl, by decide +kernel, by decide +kernel⟩
abbrev sc_law_is_integer_N : List Str := ["actual"]
theorem sc_law_is_integer : FnScope sc_law_is_integer_N ["actual"] (defScope s_law_is_integer) := ⟨rfl, rfl, rfl, by decide +kernel, rfl, by decide +kernel, by decide +kernel⟩
abbrev sc_law_followed_N : List Str := ["weights", "script", "side", "client", "papers", "height", "cell", "block", "letters"]
theorem sc_law_followed : FnScope sc_law_followed_N ["weights", "script", "side"] (defScope s_law_followed) := ⟨rfl, rfl, rfl, by decide +kernel, rfl, by decide +kernel, by decide +kernel⟩
abbrev sc_law_least_N : List Str := ["blocks", "others", "height"]
theorem sc_law_least : FnScope sc_law_least_N ["blocks", "others"] (defScope s_law_least) := ⟨rfl, rfl, rfl, by decide +kernel, rfl, by decide +kernel, by decide +kernel⟩
abbrev sc_law_N : List Str := ["script", "weights", "one", "other", "blocks", "others", "height", "actual", "now", "block", "committee", "told", "members", "charge"]
theorem sc_law : FnScope sc_law_N ["script"] (defScope s_law) := ⟨rfl, rfl, rfl, by decide +kernel, rfl, by decide +kernel, by decide +kernel⟩
/-! ### what stands where -/
structure DefAt (K : PySem.W.Frag) (mg : Str → Option Value) (x : Str) (st : Stmt) (ps : List Str) (f : Addr) : Prop where
  F : ∃ fd, Fun K x x st f fd ∧ Binds K fd ps []
  g : mg x = some (.ref f)
  kp : PySem.W.keepIn K (.ref f) = true
structure MethAt (K : PySem.W.Frag) (C : Addr) (x qual : Str) (st : Stmt) (ps : List Str) (f : Addr) : Prop where
  F : ∃ fd, Fun K x qual st f fd ∧ Binds K fd ps []
  fi : PySem.W.findIn K (.ref C) x = some (some (.ref f))
  isf : PySem.W.isFn K (.ref f) = true
  kp : PySem.W.keepIn K (.ref f) = true
theorem def_mk {K : PySem.W.Frag} {x qual : Str} {st : Stmt} {f : Addr} {ps : List Str} {oc : Value} {od an : Option Addr} {osl : Array (Option Value)} {kV doc pm cdv ct : Value}
    (l : K.lookup f = some ⟨oc, od, .func (PySem.W.fnOf x qual (defArgs st) (defBody st) (defScope st) .none kV doc pm an cdv ct), osl⟩)
    (c : PySem.W.codeIn K cdv qual = true) (k : PySem.W.keepIn K (.ref f) = true)
    (h : ∀ (kV doc pm : Value) (an : Option Addr) (cdv ct : Value) (us : List Value), us.length = ps.length → bindArgs (PySem.W.fnOf x qual (defArgs st) (defBody st) (defScope st) .none kV doc pm an cdv ct) ⟨us, []⟩ = pure (ps.zip us)) :
    ∃ fd, Fun K x qual st f fd ∧ Binds K fd ps [] := by
  have F := fun_mk (st := st) l c k
  exact ⟨_, F, F.binds h⟩
theorem mg_no {K : PySem.W.Frag} {h : Heap} {mg : Str → Option Value} {n : Str} (X : K.In h) (G : h.Ns mainGlobals mg) (e : PySem.W.nsIn K mainGlobals n = some none) : mg n = none := PySem.W.mg_none_of X G e
theorem same_new {H : Hp} {p : Addr} {o : HO} (n : H p = Option.none) : Same H (upd H p o) := fun b u e => by
  rw [upd_ne (ne_of_none e n)]
  exact e
theorem same_upd {H H2 : Hp} {p : Addr} {o : HO} (s : Same H H2) (n : H p = Option.none) : Same H (upd H2 p o) := fun b u e => by
  rw [upd_ne (ne_of_none e n)]
  exact s b u e
structure Ads where
  C_Reader : Addr
  C_Committee : Addr
  C_Charge : Addr
  C_Ledger : Addr
  C_Chain : Addr
  C_Client : Addr
  d_is_vote : Addr
  d_clash : Addr
  d_abandons : Addr
  d_Charge_init : Addr
  d_first_clash : Addr
  d_charge_of : Addr
  d_charges : Addr
  d_first_wrong : Addr
  d_Committee_init : Addr
  d_Committee_weight_of : Addr
  d_Committee_is_quorum : Addr
  d_votes_by_turn : Addr
  d_counts : Addr
  d_certified_turns : Addr
  d_committed_turns : Addr
  d_shown_turn : Addr
  d_shows : Addr
  d_accuse : Addr
  d_law_cell : Addr
  d_law_row : Addr
  d_law_weights : Addr
  d_law_weight : Addr
  d_law_clash : Addr
  d_Reader_init : Addr
  d_Reader_read_signs : Addr
  d_Reader_skip : Addr
  d_Reader_read_number : Addr
  d_Reader_read_code : Addr
  d_Reader_read_command : Addr
  d_commands_of : Addr
  d_Ledger_init : Addr
  d_first_ledger : Addr
  d_Chain_init : Addr
  d_Chain_height : Addr
  d_Chain_committee : Addr
  d_Chain_extend : Addr
  d_after_weight : Addr
  d_Client_init : Addr
  d_Client_follow : Addr
  d_dispute : Addr
  d_law_paper : Addr
  d_law_block : Addr
  d_law_reweighted : Addr
  d_law_is_integer : Addr
  d_law_followed : Addr
  d_law_least : Addr
  P_MARKS : Addr
  M_MARKS_p : Addr
  M_MARKS_w : Addr
  M_MARKS_d : Addr
  M_MARKS_k : Addr
  C_BadCommand : Addr
  C_BadPaper : Addr
structure Txt (K : PySem.W.Frag) (mg : Str → Option Value) (a : Ads) : Prop where
  n_len : mg "len" = none
  n_range : mg "range" = none
  n_isinstance : mg "isinstance" = none
  n_int : mg "int" = none
  n_bool : mg "bool" = none
  n_list : mg "list" = none
  n_tuple : mg "tuple" = none
  n_str : mg "str" = none
  n_zip : mg "zip" = none
  n_enumerate : mg "enumerate" = none
  n_max : mg "max" = none
  n_abs : mg "abs" = none
  n_sum : mg "sum" = none
  n_set : mg "set" = none
  n_sorted : mg "sorted" = none
  n_min : mg "min" = none
  c_SIGNS : ∃ t, mg "SIGNS" = some (.str "0123456789ginasmtcehlujfyo" t)
  c_DIGITS : ∃ t, mg "DIGITS" = some (.str "0123456789" t)
  c_MOST_DIGITS : ∃ t, mg "MOST_DIGITS" = some (.int 6 t)
  c_CODE_END : ∃ t, mg "CODE_END" = some (.str "z" t)
  c_KIND : ∃ t, mg "KIND" = some (.int 0 t)
  c_HEIGHT : ∃ t, mg "HEIGHT" = some (.int 1 t)
  c_TURN : ∃ t, mg "TURN" = some (.int 2 t)
  c_BLOCK : ∃ t, mg "BLOCK" = some (.int 3 t)
  c_LEAN : ∃ t, mg "LEAN" = some (.int 4 t)
  c_MOST_MEMBERS : ∃ t, mg "MOST_MEMBERS" = some (.int 16 t)
  c_MOST_WEIGHT : ∃ t, mg "MOST_WEIGHT" = some (.int 1000000000000 t)
  g_Reader : mg "Reader" = some (.ref a.C_Reader)
  cl_Reader : Cls K a.C_Reader
  kc_Reader : PySem.W.keepIn K (.ref a.C_Reader) = true
  mk_Reader : PySem.W.makesIn K a.C_Reader = true
  a_Reader_text : NoAttr K a.C_Reader "text"
  a_Reader_at : NoAttr K a.C_Reader "at"
  g_Committee : mg "Committee" = some (.ref a.C_Committee)
  cl_Committee : Cls K a.C_Committee
  kc_Committee : PySem.W.keepIn K (.ref a.C_Committee) = true
  mk_Committee : PySem.W.makesIn K a.C_Committee = true
  a_Committee_weights : NoAttr K a.C_Committee "weights"
  a_Committee_size : NoAttr K a.C_Committee "size"
  a_Committee_total : NoAttr K a.C_Committee "total"
  g_Charge : mg "Charge" = some (.ref a.C_Charge)
  cl_Charge : Cls K a.C_Charge
  kc_Charge : PySem.W.keepIn K (.ref a.C_Charge) = true
  mk_Charge : PySem.W.makesIn K a.C_Charge = true
  a_Charge_who : NoAttr K a.C_Charge "who"
  a_Charge_first : NoAttr K a.C_Charge "first"
  a_Charge_second : NoAttr K a.C_Charge "second"
  g_Ledger : mg "Ledger" = some (.ref a.C_Ledger)
  cl_Ledger : Cls K a.C_Ledger
  kc_Ledger : PySem.W.keepIn K (.ref a.C_Ledger) = true
  mk_Ledger : PySem.W.makesIn K a.C_Ledger = true
  a_Ledger_balances : NoAttr K a.C_Ledger "balances"
  a_Ledger_codes : NoAttr K a.C_Ledger "codes"
  a_Ledger_stores : NoAttr K a.C_Ledger "stores"
  g_Chain : mg "Chain" = some (.ref a.C_Chain)
  cl_Chain : Cls K a.C_Chain
  kc_Chain : PySem.W.keepIn K (.ref a.C_Chain) = true
  mk_Chain : PySem.W.makesIn K a.C_Chain = true
  a_Chain_blocks : NoAttr K a.C_Chain "blocks"
  a_Chain_receipts : NoAttr K a.C_Chain "receipts"
  a_Chain_committees : NoAttr K a.C_Chain "committees"
  a_Chain_ledgers : NoAttr K a.C_Chain "ledgers"
  g_Client : mg "Client" = some (.ref a.C_Client)
  cl_Client : Cls K a.C_Client
  kc_Client : PySem.W.keepIn K (.ref a.C_Client) = true
  mk_Client : PySem.W.makesIn K a.C_Client = true
  a_Client_chain : NoAttr K a.C_Client "chain"
  d_is_vote : DefAt K mg "is_vote" s_is_vote ["statement"] a.d_is_vote
  d_clash : DefAt K mg "clash" s_clash ["one", "other"] a.d_clash
  d_abandons : DefAt K mg "_abandons" s_abandons ["one", "other"] a.d_abandons
  d_Charge_init : MethAt K a.C_Charge "__init__" "Charge.__init__" s_Charge_init ["self", "who", "first", "second"] a.d_Charge_init
  d_first_clash : DefAt K mg "_first_clash" s_first_clash ["earlier", "letter"] a.d_first_clash
  d_charge_of : DefAt K mg "charge_of" s_charge_of ["letters", "who"] a.d_charge_of
  d_charges : DefAt K mg "charges" s_charges ["committee", "letters"] a.d_charges
  d_first_wrong : DefAt K mg "_first_wrong" s_first_wrong ["weights"] a.d_first_wrong
  d_Committee_init : MethAt K a.C_Committee "__init__" "Committee.__init__" s_Committee_init ["self", "weights"] a.d_Committee_init
  d_Committee_weight_of : MethAt K a.C_Committee "weight_of" "Committee.weight_of" s_Committee_weight_of ["self", "members"] a.d_Committee_weight_of
  d_Committee_is_quorum : MethAt K a.C_Committee "is_quorum" "Committee.is_quorum" s_Committee_is_quorum ["self", "members"] a.d_Committee_is_quorum
  d_votes_by_turn : DefAt K mg "votes_by_turn" s_votes_by_turn ["letters", "kind", "height", "block"] a.d_votes_by_turn
  d_counts : DefAt K mg "counts" s_counts ["prevote", "turns"] a.d_counts
  d_certified_turns : DefAt K mg "certified_turns" s_certified_turns ["committee", "letters", "height", "block"] a.d_certified_turns
  d_committed_turns : DefAt K mg "committed_turns" s_committed_turns ["committee", "letters", "height", "block"] a.d_committed_turns
  d_shown_turn : DefAt K mg "shown_turn" s_shown_turn ["committee", "height", "block", "letters"] a.d_shown_turn
  d_shows : DefAt K mg "shows" s_shows ["committee", "height", "block", "letters"] a.d_shows
  d_accuse : DefAt K mg "accuse" s_accuse ["committee", "height", "one", "other"] a.d_accuse
  d_law_cell : DefAt K mg "_law_cell" s_law_cell ["script", "k"] a.d_law_cell
  d_law_row : DefAt K mg "_law_row" s_law_row ["cell", "count", "size"] a.d_law_row
  d_law_weights : DefAt K mg "_law_weights" s_law_weights ["cell", "most"] a.d_law_weights
  d_law_weight : DefAt K mg "_law_weight" s_law_weight ["weights", "members"] a.d_law_weight
  d_law_clash : DefAt K mg "_law_clash" s_law_clash ["one", "other"] a.d_law_clash
  d_Reader_init : MethAt K a.C_Reader "__init__" "Reader.__init__" s_Reader_init ["self", "text"] a.d_Reader_init
  d_Reader_read_signs : MethAt K a.C_Reader "read_signs" "Reader.read_signs" s_Reader_read_signs ["self", "allowed"] a.d_Reader_read_signs
  d_Reader_skip : MethAt K a.C_Reader "skip" "Reader.skip" s_Reader_skip ["self", "mark"] a.d_Reader_skip
  d_Reader_read_number : MethAt K a.C_Reader "read_number" "Reader.read_number" s_Reader_read_number ["self"] a.d_Reader_read_number
  d_Reader_read_code : MethAt K a.C_Reader "read_code" "Reader.read_code" s_Reader_read_code ["self"] a.d_Reader_read_code
  d_Reader_read_command : MethAt K a.C_Reader "read_command" "Reader.read_command" s_Reader_read_command ["self"] a.d_Reader_read_command
  d_commands_of : DefAt K mg "commands_of" s_commands_of ["block"] a.d_commands_of
  d_Ledger_init : MethAt K a.C_Ledger "__init__" "Ledger.__init__" s_Ledger_init ["self", "balances", "codes", "stores"] a.d_Ledger_init
  d_first_ledger : DefAt K mg "first_ledger" s_first_ledger ["grants"] a.d_first_ledger
  d_Chain_init : MethAt K a.C_Chain "__init__" "Chain.__init__" s_Chain_init ["self", "weights", "grants"] a.d_Chain_init
  d_Chain_height : MethAt K a.C_Chain "height" "Chain.height" s_Chain_height ["self"] a.d_Chain_height
  d_Chain_committee : MethAt K a.C_Chain "committee" "Chain.committee" s_Chain_committee ["self"] a.d_Chain_committee
  d_Chain_extend : MethAt K a.C_Chain "extend" "Chain.extend" s_Chain_extend ["self", "block"] a.d_Chain_extend
  d_after_weight : DefAt K mg "_after_weight" s_after_weight ["weights", "command"] a.d_after_weight
  d_Client_init : MethAt K a.C_Client "__init__" "Client.__init__" s_Client_init ["self", "weights", "grants"] a.d_Client_init
  d_Client_follow : MethAt K a.C_Client "follow" "Client.follow" s_Client_follow ["self", "block", "paper"] a.d_Client_follow
  d_dispute : DefAt K mg "dispute" s_dispute ["client", "other"] a.d_dispute
  d_law_paper : DefAt K mg "_law_paper" s_law_paper ["cell", "size", "height", "block"] a.d_law_paper
  d_law_block : DefAt K mg "_law_block" s_law_block ["cell", "height"] a.d_law_block
  d_law_reweighted : DefAt K mg "_law_reweighted" s_law_reweighted ["weights", "block"] a.d_law_reweighted
  d_law_is_integer : DefAt K mg "_law_is_integer" s_law_is_integer ["actual"] a.d_law_is_integer
  d_law_followed : DefAt K mg "_law_followed" s_law_followed ["weights", "script", "side"] a.d_law_followed
  d_law_least : DefAt K mg "_law_least" s_law_least ["blocks", "others"] a.d_law_least
theorem Txt.m_Charge {K : PySem.W.Frag} {mg : Str → Option Value} {a : Ads} (T : Txt K mg a) : Mk K a.C_Charge a.d_Charge_init := ⟨T.mk_Charge, T.d_Charge_init.fi, T.d_Charge_init.isf, T.kc_Charge⟩
theorem Txt.m_Committee {K : PySem.W.Frag} {mg : Str → Option Value} {a : Ads} (T : Txt K mg a) : Mk K a.C_Committee a.d_Committee_init := ⟨T.mk_Committee, T.d_Committee_init.fi, T.d_Committee_init.isf, T.kc_Committee⟩
theorem Txt.me_Committee_weight_of {K : PySem.W.Frag} {mg : Str → Option Value} {a : Ads} (T : Txt K mg a) : Meth K a.C_Committee "weight_of" a.d_Committee_weight_of := ⟨T.d_Committee_weight_of.fi, T.d_Committee_weight_of.isf, T.d_Committee_weight_of.kp⟩
theorem Txt.me_Committee_is_quorum {K : PySem.W.Frag} {mg : Str → Option Value} {a : Ads} (T : Txt K mg a) : Meth K a.C_Committee "is_quorum" a.d_Committee_is_quorum := ⟨T.d_Committee_is_quorum.fi, T.d_Committee_is_quorum.isf, T.d_Committee_is_quorum.kp⟩
theorem Txt.m_Reader {K : PySem.W.Frag} {mg : Str → Option Value} {a : Ads} (T : Txt K mg a) : Mk K a.C_Reader a.d_Reader_init := ⟨T.mk_Reader, T.d_Reader_init.fi, T.d_Reader_init.isf, T.kc_Reader⟩
theorem Txt.me_Reader_read_signs {K : PySem.W.Frag} {mg : Str → Option Value} {a : Ads} (T : Txt K mg a) : Meth K a.C_Reader "read_signs" a.d_Reader_read_signs := ⟨T.d_Reader_read_signs.fi, T.d_Reader_read_signs.isf, T.d_Reader_read_signs.kp⟩
theorem Txt.me_Reader_skip {K : PySem.W.Frag} {mg : Str → Option Value} {a : Ads} (T : Txt K mg a) : Meth K a.C_Reader "skip" a.d_Reader_skip := ⟨T.d_Reader_skip.fi, T.d_Reader_skip.isf, T.d_Reader_skip.kp⟩
theorem Txt.me_Reader_read_number {K : PySem.W.Frag} {mg : Str → Option Value} {a : Ads} (T : Txt K mg a) : Meth K a.C_Reader "read_number" a.d_Reader_read_number := ⟨T.d_Reader_read_number.fi, T.d_Reader_read_number.isf, T.d_Reader_read_number.kp⟩
theorem Txt.me_Reader_read_code {K : PySem.W.Frag} {mg : Str → Option Value} {a : Ads} (T : Txt K mg a) : Meth K a.C_Reader "read_code" a.d_Reader_read_code := ⟨T.d_Reader_read_code.fi, T.d_Reader_read_code.isf, T.d_Reader_read_code.kp⟩
theorem Txt.me_Reader_read_command {K : PySem.W.Frag} {mg : Str → Option Value} {a : Ads} (T : Txt K mg a) : Meth K a.C_Reader "read_command" a.d_Reader_read_command := ⟨T.d_Reader_read_command.fi, T.d_Reader_read_command.isf, T.d_Reader_read_command.kp⟩
theorem Txt.m_Ledger {K : PySem.W.Frag} {mg : Str → Option Value} {a : Ads} (T : Txt K mg a) : Mk K a.C_Ledger a.d_Ledger_init := ⟨T.mk_Ledger, T.d_Ledger_init.fi, T.d_Ledger_init.isf, T.kc_Ledger⟩
theorem Txt.m_Chain {K : PySem.W.Frag} {mg : Str → Option Value} {a : Ads} (T : Txt K mg a) : Mk K a.C_Chain a.d_Chain_init := ⟨T.mk_Chain, T.d_Chain_init.fi, T.d_Chain_init.isf, T.kc_Chain⟩
theorem Txt.me_Chain_height {K : PySem.W.Frag} {mg : Str → Option Value} {a : Ads} (T : Txt K mg a) : Meth K a.C_Chain "height" a.d_Chain_height := ⟨T.d_Chain_height.fi, T.d_Chain_height.isf, T.d_Chain_height.kp⟩
theorem Txt.me_Chain_committee {K : PySem.W.Frag} {mg : Str → Option Value} {a : Ads} (T : Txt K mg a) : Meth K a.C_Chain "committee" a.d_Chain_committee := ⟨T.d_Chain_committee.fi, T.d_Chain_committee.isf, T.d_Chain_committee.kp⟩
theorem Txt.me_Chain_extend {K : PySem.W.Frag} {mg : Str → Option Value} {a : Ads} (T : Txt K mg a) : Meth K a.C_Chain "extend" a.d_Chain_extend := ⟨T.d_Chain_extend.fi, T.d_Chain_extend.isf, T.d_Chain_extend.kp⟩
theorem Txt.m_Client {K : PySem.W.Frag} {mg : Str → Option Value} {a : Ads} (T : Txt K mg a) : Mk K a.C_Client a.d_Client_init := ⟨T.mk_Client, T.d_Client_init.fi, T.d_Client_init.isf, T.kc_Client⟩
theorem Txt.me_Client_follow {K : PySem.W.Frag} {mg : Str → Option Value} {a : Ads} (T : Txt K mg a) : Meth K a.C_Client "follow" a.d_Client_follow := ⟨T.d_Client_follow.fi, T.d_Client_follow.isf, T.d_Client_follow.kp⟩
/-! ### max and min with default=None -/
end Toy
namespace Toy0
open PySem

section
variable {prog : Program} {w : World} {A : Around} {R : Result → Shared → Prop} {I : Addr} {fp wr : List Addr} {n : Nat} {P : Nat → Value → Prop} {St : Nat → Heap → Prop}
/-- the turns of max with keywords, from the place behind j on -/
theorem maxd_run (W : Walks prog w A.in1 I fp wr n P St) (up : Nat → Nat → Bool) (cm : CmpOf prog w A.in1 .Gt P up) (Z : Addr) (nZ : Z ∉ fp) (kw : List (Str × Value)) : ∀ (k j : Nat) (s : Shared) (b0 : Value) (c : Nat), n = j + 1 + k → St (j + 1) s.heap → P (argBest up j) b0 →
    s.heap.get? Z = some { cls := .type "list", dict := none, data := .seq #[b0, b0] c, slots := #[] } → (∀ v h2 t2, P (argBest up (n - 1)) v → (∀ x o, x ∉ wr → x ≠ Z → s.heap.get? x = some o → h2.get? x = some o) → R (.ok (.ret v)) { s with heap := h2, toks := t2 }) →
    codeAny (model prog w) A (.builtin "max.loop" ⟨[.ref I, .none, .ref Z], kw⟩) R s
  | 0, j, s, b0, c, hn, st, hP, hZ, q => by
    have nw : Z ∉ wr := fun z => nZ (W.sub _ z)
    have hin : j + 1 = n := hn.symm
    refine codeAny_builtin PySem.F.entry_max_loop (by
      rw [Around.under_plainId PySem.F.plain_max_loop _]
      show wpAny _ A.in1 (seqItems? (.ref Z) >>= _) _ _ s
      refine wpAny_bind (wpAny_seqItems hZ rfl ?_)
      show wpAny _ A.in1 (tryCatch (pyNext (.ref I)) _ >>= _) _ _ s
      refine wpAny_bind (wpAny_tryCatch (W.done s _ _ (by rw [← hin]; exact st) fun h2 t2 kp => ?_))
      have hZ2 := kp Z _ nw hZ
      show wpAny _ A.in1 (updateSeq Z (fun _ => #[]) >>= _) _ _ _
      refine wpAny_bind (wpAny_updateSeq hZ2 rfl (wpAny_bind (wpAny_letGo (wpAny_pure ?_))))
      exact q b0 _ t2 (by rw [show n - 1 = j by omega]; exact hP) fun x o xw xz e => (Heap.get?_update_other _ _ (fun z => xz z.symm)).trans (kp x o xw e))
  | k + 1, j, s, b0, c, hn, st, hP, hZ, q => by
    have nw : Z ∉ wr := fun z => nZ (W.sub _ z)
    have nm : (toString "max" ++ toString ".loop" : String) = "max.loop" := by decide
    refine codeAny_builtin PySem.F.entry_max_loop (by
      rw [Around.under_plainId PySem.F.plain_max_loop _]
      show wpAny _ A.in1 (seqItems? (.ref Z) >>= _) _ _ s
      refine wpAny_bind (wpAny_seqItems hZ rfl ?_)
      show wpAny _ A.in1 (tryCatch (pyNext (.ref I)) _ >>= _) _ _ s
      refine wpAny_bind (wpAny_tryCatch (W.item (j + 1) s _ _ (by omega) st fun v h2 t2 pv st2 kp => ?_))
      have hZ2 := kp Z _ nw hZ
      show wpAny _ A.in1 (tryCatch (holding [v, v] (richCompare .Gt v b0 >>= _)) _ >>= _) _ _ _
      refine wpAny_bind (wpAny_tryCatch (wpAny_holding (wpAny_bind (cm (j + 1) (argBest up j) v b0 _ _ _ pv hP ?_))))
      refine wpAny_bind (wpAny_holding (wpAny_truthy_bool (wpAny_bind (wpAny_letGo (wpAny_pure ?_)))))
      cases eb : up (j + 1) (argBest up j) with
      | true =>
        simp only [if_true]
        refine wpAny_bind (wpAny_updateSeq hZ2 rfl (wpAny_bind (wpAny_letGo ?_)))
        rw [nm]
        refine wpAny_pure ⟨plainId_quiet PySem.F.plain_max_loop _, maxd_run W up cm Z nZ kw k (j + 1) _ v _ (by omega) (W.frame _ _ _ st2 fun x hx o e => ?_) (by simp only [argBest, eb, if_true]; exact pv) (Heap.get?_update_self _ hZ2 rfl) fun v3 h3 t3 p3 kp3 => ?_⟩
        · exact (Heap.get?_update_other _ _ (fun z : Z = x => nZ (by rw [z]; exact hx))).trans e
        · exact q v3 h3 t3 p3 fun x o xw xz e => kp3 x o xw xz ((Heap.get?_update_other _ _ (fun z => xz z.symm)).trans (kp x o xw e))
      | false =>
        simp only [Bool.false_eq_true, if_false]
        refine wpAny_bind (wpAny_letGo ?_)
        rw [nm]
        refine wpAny_pure ⟨plainId_quiet PySem.F.plain_max_loop _, maxd_run W up cm Z nZ kw k (j + 1) _ b0 c (by omega) st2 (by simp only [argBest, eb, Bool.false_eq_true, if_false]; exact hP) hZ2 fun v3 h3 t3 p3 kp3 => ?_⟩
        exact q v3 h3 t3 p3 fun x o xw xz e => kp3 x o xw xz (kp x o xw e))
/-- its first turn -/
theorem maxd_start (W : Walks prog w A.in1 I fp wr n P St) (up : Nat → Nat → Bool) (cm : CmpOf prog w A.in1 .Gt P up) (Z : Addr) (nZ : Z ∉ fp) (d : Value) {s : Shared} {c : Nat} (st : St 0 s.heap) (hZ : s.heap.get? Z = some { cls := .type "list", dict := none, data := .seq #[] c, slots := #[] })
    (q0 : n = 0 → ∀ h2 t2, (∀ x o, x ∉ wr → x ≠ Z → s.heap.get? x = some o → h2.get? x = some o) → R (.ok (.ret d)) { s with heap := h2, toks := t2 })
    (q : 0 < n → ∀ v h2 t2, P (argBest up (n - 1)) v → (∀ x o, x ∉ wr → x ≠ Z → s.heap.get? x = some o → h2.get? x = some o) → R (.ok (.ret v)) { s with heap := h2, toks := t2 }) :
    codeAny (model prog w) A (.builtin "max.loop" ⟨[.ref I, .none, .ref Z], [(Str.ofString "default", d)]⟩) R s := by
  have nw : Z ∉ wr := fun z => nZ (W.sub _ z)
  have nm : (toString "max" ++ toString ".loop" : String) = "max.loop" := by decide
  refine codeAny_builtin PySem.F.entry_max_loop (by
    rw [Around.under_plainId PySem.F.plain_max_loop _]
    show wpAny _ A.in1 (seqItems? (.ref Z) >>= _) _ _ s
    refine wpAny_bind (wpAny_seqItems hZ rfl ?_)
    show wpAny _ A.in1 (tryCatch (pyNext (.ref I)) _ >>= _) _ _ s
    rcases Nat.eq_zero_or_pos n with n0 | n0
    · refine wpAny_bind (wpAny_tryCatch (W.done s _ _ (by rw [n0]; exact st) fun h2 t2 kp => ?_))
      show wpAny _ A.in1 (rule _ >>= _) _ _ _
      exact wpAny_bind (wpAny_rule (wpAny_pure (q0 n0 h2 t2 fun x o xw _ e => kp x o xw e)))
    · refine wpAny_bind (wpAny_tryCatch (W.item 0 s _ _ n0 st fun v h2 t2 pv st2 kp => ?_))
      have hZ2 := kp Z _ nw hZ
      show wpAny _ A.in1 (updateSeq Z (fun _ => #[v, v]) >>= _) _ _ _
      refine wpAny_bind (wpAny_updateSeq hZ2 rfl ?_)
      rw [nm]
      refine wpAny_pure ⟨plainId_quiet PySem.F.plain_max_loop _, maxd_run W up cm Z nZ _ (n - 1) 0 _ v _ (by omega) (W.frame _ _ _ st2 fun x hx o e => ?_) pv (Heap.get?_update_self _ hZ2 rfl) fun v3 h3 t3 p3 kp3 => ?_⟩
      · exact (Heap.get?_update_other _ _ (fun z : Z = x => nZ (by rw [z]; exact hx))).trans e
      · exact q n0 v3 h3 t3 p3 fun x o xw xz e => kp3 x o xw xz ((Heap.get?_update_other _ _ (fun z => xz z.symm)).trans (kp x o xw e)))
end
section
variable {prog : Program} {w : World} {A : Around} {E : Value → Shared → Prop} {s : Shared} {l : Addr} {xs : Array (Int × Tok)}
theorem maxd_args (a d : Value) : argsOk "max" ⟨[a], [(Str.ofString "default", d)]⟩ := by
  unfold argsOk
  kernel_rfl
theorem maxd_call {d : Value} {Q : Value → Shared → Prop} (hh : A.handled = none) (hl : s.heap.IsList l (intItems xs)) (q0 : xs.size = 0 → ∀ h2 t2, (∀ b o, s.heap.get? b = some o → h2.get? b = some o) → Q d { s with heap := h2, toks := t2 })
    (q : 0 < xs.size → ∀ v h2 t2, (intItems xs)[argBest (fun i j => decide (numAt xs i > numAt xs j)) (xs.size - 1)]? = some v → (∀ b o, s.heap.get? b = some o → h2.get? b = some o) → Q v { s with heap := h2, toks := t2 }) :
    wpAny (model prog w) A (call (.builtin "max") [.ref l] [(Str.ofString "default", d)]) Q E s := by
  have nm : (toString "max" ++ toString ".loop" : String) = "max.loop" := by decide
  refine PyProof.Rows.kmb_tree PySem.F.kind_max PySem.F.plain_max PySem.F.entry_max (maxd_args _ _) ?_
  show wpAny _ A.in1 (Builtin.Builtins.bindParams "max" ["key", "default"] 0 ⟨[], [(Str.ofString "default", d)]⟩ >>= _) _ _ s
  refine wpAny_bind (wpAny_of_eq (show Builtin.Builtins.bindParams "max" ["key", "default"] 0 ⟨[], [(Str.ofString "default", d)]⟩ = pure [none, some d] from rfl) ?_)
  refine wpAny_bind (wpAny_pure (wpAny_bind (iter_intList hl fun s2 e st hfp ne => ?_)))
  subst e
  refine wpAny_bind (wpAny_newObj_type ?_)
  have W := Walks.list (prog := prog) (w := w) (A := A.in1) hh s.heap.objs.size l ne (intItems xs)
  have hsz : (intItems xs).size = xs.size := by simp [intItems]
  rw [nm]
  have nS := fun hm => Nat.lt_irrefl _ (hfp _ hm)
  refine wpAny_pure ⟨plainId_quiet PySem.F.plain_max_loop _, ?_⟩
  refine maxd_start (c := 0) W (fun i j => decide (numAt xs i > numAt xs j)) (CmpOf.ints_gt (numAt xs) (fun _ _ => intItems_at)) _ nS d ?_ ?_ (fun n0 h2 t2 kp => ?_) fun n0 v h2 t2 p kp => ?_
  · exact W.frame _ _ _ st fun b _ o e => Heap.get?_push_of_some _ e
  · exact Heap.get?_push_size _ rfl
  · exact q0 (hsz ▸ n0) h2 t2 (old_kept fun b o nb e => kp b o nb (Nat.ne_of_lt (Heap.lt_size e)) (Heap.get?_push_of_some _ e))
  · rw [hsz] at n0 p
    exact q n0 v h2 t2 p (old_kept fun b o nb e => kp b o nb (Nat.ne_of_lt (Heap.lt_size e)) (Heap.get?_push_of_some _ e))
end

section
variable {prog : Program} {w : World} {A : Around} {R : Result → Shared → Prop} {I : Addr} {fp wr : List Addr} {n : Nat} {P : Nat → Value → Prop} {St : Nat → Heap → Prop}
/-- the turns of min with keywords, from the place behind j on -/
theorem mind_run (W : Walks prog w A.in1 I fp wr n P St) (up : Nat → Nat → Bool) (cm : CmpOf prog w A.in1 .Lt P up) (Z : Addr) (nZ : Z ∉ fp) (kw : List (Str × Value)) : ∀ (k j : Nat) (s : Shared) (b0 : Value) (c : Nat), n = j + 1 + k → St (j + 1) s.heap → P (argBest up j) b0 →
    s.heap.get? Z = some { cls := .type "list", dict := none, data := .seq #[b0, b0] c, slots := #[] } → (∀ v h2 t2, P (argBest up (n - 1)) v → (∀ x o, x ∉ wr → x ≠ Z → s.heap.get? x = some o → h2.get? x = some o) → R (.ok (.ret v)) { s with heap := h2, toks := t2 }) →
    codeAny (model prog w) A (.builtin "min.loop" ⟨[.ref I, .none, .ref Z], kw⟩) R s
  | 0, j, s, b0, c, hn, st, hP, hZ, q => by
    have nw : Z ∉ wr := fun z => nZ (W.sub _ z)
    have hin : j + 1 = n := hn.symm
    refine codeAny_builtin PySem.F.entry_min_loop (by
      rw [Around.under_plainId PySem.F.plain_min_loop _]
      show wpAny _ A.in1 (seqItems? (.ref Z) >>= _) _ _ s
      refine wpAny_bind (wpAny_seqItems hZ rfl ?_)
      show wpAny _ A.in1 (tryCatch (pyNext (.ref I)) _ >>= _) _ _ s
      refine wpAny_bind (wpAny_tryCatch (W.done s _ _ (by rw [← hin]; exact st) fun h2 t2 kp => ?_))
      have hZ2 := kp Z _ nw hZ
      show wpAny _ A.in1 (updateSeq Z (fun _ => #[]) >>= _) _ _ _
      refine wpAny_bind (wpAny_updateSeq hZ2 rfl (wpAny_bind (wpAny_letGo (wpAny_pure ?_))))
      exact q b0 _ t2 (by rw [show n - 1 = j by omega]; exact hP) fun x o xw xz e => (Heap.get?_update_other _ _ (fun z => xz z.symm)).trans (kp x o xw e))
  | k + 1, j, s, b0, c, hn, st, hP, hZ, q => by
    have nw : Z ∉ wr := fun z => nZ (W.sub _ z)
    have nm : (toString "min" ++ toString ".loop" : String) = "min.loop" := by decide
    refine codeAny_builtin PySem.F.entry_min_loop (by
      rw [Around.under_plainId PySem.F.plain_min_loop _]
      show wpAny _ A.in1 (seqItems? (.ref Z) >>= _) _ _ s
      refine wpAny_bind (wpAny_seqItems hZ rfl ?_)
      show wpAny _ A.in1 (tryCatch (pyNext (.ref I)) _ >>= _) _ _ s
      refine wpAny_bind (wpAny_tryCatch (W.item (j + 1) s _ _ (by omega) st fun v h2 t2 pv st2 kp => ?_))
      have hZ2 := kp Z _ nw hZ
      show wpAny _ A.in1 (tryCatch (holding [v, v] (richCompare .Lt v b0 >>= _)) _ >>= _) _ _ _
      refine wpAny_bind (wpAny_tryCatch (wpAny_holding (wpAny_bind (cm (j + 1) (argBest up j) v b0 _ _ _ pv hP ?_))))
      refine wpAny_bind (wpAny_holding (wpAny_truthy_bool (wpAny_bind (wpAny_letGo (wpAny_pure ?_)))))
      cases eb : up (j + 1) (argBest up j) with
      | true =>
        simp only [if_true]
        refine wpAny_bind (wpAny_updateSeq hZ2 rfl (wpAny_bind (wpAny_letGo ?_)))
        rw [nm]
        refine wpAny_pure ⟨plainId_quiet PySem.F.plain_min_loop _, mind_run W up cm Z nZ kw k (j + 1) _ v _ (by omega) (W.frame _ _ _ st2 fun x hx o e => ?_) (by simp only [argBest, eb, if_true]; exact pv) (Heap.get?_update_self _ hZ2 rfl) fun v3 h3 t3 p3 kp3 => ?_⟩
        · exact (Heap.get?_update_other _ _ (fun z : Z = x => nZ (by rw [z]; exact hx))).trans e
        · exact q v3 h3 t3 p3 fun x o xw xz e => kp3 x o xw xz ((Heap.get?_update_other _ _ (fun z => xz z.symm)).trans (kp x o xw e))
      | false =>
        simp only [Bool.false_eq_true, if_false]
        refine wpAny_bind (wpAny_letGo ?_)
        rw [nm]
        refine wpAny_pure ⟨plainId_quiet PySem.F.plain_min_loop _, mind_run W up cm Z nZ kw k (j + 1) _ b0 c (by omega) st2 (by simp only [argBest, eb, Bool.false_eq_true, if_false]; exact hP) hZ2 fun v3 h3 t3 p3 kp3 => ?_⟩
        exact q v3 h3 t3 p3 fun x o xw xz e => kp3 x o xw xz (kp x o xw e))
/-- its first turn -/
theorem mind_start (W : Walks prog w A.in1 I fp wr n P St) (up : Nat → Nat → Bool) (cm : CmpOf prog w A.in1 .Lt P up) (Z : Addr) (nZ : Z ∉ fp) (d : Value) {s : Shared} {c : Nat} (st : St 0 s.heap) (hZ : s.heap.get? Z = some { cls := .type "list", dict := none, data := .seq #[] c, slots := #[] })
    (q0 : n = 0 → ∀ h2 t2, (∀ x o, x ∉ wr → x ≠ Z → s.heap.get? x = some o → h2.get? x = some o) → R (.ok (.ret d)) { s with heap := h2, toks := t2 })
    (q : 0 < n → ∀ v h2 t2, P (argBest up (n - 1)) v → (∀ x o, x ∉ wr → x ≠ Z → s.heap.get? x = some o → h2.get? x = some o) → R (.ok (.ret v)) { s with heap := h2, toks := t2 }) :
    codeAny (model prog w) A (.builtin "min.loop" ⟨[.ref I, .none, .ref Z], [(Str.ofString "default", d)]⟩) R s := by
  have nw : Z ∉ wr := fun z => nZ (W.sub _ z)
  have nm : (toString "min" ++ toString ".loop" : String) = "min.loop" := by decide
  refine codeAny_builtin PySem.F.entry_min_loop (by
    rw [Around.under_plainId PySem.F.plain_min_loop _]
    show wpAny _ A.in1 (seqItems? (.ref Z) >>= _) _ _ s
    refine wpAny_bind (wpAny_seqItems hZ rfl ?_)
    show wpAny _ A.in1 (tryCatch (pyNext (.ref I)) _ >>= _) _ _ s
    rcases Nat.eq_zero_or_pos n with n0 | n0
    · refine wpAny_bind (wpAny_tryCatch (W.done s _ _ (by rw [n0]; exact st) fun h2 t2 kp => ?_))
      show wpAny _ A.in1 (rule _ >>= _) _ _ _
      exact wpAny_bind (wpAny_rule (wpAny_pure (q0 n0 h2 t2 fun x o xw _ e => kp x o xw e)))
    · refine wpAny_bind (wpAny_tryCatch (W.item 0 s _ _ n0 st fun v h2 t2 pv st2 kp => ?_))
      have hZ2 := kp Z _ nw hZ
      show wpAny _ A.in1 (updateSeq Z (fun _ => #[v, v]) >>= _) _ _ _
      refine wpAny_bind (wpAny_updateSeq hZ2 rfl ?_)
      rw [nm]
      refine wpAny_pure ⟨plainId_quiet PySem.F.plain_min_loop _, mind_run W up cm Z nZ _ (n - 1) 0 _ v _ (by omega) (W.frame _ _ _ st2 fun x hx o e => ?_) pv (Heap.get?_update_self _ hZ2 rfl) fun v3 h3 t3 p3 kp3 => ?_⟩
      · exact (Heap.get?_update_other _ _ (fun z : Z = x => nZ (by rw [z]; exact hx))).trans e
      · exact q n0 v3 h3 t3 p3 fun x o xw xz e => kp3 x o xw xz ((Heap.get?_update_other _ _ (fun z => xz z.symm)).trans (kp x o xw e)))
end
section
variable {prog : Program} {w : World} {A : Around} {E : Value → Shared → Prop} {s : Shared} {l : Addr} {xs : Array (Int × Tok)}
theorem mind_args (a d : Value) : argsOk "min" ⟨[a], [(Str.ofString "default", d)]⟩ := by
  unfold argsOk
  kernel_rfl
theorem mind_call {d : Value} {Q : Value → Shared → Prop} (hh : A.handled = none) (hl : s.heap.IsList l (intItems xs)) (q0 : xs.size = 0 → ∀ h2 t2, (∀ b o, s.heap.get? b = some o → h2.get? b = some o) → Q d { s with heap := h2, toks := t2 })
    (q : 0 < xs.size → ∀ v h2 t2, (intItems xs)[argBest (fun i j => decide (numAt xs i < numAt xs j)) (xs.size - 1)]? = some v → (∀ b o, s.heap.get? b = some o → h2.get? b = some o) → Q v { s with heap := h2, toks := t2 }) :
    wpAny (model prog w) A (call (.builtin "min") [.ref l] [(Str.ofString "default", d)]) Q E s := by
  have nm : (toString "min" ++ toString ".loop" : String) = "min.loop" := by decide
  refine PyProof.Rows.kmb_tree PySem.F.kind_min PySem.F.plain_min PySem.F.entry_min (mind_args _ _) ?_
  show wpAny _ A.in1 (Builtin.Builtins.bindParams "min" ["key", "default"] 0 ⟨[], [(Str.ofString "default", d)]⟩ >>= _) _ _ s
  refine wpAny_bind (wpAny_of_eq (show Builtin.Builtins.bindParams "min" ["key", "default"] 0 ⟨[], [(Str.ofString "default", d)]⟩ = pure [none, some d] from rfl) ?_)
  refine wpAny_bind (wpAny_pure (wpAny_bind (iter_intList hl fun s2 e st hfp ne => ?_)))
  subst e
  refine wpAny_bind (wpAny_newObj_type ?_)
  have W := Walks.list (prog := prog) (w := w) (A := A.in1) hh s.heap.objs.size l ne (intItems xs)
  have hsz : (intItems xs).size = xs.size := by simp [intItems]
  rw [nm]
  have nS := fun hm => Nat.lt_irrefl _ (hfp _ hm)
  refine wpAny_pure ⟨plainId_quiet PySem.F.plain_min_loop _, ?_⟩
  refine mind_start (c := 0) W (fun i j => decide (numAt xs i < numAt xs j)) (CmpOf.ints_lt (numAt xs) (fun _ _ => intItems_at)) _ nS d ?_ ?_ (fun n0 h2 t2 kp => ?_) fun n0 v h2 t2 p kp => ?_
  · exact W.frame _ _ _ st fun b _ o e => Heap.get?_push_of_some _ e
  · exact Heap.get?_push_size _ rfl
  · exact q0 (hsz ▸ n0) h2 t2 (old_kept fun b o nb e => kp b o nb (Nat.ne_of_lt (Heap.lt_size e)) (Heap.get?_push_of_some _ e))
  · rw [hsz] at n0 p
    exact q n0 v h2 t2 p (old_kept fun b o nb e => kp b o nb (Nat.ne_of_lt (Heap.lt_size e)) (Heap.get?_push_of_some _ e))
end
end Toy0
namespace Toy
open PySem L2
section
open PyProof.Rows

/-- max(xs, default=d) of a list of ints -/
def rmaxd (K : PySem.W.Frag) : List V → List V → Hp → VK → Prop := fun vs zs H Q => ∃ (a : Addr) (ns : List Int) (d : V), vs = [V.ref a] ∧ zs = [d] ∧ SqL K H a (ns.map V.int) ∧ (ns = [] → Q d H) ∧ ∀ m, m ∈ ns → (∀ y, y ∈ ns → y ≤ m) → Q (.int m) H
theorem cr_maxd {X : Cx} (hc : X.calm = true) : CallRK X (.builtin "max") [Str.ofString "default"] (rmaxd X.K) := by
  intro pins s σ H vs zs us wz Q I r rz h
  obtain ⟨a, ns, d, rfl, rfl, hs, q0, q⟩ := h
  obtain ⟨its, rv, hl, _⟩ := I.list hs
  obtain rfl := Vals.ref1 r
  obtain ⟨w1, rfl, e1⟩ := vals1 rz
  obtain ⟨xs, e⟩ := rv.ints.allInts.items
  have hn : numsOf (intItems xs).toList = ns := by rw [← e]; exact rv.ints.numsOf
  rw [nums_intItems] at hn
  have hl2 := hl.isList
  rw [e] at hl2
  have hlen : ns.length = xs.size := by rw [← hn, List.length_map, Array.length_toList]
  refine Toy0.maxd_call (I.ok.hd hc) hl2 (fun n0 h2 t2 kp => ?_) fun n0 v h2 t2 hv kp => ?_
  · exact ⟨d, H, I.kept kp, e1, q0 (List.eq_nil_of_length_eq_zero (by omega))⟩
  · obtain ⟨t, rfl⟩ := intItems_at hv
    obtain ⟨h1, h3⟩ := argBest_gt (numAt xs) (xs.size - 1)
    refine ⟨.int _, H, I.kept kp, ⟨_, rfl⟩, q _ ?_ fun y hy => ?_⟩
    · rw [← hn, numAt_eq]
      exact PySem.getD_mem (by rw [List.length_map, Array.length_toList]; omega)
    · rw [← hn] at hy
      obtain ⟨j, hj, rfl⟩ := mem_getD hy
      rw [List.length_map, Array.length_toList] at hj
      have := h3 j (by omega)
      rwa [← numAt_eq]

/-- min(xs, default=d) of a list of ints -/
def rmind (K : PySem.W.Frag) : List V → List V → Hp → VK → Prop := fun vs zs H Q => ∃ (a : Addr) (ns : List Int) (d : V), vs = [V.ref a] ∧ zs = [d] ∧ SqL K H a (ns.map V.int) ∧ (ns = [] → Q d H) ∧ ∀ m, m ∈ ns → (∀ y, y ∈ ns → m ≤ y) → Q (.int m) H
theorem cr_mind {X : Cx} (hc : X.calm = true) : CallRK X (.builtin "min") [Str.ofString "default"] (rmind X.K) := by
  intro pins s σ H vs zs us wz Q I r rz h
  obtain ⟨a, ns, d, rfl, rfl, hs, q0, q⟩ := h
  obtain ⟨its, rv, hl, _⟩ := I.list hs
  obtain rfl := Vals.ref1 r
  obtain ⟨w1, rfl, e1⟩ := vals1 rz
  obtain ⟨xs, e⟩ := rv.ints.allInts.items
  have hn : numsOf (intItems xs).toList = ns := by rw [← e]; exact rv.ints.numsOf
  rw [nums_intItems] at hn
  have hl2 := hl.isList
  rw [e] at hl2
  have hlen : ns.length = xs.size := by rw [← hn, List.length_map, Array.length_toList]
  refine Toy0.mind_call (I.ok.hd hc) hl2 (fun n0 h2 t2 kp => ?_) fun n0 v h2 t2 hv kp => ?_
  · exact ⟨d, H, I.kept kp, e1, q0 (List.eq_nil_of_length_eq_zero (by omega))⟩
  · obtain ⟨t, rfl⟩ := intItems_at hv
    obtain ⟨h1, h3⟩ := argBest_lt (numAt xs) (xs.size - 1)
    refine ⟨.int _, H, I.kept kp, ⟨_, rfl⟩, q _ ?_ fun y hy => ?_⟩
    · rw [← hn, numAt_eq]
      exact PySem.getD_mem (by rw [List.length_map, Array.length_toList]; omega)
    · rw [← hn] at hy
      obtain ⟨j, hj, rfl⟩ := mem_getD hy
      rw [List.length_map, Array.length_toList] at hj
      have := h3 j (by omega)
      rwa [← numAt_eq]
end

section
open PyProof.Rows
/-! ### own rules: set(list of ints), k in that set; enumerate(a tuple) -/
theorem any_firstMet (zs : List Int) (k : Int) : (PyProof.Rows.firstMet (fun i => zs.getD i 0) zs.length).any (· == k) = decide (k ∈ zs) := by
  rw [PyProof.Rows.firstMet_any, Bool.eq_iff_iff, List.any_eq_true, decide_eq_true_iff]
  constructor
  · rintro ⟨y, hy, e⟩
    obtain ⟨i, hi, rfl⟩ := List.mem_map.mp hy
    have hi' : i < zs.length := List.mem_range.mp hi
    have e' : zs.getD i 0 = k := by simpa using e
    rw [← e', List.getD_eq_getElem?_getD, List.getElem?_eq_getElem hi']
    exact List.getElem_mem hi'
  · intro hk
    obtain ⟨i, hi, e⟩ := List.getElem_of_mem hk
    refine ⟨k, List.mem_map.mpr ⟨i, List.mem_range.mpr hi, ?_⟩, by simp⟩
    show zs.getD i 0 = k
    rw [List.getD_eq_getElem?_getD, List.getElem?_eq_getElem hi]
    exact e
/-- set(xs), xs a list of ints -/
def rSetOfL (K : PySem.W.Frag) : List V → Hp → VK → Prop := fun vs H Q => ∃ (l : Addr) (zs : List Int), vs = [V.ref l] ∧ SqL K H l (zs.map V.int) ∧ zs.length ≤ 1000 ∧
  ∀ (p : Addr) (n : Nat), H p = Option.none → Q (.ref p) (upd H p (.set (fun k => decide (k ∈ zs)) n))
theorem cr_set {X : Cx} (calm : X.calm = true) : CallR X (.type "set") (rSetOfL X.K) := by
  intro pins sh σ H vs us Q I rel hyp
  obtain ⟨l, zs, rfl, hl, few, q⟩ := hyp
  rw [Vals.ref1 rel]
  obtain ⟨its, rv, pl, _⟩ := I.list hl
  have isI := ints_of_vals rv
  have same : its.toArray.size = zs.length := by
    have e := rv.length
    rw [List.length_map] at e
    rw [List.size_toArray]
    exact e.symm
  refine PySem.call_set_list (items := its.toArray) (ns := zs) (I.ok.hd calm) pl.isList (by simpa using isI) (by rw [same]; unfold scanBound; omega) fun h' tk S kp => ?_
  have fresh : H sh.heap.objs.size = Option.none := I.hok.fresh (Nat.le_refl _)
  have e : (fun k => (PyProof.Rows.firstMet (fun i => zs.getD i 0) its.toArray.size).any (· == k)) = fun k => decide (k ∈ zs) := by
    funext k
    rw [same]
    exact any_firstMet zs k
  rw [e] at S
  exact ⟨.ref sh.heap.objs.size, upd H sh.heap.objs.size (.set (fun k => decide (k ∈ zs)) _), I.laid (t' := tk) (fun b o ho => kp b o (Heap.lt_size ho) ho) (Nat.le_refl _) S, rfl, q _ _ fresh⟩
/-- k in such a set -/
def rInSt (neg : Bool) : R2 := fun x y H Q => ∃ (k : Int) (b : Addr) (S : Int → Bool) (n : Nat), x = V.int k ∧ y = V.ref b ∧ H b = some (.set S n) ∧ Q (.bl (if neg then !S k else S k)) H
theorem op_in_set {X : Cx} : OpR X (compareOp .In) (rInSt false) := by
  intro pins sh σ H x y v u Q I r1 r2 hyp
  obtain ⟨k, b, S, n, rfl, rfl, hb, q⟩ := hyp
  obtain ⟨tk, rfl⟩ := r1
  cases r2
  have hS : sh.heap.SetOf (intKind X.prog X.w) b S n := I.hok b _ hb
  exact PySem.wpAny_inSet_of (PySem.intKind_is _ _ _ _) rfl hS ⟨.bl (S k), H, I.tok _, rfl, q⟩
/-- the pairs of enumerate over the tuple at a -/
def Itu (K : PySem.W.Frag) (a : Addr) : It where
  go i H := ∃ (ys : List V) (y : V), SqT K H a ys ∧ ys[i]? = some y
  yld i H v H' := ∃ (p : Addr) (y : V), v = .ref p ∧ H p = Option.none ∧ H' = upd H p (.tup [.int (i : Nat), y]) ∧ ∀ ys, SqT K H a ys → ys[i]? = some y
  stop i H := ∃ ys : List V, SqT K H a ys ∧ ys.length = i
theorem turn_enumT {P : Program} {w : World} {K : PySem.W.Frag} {elts : List Expr} {kk : Nat} {tpos : Pos} (a en it : Addr) (na : a ≠ it) (ne : en ≠ it) (nea : en ≠ a) :
    Turn P w K (.Tuple elts kk tpos) (Itu K a) [en, it] en (fun i h => (∃ old, IsEnum h en it ((i : Nat) : Int) old) ∧ h.IsTupleIter it a i) where
  mem := List.mem_cons_self
  obj := by
    rintro i h ⟨⟨old, he⟩, ⟨o, ho, hc, hd⟩⟩ b hb
    rcases List.mem_cons.mp hb with rfl | hb
    · exact ⟨_, he, fun v z => nomatch z⟩
    · rw [List.mem_singleton.mp hb]
      exact ⟨o, ho, fun v z => by rw [hd] at z; cases z⟩
  keep := by
    rintro i h h' ⟨⟨old, he⟩, hi⟩ kp
    exact ⟨⟨old, kp en List.mem_cons_self _ he⟩, hi.at fun o z => kp it (List.mem_cons_of_mem _ List.mem_cons_self) o z⟩
  item := by
    intro X hP hw hK calm i pins sh σ H E I fp st hg
    subst hP hw hK
    obtain ⟨⟨old, he⟩, hit⟩ := st
    obtain ⟨ys, y, hy, hix⟩ := hg
    obtain ⟨its, rv, tp, _⟩ := I.tuple hy
    obtain ⟨u, hu, ru⟩ := rv.get hix
    have hT : sh.heap.IsTuple a its.toArray := tp
    have hlen : i < its.toArray.size := by
      rw [List.size_toArray]
      exact (List.getElem?_eq_some_iff.mp hu).1
    have len : en < sh.heap.objs.size := Heap.lt_size he
    have lit : it < sh.heap.objs.size := by
      obtain ⟨_, z, _⟩ := hit
      exact Heap.lt_size z
    refine wpAny_pyNext_enum_itemD (Draws.tuple (by simp [I.ok.hd calm]) it a na its.toArray) he ⟨hit, hT⟩ hlen ne (by simp [ne, nea]) fun x h' tk hx ho hst hnew hsz kp => ?_
    have ex : x = u := by
      rw [List.getElem?_toArray, hu] at hx
      exact (Option.some.inj hx).symm
    subst ex
    refine ⟨_, rfl, wpAny_letOwnedTupleGo_enum (s := { sh with heap := h', toks := tk + 1 }) ho fun h2 he2 sb => ?_⟩
    have new2 : h2.get? sh.heap.objs.size = some { cls := .type "tuple", data := .seq #[.int i tk, x] } := (sb.2 _ (Nat.ne_of_gt len)).trans hnew
    have okN : ObjOk X.prog X.w (upd H sh.heap.objs.size (.tup [.int (i : Nat), y])) h2 sh.heap.objs.size (.tup [.int (i : Nat), y]) := by
      refine ⟨(by show 2 ≤ sizeLine; decide), [.int i tk, x], .cons ⟨_, rfl⟩ (.cons ru .nil), ?_⟩
      exact ⟨_, new2, rfl, _, rfl⟩
    have I2 : Inv X pins σ (upd H sh.heap.objs.size (.tup [.int (i : Nat), y])) { sh with heap := h2, toks := tk + 1 } := by
      refine I.turnedNew (ch := [en, it]) (fun b ob hb z => ?_) fp (Nat.le_refl _) okN
      have b1 : b ≠ en := fun q => hb (by rw [q]; exact List.mem_cons_self)
      have b2 : b ≠ it := fun q => hb (by rw [q]; exact List.mem_cons_of_mem _ List.mem_cons_self)
      exact (sb.2 b b1).trans (kp b ob b1 b2 z)
    refine ⟨.ref sh.heap.objs.size, _, I2, rfl, ⟨_, y, rfl, I.hok.fresh (Nat.le_refl _), rfl, fun zs hz => ?_⟩, ⟨⟨x, ?_⟩, hst.1.at fun o z => (sb.2 it (Ne.symm ne)).trans z⟩, fun b hb => ?_⟩
    · rw [I.tuple_inj hz hy]
      exact hix
    · have e1 : ((i + 1 : Nat) : Int) = (i : Int) + 1 := by omega
      rw [e1]
      exact he2
    · have lb : b < sh.heap.objs.size := by
        rcases List.mem_cons.mp hb with rfl | hb
        · exact len
        · rw [List.mem_singleton.mp hb]
          exact lit
      rw [upd_ne (Nat.ne_of_lt lb)]
      exact (fp b hb).1
  done := by
    intro X hP hw hK calm i pins sh σ H E I fp st hg
    subst hP hw hK
    obtain ⟨⟨old, he⟩, hit⟩ := st
    obtain ⟨ys, hy, rfl⟩ := hg
    obtain ⟨its, rv, tp, _⟩ := I.tuple hy
    have hT : sh.heap.IsTuple a its.toArray := tp
    have e : ys.length = its.toArray.size := by
      rw [List.size_toArray]
      exact rv.length
    rw [e] at hit
    obtain ⟨g0, g1, g2, g3, g4, g5⟩ := fp it (List.mem_cons_of_mem _ List.mem_cons_self)
    exact wpAny_pyNext_enum_endD (Draws.tuple (by simp [I.ok.hd calm]) it a na its.toArray) he ⟨hit, hT⟩ fun h' eb => ⟨rfl, I.turned (t' := sh.toks) (fun b o hb z => eb b o hb z) g0 g1 g3 g4 g5⟩
  self := by
    rintro A i s Q E ⟨⟨_, he⟩, _⟩ h
    exact wpAny_pyIter_enum he h
theorem meets_enum1 {v : Value} {o : Obj} {Z : Heap → Prop} (B : Begins v o Z) :
    Meets (Builtin.«enumerate.__new__» ⟨[.type "enumerate", v], []⟩) (fun _ R s => Z s.heap ∧
      R (.ok (.ret (.ref (s.heap.push o).objs.size))) { s with heap := (s.heap.push o).push { cls := .type "enumerate", data := .fields #[.none, .bool false, .ref s.heap.objs.size, rawInt 0, .none, .none] } }) :=
  .of_wp fun prog w A R s hyp => by
    obtain ⟨hp, g, d, tk, os⟩ := s
    obtain ⟨hz, hyp⟩ := hyp
    have sube := sub_enumerate
    have step : ∀ {A' : Around} {E' : Value → Shared → Prop} {Q' : Value → Shared → Prop}, Q' (.ref hp.objs.size) ⟨hp.push o, g, d, tk, os⟩ → wpAny (model prog w) A' (pyIter v) Q' E' ⟨hp, g, d, tk, os⟩ :=
      fun z => B.iter prog w _ _ ⟨hp, g, d, tk, os⟩ _ hz z
    wp_walk using step
    refine wpAny_stack_any fun st => wpAny_pure ?_
    split
    · rename_i c _ _ _ _ _
      cases (c == Value.type "enumerate") <;> (wp_walk using step; exact ⟨_, rfl, hyp⟩)
    · wp_walk using step
      exact ⟨_, rfl, hyp⟩
theorem call_enum1 {prog : Program} {w : World} {A : Around} {E : Value → Shared → Prop} {s : Shared} {v : Value} {o : Obj} {Z : Heap → Prop} {Q : Value → Shared → Prop} (B : Begins v o Z) (hz : Z s.heap)
    (fin : ∀ h', IsEnum h' (s.heap.objs.size + 1) s.heap.objs.size 0 .none → h'.get? s.heap.objs.size = some o → (∀ b u, s.heap.get? b = some u → h'.get? b = some u) → Q (.ref (s.heap.objs.size + 1)) { s with heap := h' }) :
    wpAny (model prog w) A (call (.type "enumerate") [v]) Q E s := by
  have size1 : (s.heap.push o).objs.size = s.heap.objs.size + 1 := Heap.size_push ..
  refine callType_new F.called_enumerate (by decide) (F.typeCall_enumerate_1 _) (F.newCall_enumerate_1 _) (fun obj => F.args_object_init_2 obj _) F.entry_enumerate_new (meets_enum1 B) ⟨hz, ?_⟩
  rw [size1]
  have isE : IsEnum ((s.heap.push o).push { cls := .type "enumerate", data := .fields #[.none, .bool false, .ref s.heap.objs.size, rawInt 0, .none, .none] }) (s.heap.objs.size + 1) s.heap.objs.size 0 .none := by
    have z := Heap.get?_push_size (s.heap.push o) (o := { cls := .type "enumerate", data := .fields #[.none, .bool false, .ref s.heap.objs.size, rawInt 0, .none, .none] }) rfl
    rwa [size1] at z
  exact ⟨⟨_, isE, rfl⟩, fin _ isE (Heap.get?_push_of_some _ (Heap.get?_push_size _ B.free)) fun b u z => Heap.get?_push_of_some _ (Heap.get?_push_of_some _ z)⟩
def iEnumT (K : PySem.W.Frag) (ta : TA) : TI := fun σ H R => ta σ H fun vs H1 => ∃ (a : Addr) (ys : List V), vs = [.ref a] ∧ SqT K H1 a ys ∧ R (Itu K a) H1
theorem pi_enumT {X : Cx} {e : Expr} {ta : TA} {p pos tpos : Pos} {elts : List Expr} {kk : Nat} (gl : Gl X "enumerate") (no : X.mg "enumerate" = none) (pa : PA X [e] ta) (plain : starEach [e] X.env = [(false, eval e X.env)] := by rfl) :
    PI X (.Tuple elts kk tpos) (.Call (.Name "enumerate" p) [e] [] pos) (iEnumT X.K ta) := by
  constructor
  intro pins s σ H R I hyp
  refine PyProof.Rows.Call_ (ld_blt I gl no boot_enumerate (PyProof.Rows.callWith_type1 (thn (pa.run pos pins s σ H _ I hyp) fun us s1 got => ?_) plain rfl))
  obtain ⟨vs, H1, I1, rel, a, ys, rfl, hy, q⟩ := got
  rw [Vals.ref1 rel]
  obtain ⟨its, rv, tp, _⟩ := I1.tuple hy
  have hT : s1.heap.IsTuple a its.toArray := tp
  have la : a < s1.heap.objs.size := by
    obtain ⟨_, z, _⟩ := hT
    exact Heap.lt_size z
  refine call_enum1 (begins_tuple a its.toArray) hT fun h' isE hit kp => wpAny_pyIter_enum isE ?_
  have I2 : Inv X pins σ H1 { s1 with heap := h' } := I1.kept (t' := s1.toks) kp
  refine ⟨s1.heap.objs.size + 1, [s1.heap.objs.size + 1, s1.heap.objs.size], _, _, H1, rfl, I2, turn_enumT a (s1.heap.objs.size + 1) s1.heap.objs.size (Nat.ne_of_lt la) (Nat.succ_ne_self _) (Nat.ne_of_gt (Nat.lt_succ_of_lt la)), ⟨⟨.none, isE⟩, _, hit, rfl, rfl⟩, fun b hb => ?_, q⟩
  have le : s1.heap.objs.size ≤ b := by
    rcases List.mem_cons.mp hb with rfl | hb
    · exact Nat.le_succ _
    · rw [List.mem_singleton.mp hb]
      exact Nat.le_refl _
  exact I1.fpOk le (I1.hok.fresh le)
/-- the forms that one uses: a word by the turn -/
theorem for_enumT {K : PySem.W.Frag} {a : Addr} {ys : List V} {g : TG} {tb : TS} {D : Ends} {σ : L2.St} {H : Hp} (Pv : Nat → L2.St → Hp → Prop) (h0 : Pv 0 σ H) (src : ∀ i σ H, i ≤ ys.length → Pv i σ H → SqT K H a ys)
    (turn : ∀ i y σ H p, ys[i]? = some y → Pv i σ H → H p = Option.none → g (.ref p) σ (upd H p (.tup [.int (i : Nat), y])) fun σ2 H2 => tb { D with nx := Pv (i + 1), ct := Pv (i + 1), bk := D.nx } σ2 H2) (fin : ∀ σ H, Pv ys.length σ H → D.nx σ H) :
    ∃ W : Nat → Nat → L2.St → Hp → Prop, (∃ m, W 0 m σ H) ∧ ∀ i m σ H, W i m σ H →
      ((Itu K a).stop i H ∧ D.nx σ H) ∨ ((Itu K a).go i H ∧ ∃ N : L2.St → Hp → Prop, (∀ σ' H', N σ' H' → ∃ m', m' < m ∧ W (i + 1) m' σ' H') ∧ ∀ x H', (Itu K a).yld i H x H' → g x σ H' fun σ2 H2 => tb { D with nx := N, ct := N, bk := D.nx } σ2 H2) := by
  refine ⟨fun i m σ H => m + i = ys.length ∧ Pv i σ H, ⟨ys.length, Nat.add_zero _, h0⟩, ?_⟩
  rintro i m σ H ⟨em, pv⟩
  have s := src i σ H (by omega) pv
  rcases Nat.lt_or_ge i ys.length with lt | ge
  · refine .inr ⟨⟨ys, ys[i], s, List.getElem?_eq_getElem lt⟩, Pv (i + 1), fun σ' H' z => ⟨m - 1, by omega, by omega, z⟩, ?_⟩
    rintro x H' ⟨p, y, rfl, hp, rfl, hy⟩
    exact turn i y σ H p (hy ys s) pv hp
  · have e : i = ys.length := by omega
    subst e
    exact .inl ⟨⟨ys, s, rfl⟩, fin σ H pv⟩
theorem lc_enumT {K : PySem.W.Frag} {a : Addr} {ys : List V} {g : TG} {tt : TT} {te : TE} {vs : List Nat} {σ : L2.St} {H1 : Hp} {D : Addr} {Qd : Hp → Prop} (Pv : Nat → Hp → Prop) (h0 : Pv 0 (upd H1 D (.lst []))) (src : ∀ i H, i ≤ ys.length → Pv i H → SqT K H a ys)
    (turn : ∀ i y H p, ys[i]? = some y → Pv i H → H p = Option.none → g (.ref p) (wipe σ vs) (upd H p (.tup [.int (i : Nat), y])) fun σ2 H2 => wipe σ2 vs = wipe σ vs ∧ tt σ2 H2 fun b H3 =>
      if b = true then te σ2 H3 fun y H4 => ∃ acc, H4 D = some (.lst acc) ∧ acc.length < sizeLine ∧ Pv (i + 1) (upd H4 D (.lst (acc ++ [y]))) else Pv (i + 1) H3) (fin : ∀ H, Pv ys.length H → Qd H) :
    ∃ W : Nat → Nat → Hp → Prop, (∃ m, W 0 m (upd H1 D (.lst []))) ∧ ∀ i m H, W i m H →
      ((Itu K a).stop i H ∧ Qd H) ∨ ((Itu K a).go i H ∧ ∃ Nx : Hp → Prop, (∀ H', Nx H' → ∃ m', m' < m ∧ W (i + 1) m' H') ∧ ∀ x H', (Itu K a).yld i H x H' → g x (wipe σ vs) H' fun σ2 H2 => wipe σ2 vs = wipe σ vs ∧ tt σ2 H2 fun b H3 =>
        if b = true then te σ2 H3 fun y H4 => ∃ acc, H4 D = some (.lst acc) ∧ acc.length < sizeLine ∧ Nx (upd H4 D (.lst (acc ++ [y]))) else Nx H3) := by
  refine ⟨fun i m H => m + i = ys.length ∧ Pv i H, ⟨ys.length, Nat.add_zero _, h0⟩, ?_⟩
  rintro i m H ⟨em, pv⟩
  have s := src i H (by omega) pv
  rcases Nat.lt_or_ge i ys.length with lt | ge
  · refine .inr ⟨⟨ys, ys[i], s, List.getElem?_eq_getElem lt⟩, Pv (i + 1), fun H' z => ⟨m - 1, by omega, by omega, z⟩, ?_⟩
    rintro x H' ⟨p, y, rfl, hp, rfl, hy⟩
    exact turn i y H p (hy ys s) pv hp
  · have e : i = ys.length := by omega
    subst e
    exact .inl ⟨⟨ys, s, rfl⟩, fin H pv⟩
/-- sum(t), t a tuple of ints -/
def rSumT (K : PySem.W.Frag) : List V → Hp → VK → Prop := fun vs H Q => ∃ (a : Addr) (zs : List Int), vs = [V.ref a] ∧ SqT K H a (zs.map V.int) ∧ Q (.int zs.sum) H
theorem cr_sumT {X : Cx} (calm : X.calm = true) : CallR X (.builtin "sum") (rSumT X.K) := by
  intro pins sh σ H vs us Q I rel hyp
  obtain ⟨a, zs, rfl, hz, q⟩ := hyp
  rw [Vals.ref1 rel]
  obtain ⟨its, rv, tp, _⟩ := I.tuple hz
  have hT : sh.heap.IsTuple a its.toArray := tp
  have isI : IntsAre its zs := Vals.ints rv
  obtain ⟨xs, ex⟩ := isI.allInts.items
  have en : numsOf (intItems xs).toList = zs := by
    rw [← ex]
    exact isI.numsOf
  rw [nums_intItems] at en
  rw [ex] at hT
  refine PySem.W.ktm_sumG (I.ok.hd calm) hT fun h' tk t' kp => ?_
  rw [preSum_eq, List.take_of_length_le (by simp), en]
  exact ⟨.int zs.sum, H, I.kept kp, ⟨_, rfl⟩, q⟩
/-- enumerate over a list, by a word -/
theorem for_enumL {K : PySem.W.Frag} {a : Addr} {ys : List V} {g : TG} {tb : TS} {D : Ends} {σ : L2.St} {H : Hp} (Pv : Nat → L2.St → Hp → Prop) (h0 : Pv 0 σ H) (src : ∀ i σ H, i ≤ ys.length → Pv i σ H → SqL K H a ys)
    (turn : ∀ i y σ H p, ys[i]? = some y → Pv i σ H → H p = Option.none → g (.ref p) σ (upd H p (.tup [.int (i : Nat), y])) fun σ2 H2 => tb { D with nx := Pv (i + 1), ct := Pv (i + 1), bk := D.nx } σ2 H2) (fin : ∀ σ H, Pv ys.length σ H → D.nx σ H) :
    ∃ W : Nat → Nat → L2.St → Hp → Prop, (∃ m, W 0 m σ H) ∧ ∀ i m σ H, W i m σ H →
      ((Ite K a).stop i H ∧ D.nx σ H) ∨ ((Ite K a).go i H ∧ ∃ N : L2.St → Hp → Prop, (∀ σ' H', N σ' H' → ∃ m', m' < m ∧ W (i + 1) m' σ' H') ∧ ∀ x H', (Ite K a).yld i H x H' → g x σ H' fun σ2 H2 => tb { D with nx := N, ct := N, bk := D.nx } σ2 H2) := by
  refine ⟨fun i m σ H => m + i = ys.length ∧ Pv i σ H, ⟨ys.length, Nat.add_zero _, h0⟩, ?_⟩
  rintro i m σ H ⟨em, pv⟩
  have s := src i σ H (by omega) pv
  rcases Nat.lt_or_ge i ys.length with lt | ge
  · refine .inr ⟨⟨ys, ys[i], s, List.getElem?_eq_getElem lt⟩, Pv (i + 1), fun σ' H' z => ⟨m - 1, by omega, by omega, z⟩, ?_⟩
    rintro x H' ⟨p, y, rfl, hp, rfl, hy⟩
    exact turn i y σ H p (hy ys s) pv hp
  · have e : i = ys.length := by omega
    subst e
    exact .inl ⟨⟨ys, s, Nat.le_refl _⟩, fin σ H pv⟩
/-- k in xs, xs a list of ints -/
theorem inV_ints (zs : List Int) (k : Int) : inV (V.int k) (zs.map V.int) = decide (k ∈ zs) := by
  induction zs with
  | nil => rfl
  | cons a r ih =>
    have e : inV (V.int k) ((a :: r).map V.int) = (eqV (V.int a) (V.int k) || inV (V.int k) (r.map V.int)) := rfl
    rw [e, ih]
    by_cases h : a = k
    · subst h
      simp [eqV]
    · have h' : ¬ k = a := fun z => h z.symm
      simp [eqV, h, h']
theorem flat_ints (zs : List Int) : (zs.map V.int).all flatV = true := by
  rw [List.all_eq_true]
  intro x hx
  obtain ⟨z, _, rfl⟩ := List.mem_map.mp hx
  rfl
end

/-! ### the mathematics of weights -/
/-- the weights at the places below n that f lists, in order -/
def pick (ws : List Int) (f : Int → Bool) : Nat → List Int
  | 0 => []
  | n + 1 => if f (n : Int) then pick ws f n ++ [ws.getD n 0] else pick ws f n
def wt (ws : List Int) (f : Int → Bool) (n : Nat) : Int := (pick ws f n).sum
theorem wt_succ (ws : List Int) (f : Int → Bool) (n : Nat) : wt ws f (n + 1) = wt ws f n + (if f (n : Int) then ws.getD n 0 else 0) := by
  unfold wt
  rw [pick]
  split
  · rw [List.sum_append, List.sum_cons, List.sum_nil, Int.add_zero]
  · rw [Int.add_zero]
theorem pick_len (ws : List Int) (f : Int → Bool) : ∀ n, (pick ws f n).length ≤ n
  | 0 => Nat.le_refl _
  | n + 1 => by
    have ih := pick_len ws f n
    rw [pick]
    split
    · rw [List.length_append, List.length_singleton]
      omega
    · omega
theorem wt_congr (ws : List Int) (f g : Int → Bool) : ∀ n, (∀ k : Nat, k < n → f k = g k) → wt ws f n = wt ws g n
  | 0, _ => rfl
  | n + 1, h => by
    rw [wt_succ, wt_succ, wt_congr ws f g n fun k hk => h k (Nat.lt_succ_of_lt hk), h n (Nat.lt_succ_self n)]
theorem wt_take (ws : List Int) : ∀ n, n ≤ ws.length → wt ws (fun _ => true) n = (ws.take n).sum
  | 0, _ => by simp [wt, pick]
  | n + 1, h => by
    have hn : n < ws.length := h
    rw [wt_succ, wt_take ws n (Nat.le_of_lt hn), if_pos rfl, sum_take (List.getElem?_eq_getElem hn), List.getD_eq_getElem?_getD, List.getElem?_eq_getElem hn]
    rfl
theorem wt_all (ws : List Int) : wt ws (fun _ => true) ws.length = ws.sum := by
  rw [wt_take ws _ (Nat.le_refl _), List.take_length]
theorem wt_not (ws : List Int) (f : Int → Bool) : ∀ n, wt ws f n + wt ws (fun k => !f k) n = wt ws (fun _ => true) n
  | 0 => rfl
  | n + 1 => by
    have ih := wt_not ws f n
    rw [wt_succ, wt_succ, wt_succ, if_pos rfl]
    cases f (n : Int)
    · simp
      omega
    · simp
      omega
theorem wt_both (ws : List Int) (f g : Int → Bool) (pos : ∀ k : Nat, 0 ≤ ws.getD k 0) : ∀ n, wt ws f n + wt ws g n ≤ wt ws (fun k => f k && g k) n + wt ws (fun _ => true) n
  | 0 => Int.le_refl _
  | n + 1 => by
    have ih := wt_both ws f g pos n
    have p := pos n
    rw [wt_succ, wt_succ, wt_succ, wt_succ, if_pos rfl]
    cases f (n : Int) <;> cases g (n : Int) <;> simp only [Bool.and_self, Bool.and_true, Bool.and_false, Bool.true_and, Bool.false_and, if_true, Bool.false_eq_true, if_false] <;> omega
/-- the weight of some listed members -/
def wOf (ws ms : List Int) : Int := wt ws (fun k => decide (k ∈ ms)) ws.length
/-- the places below n that f lists -/
def sel (f : Int → Bool) : Nat → List Int
  | 0 => []
  | n + 1 => if f (n : Int) then sel f n ++ [(n : Int)] else sel f n
theorem sel_len (f : Int → Bool) : ∀ n, (sel f n).length ≤ n
  | 0 => Nat.le_refl _
  | n + 1 => by
    have ih := sel_len f n
    rw [sel]
    split
    · rw [List.length_append, List.length_singleton]
      omega
    · omega
theorem mem_sel (f : Int → Bool) (k : Nat) : ∀ n, (k : Int) ∈ sel f n ↔ k < n ∧ f k = true
  | 0 => by simp [sel]
  | n + 1 => by
    have ih := mem_sel f k n
    rw [sel]
    split
    · rename_i h
      rw [List.mem_append, ih, List.mem_singleton]
      constructor
      · rintro (⟨h1, h2⟩ | h1)
        · exact ⟨by omega, h2⟩
        · have e : k = n := by omega
          subst e
          exact ⟨Nat.lt_succ_self _, h⟩
      · rintro ⟨h1, h2⟩
        rcases Nat.lt_or_ge k n with h3 | h3
        · exact .inl ⟨h3, h2⟩
        · exact .inr (by omega)
    · rename_i h
      rw [ih]
      constructor
      · rintro ⟨h1, h2⟩
        exact ⟨by omega, h2⟩
      · rintro ⟨h1, h2⟩
        refine ⟨?_, h2⟩
        rcases Nat.lt_or_ge k n with h3 | h3
        · exact h3
        · have e : k = n := by omega
          subst e
          exact absurd h2 h
/-- who is not listed weighs what is left -/
theorem wOf_rest (ws ms : List Int) : wOf ws ms + wOf ws (sel (fun k => !decide (k ∈ ms)) ws.length) = ws.sum := by
  unfold wOf
  rw [wt_congr ws (fun k => decide (k ∈ sel (fun k => !decide (k ∈ ms)) ws.length)) (fun k => !decide (k ∈ ms)) ws.length fun k hk => ?_]
  · rw [wt_not, wt_all]
  · rw [Bool.eq_iff_iff, decide_eq_true_iff, mem_sel]
    exact ⟨fun z => z.2, fun z => ⟨hk, z⟩⟩
theorem wOf_common (ws ms ns : List Int) (pos : ∀ k : Nat, 0 ≤ ws.getD k 0) : wOf ws ms + wOf ws ns ≤ wOf ws (ms.filter fun k => decide (k ∈ ns)) + ws.sum := by
  unfold wOf
  have h := wt_both ws (fun k => decide (k ∈ ms)) (fun k => decide (k ∈ ns)) pos ws.length
  rw [wt_all] at h
  rw [wt_congr ws (fun k => decide (k ∈ ms.filter fun k => decide (k ∈ ns))) (fun k => decide (k ∈ ms) && decide (k ∈ ns)) ws.length fun k _ => ?_]
  · exact h
  · rw [Bool.eq_iff_iff]
    simp [List.mem_filter]

/-! ### a committee as it stands -/
theorem ne_ws : ¬ (("weights" : Str) = "size") := by decide +kernel
theorem ne_wt : ¬ (("weights" : Str) = "total") := by decide +kernel
theorem ne_st : ¬ (("size" : Str) = "total") := by decide +kernel
def cfs (t : Addr) (ws : List Int) : List (Str × V) := putF "total" (.int ws.sum) (putF "size" (.int ws.length) (putF "weights" (.ref t) []))
theorem cfs_w (t : Addr) (ws : List Int) : (cfs t ws).lookup ("weights" : Str) = some (.ref t) := by
  unfold cfs
  rw [lookup_putF, if_neg ne_wt, lookup_putF, if_neg ne_ws, lookup_putF, if_pos rfl]
theorem cfs_s (t : Addr) (ws : List Int) : (cfs t ws).lookup ("size" : Str) = some (.int ws.length) := by
  unfold cfs
  rw [lookup_putF, if_neg ne_st, lookup_putF, if_pos rfl]
theorem cfs_t (t : Addr) (ws : List Int) : (cfs t ws).lookup ("total" : Str) = some (.int ws.sum) := by
  unfold cfs
  rw [lookup_putF, if_pos rfl]
theorem cfs_no (t : Addr) (ws : List Int) {m : Str} (h1 : ¬ m = "weights") (h2 : ¬ m = "size") (h3 : ¬ m = "total") : (cfs t ws).lookup m = none := by
  unfold cfs
  rw [lookup_putF, if_neg h3, lookup_putF, if_neg h2, lookup_putF, if_neg h1]
  all_goals rfl
def CommAt (C : Addr) (H : Hp) (p : Addr) (ws : List Int) : Prop := ∃ dx t, H p = some (.ins C dx (cfs t ws)) ∧ H t = some (.tup (ws.map V.int))
theorem CommAt.same {C : Addr} {H H' : Hp} {p : Addr} {ws : List Int} (h : CommAt C H p ws) (s : Same H H') : CommAt C H' p ws := by
  obtain ⟨dx, t, h1, h2⟩ := h
  exact ⟨dx, t, s _ _ h1, s _ _ h2⟩
/-- weights that a committee takes -/
def GoodW (ws : List Int) : Prop := 0 < ws.length ∧ ws.length ≤ 16 ∧ ∀ w ∈ ws, 1 ≤ w ∧ w ≤ 1000000000000

/-! ### the data: a statement as the tuple that it is -/
inductive Kd where
  | prop | pre | com
  deriving DecidableEq
def Kd.s : Kd → Str
  | .prop => "proposal"
  | .pre => "prevote"
  | .com => "precommit"
structure Sm where
  k : Kd
  h : Int
  t : Int
  b : Option Str
  l : Option Int
def oS : Option Str → V
  | none => .non
  | some x => .str x
def oI : Option Int → V
  | none => .non
  | some x => .int x
def Sm.vals (m : Sm) : List V := match m.k with
  | .pre => [.str m.k.s, .int m.h, .int m.t, oS m.b, oI m.l]
  | _ => [.str m.k.s, .int m.h, .int m.t, oS m.b]
def SmAt (H : Hp) (p : Addr) (m : Sm) : Prop := H p = some (.tup m.vals)
theorem at0 (m : Sm) : atI m.vals 0 = some (.str m.k.s) := by
  cases m with | mk k h t b l => cases k <;> rfl
theorem at1 (m : Sm) : atI m.vals 1 = some (.int m.h) := by
  cases m with | mk k h t b l => cases k <;> rfl
theorem at2 (m : Sm) : atI m.vals 2 = some (.int m.t) := by
  cases m with | mk k h t b l => cases k <;> rfl
theorem at3 (m : Sm) : atI m.vals 3 = some (oS m.b) := by
  cases m with | mk k h t b l => cases k <;> rfl
theorem at4 (m : Sm) (e : m.k = .pre) : atI m.vals 4 = some (oI m.l) := by
  cases m with | mk k h t b l => cases k <;> first | rfl | cases e
theorem ks_pp : ¬ (("proposal" : Str) = "prevote") := by decide +kernel
theorem ks_pc : ¬ (("proposal" : Str) = "precommit") := by decide +kernel
theorem ks_vc : ¬ (("prevote" : Str) = "precommit") := by decide +kernel
theorem ks_vp : ¬ (("prevote" : Str) = "proposal") := fun e => ks_pp e.symm
theorem ks_cp : ¬ (("precommit" : Str) = "proposal") := fun e => ks_pc e.symm
theorem ks_cv : ¬ (("precommit" : Str) = "prevote") := fun e => ks_vc e.symm
theorem kd_inj (a b : Kd) : a.s = b.s ↔ a = b := by
  cases a <;> cases b <;> simp [Kd.s, ks_pp, ks_pc, ks_vc, ks_vp, ks_cp, ks_cv]
theorem dec_kd (a b : Kd) : decide (V.str a.s = V.str b.s) = decide (a = b) := by
  rw [Bool.eq_iff_iff, decide_eq_true_iff, decide_eq_true_iff]
  constructor
  · intro e
    injection e with e
    exact (kd_inj a b).mp e
  · intro e
    rw [e]
theorem kprop (a : Kd) : (V.str a.s = V.str "proposal") = (a = .prop) := propext (by simpa [Kd.s] using decide_eq_decide.mp (dec_kd a .prop))
theorem kpre (a : Kd) : (V.str a.s = V.str "prevote") = (a = .pre) := propext (by simpa [Kd.s] using decide_eq_decide.mp (dec_kd a .pre))
theorem kcom (a : Kd) : (V.str a.s = V.str "precommit") = (a = .com) := propext (by simpa [Kd.s] using decide_eq_decide.mp (dec_kd a .com))
theorem koS (a b : Option Str) : (oS a = oS b) = (a = b) := propext (by
  cases a <;> cases b <;> simp [oS])
theorem koSn (a : Option Str) : (oS a = V.non) = (a = none) := koS a none
theorem koIn (a : Option Int) : (oI a = V.non) = (a = none) := by cases a <;> simp [oI]
theorem dec_oS (a b : Option Str) : decide (oS a = oS b) = decide (a = b) := by
  rw [Bool.eq_iff_iff, decide_eq_true_iff, decide_eq_true_iff]
  constructor
  · intro e
    cases a <;> cases b <;> first | rfl | cases e
    rfl
  · intro e
    rw [e]
theorem dec_oSn (a : Option Str) : decide (oS a = V.non) = decide (a = none) := dec_oS a none
theorem dec_oIn (a : Option Int) : decide (oI a = V.non) = decide (a = none) := by
  cases a <;> rfl
theorem scal_oS (a b : Option Str) : scal (oS a) (oS b) = true := by
  cases a <;> cases b <;> rfl
/-! ### the mirror -/
def abandM (x y : Sm) : Bool :=
  if x.k = .com ∧ y.k = .pre ∧ x.b ≠ none ∧ y.b ≠ none ∧ x.b ≠ y.b ∧ x.t < y.t then (match y.l with | none => true | some l => decide (l < x.t)) else false
def clashM (x y : Sm) : Bool :=
  if x.h ≠ y.h then false
  else if x.k = y.k then (decide (x.k ≠ .prop) && (decide (x.t = y.t) && decide (x.b ≠ y.b)))
  else (abandM x y || abandM y x)
theorem clashM_comm (x y : Sm) : clashM x y = clashM y x := by
  unfold clashM
  by_cases h1 : x.h = y.h
  · by_cases h2 : x.k = y.k
    · simp only [h1, h2, ne_eq, not_true_eq_false, if_false, if_true]
      congr 1
      congr 1
      · exact decide_eq_decide.mpr ⟨Eq.symm, Eq.symm⟩
      · exact decide_eq_decide.mpr ⟨Ne.symm, Ne.symm⟩
    · have h3 : ¬ y.k = x.k := fun e => h2 e.symm
      simp only [h1, h2, h3, ne_eq, not_true_eq_false, if_false, Bool.or_comm]
  · have h3 : ¬ y.h = x.h := fun e => h1 e.symm
    simp only [h1, h3, ne_eq, not_false_eq_true, if_true]
def OkS (b : Option Str) : Prop := ∀ x, b = some x → PyData.strOk x = true
theorem okA : OkS (some "a") := fun x e => by
  cases e
  decide +kernel
theorem okB : OkS (some "b") := fun x e => by
  cases e
  decide +kernel
theorem okN : OkS none := fun x e => nomatch e
theorem pick5 {i : Int} (h0 : 0 ≤ i) (h5 : i < 5) : ∃ b : Option Str, atI [V.str "a", V.str "b", V.str "a", V.str "b", V.non] i = some (oS b) ∧ OkS b := by
  have h : i = 0 ∨ i = 1 ∨ i = 2 ∨ i = 3 ∨ i = 4 := by omega
  rcases h with rfl | rfl | rfl | rfl | rfl
  · exact ⟨some "a", rfl, okA⟩
  · exact ⟨some "b", rfl, okB⟩
  · exact ⟨some "a", rfl, okA⟩
  · exact ⟨some "b", rfl, okB⟩
  · exact ⟨none, rfl, okN⟩
def Sm.dat (m : Sm) : List PyData := match m.k with
  | .pre => [.str m.k.s, .int m.h, .int m.t, (match m.b with | none => .none | some x => .str x), (match m.l with | none => .none | some x => .int x)]
  | _ => [.str m.k.s, .int m.h, .int m.t, (match m.b with | none => .none | some x => .str x)]
theorem dp_oS {K : PySem.W.Frag} {H : Hp} (b : Option Str) : Dp K H (oS b) (match b with | none => .none | some x => .str x) := by
  cases b with
  | none => exact .non
  | some x => exact .str x
theorem dp_oI {K : PySem.W.Frag} {H : Hp} (b : Option Int) : Dp K H (oI b) (match b with | none => .none | some x => .int x) := by
  cases b with
  | none => exact .non
  | some x => exact .int x
theorem dp_sm {K : PySem.W.Frag} {H : Hp} {p : Addr} {m : Sm} (h : H p = some (.tup m.vals)) : Dp K H (.ref p) (.tuple m.dat) := by
  refine .tup (SqT.of h) ?_
  obtain ⟨mk, mh, mt, mb, ml⟩ := m
  cases mk
  · exact .cons (.str _) (.cons (.int _) (.cons (.int _) (.cons (dp_oS _) .nil)))
  · exact .cons (.str _) (.cons (.int _) (.cons (.int _) (.cons (dp_oS _) (.cons (dp_oI _) .nil))))
  · exact .cons (.str _) (.cons (.int _) (.cons (.int _) (.cons (dp_oS _) .nil)))
theorem ks_ok (k : Kd) : PyData.strOk k.s = true := by
  cases k <;> decide +kernel
theorem shaped_sm (m : Sm) (o : OkS m.b) : SeqAt.shaped (.tuple m.dat) = true := by
  obtain ⟨mk, mh, mt, mb, ml⟩ := m
  cases mk <;> cases mb <;> cases ml <;> simp [Sm.dat, SeqAt.shaped, PyData.canLay0, PyData.canLayAll0, PyData.depth, PyData.depthAll, ks_ok] <;> exact o _ rfl
theorem eqv_sm (m : Sm) (o : OkS m.b) : PyData.eqv (.tuple m.dat) (.tuple m.dat) = true := SeqAt.eqv_refl _ (by
  obtain ⟨mk, mh, mt, mb, ml⟩ := m
  cases mk <;> cases mb <;> cases ml <;> simp [Sm.dat, PyData.canLay0, PyData.canLayAll0, ks_ok] <;> exact o _ rfl)
def spVote (K : PySem.W.Frag) : Sp := fun vs H Q _ => ∃ (p : Addr) (m : Sm), vs = [.ref p] ∧ SmAt H p m ∧ ∀ H', Same H H' → Q (.bl (decide (m.k ≠ .prop))) H'
def spAband (K : PySem.W.Frag) : Sp := fun vs H Q _ => ∃ (p q : Addr) (m n : Sm), vs = [.ref p, .ref q] ∧ SmAt H p m ∧ SmAt H q n ∧ ∀ H', Same H H' → Q (.bl (abandM m n)) H'
def spClash (K : PySem.W.Frag) : Sp := fun vs H Q _ => ∃ (p q : Addr) (m n : Sm), vs = [.ref p, .ref q] ∧ SmAt H p m ∧ SmAt H q n ∧ ∀ H', Same H H' → Q (.bl (clashM m n)) H'

/-! ### letters, lists of letters, what is due -/
structure Lt where
  w : Int
  m : Sm
instance : Inhabited Lt := ⟨⟨0, ⟨.prop, 0, 0, none, none⟩⟩⟩
def LtAt (H : Hp) (p : Addr) (x : Lt) : Prop := ∃ q, H p = some (.tup [.int x.w, .ref q]) ∧ SmAt H q x.m
theorem LtAt.same {H H' : Hp} {p : Addr} {x : Lt} (h : LtAt H p x) (s : Same H H') : LtAt H' p x := by
  obtain ⟨q, h1, h2⟩ := h
  exact ⟨q, s _ _ h1, s _ _ h2⟩
theorem ne_lst {H : Hp} {p l : Addr} {xs ys : List V} (h : H p = some (.tup xs)) (hl : H l = some (.lst ys)) : p ≠ l := fun e => by
  rw [e, hl] at h
  cases h
theorem LtAt.upd {H : Hp} {p l : Addr} {x : Lt} {ys : List V} {o : HO} (h : LtAt H p x) (hl : H l = some (.lst ys)) : LtAt (upd H l o) p x := by
  obtain ⟨q, h1, h2⟩ := h
  have h2' : H q = some (.tup x.m.vals) := h2
  refine ⟨q, ?_, ?_⟩
  · rw [upd_ne (ne_lst h1 hl)]
    exact h1
  · unfold SmAt
    rw [upd_ne (ne_lst h2' hl)]
    exact h2
def LsAt (H : Hp) (ps : List Addr) (xs : List Lt) : Prop := ps.length = xs.length ∧ ∀ i, i < xs.length → LtAt H (ps.getD i 0) (xs.getD i default)
theorem LsAt.nil {H : Hp} : LsAt H [] [] := ⟨rfl, fun i h => absurd h (Nat.not_lt_zero i)⟩
theorem LsAt.same {H H' : Hp} {ps : List Addr} {xs : List Lt} (h : LsAt H ps xs) (s : Same H H') : LsAt H' ps xs := ⟨h.1, fun i hi => (h.2 i hi).same s⟩
theorem LsAt.upd {H : Hp} {ps : List Addr} {xs : List Lt} {l : Addr} {ys : List V} {o : HO} (h : LsAt H ps xs) (hl : H l = some (.lst ys)) : LsAt (upd H l o) ps xs := ⟨h.1, fun i hi => (h.2 i hi).upd hl⟩
theorem getD_left {α : Type} {d : α} {xs ys : List α} {i : Nat} (h : i < xs.length) : (xs ++ ys).getD i d = xs.getD i d := by
  rw [List.getD_eq_getElem?_getD, List.getD_eq_getElem?_getD, List.getElem?_append_left h]
theorem getD_last {α : Type} {d : α} {xs : List α} {x : α} : (xs ++ [x]).getD xs.length d = x := by
  rw [List.getD_eq_getElem?_getD, List.getElem?_append_right (Nat.le_refl _), Nat.sub_self]
  rfl
theorem LsAt.snoc {H : Hp} {ps : List Addr} {xs : List Lt} {p : Addr} {x : Lt} (h : LsAt H ps xs) (e : LtAt H p x) : LsAt H (ps ++ [p]) (xs ++ [x]) := by
  refine ⟨by rw [List.length_append, List.length_append, h.1]; rfl, fun i hi => ?_⟩
  rw [List.length_append, List.length_singleton] at hi
  rcases Nat.lt_or_ge i xs.length with z | z
  · rw [getD_left (by rw [h.1]; exact z), getD_left z]
    exact h.2 i z
  · have ei : i = xs.length := by omega
    subst ei
    rw [getD_last]
    have : (ps ++ [p]).getD xs.length 0 = p := by rw [← h.1, getD_last]
    rw [this]
    exact e
theorem at_refs {ps : List Addr} {i : Nat} (h : i < ps.length) : (ps.map V.ref)[i]? = some (.ref (ps.getD i 0)) := by
  rw [List.getElem?_map, List.getD_eq_getElem?_getD, List.getElem?_eq_getElem h]
  rfl
def ownOf (xs : List Lt) (who : Int) : List Lt := xs.filter fun x => decide (x.w = who)
theorem take_succ_getD {α : Type} {d : α} {xs : List α} {i : Nat} (h : i < xs.length) : xs.take (i + 1) = xs.take i ++ [xs.getD i d] := by
  rw [List.take_add_one, List.getElem?_eq_getElem h, List.getD_eq_getElem?_getD, List.getElem?_eq_getElem h]
  rfl
theorem own_yes {xs : List Lt} {who : Int} {i : Nat} (h : i < xs.length) (e : (xs.getD i default).w = who) : ownOf (xs.take (i + 1)) who = ownOf (xs.take i) who ++ [xs.getD i default] := by
  unfold ownOf
  rw [take_succ_getD (d := default) h, List.filter_append, List.filter_cons_of_pos (by exact decide_eq_true e)]
  rfl
theorem own_no {xs : List Lt} {who : Int} {i : Nat} (h : i < xs.length) (e : ¬ (xs.getD i default).w = who) : ownOf (xs.take (i + 1)) who = ownOf (xs.take i) who := by
  unfold ownOf
  rw [take_succ_getD (d := default) h, List.filter_append, List.filter_cons_of_neg (by simpa using e), List.filter_nil, List.append_nil]
theorem own_len (xs : List Lt) (who : Int) : (ownOf xs who).length ≤ xs.length := List.length_filter_le _ _
theorem own_mem {xs : List Lt} {who : Int} {x : Lt} (h : x ∈ ownOf xs who) : x ∈ xs ∧ x.w = who := by
  unfold ownOf at h
  rw [List.mem_filter] at h
  exact ⟨h.1, of_decide_eq_true h.2⟩
theorem getD_mem2 {α : Type} {d : α} {xs : List α} {i : Nat} (h : i < xs.length) : xs.getD i d ∈ xs := by
  rw [List.getD_eq_getElem?_getD, List.getElem?_eq_getElem h]
  exact List.getElem_mem h
/-- the first letter before place n with which the one at place a clashes -/
def rowDue (own : List Lt) (a : Nat) : Nat → Option (Lt × Lt)
  | 0 => none
  | n + 1 => match rowDue own a n with
    | some r => some r
    | none => if clashM (own.getD n default).m (own.getD a default).m then some (own.getD n default, own.getD a default) else none
def colDue (own : List Lt) : Nat → Option (Lt × Lt)
  | 0 => none
  | n + 1 => match colDue own n with
    | some r => some r
    | none => rowDue own n n
def due (own : List Lt) : Option (Lt × Lt) := colDue own own.length
theorem row_mono {own : List Lt} {a i : Nat} {r : Lt × Lt} (h : rowDue own a i = some r) : ∀ d, rowDue own a (i + d) = some r
  | 0 => h
  | d + 1 => by
    show rowDue own a (i + d + 1) = some r
    rw [rowDue, row_mono h d]
theorem col_mono {own : List Lt} {i : Nat} {r : Lt × Lt} (h : colDue own i = some r) : ∀ d, colDue own (i + d) = some r
  | 0 => h
  | d + 1 => by
    show colDue own (i + d + 1) = some r
    rw [colDue, col_mono h d]
theorem row_no {own : List Lt} {a n : Nat} (h : rowDue own a n = none) (c : clashM (own.getD n default).m (own.getD a default).m = false) : rowDue own a (n + 1) = none := by
  rw [rowDue, h]
  show (if _ then _ else _) = _
  rw [c]
  rfl
theorem due_at {own : List Lt} {a n : Nat} (ha : a < own.length) (hn : n < a) (hc : colDue own a = none) (h : rowDue own a n = none) (c : clashM (own.getD n default).m (own.getD a default).m = true) :
    due own = some (own.getD n default, own.getD a default) := by
  have h1 : rowDue own a (n + 1) = some (own.getD n default, own.getD a default) := by
    rw [rowDue, h]
    show (if _ then _ else _) = _
    rw [c]
    rfl
  have h2 : rowDue own a a = some (own.getD n default, own.getD a default) := by
    have := row_mono h1 (a - (n + 1))
    rwa [Nat.add_sub_cancel' hn] at this
  have h3 : colDue own (a + 1) = some (own.getD n default, own.getD a default) := by
    rw [colDue, hc]
    exact h2
  have := col_mono h3 (own.length - (a + 1))
  rw [Nat.add_sub_cancel' ha] at this
  exact this
theorem col_no {own : List Lt} {a : Nat} (hc : colDue own a = none) (h : rowDue own a a = none) : colDue own (a + 1) = none := by
  rw [colDue, hc]
  exact h
theorem row_ok {own : List Lt} {a : Nat} (ha : a < own.length) : ∀ n, n ≤ own.length → ∀ f s, rowDue own a n = some (f, s) → f ∈ own ∧ s ∈ own ∧ clashM f.m s.m = true
  | 0, _, f, s, h => nomatch h
  | n + 1, hn, f, s, h => by
    rw [rowDue] at h
    split at h
    · rename_i r e
      cases h
      exact row_ok ha n (Nat.le_of_lt hn) f s e
    · split at h
      · rename_i c
        cases h
        exact ⟨getD_mem2 hn, getD_mem2 ha, c⟩
      · cases h
theorem col_ok {own : List Lt} : ∀ n, n ≤ own.length → ∀ f s, colDue own n = some (f, s) → f ∈ own ∧ s ∈ own ∧ clashM f.m s.m = true
  | 0, _, f, s, h => nomatch h
  | n + 1, hn, f, s, h => by
    rw [colDue] at h
    split at h
    · rename_i r e
      cases h
      exact col_ok n (Nat.le_of_lt hn) f s e
    · exact row_ok hn n (Nat.le_of_lt hn) f s h
theorem due_ok {own : List Lt} {f s : Lt} (h : due own = some (f, s)) : f ∈ own ∧ s ∈ own ∧ clashM f.m s.m = true := col_ok _ (Nat.le_refl _) f s h
def DueAt (H : Hp) (v : V) : Option (Lt × Lt) → Prop
  | none => v = .non
  | some r => ∃ p a b, v = .ref p ∧ H p = some (.tup [.ref a, .ref b]) ∧ LtAt H a r.1 ∧ LtAt H b r.2
def OkL (xs : List Lt) : Prop := ∀ x ∈ xs, OkS x.m.b
def Lt.dat (x : Lt) : PyData := .tuple [.int x.w, .tuple x.m.dat]
theorem dp_lt {K : PySem.W.Frag} {H : Hp} {p : Addr} {x : Lt} (h : LtAt H p x) : Dp K H (.ref p) x.dat := by
  obtain ⟨q, h1, h2⟩ := h
  exact .tup (SqT.of h1) (.cons (.int _) (.cons (dp_sm h2) .nil))
theorem lay_sm (m : Sm) (o : OkS m.b) : PyData.canLay0 (.tuple m.dat) = true := by
  have h := shaped_sm m o
  exact (Bool.and_eq_true_iff.mp h).1
theorem depth_sm (m : Sm) : PyData.depth (.tuple m.dat) = 1 := by
  obtain ⟨mk, mh, mt, mb, ml⟩ := m
  cases mk <;> cases mb <;> cases ml <;> simp [Sm.dat, PyData.depth, PyData.depthAll]
theorem lay_lt {x : Lt} (o : OkS x.m.b) : PyData.canLay0 x.dat = true := by
  simp only [Lt.dat, PyData.canLay0, PyData.canLayAll0, Bool.true_and, Bool.and_true]
  exact lay_sm x.m o
theorem depth_lt (x : Lt) : PyData.depth x.dat = 2 := by
  have h := depth_sm x.m
  simp only [Lt.dat, PyData.depth, PyData.depthAll] at h ⊢
  omega
theorem shaped_lt {x : Lt} (o : OkS x.m.b) : SeqAt.shaped x.dat = true := by
  unfold SeqAt.shaped
  rw [lay_lt o, depth_lt]
  rfl
theorem eqv_lt {x : Lt} (o : OkS x.m.b) : PyData.eqv x.dat x.dat = true := SeqAt.eqv_refl _ (lay_lt o)
theorem LsAt.cons {H : Hp} {p : Addr} {ps : List Addr} {x : Lt} {xs : List Lt} (h : LsAt H (p :: ps) (x :: xs)) : LtAt H p x ∧ LsAt H ps xs :=
  ⟨h.2 0 (Nat.succ_pos _), Nat.succ.inj h.1, fun i hi => h.2 (i + 1) (Nat.succ_lt_succ hi)⟩
theorem dp_lts {K : PySem.W.Frag} {H : Hp} : ∀ {ps : List Addr} {xs : List Lt}, LsAt H ps xs → DpAll K H (ps.map V.ref) (xs.map Lt.dat)
  | [], [], _ => .nil
  | p :: ps, x :: xs, h => .cons (dp_lt h.cons.1) (dp_lts h.cons.2)
  | [], x :: xs, h => nomatch h.1
  | p :: ps, [], h => nomatch h.1
theorem lay_lts : ∀ {xs : List Lt}, OkL xs → PyData.canLayAll0 (xs.map Lt.dat) = true
  | [], _ => by simp [PyData.canLayAll0]
  | x :: xs, o => by
    simp only [List.map_cons, PyData.canLayAll0]
    rw [lay_lt (o x List.mem_cons_self), lay_lts fun y hy => o y (List.mem_cons_of_mem _ hy)]
    rfl
theorem depth_lts : ∀ xs : List Lt, PyData.depthAll (xs.map Lt.dat) ≤ 2
  | [] => by simp [PyData.depthAll]
  | x :: xs => by
    have := depth_lts xs
    have := depth_lt x
    simp only [List.map_cons, PyData.depthAll]
    omega
theorem shaped_lts {xs : List Lt} (o : OkL xs) : SeqAt.shaped (.list (xs.map Lt.dat)) = true := by
  have h := depth_lts xs
  unfold SeqAt.shaped
  have e : PyData.depth (.list (xs.map Lt.dat)) = PyData.depthAll (xs.map Lt.dat) + 1 := by simp only [PyData.depth]
  have l : PyData.canLay0 (.list (xs.map Lt.dat)) = true := by simp only [PyData.canLay0, lay_lts o]
  rw [l, e, decide_eq_true (show PyData.depthAll (xs.map Lt.dat) + 1 ≤ 64 by omega)]
  rfl
theorem eqv_lts {xs : List Lt} (o : OkL xs) : PyData.eqv (.list (xs.map Lt.dat)) (.list (xs.map Lt.dat)) = true := SeqAt.eqv_refl _ (by
  simp only [PyData.canLay0, lay_lts o])

/-! ### certificates, turn by turn -/
def qrm (ws ms : List Int) : Bool := decide (2 * ws.sum < 3 * wOf ws ms)
def cnt (h t : Int) (b : Option Str) (L : List Int) (x : Lt) : Bool := decide (x.m.k = .pre ∧ x.m.h = h ∧ x.m.t = t ∧ x.m.b = b) && (match x.m.l with | none => true | some l => decide (l ∈ L) && decide (l < t))
def memM (xs : List Lt) (h t : Int) (b : Option Str) (L : List Int) : List Int := (xs.filter (cnt h t b L)).map Lt.w
/-- the turns below n with a certificate -/
def lns (ws : List Int) (xs : List Lt) (h : Int) (b : Option Str) : Nat → List Int
  | 0 => []
  | n + 1 => if qrm ws (memM xs h n b (lns ws xs h b n)) then lns ws xs h b n ++ [(n : Int)] else lns ws xs h b n
def certM (ws : List Int) (xs : List Lt) (h : Int) (b : Option Str) (n : Nat) : Bool := qrm ws (memM xs h n b (lns ws xs h b n))
def comS (xs : List Lt) (h t : Int) (b : Option Str) : List Int := (xs.filter fun x => decide (x.m.k = .com ∧ x.m.h = h ∧ x.m.t = t ∧ x.m.b = b)).map Lt.w
def commM (ws : List Int) (xs : List Lt) (h : Int) (b : Option Str) (n : Nat) : Bool := qrm ws (comS xs h n b) && certM ws xs h b n
theorem lns_len (ws : List Int) (xs : List Lt) (h : Int) (b : Option Str) : ∀ n, (lns ws xs h b n).length ≤ n
  | 0 => Nat.le_refl _
  | n + 1 => by
    have := lns_len ws xs h b n
    rw [lns]
    split
    · rw [List.length_append, List.length_singleton]
      omega
    · omega
theorem mem_yes {xs : List Lt} {h t : Int} {b : Option Str} {L : List Int} {i : Nat} (hi : i < xs.length) (c : cnt h t b L (xs.getD i default) = true) : memM (xs.take (i + 1)) h t b L = memM (xs.take i) h t b L ++ [(xs.getD i default).w] := by
  unfold memM
  rw [take_succ_getD (d := default) hi, List.filter_append, List.filter_cons_of_pos c, List.map_append]
  rfl
theorem mem_no {xs : List Lt} {h t : Int} {b : Option Str} {L : List Int} {i : Nat} (hi : i < xs.length) (c : cnt h t b L (xs.getD i default) = false) : memM (xs.take (i + 1)) h t b L = memM (xs.take i) h t b L := by
  unfold memM
  rw [take_succ_getD (d := default) hi, List.filter_append, List.filter_cons_of_neg (by rw [c]; exact Bool.false_ne_true), List.filter_nil, List.append_nil]
theorem mem_len (xs : List Lt) (h t : Int) (b : Option Str) (L : List Int) : (memM xs h t b L).length ≤ xs.length := by
  unfold memM
  rw [List.length_map]
  exact List.length_filter_le _ _
theorem com_yes {xs : List Lt} {h t : Int} {b : Option Str} {i : Nat} (hi : i < xs.length) (c : (xs.getD i default).m.k = .com ∧ (xs.getD i default).m.h = h ∧ (xs.getD i default).m.t = t ∧ (xs.getD i default).m.b = b) : comS (xs.take (i + 1)) h t b = comS (xs.take i) h t b ++ [(xs.getD i default).w] := by
  unfold comS
  rw [take_succ_getD (d := default) hi, List.filter_append, List.filter_cons_of_pos (by exact decide_eq_true c), List.map_append]
  rfl
theorem com_no {xs : List Lt} {h t : Int} {b : Option Str} {i : Nat} (hi : i < xs.length) (c : ¬ ((xs.getD i default).m.k = .com ∧ (xs.getD i default).m.h = h ∧ (xs.getD i default).m.t = t ∧ (xs.getD i default).m.b = b)) : comS (xs.take (i + 1)) h t b = comS (xs.take i) h t b := by
  unfold comS
  rw [take_succ_getD (d := default) hi, List.filter_append, List.filter_cons_of_neg (by rw [decide_eq_false c]; exact Bool.false_ne_true), List.filter_nil, List.append_nil]
theorem com_len (xs : List Lt) (h t : Int) (b : Option Str) : (comS xs h t b).length ≤ xs.length := by
  unfold comS
  rw [List.length_map]
  exact List.length_filter_le _ _
/-- a list of turns behind None -/
def lnV (L : List Int) : List V := .non :: L.map V.int
theorem flat_lnV (L : List Int) : (lnV L).all flatV = true := by
  unfold lnV
  rw [List.all_cons, flat_ints]
  rfl
theorem inV_lnV (l : Option Int) (L : List Int) : inV (oI l) (lnV L) = (match l with | none => true | some i => decide (i ∈ L)) := by
  cases l with
  | none => rfl
  | some i =>
    show (eqV .non (.int i) || inV (.int i) (L.map V.int)) = _
    rw [inV_ints]
    rfl
theorem cnt_f {h t : Int} {b : Option Str} {L : List Int} {x : Lt} (c : ¬ (x.m.k = .pre ∧ x.m.h = h ∧ x.m.t = t ∧ x.m.b = b)) : cnt h t b L x = false := by
  unfold cnt
  rw [decide_eq_false c]
  rfl
theorem cnt_t {h t : Int} {b : Option Str} {L : List Int} {x : Lt} (c : x.m.k = .pre ∧ x.m.h = h ∧ x.m.t = t ∧ x.m.b = b) : cnt h t b L x = (match x.m.l with | none => true | some l => decide (l ∈ L) && decide (l < t)) := by
  unfold cnt
  rw [decide_eq_true c]
  rfl
theorem flat_oI (l : Option Int) : flatV (oI l) = true := by
  cases l <;> rfl
theorem lnV_snoc (L : List Int) (i : Int) : lnV (L ++ [i]) = lnV L ++ [.int i] := by simp [lnV]
theorem lns_yes {ws : List Int} {xs : List Lt} {h : Int} {b : Option Str} {n : Nat} (c : certM ws xs h b n = true) : lns ws xs h b (n + 1) = lns ws xs h b n ++ [(n : Int)] := by
  rw [lns]
  exact if_pos c
theorem lns_no {ws : List Int} {xs : List Lt} {h : Int} {b : Option Str} {n : Nat} (c : ¬ certM ws xs h b n = true) : lns ws xs h b (n + 1) = lns ws xs h b n := by
  rw [lns]
  exact if_neg c
/-- == with a precommit -/
theorem eqv_com (m : Sm) (h t : Int) (b : Option Str) : PyData.eqv (.tuple m.dat) (.tuple (Sm.dat ⟨.com, h, t, b, none⟩)) = decide (m.k = .com ∧ m.h = h ∧ m.t = t ∧ m.b = b) := by
  obtain ⟨mk, mh, mt, mb, ml⟩ := m
  rw [Bool.eq_iff_iff, decide_eq_true_iff]
  have ks : ∀ x y : Kd, (x.s == y.s) = decide (x = y) := fun x y => by
    rw [Bool.eq_iff_iff, beq_iff_eq, decide_eq_true_iff]
    exact kd_inj x y
  have kp : (Kd.prop.s == Kd.com.s) = false := by
    rw [ks]
    decide
  have kv : (Kd.pre.s == Kd.com.s) = false := by
    rw [ks]
    decide
  cases mk
  · simp only [Sm.dat, PyData.eqv, PyData.eqvAll, kp, Bool.false_and, Bool.false_eq_true, false_iff, not_and]
    intro z
    cases z
  · simp only [Sm.dat, PyData.eqv, PyData.eqvAll, kv, Bool.false_and, Bool.false_eq_true, false_iff, not_and]
    intro z
    cases z
  · cases mb <;> cases b <;> simp [Sm.dat, PyData.eqv, PyData.eqvAll]

/-- the members below n against whom something is due -/
def fnd (xs : List Lt) : Nat → List Int
  | 0 => []
  | n + 1 => if (due (ownOf xs (n : Int))).isSome then fnd xs n ++ [(n : Int)] else fnd xs n
theorem fnd_len (xs : List Lt) : ∀ n, (fnd xs n).length ≤ n
  | 0 => Nat.le_refl _
  | n + 1 => by
    have := fnd_len xs n
    rw [fnd]
    split
    · rw [List.length_append, List.length_singleton]
      omega
    · omega
theorem fnd_due (xs : List Lt) : ∀ n, ∀ w ∈ fnd xs n, 0 ≤ w ∧ w < n ∧ (due (ownOf xs w)).isSome = true
  | 0, w, h => nomatch h
  | n + 1, w, h => by
    rw [fnd] at h
    split at h
    · rename_i c
      rcases List.mem_append.mp h with h | h
      · have := fnd_due xs n w h
        exact ⟨this.1, by omega, this.2.2⟩
      · rw [List.mem_singleton.mp h]
        exact ⟨by omega, by omega, c⟩
    · have := fnd_due xs n w h
      exact ⟨this.1, by omega, this.2.2⟩
theorem fnd_nodup (xs : List Lt) : ∀ n, (fnd xs n).Nodup
  | 0 => List.nodup_nil
  | n + 1 => by
    have ih := fnd_nodup xs n
    rw [fnd]
    split
    · refine List.nodup_append.mpr ⟨ih, List.nodup_cons.mpr ⟨fun h => (nomatch h), List.nodup_nil⟩, fun a ha b hb e => ?_⟩
      rw [List.mem_singleton.mp hb] at e
      have := fnd_due xs n a ha
      omega
    · exact ih
theorem nodup_take {F : List Int} (nd : F.Nodup) {i : Nat} (hi : i < F.length) : F.getD i 0 ∉ F.take i := fun h => by
  have e := take_succ_getD (d := 0) hi
  have nd2 : (F.take (i + 1)).Nodup := nd.sublist (List.take_sublist _ _)
  rw [e, List.nodup_append] at nd2
  exact nd2.2.2 _ h _ (List.mem_singleton.mpr rfl) rfl
theorem any_lt {xs : List Lt} {x : Lt} (h : x ∈ xs) (o : OkS x.m.b) : ((xs.map Lt.dat).any fun z => PyData.eqv z x.dat) = true := List.any_eq_true.mpr ⟨x.dat, List.mem_map.mpr ⟨x, h, rfl⟩, eqv_lt o⟩

/-! ### two commits of different blocks: who is named weighs more than a third -/
theorem row_all {own : List Lt} {a : Nat} : ∀ n, rowDue own a n = none → ∀ k, k < n → clashM (own.getD k default).m (own.getD a default).m = false
  | 0, _, k, hk => absurd hk (Nat.not_lt_zero k)
  | n + 1, h, k, hk => by
    rw [rowDue] at h
    cases e : rowDue own a n with
    | some r =>
      rw [e] at h
      cases h
    | none =>
      rw [e] at h
      rcases Nat.lt_or_ge k n with z | z
      · exact row_all n e k z
      · have ek : k = n := by omega
        subst ek
        cases c : clashM (own.getD k default).m (own.getD a default).m with
        | false => rfl
        | true =>
          have h' : (if clashM (own.getD k default).m (own.getD a default).m = true then some (own.getD k default, own.getD a default) else none) = none := h
          rw [c] at h'
          cases h'
theorem col_all {own : List Lt} : ∀ n, colDue own n = none → ∀ a k, a < n → k < a → clashM (own.getD k default).m (own.getD a default).m = false
  | 0, _, a, k, ha, _ => absurd ha (Nat.not_lt_zero a)
  | n + 1, h, a, k, ha, hk => by
    rw [colDue] at h
    cases e : colDue own n with
    | some r =>
      rw [e] at h
      cases h
    | none =>
      rw [e] at h
      rcases Nat.lt_or_ge a n with z | z
      · exact col_all n e a k z hk
      · have ea : a = n := by omega
        subst ea
        exact row_all a h k hk
theorem clash_irr (m : Sm) : clashM m m = false := by
  unfold clashM
  simp
theorem due_some {own : List Lt} {x y : Lt} (hx : x ∈ own) (hy : y ∈ own) (c : clashM x.m y.m = true) : (due own).isSome = true := by
  cases e : due own with
  | some r => rfl
  | none =>
    exfalso
    obtain ⟨i, hi, rfl⟩ := List.getElem_of_mem hx
    obtain ⟨j, hj, rfl⟩ := List.getElem_of_mem hy
    have gi : own.getD i default = own[i] := by
      rw [List.getD_eq_getElem?_getD, List.getElem?_eq_getElem hi]
      rfl
    have gj : own.getD j default = own[j] := by
      rw [List.getD_eq_getElem?_getD, List.getElem?_eq_getElem hj]
      rfl
    rcases Nat.lt_trichotomy i j with z | z | z
    · have := col_all own.length e j i hj z
      rw [gi, gj, c] at this
      cases this
    · subst z
      rw [clash_irr] at c
      cases c
    · have := col_all own.length e i j hi z
      rw [gi, gj, clashM_comm, c] at this
      cases this
theorem mem_fnd {xs : List Lt} {k : Nat} (d : (due (ownOf xs (k : Int))).isSome = true) : ∀ n, k < n → (k : Int) ∈ fnd xs n
  | 0, h => absurd h (Nat.not_lt_zero k)
  | n + 1, h => by
    rw [fnd]
    rcases Nat.lt_or_ge k n with z | z
    · have ih := mem_fnd d n z
      split
      · exact List.mem_append_left _ ih
      · exact ih
    · have e : k = n := by omega
      subst e
      rw [if_pos d]
      exact List.mem_append_right _ (List.mem_singleton.mpr rfl)
theorem wt_mono (ws : List Int) (f g : Int → Bool) (pos : ∀ k : Nat, 0 ≤ ws.getD k 0) : ∀ n, (∀ k : Nat, k < n → f k = true → g k = true) → wt ws f n ≤ wt ws g n
  | 0, _ => Int.le_refl _
  | n + 1, h => by
    have ih := wt_mono ws f g pos n fun k hk => h k (Nat.lt_succ_of_lt hk)
    have p := pos n
    have hn := h n (Nat.lt_succ_self n)
    rw [wt_succ, wt_succ]
    cases ef : f (n : Int)
    · cases eg : g (n : Int)
      · simp only [Bool.false_eq_true, if_false]
        omega
      · simp only [Bool.false_eq_true, if_false, if_true]
        omega
    · rw [hn ef]
      simp only [if_true]
      omega
theorem common_third {ws ms1 ms2 : List Int} {xs : List Lt} (pos : ∀ k : Nat, 0 ≤ ws.getD k 0) (q1 : qrm ws ms1 = true) (q2 : qrm ws ms2 = true) (h : ∀ k : Nat, (k : Int) ∈ ms1 → (k : Int) ∈ ms2 → (due (ownOf xs (k : Int))).isSome = true) : ws.sum < 3 * wOf ws (fnd xs ws.length) := by
  have c := wOf_common ws ms1 ms2 pos
  have m : wOf ws (ms1.filter fun k => decide (k ∈ ms2)) ≤ wOf ws (fnd xs ws.length) := by
    unfold wOf
    refine wt_mono ws _ _ pos _ fun k hk hf => ?_
    have hm := of_decide_eq_true hf
    rw [List.mem_filter] at hm
    exact decide_eq_true (mem_fnd (h k hm.1 (of_decide_eq_true hm.2)) _ hk)
  have d1 := of_decide_eq_true q1
  have d2 := of_decide_eq_true q2
  omega
theorem mem_memM {xs : List Lt} {h t : Int} {b : Option Str} {L : List Int} {k : Int} (hk : k ∈ memM xs h t b L) : ∃ x ∈ xs, x.w = k ∧ x.m.k = .pre ∧ x.m.h = h ∧ x.m.t = t ∧ x.m.b = b ∧ (x.m.l = none ∨ ∃ l, x.m.l = some l ∧ l ∈ L ∧ l < t) := by
  unfold memM at hk
  obtain ⟨x, hx, e⟩ := List.mem_map.mp hk
  rw [List.mem_filter] at hx
  obtain ⟨hx, c⟩ := hx
  unfold cnt at c
  obtain ⟨c1, c2⟩ := Bool.and_eq_true_iff.mp c
  obtain ⟨a1, a2, a3, a4⟩ := of_decide_eq_true c1
  refine ⟨x, hx, e, a1, a2, a3, a4, ?_⟩
  cases el : x.m.l with
  | none => exact .inl rfl
  | some l =>
    rw [el] at c2
    obtain ⟨c3, c4⟩ := Bool.and_eq_true_iff.mp c2
    exact .inr ⟨l, rfl, of_decide_eq_true c3, of_decide_eq_true c4⟩
theorem mem_comS {xs : List Lt} {h t : Int} {b : Option Str} {k : Int} (hk : k ∈ comS xs h t b) : ∃ x ∈ xs, x.w = k ∧ x.m.k = .com ∧ x.m.h = h ∧ x.m.t = t ∧ x.m.b = b := by
  unfold comS at hk
  obtain ⟨x, hx, e⟩ := List.mem_map.mp hk
  rw [List.mem_filter] at hx
  obtain ⟨a1, a2, a3, a4⟩ := of_decide_eq_true hx.2
  exact ⟨x, hx.1, e, a1, a2, a3, a4⟩
theorem mem_lns {ws : List Int} {xs : List Lt} {h : Int} {b : Option Str} {l : Int} : ∀ n, l ∈ lns ws xs h b n → ∃ k : Nat, l = (k : Int) ∧ k < n ∧ certM ws xs h b k = true
  | 0, hl => nomatch hl
  | n + 1, hl => by
    rw [lns] at hl
    split at hl
    · rename_i c
      rcases List.mem_append.mp hl with hl | hl
      · obtain ⟨k, e, hk, hc⟩ := mem_lns n hl
        exact ⟨k, e, Nat.lt_succ_of_lt hk, hc⟩
      · exact ⟨n, List.mem_singleton.mp hl, Nat.lt_succ_self n, c⟩
    · obtain ⟨k, e, hk, hc⟩ := mem_lns n hl
      exact ⟨k, e, Nat.lt_succ_of_lt hk, hc⟩
theorem own_in {xs : List Lt} {x : Lt} {k : Int} (h : x ∈ xs) (e : x.w = k) : x ∈ ownOf xs k := by
  unfold ownOf
  rw [List.mem_filter]
  exact ⟨h, decide_eq_true e⟩
/-- a commit of one block and a certificate of another one in the same or a later turn -/
theorem safe_up {ws : List Int} {xs : List Lt} {h : Int} {a b : Str} (pos : ∀ k : Nat, 0 ≤ ws.getD k 0) (ne : a ≠ b) {t : Nat} (ca : commM ws xs h (some a) t = true) : ∀ n u : Nat, u ≤ n → t ≤ u → certM ws xs h (some b) u = true → ws.sum < 3 * wOf ws (fnd xs ws.length)
  | n, u, hn, htu, cb => by
    obtain ⟨qa, cta⟩ := Bool.and_eq_true_iff.mp ca
    rcases Nat.lt_or_ge t u with z | z
    · by_cases ex : ∃ v : Nat, t ≤ v ∧ v < u ∧ certM ws xs h (some b) v = true
      · obtain ⟨v, h1, h2, h3⟩ := ex
        exact safe_up pos ne ca (n - 1) v (by omega) h1 h3
      · refine common_third pos qa cb fun k k1 k2 => ?_
        obtain ⟨x, hx, ew, ek, eh, et, eb⟩ := mem_comS k1
        obtain ⟨y, hy, fw, fk, fh, ft, fb, fl⟩ := mem_memM k2
        refine due_some (own_in hx ew) (own_in hy fw) ?_
        have ab : abandM x.m y.m = true := by
          unfold abandM
          rw [if_pos ⟨ek, fk, by rw [eb]; exact fun z => (nomatch z), by rw [fb]; exact fun z => (nomatch z), by rw [eb, fb]; exact fun z => ne (Option.some.inj z), by rw [et, ft]; omega⟩]
          rcases fl with fl | ⟨l0, fl, hl, _⟩
          · rw [fl]
          · rw [fl]
            obtain ⟨v, rfl, hv, cv⟩ := mem_lns u hl
            refine decide_eq_true ?_
            rw [et]
            rcases Nat.lt_or_ge v t with w | w
            · omega
            · exact absurd ⟨v, w, hv, cv⟩ ex
        unfold clashM
        rw [if_neg (by rw [eh, fh]; exact fun z => z rfl), if_neg (by rw [ek, fk]; exact fun z => (nomatch z)), ab]
        rfl
    · have e : u = t := by omega
      subst e
      refine common_third pos cta cb fun k k1 k2 => ?_
      obtain ⟨x, hx, ew, ek, eh, et, eb, _⟩ := mem_memM k1
      obtain ⟨y, hy, fw, fk, fh, ft, fb, _⟩ := mem_memM k2
      refine due_some (own_in hx ew) (own_in hy fw) ?_
      unfold clashM
      rw [if_neg (by rw [eh, fh]; exact fun z => z rfl), if_pos (by rw [ek, fk]), decide_eq_true (show x.m.k ≠ .prop by rw [ek]; exact fun z => (nomatch z)), decide_eq_true (show x.m.t = y.m.t by rw [et, ft]), decide_eq_true (show x.m.b ≠ y.m.b by rw [eb, fb]; exact fun z => ne (Option.some.inj z))]
      rfl
  termination_by n => n
  decreasing_by omega
theorem safety {ws : List Int} {xs : List Lt} {h : Int} {a b : Str} (pos : ∀ k : Nat, 0 ≤ ws.getD k 0) (ne : a ≠ b) {t u : Nat} (ca : commM ws xs h (some a) t = true) (cb : commM ws xs h (some b) u = true) : ws.sum < 3 * wOf ws (fnd xs ws.length) := by
  rcases Nat.le_total t u with z | z
  · exact safe_up pos ne ca u u (Nat.le_refl _) z (Bool.and_eq_true_iff.mp cb).2
  · exact safe_up pos (fun e => ne e.symm) cb t t (Nat.le_refl _) z (Bool.and_eq_true_iff.mp ca).2

/-! ### x in a dict of the module, x a text -/
section
open PyProof.Rows
/-- b: whether the dict has the key -/
def KHas (K : PySem.W.Frag) (w : World) (a : Addr) (x : Str) (b : Bool) : Prop := ∃ es n r, K.lookup a = some ⟨.type "dict", none, .dict es n, #[]⟩ ∧ PySem.W.KeysLit w.params es.toList ∧ (a == sysModules) = false ∧ PySem.W.nsIn K a x = some r ∧ b = r.isSome
theorem op_inKd {X : Cx} : OpR X (compareOp .In) (fun x y H Q => ∃ p z b, x = .str z ∧ y = .ref p ∧ KHas X.K X.w p z b ∧ Q (.bl b) H) := by
  intro pins s σ H x y v u Q I rx ry h
  obtain ⟨p, z, b, rfl, rfl, ⟨es, n, r, hl, hk, low, e, rfl⟩, q⟩ := h
  obtain ⟨t, rfl⟩ := rx
  obtain rfl : u = Value.ref p := ry
  refine wpAny_in_of (strKind_is X.prog X.w z t) low (PySem.W.mapOf_K (prog := X.prog) (w := X.w) I.kIn hl hk) ?_
  rw [PySem.W.find_K hl e]
  exact ⟨.bl _, H, I.tok _, rfl, q⟩
theorem op_notInKd {X : Cx} : OpR X (compareOp .NotIn) (fun x y H Q => ∃ p z b, x = .str z ∧ y = .ref p ∧ KHas X.K X.w p z b ∧ Q (.bl (!b)) H) := by
  intro pins s σ H x y v u Q I rx ry h
  obtain ⟨p, z, b, rfl, rfl, ⟨es, n, r, hl, hk, low, e, rfl⟩, q⟩ := h
  obtain ⟨t, rfl⟩ := rx
  obtain rfl : u = Value.ref p := ry
  refine wpAny_notIn_of (strKind_is X.prog X.w z t) low (PySem.W.mapOf_K (prog := X.prog) (w := X.w) I.kIn hl hk) ?_
  rw [PySem.W.find_K hl e]
  exact ⟨.bl _, H, I.tok _, rfl, q⟩
end
section
open PyProof.Rows
theorem nsIn_dict {K : PySem.W.Frag} {P : Params} {a : Addr} {es : Array DictEntry} {n : Nat} (hl : K.lookup a = some ⟨.type "dict", none, .dict es n, #[]⟩) (hk : PySem.W.KeysLit P es.toList) (x : Str) :
    PySem.W.nsIn K a x = some ((es.toList.find? fun d => d.key.isStr x).map (·.val)) := by
  unfold PySem.W.nsIn
  rw [hl]
  cases e : es.toList.find? fun d => d.key.isStr x with
  | some d => simp [e]
  | none =>
    have nr : (es.toList.any fun d => d.refKey) = false := by
      rw [List.any_eq_false]
      intro d hd
      obtain ⟨y, t, e1, _⟩ := hk.all d hd
      unfold DictEntry.refKey
      rw [e1]
      simp
    simp [e, nr]
/-- a dict of the module: its keys, texts, and what stands there -/
structure KTab (K : PySem.W.Frag) (w : World) (a : Addr) (kvs : List (Str × Addr)) : Prop where
  at_ : ∃ es n, K.lookup a = some ⟨.type "dict", none, .dict es n, #[]⟩ ∧ PySem.W.KeysLit w.params es.toList ∧ ∀ x : Str, (es.toList.find? fun d => d.key.isStr x).map (·.val) = (kvs.lookup x).map Value.ref
  low : (a == sysModules) = false
theorem KTab.has {K : PySem.W.Frag} {w : World} {a : Addr} {kvs : List (Str × Addr)} (h : KTab K w a kvs) (x : Str) : KHas K w a x (kvs.lookup x).isSome := by
  obtain ⟨es, n, hl, hk, e⟩ := h.at_
  refine ⟨es, n, _, hl, hk, h.low, nsIn_dict hl hk x, ?_⟩
  rw [e]
  cases kvs.lookup x <;> rfl
theorem KTab.get {K : PySem.W.Frag} {w : World} {a : Addr} {kvs : List (Str × Addr)} (h : KTab K w a kvs) {x : Str} {b : Addr} (hx : kvs.lookup x = some b) : KDct K w a x (.ref b) := by
  obtain ⟨es, n, hl, hk, e⟩ := h.at_
  have q := nsIn_dict hl hk x
  rw [e, hx] at q
  exact ⟨es, n, _, hl, hk, q, rfl⟩
theorem isStr_eq {x y : Str} {t : Tok} : (Value.str y t).isStr x = decide (x = y) := by
  show (y == x) = _
  by_cases h : x = y
  · rw [h, decide_eq_true rfl, beq_self_eq_true]
  · rw [decide_eq_false h, beq_eq_false_iff_ne.mpr fun e => h e.symm]
def TabEs : List DictEntry → List (Str × Addr) → Prop
  | [], [] => True
  | d :: l, kv :: r => (∃ t, d.key = .str kv.1 t ∧ d.val = .ref kv.2) ∧ TabEs l r
  | _, _ => False
theorem find_tab (x : Str) : ∀ {l : List DictEntry} {kvs : List (Str × Addr)}, TabEs l kvs → (l.find? fun d => d.key.isStr x).map (·.val) = (kvs.lookup x).map Value.ref
  | [], [], _ => rfl
  | d :: l, (k, b) :: r, h => by
    obtain ⟨⟨t, e1, e2⟩, hr⟩ := h
    have ih := find_tab x hr
    by_cases c : x = k
    · have c1 : d.key.isStr x = true := by rw [e1, isStr_eq, decide_eq_true c]
      rw [List.find?_cons_of_pos (p := fun d : DictEntry => d.key.isStr x) c1, c]
      simp [List.lookup, e2]
    · have c1 : ¬ d.key.isStr x = true := by rw [e1, isStr_eq, decide_eq_false c]; exact Bool.false_ne_true
      rw [List.find?_cons_of_neg (p := fun d : DictEntry => d.key.isStr x) c1, ih]
      have c2 : (x == k) = false := beq_eq_false_iff_ne.mpr c
      simp [List.lookup, c2]
theorem ktab_mk {K : PySem.W.Frag} {w : World} {a : Addr} {es : Array DictEntry} {n : Nat} {kvs : List (Str × Addr)} (hl : K.lookup a = some ⟨.type "dict", none, .dict es n, #[]⟩) (hk : PySem.W.KeysLit w.params es.toList) (low : (a == sysModules) = false) (he : TabEs es.toList kvs) : KTab K w a kvs :=
  ⟨⟨es, n, hl, hk, fun x => find_tab x he⟩, low⟩
end

/-! ### own errors without an own __init__: caught, asked -/
structure XcC (K : PySem.W.Frag) (D : Addr) : Prop where
  cl : (PySem.W.clsIn K D).isSome = true
  ga : PySem.W.findIn K (.ref D) "__getattribute__" = some (some (.builtin "BaseException.__getattribute__"))
  gt : PySem.W.findIn K (.ref D) "__getattr__" = some Option.none
  sub : PySem.W.subIn K (.ref D) (.type "BaseException") = some true
  has : PySem.W.hasDictIn K D = true
  cls : PySem.W.findIn K (.ref D) "__class__" = some (some (.builtin "object.__class__"))
  get : PySem.W.specialIn K (.builtin "object.__class__") "__get__" = some (some (.builtin "getset_descriptor.__get__"))
  tk : PySem.W.takesIn K (.builtin "object.__class__") = some true
  obj : PySem.W.mroIn K D (.type "object") = some true
def rIsN (K : PySem.W.Frag) (a : Addr) (cls : Value) (d : Option Addr) : List V → Hp → VK → Prop := fun xs H Q => ∃ (D : Addr) (c : V) (cv : Value) (b : Bool), xs = [.ref a, c] ∧ cls = .ref D ∧ d = Option.none ∧ XcC K D ∧ ClsV c cv ∧ PySem.W.kitOne K (.ref D) cv = some b ∧ Q (.bl b) H
theorem call_isN {X : Cx} {a : Addr} {cls : Value} {d : Option Addr} {oe : Obj} {pn : List (Addr × Obj)} (hz : Zc cls d oe) (hf : ∃ vs, oe.data = .fields vs) : CallR (X.suite a ((a, oe) :: pn)) (.builtin "isinstance") (rIsN X.K a cls d) := by
  intro pins sh σ H xs us Q I rel hyp
  obtain ⟨D, c, cv, b, rfl, rfl, rfl, C, hcv, e, q⟩ := hyp
  obtain ⟨u1, u2, rfl, r1, r2⟩ := vals2 rel
  have e2 := hcv.eq r2
  subst e2
  cases r1
  obtain ⟨got, _⟩ := I.pin (a, oe) (List.mem_append_left _ List.mem_cons_self)
  obtain ⟨vs, hv⟩ := hf
  have J : PySem.W.InstAt sh.heap a oe D Option.none := by
    obtain ⟨oc, odd, oda, osl⟩ := oe
    obtain ⟨h1, h2⟩ := hz
    dsimp only at h1 h2 hv
    subst h1 h2 hv
    exact ⟨got, rfl, rfl, trivial⟩
  exact PySem.W.kia_one (PySem.W.kitx_exc C.cl C.ga C.gt C.sub C.cls C.get C.tk C.obj) I.kIn J e (fun z => nomatch z) fun tk => ⟨.bl b, H, I.kept (t' := tk) fun _ _ z => z, rfl, q⟩

/-- e.f where the written part is told -/
theorem pe_fldK {X : Cx} {K : PySem.W.Frag} {e : Expr} {f : Str} {ta : TE} {pos : Pos} (hK : X.K = K) (he : PE X e ta) (hb : attributeBase e f X.env (eval e X.env) = eval e X.env) : PE X (.Attribute e f pos) (tFld K ta f) := by
  subst hK
  exact pe_fld he hb
/-- list(xs) where the written part is told -/
def rListOf (K : PySem.W.Frag) : List V → Hp → VK → Prop := fun zs H Q => ∃ (p : Addr) (ys : List V), zs = [V.ref p] ∧ (SqL K H p ys ∨ SqT K H p ys) ∧ (∀ l : Addr, H l = none → Q (.ref l) (upd H l (.lst ys)))
theorem cr_listK {X : Cx} {K : PySem.W.Frag} (hK : X.K = K) : CallR X (.type "list") (rListOf K) := by
  subst hK
  exact call_list_of
/-- len of a list or tuple where the written part is told -/
def rLenOf (K : PySem.W.Frag) : List V → Hp → VK → Prop := fun zs H Q => ∃ (p : Addr) (ys : List V), zs = [V.ref p] ∧ (SqL K H p ys ∨ SqT K H p ys) ∧ Q (.int (ys.length : Int)) H
theorem cr_lenK {X : Cx} {K : PySem.W.Frag} (hK : X.K = K) : CallR X (.builtin "len") (rLenOf K) := by
  subst hK
  exact call_len_seq
/-- o.m(e, ..), m of a built-in type, where the written part is told -/
theorem pe_bmK {X : Cx} {K : PySem.W.Frag} {T id : String} {name : Str} {r : V → List V → Hp → VK → Prop} {o e : Expr} {es : List Expr} {to : TE} {t : TA} {apos cpos : Pos} (hK : X.K = K) (pa : PySem.PlainAttrs T) (slot : PySem.Slot T name id) (hty : typeOf (.builtin id) = pure (.type "method_descriptor")) (hm : MtR X id r) (ho : PE X o to) (ha : PA X (e :: es) t)
    (hbase : attributeBase o name X.env (eval o X.env) = eval o X.env := by rfl)
    (hfew : ((backTo cpos (starEach (e :: es) X.env)).all (fun x => !x.1) && (backToKw cpos (keywordEach [] X.env)).all (fun x => x.1.isSome)
      && decide ((e :: es).length + ([] : List Keyword).length + (if ([] : List Keyword).isEmpty then 0 else 1) < 30)) = true := by rfl)
    (hline : (apos.endLine == cpos.line) = true := by rfl) (hs : starEach (e :: es) X.env = (false, eval e X.env) :: starEach es X.env := by rfl) (hplain : (backTo cpos (starEach es X.env)).any (·.1) = false := by rfl) :
    PE X (.Call (.Attribute o name apos) (e :: es) [] cpos) (tBM K T r to t) := by
  subst hK
  exact pe_bm pa slot hty hm ho ha hbase hfew hline hs hplain

/-! ### enumerate of a zip of two lists -/
section
open PyProof.Rows RZ
/-- a zip with what it keeps of the tuple that it gave out -/
abbrev ZS (h : Heap) (z TI TO : Addr) (v : Value) (f : Bool) : Prop :=
  h.get? z = some { cls := .type "zip", dict := none, data := .fields #[v, .bool f, .bool false, .ref TI, .ref TO], slots := #[] }
/-- free, or given out -/
def ZV (v : Value) : Prop := v = .none ∨ ∃ T : Addr, v = rawInt (T : Int)
section
variable {prog : Program} {w : World} {A : Around} {E : Value → Shared → Prop} {s : Shared}
theorem wp_dead {a : Addr} {Q : Option Obj → Shared → Prop} (ho : s.heap.get? a = none) (h : Q none s) : wpAny (model prog w) A (loadIfAlive a) Q E s := by
  have h' : Q (s.heap.get? a) s := by
    rw [ho]
    exact h
  exact fun _ _ _ => h'
theorem zs_free {z TI TO : Addr} {v : Value} {f : Bool} {Q : Bool → Shared → Prop} (hz : ZS s.heap z TI TO v f) (hv : v = .none ∨ ∃ T : Addr, v = rawInt (T : Int) ∧ s.heap.get? T = none) (h : Q true s) :
    wpAny (model prog w) A (Builtin.SmallTypes.ownedTupleIsFree (.ref z)) Q E s := by
  unfold Builtin.SmallTypes.ownedTupleIsFree
  rcases hv with rfl | ⟨T, rfl, hT⟩
  · exact wpAny_bind (wpAny_field hz rfl (x := .none) rfl (wpAny_pure h))
  · refine wpAny_bind (wpAny_field hz rfl (x := rawInt (T : Int)) rfl ?_)
    show wpAny _ _ (loadIfAlive ((T : Int).toNat) >>= _) _ _ _
    rw [Int.toNat_natCast]
    refine wpAny_bind (wp_dead hT ?_)
    simp only [Option.isNone_none, if_true]
    exact wpAny_pure h
theorem zs_item {z TI TO i1 i2 l1 l2 : Addr} {k1 k2 : Nat} {xs ys : Array Value} {v x y a b : Value} {f : Bool} {Q : Value → Shared → Prop} (D : ZipApart z TI TO i1 i2 l1 l2)
    (hz : ZS s.heap z TI TO v f) (hv : v = .none ∨ ∃ T : Addr, v = rawInt (T : Int) ∧ s.heap.get? T = none) (hTI : IsPair s.heap TI (.ref i1) (.ref i2)) (hTO : IsPair s.heap TO a b)
    (h1 : s.heap.IsListIter i1 l1 k1) (h2 : s.heap.IsListIter i2 l2 k2) (hl1 : s.heap.IsList l1 xs) (hl2 : s.heap.IsList l2 ys) (hx : xs[k1]? = some x) (hy : ys[k2]? = some y)
    (hQ : ∀ h', ZS h' z TI TO (rawInt s.heap.objs.size) false → IsPair h' TO x y → h'.IsListIter i1 l1 (k1 + 1) → h'.IsListIter i2 l2 (k2 + 1) → IsPair h' s.heap.objs.size x y →
      (∀ c o, c ≠ z → c ≠ TO → c ≠ i1 → c ≠ i2 → s.heap.get? c = some o → h'.get? c = some o) → Q (.ref s.heap.objs.size) { s with heap := h' }) :
    wpAny (model prog w) A (Builtin.«zip.__next__» ⟨[.ref z], []⟩) (fun fin s' => ∃ v, fin = .done (.ret v) ∧ Q v s') E s := by
  show wpAny _ _ (field (.ref z) 2 >>= _) _ _ _
  refine wpAny_bind (wpAny_field hz rfl (x := .bool false) rfl ?_)
  show wpAny _ _ (field (.ref z) 3 >>= _) _ _ _
  refine wpAny_bind (wpAny_field hz rfl (x := .ref TI) rfl (wpAny_bind (wpAny_seqItems hTI rfl ?_)))
  show wpAny _ _ (Builtin.SmallTypes.ownedTupleIsFree (.ref z) >>= _) _ _ _
  refine wpAny_bind (zs_free hz hv ?_)
  simp only [if_true]
  refine wpAny_bind (wpAny_rule (wpAny_bind (wpAny_field hz rfl (x := .ref TO) rfl (wpAny_bind (wpAny_setField_rec hz (by simp) fun g1 hz1 c1 => ?_)))))
  have hz1 : ZS g1 z TI TO .ellipsis f := hz1
  refine wpAny_bind ?_
  simp only [List.zipIdx_cons, List.zipIdx_nil, List.forIn_cons, List.forIn_nil]
  refine wpAny_bind (wpAny_bind (wpAny_onRaise ?_))
  show wpAny _ _ (Builtin.SmallTypes.nextOf (.ref i1) >>= _) _ _ _
  refine wpAny_bind (wpAny_nextOf_list_item (s := { s with heap := g1 }) (h1.extBut c1.extBut D.i1z) (hl1.extBut c1.extBut D.l1z) hx fun g2 r1 c2 => wpAny_pure ?_)
  have t2 : IsPair g2 TO a b := c2.extBut _ _ D.TOi1 (c1.extBut _ _ D.TOz hTO)
  refine wpAny_bind (wpAny_seqItems t2 rfl (wpAny_bind (wpAny_updateSeq_pair t2 fun g3 t3 c3 => ?_)))
  have t3 : IsPair g3 TO x b := t3
  refine wpAny_bind (wpAny_letGo (wpAny_pure (wpAny_bind (wpAny_bind (wpAny_onRaise ?_)))))
  show wpAny _ _ (Builtin.SmallTypes.nextOf (.ref i2) >>= _) _ _ _
  refine wpAny_bind (wpAny_nextOf_list_item (s := { s with heap := g3 }) (((h2.extBut c1.extBut D.i2z).extBut c2.extBut D.i12.symm).extBut c3.extBut D.TOi2.symm)
    (((hl2.extBut c1.extBut D.l2z).extBut c2.extBut D.l2i1).extBut c3.extBut D.l2TO) hy fun g4 r2 c4 => wpAny_pure ?_)
  have t4 : IsPair g4 TO x b := c4.extBut _ _ D.TOi2 t3
  refine wpAny_bind (wpAny_seqItems t4 rfl (wpAny_bind (wpAny_updateSeq_pair t4 fun g5 t5 c5 => ?_)))
  have t5 : IsPair g5 TO x y := t5
  refine wpAny_bind (wpAny_letGo (wpAny_pure (wpAny_pure (wpAny_bind (wpAny_seqItems t5 rfl (wpAny_bind (wpAny_newTuple ?_)))))))
  have size : g5.objs.size = s.heap.objs.size := by rw [c5.1, c4.1, c3.1, c2.1, c1.1]
  have hz5 : ZS g5 z TI TO .ellipsis f := c5.extBut _ _ D.TOz.symm (c4.extBut _ _ D.i2z.symm (c3.extBut _ _ D.TOz.symm (c2.extBut _ _ D.i1z.symm hz1)))
  have old : ∀ c o, c ≠ z → c ≠ TO → c ≠ i1 → c ≠ i2 → s.heap.get? c = some o → g5.get? c = some o := fun c o n1 n2 n3 n4 e =>
    c5.extBut _ _ n2 (c4.extBut _ _ n4 (c3.extBut _ _ n2 (c2.extBut _ _ n3 (c1.extBut _ _ n1 e))))
  have f1 : g5.IsListIter i1 l1 (k1 + 1) := ((r1.extBut c3.extBut D.TOi1.symm).extBut c4.extBut D.i12).extBut c5.extBut D.TOi1.symm
  have f2 : g5.IsListIter i2 l2 (k2 + 1) := r2.extBut c5.extBut D.TOi2.symm
  have zlt : z < g5.objs.size := Heap.lt_size hz5
  show wpAny _ _ (Builtin.SmallTypes.ownedTupleHandOut (.ref z) (.ref g5.objs.size) >>= _) _ _ _
  refine wpAny_bind ?_
  unfold Builtin.SmallTypes.ownedTupleHandOut
  have hz6 : ZS (g5.push { cls := .type "tuple", data := .seq #[x, y] }) z TI TO .ellipsis f := Heap.get?_push_of_some _ hz5
  refine wpAny_bind (wpAny_setField_rec hz6 (by simp) fun g7 hz7 c7 => ?_)
  have hz7 : ZS g7 z TI TO (rawInt g5.objs.size) f := hz7
  refine wpAny_setField_rec hz7 (by simp) fun g8 hz8 c8 => ?_
  have hz8 : ZS g8 z TI TO (rawInt g5.objs.size) false := hz8
  have up : ∀ c o, c ≠ z → g5.get? c = some o → g8.get? c = some o := fun c o n1 e => c8.extBut _ _ n1 (c7.extBut _ _ n1 (Heap.get?_push_of_some _ e))
  have new : IsPair g8 g5.objs.size x y := c8.extBut _ _ (Nat.ne_of_gt zlt) (c7.extBut _ _ (Nat.ne_of_gt zlt) (Heap.get?_push_size _ rfl))
  refine wpAny_pure ⟨_, rfl, ?_⟩
  show Q (.ref g5.objs.size) _
  rw [size] at hz8 new ⊢
  exact hQ g8 hz8 (up _ _ D.TOz t5) (f1.at fun o e => up _ o D.i1z e) (f2.at fun o e => up _ o D.i2z e) new fun c o n1 n2 n3 n4 e => up c o n1 (old c o n1 n2 n3 n4 e)
theorem zs_end {z TI TO i1 i2 l1 l2 : Addr} {k1 k2 : Nat} {xs ys : Array Value} {v a b : Value} {f : Bool} {Q : Fin → Shared → Prop} (hh : A.handled = none) (D : ZipApart z TI TO i1 i2 l1 l2)
    (hz : ZS s.heap z TI TO v f) (hv : v = .none ∨ ∃ T : Addr, v = rawInt (T : Int) ∧ s.heap.get? T = none) (hTI : IsPair s.heap TI (.ref i1) (.ref i2)) (hTO : IsPair s.heap TO a b)
    (h1 : s.heap.IsListIter i1 l1 k1) (h2 : s.heap.IsListIter i2 l2 k2) (hl1 : s.heap.IsList l1 xs) (hl2 : s.heap.IsList l2 ys) (hend : xs[k1]? = none ∨ ys[k2]? = none)
    (hE : ∀ h' e, (∀ c o, c ≠ z → c ≠ TO → c ≠ i1 → c ≠ i2 → s.heap.get? c = some o → h'.get? c = some o) → (∃ o, h'.get? e = some o ∧ o.cls = .type "StopIteration") → E (.ref e) { s with heap := h' }) :
    wpAny (model prog w) A (Builtin.«zip.__next__» ⟨[.ref z], []⟩) Q E s := by
  show wpAny _ _ (field (.ref z) 2 >>= _) _ _ _
  refine wpAny_bind (wpAny_field hz rfl (x := .bool false) rfl ?_)
  show wpAny _ _ (field (.ref z) 3 >>= _) _ _ _
  refine wpAny_bind (wpAny_field hz rfl (x := .ref TI) rfl (wpAny_bind (wpAny_seqItems hTI rfl ?_)))
  show wpAny _ _ (Builtin.SmallTypes.ownedTupleIsFree (.ref z) >>= _) _ _ _
  refine wpAny_bind (zs_free hz hv ?_)
  simp only [if_true]
  refine wpAny_bind (wpAny_rule (wpAny_bind (wpAny_field hz rfl (x := .ref TO) rfl (wpAny_bind (wpAny_setField_rec hz (by simp) fun g1 hz1 c1 => ?_)))))
  have hz1 : ZS g1 z TI TO .ellipsis f := hz1
  refine wpAny_bind ?_
  simp only [List.zipIdx_cons, List.zipIdx_nil, List.forIn_cons, List.forIn_nil]
  refine wpAny_bind (wpAny_bind (wpAny_onRaise ?_))
  show wpAny _ _ (Builtin.SmallTypes.nextOf (.ref i1) >>= _) _ _ _
  cases hx : xs[k1]? with
  | none =>
    refine wpAny_bind (wpAny_nextOf_list_end (s := { s with heap := g1 }) hh (h1.extBut c1.extBut D.i1z) (hl1.extBut c1.extBut D.l1z) hx fun g2 e c2 he => ?_)
    obtain ⟨oe, hoe, hce⟩ := he
    have hz2 : ZS g2 z TI TO .ellipsis f := c2 _ _ D.i1z.symm hz1
    have hez : e ≠ z := fun q => by
      subst q
      rw [hz2] at hoe
      cases hoe
      simp at hce
    exact wpAny_setField_rec hz2 (by simp) fun g3 _ c3 => hE g3 e (fun c o n1 _ n3 _ q => c3.extBut _ _ n1 (c2 _ _ n3 (c1.extBut _ _ n1 q))) ⟨oe, c3.extBut _ _ hez hoe, hce⟩
  | some x =>
    have hy : ys[k2]? = none := by
      rcases hend with h | h
      · rw [hx] at h
        cases h
      · exact h
    refine wpAny_bind (wpAny_nextOf_list_item (s := { s with heap := g1 }) (h1.extBut c1.extBut D.i1z) (hl1.extBut c1.extBut D.l1z) hx fun g2 r1 c2 => wpAny_pure ?_)
    have t2 : IsPair g2 TO a b := c2.extBut _ _ D.TOi1 (c1.extBut _ _ D.TOz hTO)
    refine wpAny_bind (wpAny_seqItems t2 rfl (wpAny_bind (wpAny_updateSeq_pair t2 fun g3 t3 c3 => ?_)))
    refine wpAny_bind (wpAny_letGo (wpAny_pure (wpAny_bind (wpAny_bind (wpAny_onRaise ?_)))))
    show wpAny _ _ (Builtin.SmallTypes.nextOf (.ref i2) >>= _) _ _ _
    refine wpAny_bind (wpAny_nextOf_list_end (s := { s with heap := g3 }) hh (((h2.extBut c1.extBut D.i2z).extBut c2.extBut D.i12.symm).extBut c3.extBut D.TOi2.symm)
      (((hl2.extBut c1.extBut D.l2z).extBut c2.extBut D.l2i1).extBut c3.extBut D.l2TO) hy fun g4 e c4 he => ?_)
    obtain ⟨oe, hoe, hce⟩ := he
    have hz4 : ZS g4 z TI TO .ellipsis f := c4 _ _ D.i2z.symm (c3.extBut _ _ D.TOz.symm (c2.extBut _ _ D.i1z.symm hz1))
    have hez : e ≠ z := fun q => by
      subst q
      rw [hz4] at hoe
      cases hoe
      simp at hce
    exact wpAny_setField_rec hz4 (by simp) fun g5 _ c5 => hE g5 e (fun c o n1 n2 n3 n4 q => c5.extBut _ _ n1 (c4 _ _ n4 (c3.extBut _ _ n2 (c2.extBut _ _ n3 (c1.extBut _ _ n1 q))))) ⟨oe, c5.extBut _ _ hez hoe, hce⟩
/-- the next pair of such a zip, whether its last tuple is there or not -/
theorem nx_zip {z TI TO i1 i2 l1 l2 : Addr} {k : Nat} {xs ys : Array Value} {v x y a b : Value} {f : Bool} {Q : Value → Shared → Prop} (D : ZipApart z TI TO i1 i2 l1 l2)
    (hz : ZS s.heap z TI TO v f) (hv : ZV v) (hTI : IsPair s.heap TI (.ref i1) (.ref i2)) (hTO : IsPair s.heap TO a b)
    (h1 : s.heap.IsListIter i1 l1 k) (h2 : s.heap.IsListIter i2 l2 k) (hl1 : s.heap.IsList l1 xs) (hl2 : s.heap.IsList l2 ys) (hx : xs[k]? = some x) (hy : ys[k]? = some y)
    (hQ : ∀ h' v' f' a' b', ZS h' z TI TO v' f' → ZV v' → IsPair h' TI (.ref i1) (.ref i2) → IsPair h' TO a' b' → h'.IsListIter i1 l1 (k + 1) → h'.IsListIter i2 l2 (k + 1) → IsPair h' s.heap.objs.size x y →
      (∀ c o, c ≠ z → c ≠ TO → c ≠ i1 → c ≠ i2 → s.heap.get? c = some o → h'.get? c = some o) → Q (.ref s.heap.objs.size) { s with heap := h' }) :
    wpAny (model prog w) A (Builtin.SmallTypes.nextOf (.ref z)) Q E s := by
  have hT : s.TypeIs (.ref z) "zip" := ⟨_, hz, rfl⟩
  have free : (v = .none ∨ ∃ T : Addr, v = rawInt (T : Int) ∧ s.heap.get? T = none) → wpAny (model prog w) A (Builtin.SmallTypes.nextOf (.ref z)) Q E s := fun hv => by
    unfold Builtin.SmallTypes.nextOf
    exact wpAny_bind (wpAny_callSpecial?_slot (name := Str.ofString "__next__") hT F.slot_zip_next (wpAny_call_entry F.slot_zip_next hT F.entry_zip_next
      (zs_item D hz hv hTI hTO h1 h2 hl1 hl2 hx hy fun h' a1 a2 a3 a4 a5 a6 => wpAny_pure (hQ h' _ _ _ _ a1 (.inr ⟨_, rfl⟩) (a6 _ _ D.TIz D.TITO D.TIi1 D.TIi2 hTI) a2 a3 a4 a5 a6)) (F.args_zip_next_1 _)))
  rcases hv with rfl | ⟨T, rfl⟩
  · exact free (.inl rfl)
  · cases e : s.heap.get? T with
    | none => exact free (.inr ⟨T, rfl, e⟩)
    | some oT =>
      unfold Builtin.SmallTypes.nextOf
      exact wpAny_bind (wpAny_callSpecial?_slot (name := Str.ofString "__next__") hT F.slot_zip_next (wpAny_call_entry F.slot_zip_next hT F.entry_zip_next
        (zip_next_item_held D hz e hTI h1 h2 hl1 hl2 hx hy fun h' a1 a3 a4 a5 _ a7 => wpAny_pure (hQ h' _ _ _ _ a1 (.inr ⟨_, rfl⟩) (a7 _ _ D.TIz D.TIi1 D.TIi2 hTI) (a7 _ _ D.TOz D.TOi1 D.TOi2 hTO) a3 a4 a5 fun c o n1 _ n3 n4 q => a7 c o n1 n3 n4 q)) (F.args_zip_next_1 _)))
theorem nx_zip_end {z TI TO i1 i2 l1 l2 : Addr} {k : Nat} {xs ys : Array Value} {v a b : Value} {f : Bool} {Q : Value → Shared → Prop} (hh : A.handled = none) (D : ZipApart z TI TO i1 i2 l1 l2)
    (hz : ZS s.heap z TI TO v f) (hv : ZV v) (hTI : IsPair s.heap TI (.ref i1) (.ref i2)) (hTO : IsPair s.heap TO a b)
    (h1 : s.heap.IsListIter i1 l1 k) (h2 : s.heap.IsListIter i2 l2 k) (hl1 : s.heap.IsList l1 xs) (hl2 : s.heap.IsList l2 ys) (hend : xs[k]? = none ∨ ys[k]? = none)
    (hE : ∀ h' e, (∀ c o, c ≠ z → c ≠ TO → c ≠ i1 → c ≠ i2 → s.heap.get? c = some o → h'.get? c = some o) → (∃ o, h'.get? e = some o ∧ o.cls = .type "StopIteration") → E (.ref e) { s with heap := h' }) :
    wpAny (model prog w) A (Builtin.SmallTypes.nextOf (.ref z)) Q E s := by
  have hT : s.TypeIs (.ref z) "zip" := ⟨_, hz, rfl⟩
  have free : (v = .none ∨ ∃ T : Addr, v = rawInt (T : Int) ∧ s.heap.get? T = none) → wpAny (model prog w) A (Builtin.SmallTypes.nextOf (.ref z)) Q E s := fun hv => by
    unfold Builtin.SmallTypes.nextOf
    exact wpAny_bind (wpAny_callSpecial?_slot (name := Str.ofString "__next__") hT F.slot_zip_next (wpAny_call_entry F.slot_zip_next hT F.entry_zip_next (zs_end hh D hz hv hTI hTO h1 h2 hl1 hl2 hend hE) (F.args_zip_next_1 _)))
  rcases hv with rfl | ⟨T, rfl⟩
  · exact free (.inl rfl)
  · cases e : s.heap.get? T with
    | none => exact free (.inr ⟨T, rfl, e⟩)
    | some oT =>
      unfold Builtin.SmallTypes.nextOf
      exact wpAny_bind (wpAny_callSpecial?_slot (name := Str.ofString "__next__") hT F.slot_zip_next (wpAny_call_entry F.slot_zip_next hT F.entry_zip_next
        (zip_next_end_held hh D hz e hTI h1 h2 hl1 hl2 hend fun h' e' hk he => hE h' e' (fun c o n1 _ n3 n4 q => hk c o n1 n3 n4 q) he) (F.args_zip_next_1 _)))
/-- enumerate over anything that has a next -/
theorem en_item {e z : Addr} {c : Int} {old : Value} {R : Value → Heap → Prop} {Q : Value → Shared → Prop}
    (he : IsEnum s.heap e z c old)
    (nx : ∀ (Q' : Value → Shared → Prop) (E' : Value → Shared → Prop), (∀ x h1, R x h1 → IsEnum h1 e z c old → Q' x { s with heap := h1 }) → wpAny (model prog w) A (Builtin.SmallTypes.nextOf (.ref z)) Q' E' s)
    (hQ : ∀ x h1 h', R x h1 → IsEnumOut h' e z (c + 1) x h1.objs.size → h'.get? h1.objs.size = some { cls := .type "tuple", data := .seq #[.int c s.toks, x] } → e < h1.objs.size →
      (∀ b o, b ≠ e → h1.get? b = some o → h'.get? b = some o) → Q (.ref h1.objs.size) { s with heap := h', toks := s.toks + 1 }) :
    wpAny (model prog w) A (Builtin.«enumerate.__next__» ⟨[.ref e], []⟩) (fun fin s' => ∃ v, fin = .done (.ret v) ∧ Q v s') E s := by
  obtain ⟨hp, g, d, tk, os⟩ := s
  show wpAny _ _ (field (.ref e) 2 >>= _) _ _ _
  refine wpAny_bind (wpAny_field he rfl (x := .ref z) rfl ?_)
  refine wpAny_bind (nx _ _ fun x g1 hR he1 => ?_)
  show wpAny _ _ (field (.ref e) 3 >>= _) _ _ ⟨g1, g, d, tk, os⟩
  refine wpAny_bind (wpAny_field he1 rfl (x := rawInt c) rfl ?_)
  show wpAny _ _ (field (.ref e) 4 >>= _) _ _ ⟨g1, g, d, tk, os⟩
  refine wpAny_bind (wpAny_field he1 rfl (x := .none) rfl ?_)
  show wpAny _ _ (mkInt c >>= _) _ _ ⟨g1, g, d, tk, os⟩
  refine wpAny_bind (wpAny_mkInt ?_)
  show wpAny _ _ (setField (.ref e) 3 (rawInt (c + 1)) >>= _) _ _ ⟨g1, g, d, tk + 1, os⟩
  refine wpAny_bind (wpAny_setField_rec he1 (by simp) fun g2 he2 c2 => ?_)
  have he2 : IsEnum g2 e z (c + 1) old := he2
  show wpAny _ _ (setField (.ref e) 4 .none >>= _) _ _ ⟨g2, g, d, tk + 1, os⟩
  refine wpAny_bind (wpAny_setField_rec he2 (by simp) fun g3 he3 c3 => ?_)
  have he3 : IsEnum g3 e z (c + 1) old := he3
  show wpAny _ _ (newTuple [.int c tk, x] >>= _) _ _ ⟨g3, g, d, tk + 1, os⟩
  refine wpAny_bind (wpAny_newTuple ?_)
  have size : g3.objs.size = g1.objs.size := by rw [c3.1, c2.1]
  have elt : e < g1.objs.size := Heap.lt_size he1
  have he4 : IsEnum (g3.push { cls := .type "tuple", data := .seq #[.int c tk, x] }) e z (c + 1) old := Heap.get?_push_of_some _ he3
  have t4 : (g3.push { cls := .type "tuple", data := .seq #[.int c tk, x] }).get? g1.objs.size = some { cls := .type "tuple", data := .seq #[.int c tk, x] } := by
    rw [← size]
    exact Heap.get?_push_size _ rfl
  have k4 : ∀ b o, b ≠ e → g1.get? b = some o → (g3.push { cls := .type "tuple", data := .seq #[.int c tk, x] }).get? b = some o := fun b o n q => Heap.get?_push_of_some _ (c3.extBut b o n (c2.extBut b o n q))
  show wpAny _ _ (Builtin.SmallTypes.ownedTupleIsFree (.ref e) >>= _) _ _ _
  rw [size]
  generalize g3.push { cls := .type "tuple", data := .seq #[.int c tk, x] } = g4 at he4 t4 k4 ⊢
  refine wpAny_bind ?_
  unfold Builtin.SmallTypes.ownedTupleIsFree
  refine wpAny_bind (wpAny_field he4 rfl (x := .none) rfl (wpAny_pure ?_))
  simp only [if_true]
  refine wpAny_bind (wpAny_rule (wpAny_bind (wpAny_field he4 rfl (x := old) rfl (wpAny_bind (wpAny_setField_rec he4 (by simp) fun g5 he5 c5 => ?_)))))
  have he5 : IsEnum g5 e z (c + 1) x := he5
  show wpAny _ _ (Builtin.SmallTypes.ownedTupleHandOut (.ref e) (.ref g1.objs.size) >>= _) _ _ ⟨g5, g, d, tk + 1, os⟩
  refine wpAny_bind ?_
  unfold Builtin.SmallTypes.ownedTupleHandOut
  refine wpAny_bind (wpAny_setField_rec he5 (by simp) fun g6 he6 c6 => ?_)
  have he6 : IsEnumOut g6 e z (c + 1) x g1.objs.size := he6
  refine wpAny_setField_rec he6 (by simp) fun g7 he7 c7 => ?_
  have he7 : IsEnumOut g7 e z (c + 1) x g1.objs.size := he7
  have up : ∀ b o, b ≠ e → g4.get? b = some o → g7.get? b = some o := fun b o n q => c7.extBut b o n (c6.extBut b o n (c5.extBut b o n q))
  exact wpAny_bind (wpAny_letGo (wpAny_pure ⟨_, rfl, hQ x g1 g7 hR he7 (up _ _ (Nat.ne_of_gt elt) t4) elt fun b o n q => up b o n (k4 b o n q)⟩))
end
end
section
open PyProof.Rows RZ
/-- the lists at a and b as they stand at each turn, each two items in a new pair with its number -/
def ItEZ (K : PySem.W.Frag) (a b : Addr) : It :=
  ⟨fun i H => ∃ (xs ys : List V) (x y : V), SqL K H a xs ∧ SqL K H b ys ∧ xs[i]? = some x ∧ ys[i]? = some y,
    fun i H v H' => ∃ T1 T2 x y, v = .ref T2 ∧ H T1 = none ∧ _root_.L2.upd H T1 (.tup [x, y]) T2 = none ∧ H' = _root_.L2.upd (_root_.L2.upd H T1 (.tup [x, y])) T2 (.tup [.int (i : Nat), .ref T1]) ∧ (∀ xs, SqL K H a xs → xs[i]? = some x) ∧ ∀ ys, SqL K H b ys → ys[i]? = some y,
    fun i H => ∃ xs ys : List V, SqL K H a xs ∧ SqL K H b ys ∧ (xs.length ≤ i ∨ ys.length ≤ i)⟩
/-- where such an iterator stands -/
def EZn (e z TI TO i1 i2 a b : Addr) (i : Nat) (h : Heap) : Prop :=
  (∃ old, IsEnum h e z ((i : Nat) : Int) old) ∧ (∃ v f, ZS h z TI TO v f ∧ ZV v) ∧ IsPair h TI (.ref i1) (.ref i2) ∧ (∃ x y, IsPair h TO x y) ∧ h.IsListIter i1 a i ∧ h.IsListIter i2 b i
theorem turn_enzip {P : Program} {w : World} {K : PySem.W.Frag} {elts : List Expr} {kk : Nat} {tpos : Pos} {a b e z TI TO i1 i2 : Addr} (D : ZipApart z TI TO i1 i2 a b) (ez : e ≠ z) (eI : e ≠ TI) (eO : e ≠ TO) (e1 : e ≠ i1) (e2 : e ≠ i2) :
    Turn P w K (.Tuple elts kk tpos) (ItEZ K a b) [e, z, TI, TO, i1, i2] e (EZn e z TI TO i1 i2 a b) where
  mem := List.mem_cons_self
  obj := fun i h st c hc => by
    obtain ⟨⟨old, he⟩, ⟨v, f, hz, _⟩, hTI, ⟨x, y, hTO⟩, ⟨o1, q1, _, d1⟩, ⟨o2, q2, _, d2⟩⟩ := st
    simp only [List.mem_cons, List.not_mem_nil, or_false] at hc
    rcases hc with rfl | rfl | rfl | rfl | rfl | rfl
    · exact ⟨_, he, fun v q => nomatch q⟩
    · exact ⟨_, hz, fun v q => nomatch q⟩
    · exact ⟨_, hTI, fun v q => nomatch q⟩
    · exact ⟨_, hTO, fun v q => nomatch q⟩
    · exact ⟨o1, q1, fun v q => by rw [d1] at q; cases q⟩
    · exact ⟨o2, q2, fun v q => by rw [d2] at q; cases q⟩
  keep := fun i h h' st k => by
    obtain ⟨⟨old, he⟩, ⟨v, f, hz, hv⟩, hTI, ⟨x, y, hTO⟩, h1, h2⟩ := st
    exact ⟨⟨old, k e (by simp) _ he⟩, ⟨v, f, k z (by simp) _ hz, hv⟩, k TI (by simp) _ hTI, ⟨x, y, k TO (by simp) _ hTO⟩, h1.at fun o q => k i1 (by simp) o q, h2.at fun o q => k i2 (by simp) o q⟩
  item := by
    rintro X rfl rfl rfl hc i pins s σ H E I hf ⟨⟨old, he⟩, ⟨v, f, hz, hv⟩, hTI, ⟨x0, y0, hTO⟩, h1, h2⟩ ⟨xs, ys, x, y, hqx, hqy, hx, hy⟩
    obtain ⟨its, rv, p, _⟩ := I.list hqx
    obtain ⟨its2, rv2, p2, _⟩ := I.list hqy
    obtain ⟨u, hu, ru⟩ := rv.get hx
    obtain ⟨u2, hu2, ru2⟩ := rv2.get hy
    have zlt : z < s.heap.objs.size := Heap.lt_size hz
    have elt : e < s.heap.objs.size := Heap.lt_size he
    have hT : s.TypeIs (.ref e) "enumerate" := ⟨_, he, rfl⟩
    unfold pyNext
    refine wpAny_bind (wpAny_attempt (wpAny_callSpecial?_slot (name := Str.ofString "__next__") hT F.slot_enumerate_next (wpAny_call_entry F.slot_enumerate_next hT F.entry_enumerate_next
      (en_item (R := fun v1 g1 => v1 = .ref s.heap.objs.size ∧ (∃ v' f', ZS g1 z TI TO v' f' ∧ ZV v') ∧ IsPair g1 TI (.ref i1) (.ref i2) ∧ (∃ a' b', IsPair g1 TO a' b') ∧ g1.IsListIter i1 a (i + 1) ∧ g1.IsListIter i2 b (i + 1) ∧ IsPair g1 s.heap.objs.size u u2 ∧
        (∀ c o, c ≠ z → c ≠ TO → c ≠ i1 → c ≠ i2 → s.heap.get? c = some o → g1.get? c = some o)) he (fun Q' E' k => ?_) fun v1 g1 h' hR he' hT2 _ up => wpAny_pure ?_) (F.args_enumerate_next_1 _))))
    · exact nx_zip (xs := its.toArray) (ys := its2.toArray) (x := u) (y := u2) D hz hv hTI hTO h1 h2 p.isList p2.isList (by simpa using hu) (by simpa using hu2) fun g1 v' f' a' b' z1 z2 z3 z4 z5 z6 z7 z8 =>
        k _ g1 ⟨rfl, ⟨v', f', z1, z2⟩, z3, ⟨a', b', z4⟩, z5, z6, z7, z8⟩ (z8 _ _ ez eO e1 e2 he)
    obtain ⟨rfl, ⟨v', f', z1, z2⟩, z3, ⟨a', b', z4⟩, z5, z6, z7, z8⟩ := hR
    refine ⟨_, rfl, ?_⟩
    refine wpAny_letOwnedTupleGo_enum (s := { s with heap := h', toks := s.toks + 1 }) he' fun h2' he2 sb => ?_
    have out : ∀ c, c ∉ [e, z, TI, TO, i1, i2] → c ≠ e ∧ c ≠ z ∧ c ≠ TO ∧ c ≠ i1 ∧ c ≠ i2 := fun c hb => by
      simp only [List.mem_cons, List.not_mem_nil, or_false, not_or] at hb
      exact ⟨hb.1, hb.2.1, hb.2.2.2.1, hb.2.2.2.2.1, hb.2.2.2.2.2⟩
    have new1 : ObjOk X.prog X.w (_root_.L2.upd H s.heap.objs.size (.tup [x, y])) g1 s.heap.objs.size (.tup [x, y]) := ⟨by show 2 ≤ sizeLine; decide, [u, u2], .cons ru (.cons ru2 .nil), ⟨_, z7, rfl, _, rfl⟩⟩
    have I1 : Inv X pins σ (_root_.L2.upd H s.heap.objs.size (.tup [x, y])) { s with heap := g1, toks := s.toks } :=
      I.turnedNew (t' := s.toks) (ch := [e, z, TI, TO, i1, i2]) (fun c o hb q => z8 c o (out c hb).2.1 (out c hb).2.2.1 (out c hb).2.2.2.1 (out c hb).2.2.2.2 q) hf (Nat.le_refl _) new1
    have lt1 : ∀ c ∈ [e, z, TI, TO, i1, i2], c < s.heap.objs.size := fun c hcm => by
      simp only [List.mem_cons, List.not_mem_nil, or_false] at hcm
      rcases hcm with rfl | rfl | rfl | rfl | rfl | rfl
      · exact elt
      · exact zlt
      · exact Heap.lt_size hTI
      · exact Heap.lt_size hTO
      · obtain ⟨_, q, _⟩ := h1
        exact Heap.lt_size q
      · obtain ⟨_, q, _⟩ := h2
        exact Heap.lt_size q
    have sz : s.heap.objs.size < g1.objs.size := Heap.lt_size z7
    have hf1 : ∀ c ∈ [e], FpOk X pins (_root_.L2.upd H s.heap.objs.size (.tup [x, y])) c := fun c hcm => by
      have hce := List.mem_singleton.mp hcm
      subst hce
      obtain ⟨f0, f1⟩ := hf c List.mem_cons_self
      exact ⟨by rw [upd_ne (Nat.ne_of_lt elt)]; exact f0, f1⟩
    have new2 : ObjOk X.prog X.w (_root_.L2.upd (_root_.L2.upd H s.heap.objs.size (.tup [x, y])) g1.objs.size (.tup [.int (i : Nat), .ref s.heap.objs.size])) h2' g1.objs.size (.tup [.int (i : Nat), .ref s.heap.objs.size]) :=
      ⟨by show 2 ≤ sizeLine; decide, [.int i s.toks, .ref s.heap.objs.size], .cons ⟨_, rfl⟩ (.cons rfl .nil), ⟨_, (sb.2 _ (Nat.ne_of_gt (Nat.lt_trans elt sz))).trans hT2, rfl, _, rfl⟩⟩
    have I2 : Inv X pins σ (_root_.L2.upd (_root_.L2.upd H s.heap.objs.size (.tup [x, y])) g1.objs.size (.tup [.int (i : Nat), .ref s.heap.objs.size])) { s with heap := h2', toks := s.toks + 1 } :=
      I1.turnedNew (t' := s.toks + 1) (ch := [e]) (fun c o hb q => (sb.2 c (fun q' => hb (by simp [q']))).trans (up c o (fun q' => hb (by simp [q'])) q)) hf1 (Nat.le_refl _) new2
    have up2 : ∀ c o, c ≠ e → g1.get? c = some o → h2'.get? c = some o := fun c o n q => (sb.2 c n).trans (up c o n q)
    refine ⟨.ref g1.objs.size, _, I2, rfl, ⟨s.heap.objs.size, g1.objs.size, x, y, rfl, I.hok.fresh (Nat.le_refl _), I1.hok.fresh (Nat.le_refl _), rfl, fun l hl => by rw [I.list_inj hl hqx]; exact hx, fun l hl => by rw [I.list_inj hl hqy]; exact hy⟩, ⟨⟨.ref s.heap.objs.size, ?_⟩, ⟨v', f', up2 _ _ ez.symm z1, z2⟩, up2 _ _ eI.symm z3, ⟨a', b', up2 _ _ eO.symm z4⟩, z5.at fun o q => up2 _ o e1.symm q, z6.at fun o q => up2 _ o e2.symm q⟩, fun c hcm => ?_⟩
    · have e1 : ((i + 1 : Nat) : Int) = (i : Int) + 1 := by omega
      rw [e1]
      exact he2
    · have := lt1 c hcm
      rw [upd_ne (Nat.ne_of_lt (Nat.lt_trans this sz)), upd_ne (Nat.ne_of_lt this)]
      exact (hf c hcm).1
  done := by
    rintro X rfl rfl rfl hc i pins s σ H E I hf ⟨⟨old, he⟩, ⟨v, f, hz, hv⟩, hTI, ⟨x0, y0, hTO⟩, h1, h2⟩ ⟨xs, ys, hqx, hqy, hend⟩
    obtain ⟨its, rv, p, _⟩ := I.list hqx
    obtain ⟨its2, rv2, p2, _⟩ := I.list hqy
    have l1 := rv.length
    have l2 := rv2.length
    have he' : its.toArray[i]? = none ∨ its2.toArray[i]? = none := by
      rcases hend with q | q
      · exact .inl (by simp; omega)
      · exact .inr (by simp; omega)
    have hT : s.TypeIs (.ref e) "enumerate" := ⟨_, he, rfl⟩
    have hh : X.A.in1.handled = none := by simp [I.ok.hd hc]
    unfold pyNext
    refine wpAny_bind (wpAny_attempt (wpAny_callSpecial?_slot (name := Str.ofString "__next__") hT F.slot_enumerate_next (wpAny_call_entry F.slot_enumerate_next hT F.entry_enumerate_next ?_ (F.args_enumerate_next_1 _))))
    show wpAny _ _ (field (.ref e) 2 >>= _) _ _ _
    refine wpAny_bind (wpAny_field he rfl (x := .ref z) rfl ?_)
    refine wpAny_bind (nx_zip_end hh D hz hv hTI hTO h1 h2 p.isList p2.isList he' fun h' x hk hx => ?_)
    obtain ⟨o, ho, hco⟩ := hx
    refine wpAny_bind (wpAny_isInstance (T := "StopIteration") (b := true) ⟨o, ho, hco⟩ isSubtype_stop (wpAny_pure ⟨rfl, I.turnedL (t' := s.toks) (ch := [e, z, TI, TO, i1, i2]) (fun c o hb q => ?_) hf⟩))
    simp only [List.mem_cons, List.not_mem_nil, or_false, not_or] at hb
    exact hk c o hb.2.1 hb.2.2.2.1 hb.2.2.2.2.1 hb.2.2.2.2.2 q
  self := fun A i s Q E st h => by
    obtain ⟨⟨_, he⟩, _⟩ := st
    exact wpAny_pyIter_enum he h
def iEnZip (K : PySem.W.Frag) (ta : TA) : TI := fun σ H R => ta σ H fun vs H1 => ∃ a b xs ys, vs = [.ref a, .ref b] ∧ SqL K H1 a xs ∧ SqL K H1 b ys ∧ R (ItEZ K a b) H1
/-- enumerate of what is its own iterator -/
theorem meets_enumI {v : Value} {Z : Heap → Prop} (B : ∀ (prog : Program) (w : World) (A : Around) (E : Value → Shared → Prop) (s : Shared) (Q : Value → Shared → Prop), Z s.heap → Q v s → wpAny (model prog w) A (pyIter v) Q E s) :
    Meets (Builtin.«enumerate.__new__» ⟨[.type "enumerate", v], []⟩) (fun _ R s => Z s.heap ∧
      R (.ok (.ret (.ref s.heap.objs.size))) { s with heap := s.heap.push { cls := .type "enumerate", data := .fields #[.none, .bool false, v, rawInt 0, .none, .none] } }) :=
  .of_wp fun prog w A R s hyp => by
    obtain ⟨hp, g, d, tk, os⟩ := s
    obtain ⟨hz, hyp⟩ := hyp
    have sube := sub_enumerate
    have step : ∀ {A' : Around} {E' : Value → Shared → Prop} {Q' : Value → Shared → Prop}, Q' v ⟨hp, g, d, tk, os⟩ → wpAny (model prog w) A' (pyIter v) Q' E' ⟨hp, g, d, tk, os⟩ :=
      fun q => B prog w _ _ ⟨hp, g, d, tk, os⟩ _ hz q
    wp_walk using step
    refine wpAny_stack_any fun st => wpAny_pure ?_
    split
    · rename_i c _ _ _ _ _
      cases (c == Value.type "enumerate") <;> (wp_walk using step; exact ⟨_, rfl, hyp⟩)
    · wp_walk using step
      exact ⟨_, rfl, hyp⟩
theorem call_enumI {prog : Program} {w : World} {A : Around} {E : Value → Shared → Prop} {s : Shared} {z : Addr} {Z : Heap → Prop} {Q : Value → Shared → Prop}
    (B : ∀ (prog : Program) (w : World) (A : Around) (E : Value → Shared → Prop) (s : Shared) (Q : Value → Shared → Prop), Z s.heap → Q (.ref z) s → wpAny (model prog w) A (pyIter (.ref z)) Q E s) (hz : Z s.heap)
    (fin : ∀ h', IsEnum h' s.heap.objs.size z 0 .none → (∀ b u, s.heap.get? b = some u → h'.get? b = some u) → Q (.ref s.heap.objs.size) { s with heap := h' }) :
    wpAny (model prog w) A (call (.type "enumerate") [.ref z]) Q E s := by
  refine callType_new F.called_enumerate (by decide) (F.typeCall_enumerate_1 _) (F.newCall_enumerate_1 _) (fun obj => F.args_object_init_2 obj _) F.entry_enumerate_new (meets_enumI B) ⟨hz, ?_⟩
  have isE : IsEnum (s.heap.push { cls := .type "enumerate", data := .fields #[.none, .bool false, .ref z, rawInt 0, .none, .none] }) s.heap.objs.size z 0 .none := Heap.get?_push_size _ rfl
  exact ⟨⟨_, isE, rfl⟩, fin _ isE fun b u q => Heap.get?_push_of_some _ q⟩
theorem pi_enzip {X : Cx} {e e2 : Expr} {ta : TA} {p p2 pos pos2 tpos : Pos} {elts : List Expr} {kk : Nat} (ge : Gl X "enumerate") (me : X.mg "enumerate" = none) (gz : Gl X "zip") (mz : X.mg "zip" = none) (ha : PA X [e, e2] ta)
    (hs : starEach [e, e2] X.env = (false, eval e X.env) :: starEach [e2] X.env := by rfl) (hpl : (backTo pos2 (starEach [e2] X.env)).any (·.1) = false := by rfl)
    (hs2 : starEach [.Call (.Name "zip" p2) [e, e2] [] pos2] X.env = [(false, eval (.Call (.Name "zip" p2) [e, e2] [] pos2) X.env)] := by rfl) :
    PI X (.Tuple elts kk tpos) (.Call (.Name "enumerate" p) [.Call (.Name "zip" p2) [e, e2] [] pos2] [] pos) (iEnZip X.K ta) := by
  refine ⟨fun pins s σ H R I h => Call_ (ld_blt I ge me boot_enumerate (PyProof.Rows.callWith_type1 ?_ hs2 rfl))⟩
  rw [hs2]
  show wpAny _ _ (spliced [(false, eval (.Call (.Name "zip" p2) [e, e2] [] pos2) X.env)]) _ _ _
  refine Calls.spliced_cons (wpAny_mono (Q := fun u s1 => wpAny (model X.prog X.w) X.A (call (.type "enumerate") [u]) (fun v s1 => wpAny (model X.prog X.w) X.A (pyIter v) (PIE X pins σ (.Tuple elts kk tpos) R) X.xe s1) X.xe s1) ?_ (fun _ _ q => Calls.spliced_nil q) fun _ _ q => q)
  refine Call_ (ld_blt I gz mz PyProof.Rows.boot_zip (PyProof.Rows.callWith_type1 (thn (ha.run pos2 pins s σ H _ I h) fun us s1 ⟨vs, H1, I1, r1, q1⟩ => ?_) hs hpl))
  obtain ⟨a, b, xs, ys, rfl, hqx, hqy, q⟩ := q1
  cases r1 with
  | cons r rr =>
    cases rr with
    | cons r' rr =>
      cases rr
      cases r
      cases r'
      obtain ⟨its, rv, p1, _⟩ := I1.list hqx
      obtain ⟨its2, rv2, p2, _⟩ := I1.list hqy
      have la : a < s1.heap.objs.size := p1.lt
      have lb : b < s1.heap.objs.size := p2.lt
      refine call_zip_2 p1.isList p2.isList fun h' hz hTI hTO h1 h2 hsz hk => ?_
      refine call_enumI (Z := fun h => ZS h (s1.heap.objs.size + 4) (s1.heap.objs.size + 2) (s1.heap.objs.size + 3) .none false) (fun prog w A E s Q hz q => wpAny_pyIter_zip hz q) hz fun h2' he kp => wpAny_pyIter_enum he ?_
      have I2 : Inv X pins σ H1 { s1 with heap := h2' } := I1.kept (t' := s1.toks) fun c o q => kp c o (hk c o q)
      have esz : h'.objs.size = s1.heap.objs.size + 5 := hsz
      have ne5 : ∀ n : Nat, n < 5 → h'.objs.size ≠ s1.heap.objs.size + n := fun n hn => by omega
      refine ⟨h'.objs.size, [h'.objs.size, s1.heap.objs.size + 4, s1.heap.objs.size + 2, s1.heap.objs.size + 3, s1.heap.objs.size, s1.heap.objs.size + 1], _, _, H1, rfl, I2, turn_enzip (e := h'.objs.size) (PySem.W.ktu_apart s1.heap.objs.size a b la lb) (ne5 4 (by decide)) (ne5 2 (by decide)) (ne5 3 (by decide)) (ne5 0 (by decide)) (ne5 1 (by decide)), ⟨⟨.none, he⟩, ⟨.none, false, kp _ _ hz, .inl rfl⟩, kp _ _ hTI, ⟨_, _, kp _ _ hTO⟩, h1.at fun o q => kp _ o q, h2.at fun o q => kp _ o q⟩, fun c hcm => ?_, q⟩
      have hle : s1.heap.objs.size ≤ c := by
        simp only [List.mem_cons, List.not_mem_nil, or_false] at hcm
        rcases hcm with rfl | rfl | rfl | rfl | rfl | rfl <;> omega
      exact I1.fpOk hle (I1.hok.fresh hle)
/-- a loop over enumerate of a zip of two lists -/
theorem for_enzip {K : PySem.W.Frag} {a b : Addr} {xs ys : List V} {g : TG} {tb : TS} {D : Ends} {σ : L2.St} {H : Hp} (Pv : Nat → L2.St → Hp → Prop) (h0 : Pv 0 σ H) (hq : ∀ i σ H, Pv i σ H → SqL K H a xs ∧ SqL K H b ys)
    (hs : ∀ (i : Nat) (x y : V) (T1 T2 : Addr) (σ : L2.St) (H : Hp), xs[i]? = some x → ys[i]? = some y → Pv i σ H → H T1 = none → _root_.L2.upd H T1 (.tup [x, y]) T2 = none → g (.ref T2) σ (_root_.L2.upd (_root_.L2.upd H T1 (.tup [x, y])) T2 (.tup [.int (i : Nat), .ref T1])) fun σ2 H2 => tb { D with nx := Pv (i + 1), ct := Pv (i + 1), bk := D.nx } σ2 H2)
    (hd : ∀ σ H, Pv (min xs.length ys.length) σ H → D.nx σ H) :
    ∃ W : Nat → Nat → L2.St → Hp → Prop, (∃ m, W 0 m σ H) ∧ ∀ i m σ H, W i m σ H →
      ((ItEZ K a b).stop i H ∧ D.nx σ H) ∨ ((ItEZ K a b).go i H ∧ ∃ N : L2.St → Hp → Prop, (∀ σ' H', N σ' H' → ∃ m', m' < m ∧ W (i + 1) m' σ' H') ∧ ∀ v H', (ItEZ K a b).yld i H v H' → g v σ H' fun σ2 H2 => tb { D with nx := N, ct := N, bk := D.nx } σ2 H2) := by
  refine ⟨fun i m σ H => m = min xs.length ys.length - i ∧ i ≤ min xs.length ys.length ∧ Pv i σ H, ⟨min xs.length ys.length, rfl, Nat.zero_le _, h0⟩, ?_⟩
  rintro i m σ H ⟨rfl, hi, p⟩
  obtain ⟨qx, qy⟩ := hq i σ H p
  by_cases hlt : i < min xs.length ys.length
  · have l1 : i < xs.length := by omega
    have l2 : i < ys.length := by omega
    refine .inr ⟨⟨xs, ys, _, _, qx, qy, List.getElem?_eq_getElem l1, List.getElem?_eq_getElem l2⟩, Pv (i + 1), fun σ' H' p' => ⟨min xs.length ys.length - (i + 1), by omega, rfl, by omega, p'⟩, fun v H' y => ?_⟩
    obtain ⟨T1, T2, x', y', rfl, hT1, hT2, rfl, f1, f2⟩ := y
    exact hs i x' y' T1 T2 σ H (f1 xs qx) (f2 ys qy) p hT1 hT2
  · have e : i = min xs.length ys.length := by omega
    subst e
    exact .inl ⟨⟨xs, ys, qx, qy, by omega⟩, hd σ H p⟩
end

/-! ### a tuple times nought -/
section
open PyProof.Rows
theorem tuple_mul0 (l : Addr) (items : Array Value) (n : Nat) (dd : Option Addr) (sl : Array (Option Value)) (u : Tok) (c1 : (items.isEmpty || (0 : Int) == 1) = false) :
    Meets (Builtin.«tuple.__mul__» ⟨[.ref l, .int 0 u], []⟩) (fun _ R s => s.heap.get? l = some { cls := .type "tuple", dict := dd, data := .seq items n, slots := sl } ∧
      R (.ok (.ret (Value.ref s.heap.objs.size))) { s with heap := s.heap.push { cls := Value.type "tuple", data := Data.seq #[] }, toks := s.toks }) :=
  .of_wp fun prog w A R s h => by
    obtain ⟨hp, g, d, tk, os⟩ := s
    obtain ⟨hl, h⟩ := h
    have f1 := AutoSeq1.idx_int
    have c0 : (decide ((0 : Int) < -(2 ^ 63)) || decide ((0 : Int) ≥ 2 ^ 63)) = false := by decide
    have c2 : (decide ((0 : Int) ≤ 0) || items.isEmpty) = true := rfl
    wp_walk using wpAny_loadPart' hl
    repeat (first
      | (refine wpAny_ite_false (decide_eq_false (by rw [c0]; exact Bool.false_ne_true)) ?_; wp_walk using wpAny_loadPart' hl)
      | (refine wpAny_ite_false (decide_eq_false (by rw [c1]; exact Bool.false_ne_true)) ?_; wp_walk using wpAny_loadPart' hl)
      | (refine wpAny_ite_true (decide_eq_true (by rw [c2])) ?_; wp_walk using wpAny_loadPart' hl))
    exact ⟨_, rfl, h⟩
def rRepT0 (K : PySem.W.Frag) : R2 := fun x y H Q => ∃ l xs, x = .ref l ∧ y = .int 0 ∧ SqT K H l xs ∧ xs ≠ [] ∧ ∀ p, H p = none → Q (.ref p) (_root_.L2.upd H p (.tup []))
theorem op_repT0 {X : Cx} : OpR X (binaryOp .Mult) (rRepT0 X.K) := by
  intro pins s σ H x y v u Q I rx ry h
  obtain ⟨l, xs, rfl, rfl, hT, hne, q⟩ := h
  cases rx
  obtain ⟨t, rfl⟩ := ry
  obtain ⟨its, r, ⟨⟨cls, dd, data, sl⟩, ho, hc, n, hd⟩, hs⟩ := I.tuple hT
  simp only at hc hd
  subst hc hd
  have hle : its.length = xs.length := r.length.symm
  have hn : its ≠ [] := fun e => hne (by
    rw [e] at hle
    exact List.eq_nil_of_length_eq_zero hle.symm)
  have hi : its.toArray.isEmpty = false := by
    cases its with
    | nil => exact absurd rfl hn
    | cons a b => rfl
  have c1 : (its.toArray.isEmpty || (0 : Int) == 1) = false := by
    rw [hi, Bool.false_or]
    rfl
  refine wpAny_binaryOp_repeat_ref (T := "tuple") (U := "int") (by decide) ⟨_, ho, rfl⟩ (fun s' => typeIs_int s' 0 t) noFill_tuple_mul F.fills_int_mul F.slot_int_rmul repeat_tuple F.slot_int_index.lookup
    (call_meets F.slot_int_rmul (typeIs_int s 0 t) F.entry_int_rmul (F.args_int_rmul_2 _ _) (int_rmul_tuple 0 t l its.toArray n dd sl)
      ⟨ho, rfl, ⟨_, ho, rfl⟩, call_meets F.slot_tuple_mul ⟨_, ho, rfl⟩ F.entry_tuple_mul (F.args_tuple_mul_2 _ _) (tuple_mul0 l its.toArray n dd sl t c1) ⟨ho, ?_⟩⟩)
  refine ⟨.ref s.heap.objs.size, _, I.laid (t' := s.toks) (o := .tup []) (fun b ob q => Heap.get?_push_of_some _ q) (Nat.le_refl _) ?_, rfl, q _ (I.hok.fresh (Nat.le_refl _))⟩
  exact ⟨(by show 0 ≤ sizeLine; decide), [], .nil, IsTup.new _ _⟩
end

structure TxtE (w : World) (K : PySem.W.Frag) (mg : Str → Option Value) (a : Ads) : Prop where
  g_MARKS : mg "MARKS" = some (.ref a.P_MARKS)
  tab_MARKS : KTab K w a.P_MARKS [("p", a.M_MARKS_p), ("w", a.M_MARKS_w), ("d", a.M_MARKS_d), ("k", a.M_MARKS_k)]
  s_MARKS_p : ∀ H, SqT K H a.M_MARKS_p [V.str "p", V.str "q", V.str "r"]
  s_MARKS_w : ∀ H, SqT K H a.M_MARKS_w [V.str "w", V.str "x"]
  s_MARKS_d : ∀ H, SqT K H a.M_MARKS_d [V.str "d", V.str "z"]
  s_MARKS_k : ∀ H, SqT K H a.M_MARKS_k [V.str "k", V.str "b", V.str "v"]
  g_BadCommand : mg "BadCommand" = some (.ref a.C_BadCommand)
  x_BadCommand : PySem.W.excIn K a.C_BadCommand [.type "ValueError", .type "Exception", .type "BaseException", .type "object"] "ValueError.__new__" = true
  kc_BadCommand : PySem.W.keepIn K (.ref a.C_BadCommand) = true
  b_BadCommand : PySem.W.subIn K (.ref a.C_BadCommand) (.type "BaseException") = some true
  t_BadCommand : PySem.W.typeIn K (.ref a.C_BadCommand) = some (.type "type")
  xc_BadCommand : XcC K a.C_BadCommand
  exm_BadCommand_BadCommand : PySem.W.exmOne K (.ref a.C_BadCommand) (.ref a.C_BadCommand) = some true
  g_BadPaper : mg "BadPaper" = some (.ref a.C_BadPaper)
  x_BadPaper : PySem.W.excIn K a.C_BadPaper [.type "ValueError", .type "Exception", .type "BaseException", .type "object"] "ValueError.__new__" = true
  kc_BadPaper : PySem.W.keepIn K (.ref a.C_BadPaper) = true
  b_BadPaper : PySem.W.subIn K (.ref a.C_BadPaper) (.type "BaseException") = some true
  t_BadPaper : PySem.W.typeIn K (.ref a.C_BadPaper) = some (.type "type")
  xc_BadPaper : XcC K a.C_BadPaper
  kt_BadPaper_BadPaper : PySem.W.kitOne K (.ref a.C_BadPaper) (.ref a.C_BadPaper) = some true
  exm_BadPaper_BadPaper : PySem.W.exmOne K (.ref a.C_BadPaper) (.ref a.C_BadPaper) = some true

def spFirst (K : PySem.W.Frag) : Sp := fun vs H Q _ => ∃ (p : Addr) (ws : List Int), vs = [.ref p] ∧ SqL K H p (ws.map V.int) ∧ GoodW ws ∧ ∀ H', Same H H' → Q .non H'
def spInit (K : PySem.W.Frag) (C : Addr) : Sp := fun vs H Q _ => ∃ (p dx l : Addr) (ws : List Int), vs = [.ref p, .ref l] ∧ H p = some (.ins C dx []) ∧ SqL K H l (ws.map V.int) ∧ GoodW ws ∧
  ∀ H' : Hp, CommAt C H' p ws → (∀ b o, H b = some o → b ≠ p → H' b = some o) → Q .non H'

def spWof (K : PySem.W.Frag) (C : Addr) : Sp := fun vs H Q _ => ∃ (p l : Addr) (ws ms : List Int), vs = [.ref p, .ref l] ∧ CommAt C H p ws ∧ ws.length ≤ 16 ∧ SqL K H l (ms.map V.int) ∧ ms.length ≤ 1000 ∧ ∀ H', Same H H' → Q (.int (wOf ws ms)) H'
def spQuorum (K : PySem.W.Frag) (C : Addr) : Sp := fun vs H Q _ => ∃ (p l : Addr) (ws ms : List Int), vs = [.ref p, .ref l] ∧ CommAt C H p ws ∧ ws.length ≤ 16 ∧ SqL K H l (ms.map V.int) ∧ ms.length ≤ 1000 ∧ ∀ H', Same H H' → Q (.bl (decide (2 * ws.sum < 3 * wOf ws ms))) H'

/-! ### votes by turn, and the turns that they certify -/
def selV (kd : Kd) (h : Int) (b : Option Str) (x : Lt) : Bool := decide (b ≠ none ∧ x.m.k = kd ∧ x.m.h = h ∧ x.m.b = b)
def inT (kd : Kd) (h : Int) (b : Option Str) (t : Int) (x : Lt) : Bool := selV kd h b x && decide (x.m.t = t)
def vbK (ks : List (Int × Addr)) : List (Key × V) := ks.map fun e => (Sum.inl e.1, V.ref e.2)
structure VbAt (H : Hp) (D : Addr) (xs : List Lt) (kd : Kd) (h : Int) (b : Option Str) (ks : List (Int × Addr)) : Prop where
  here : H D = some (.dK (vbK ks))
  nd : (ks.map (·.1)).Nodup
  nl : (ks.map (·.2)).Nodup
  ls : ∀ e ∈ ks, ∃ qs, H e.2 = some (.lst (qs.map V.ref)) ∧ LsAt H qs (xs.filter (inT kd h b e.1))
  ky : ∀ t : Int, t ∈ ks.map (·.1) ↔ ∃ x ∈ xs, inT kd h b t x = true
  few : ks.length ≤ xs.length
theorem VbAt.same {H H' : Hp} {D : Addr} {xs : List Lt} {kd : Kd} {h : Int} {b : Option Str} {ks : List (Int × Addr)} (v : VbAt H D xs kd h b ks) (s : Same H H') : VbAt H' D xs kd h b ks :=
  ⟨s _ _ v.here, v.nd, v.nl, fun e he => let ⟨qs, h1, h2⟩ := v.ls e he; ⟨qs, s _ _ h1, h2.same s⟩, v.ky, v.few⟩
theorem val_vb {t : Int} : ∀ {ks : List (Int × Addr)}, t ∈ ks.map (·.1) → ∃ l, (t, l) ∈ ks ∧ valV (vbK ks) (Sum.inl t) = some (.ref l)
  | [], h => nomatch h
  | e :: ks, h => by
    by_cases c : e.1 = t
    · exact ⟨e.2, by rw [← c]; exact List.mem_cons_self, valV_pos (p := (Sum.inl e.1, V.ref e.2)) (by rw [c])⟩
    · obtain ⟨l, h1, h2⟩ := val_vb (ks := ks) ((List.mem_cons.mp h).resolve_left fun z => c z.symm)
      exact ⟨l, List.mem_cons_of_mem _ h1, (valV_neg (p := (Sum.inl e.1, V.ref e.2)) (fun z => c (Sum.inl.inj z))).trans h2⟩
theorem val_vbn {t : Int} : ∀ {ks : List (Int × Addr)}, t ∉ ks.map (·.1) → valV (vbK ks) (Sum.inl t) = none
  | [], _ => rfl
  | e :: ks, h => by
    have c : ¬ e.1 = t := fun z => h (by rw [← z]; exact List.mem_cons_self)
    exact (valV_neg (p := (Sum.inl e.1, V.ref e.2)) (fun z => c (Sum.inl.inj z))).trans (val_vbn fun z => h (List.mem_cons_of_mem _ z))
theorem putK_new {kvs : List (Key × V)} {k : Key} {v : V} (h : valV kvs k = none) : putK kvs k v = kvs ++ [(k, v)] := by
  unfold putK
  rw [valV_any, h]
  rfl
theorem filt_no {xs : List Lt} {x : Lt} {p : Lt → Bool} (h : p x = false) : (xs ++ [x]).filter p = xs.filter p := by
  rw [List.filter_append, List.filter_cons_of_neg (by rw [h]; exact Bool.false_ne_true), List.filter_nil, List.append_nil]
theorem filt_yes {xs : List Lt} {x : Lt} {p : Lt → Bool} (h : p x = true) : (xs ++ [x]).filter p = xs.filter p ++ [x] := by
  rw [List.filter_append, List.filter_cons_of_pos h, List.filter_nil]
theorem inT_t {kd : Kd} {h : Int} {b : Option Str} {t : Int} {x : Lt} (c : inT kd h b t x = true) : t = x.m.t := by
  unfold inT at c
  exact (of_decide_eq_true (Bool.and_eq_true_iff.mp c).2).symm
theorem inT_self {kd : Kd} {h : Int} {b : Option Str} {x : Lt} (c : selV kd h b x = true) : inT kd h b x.m.t x = true := by
  unfold inT
  rw [c]
  simp
theorem inT_no {kd : Kd} {h : Int} {b : Option Str} {t : Int} {x : Lt} (c : selV kd h b x = false) : inT kd h b t x = false := by
  unfold inT
  rw [c]
  rfl
theorem VbAt.skip {H : Hp} {D : Addr} {xs : List Lt} {x : Lt} {kd : Kd} {h : Int} {b : Option Str} {ks : List (Int × Addr)} (v : VbAt H D xs kd h b ks) (c : selV kd h b x = false) : VbAt H D (xs ++ [x]) kd h b ks := by
  refine ⟨v.here, v.nd, v.nl, fun e he => ?_, fun t => ?_, ?_⟩
  · rw [filt_no (inT_no c)]
    exact v.ls e he
  · rw [v.ky t]
    constructor
    · rintro ⟨y, hy, z⟩
      exact ⟨y, List.mem_append_left _ hy, z⟩
    · rintro ⟨y, hy, z⟩
      rcases List.mem_append.mp hy with hy | hy
      · exact ⟨y, hy, z⟩
      · rw [List.mem_singleton.mp hy, inT_no c] at z
        cases z
  · have := v.few
    rw [List.length_append]
    omega
theorem ne_dk {H : Hp} {D l : Addr} {kvs : List (Key × V)} {ys : List V} (h : H D = some (.dK kvs)) (hl : H l = some (.lst ys)) : D ≠ l := fun e => by
  rw [e, hl] at h
  cases h
theorem nodup_snd {ks : List (Int × Addr)} {e f : Int × Addr} (nl : (ks.map (·.2)).Nodup) (he : e ∈ ks) (hf : f ∈ ks) (ne : e ≠ f) : e.2 ≠ f.2 := by
  intro z
  induction ks with
  | nil => cases he
  | cons g ks ih =>
    rw [List.map_cons, List.nodup_cons] at nl
    rcases List.mem_cons.mp he with rfl | he' <;> rcases List.mem_cons.mp hf with rfl | hf'
    · exact ne rfl
    · exact nl.1 (by rw [z]; exact List.mem_map.mpr ⟨f, hf', rfl⟩)
    · exact nl.1 (by rw [← z]; exact List.mem_map.mpr ⟨e, he', rfl⟩)
    · exact ih nl.2 he' hf'
theorem nodup_fst {ks : List (Int × Addr)} {e f : Int × Addr} (nd : (ks.map (·.1)).Nodup) (he : e ∈ ks) (hf : f ∈ ks) (q : e.1 = f.1) : e = f := by
  induction ks with
  | nil => cases he
  | cons g ks ih =>
    rw [List.map_cons, List.nodup_cons] at nd
    rcases List.mem_cons.mp he with rfl | he' <;> rcases List.mem_cons.mp hf with rfl | hf'
    · rfl
    · exact (nd.1 (by rw [q]; exact List.mem_map.mpr ⟨f, hf', rfl⟩)).elim
    · exact (nd.1 (by rw [← q]; exact List.mem_map.mpr ⟨e, he', rfl⟩)).elim
    · exact ih nd.2 he' hf'
/-- one more letter in the list that its turn has -/
theorem VbAt.more {H : Hp} {D l p : Addr} {xs : List Lt} {x : Lt} {kd : Kd} {h : Int} {b : Option Str} {ks : List (Int × Addr)} {qs : List Addr} (v : VbAt H D xs kd h b ks) (c : selV kd h b x = true) (hm : (x.m.t, l) ∈ ks)
    (hl : H l = some (.lst (qs.map V.ref))) (hx : LtAt H p x) : VbAt (upd H l (.lst (qs.map V.ref ++ [.ref p]))) D (xs ++ [x]) kd h b ks := by
  refine ⟨by rw [upd_ne (ne_dk v.here hl)]; exact v.here, v.nd, v.nl, fun e he => ?_, fun t => ?_, ?_⟩
  · obtain ⟨rs, h1, h2⟩ := v.ls e he
    by_cases z : e = (x.m.t, l)
    · subst z
      have er : rs.map V.ref = qs.map V.ref := by
        rw [hl] at h1
        injection h1 with h1
        injection h1 with h1
        exact h1.symm
      have er2 : rs = qs := by
        have := congrArg (List.map fun v : V => match v with | .ref a => a | _ => 0) er
        simpa [List.map_map, Function.comp_def] using this
      subst er2
      refine ⟨rs ++ [p], by rw [upd_same]; simp, ?_⟩
      rw [filt_yes (inT_self c)]
      exact (h2.snoc hx).upd hl
    · have n2 := nodup_snd v.nl he hm z
      refine ⟨rs, by rw [upd_ne n2]; exact h1, ?_⟩
      rw [filt_no]
      · exact h2.upd hl
      · cases q : inT kd h b e.1 x with
        | false => rfl
        | true => exact absurd (nodup_fst v.nd he hm (inT_t q)) z
  · rw [v.ky t]
    constructor
    · rintro ⟨y, hy, z⟩
      exact ⟨y, List.mem_append_left _ hy, z⟩
    · rintro ⟨y, hy, z⟩
      rcases List.mem_append.mp hy with hy | hy
      · exact ⟨y, hy, z⟩
      · rw [List.mem_singleton.mp hy] at z
        rw [inT_t z]
        exact (v.ky _).mp (List.mem_map.mpr ⟨_, hm, rfl⟩)
  · have := v.few
    rw [List.length_append]
    omega
/-- the first letter of its turn -/
theorem VbAt.first {H : Hp} {D l p : Addr} {xs : List Lt} {x : Lt} {kd : Kd} {h : Int} {b : Option Str} {ks : List (Int × Addr)} (v : VbAt H D xs kd h b ks) (c : selV kd h b x = true) (hn : x.m.t ∉ ks.map (·.1))
    (hl : H l = some (.lst [])) (nl : l ∉ ks.map (·.2)) (hx : LtAt H p x) : VbAt (upd (upd H D (.dK (vbK (ks ++ [(x.m.t, l)])))) l (.lst [.ref p])) D (xs ++ [x]) kd h b (ks ++ [(x.m.t, l)]) := by
  have nDl : D ≠ l := ne_dk v.here hl
  have hD2 : (upd H D (.dK (vbK (ks ++ [(x.m.t, l)])))) l = some (.lst []) := by rw [upd_ne nDl.symm]; exact hl
  have lk : ∀ {q : Addr} {y : Lt}, LtAt H q y → LtAt (upd (upd H D (.dK (vbK (ks ++ [(x.m.t, l)])))) l (.lst [.ref p])) q y := fun {q y} hy => by
    refine LtAt.upd ?_ hD2
    obtain ⟨r, h1, h2⟩ := hy
    have h2' : H r = some (.tup y.m.vals) := h2
    refine ⟨r, by rw [upd_ne (fun z => by rw [z, v.here] at h1; cases h1)]; exact h1, ?_⟩
    unfold SmAt
    rw [upd_ne (fun z => by rw [z, v.here] at h2'; cases h2')]
    exact h2
  refine ⟨by rw [upd_ne nDl, upd_same], ?_, ?_, fun e he => ?_, fun t => ?_, ?_⟩
  · rw [List.map_append, List.nodup_append]
    refine ⟨v.nd, by simp, fun a ha y hy e => ?_⟩
    rw [List.map_cons, List.map_nil, List.mem_singleton] at hy
    rw [e, hy] at ha
    exact hn ha
  · rw [List.map_append, List.nodup_append]
    refine ⟨v.nl, by simp, fun a ha y hy e => ?_⟩
    rw [List.map_cons, List.map_nil, List.mem_singleton] at hy
    rw [e, hy] at ha
    exact nl ha
  · rcases List.mem_append.mp he with he | he
    · obtain ⟨rs, h1, h2⟩ := v.ls e he
      have n2 : e.2 ≠ l := fun z => nl (by rw [← z]; exact List.mem_map.mpr ⟨e, he, rfl⟩)
      refine ⟨rs, by rw [upd_ne n2, upd_ne (ne_dk v.here h1).symm]; exact h1, ?_⟩
      rw [filt_no]
      · exact ⟨h2.1, fun i hi => lk (h2.2 i hi)⟩
      · cases q : inT kd h b e.1 x with
        | false => rfl
        | true => exact absurd (by rw [← inT_t q]; exact List.mem_map.mpr ⟨e, he, rfl⟩) hn
    · rw [List.mem_singleton.mp he]
      refine ⟨[p], by rw [upd_same]; rfl, ?_⟩
      rw [filt_yes (inT_self c)]
      have e0 : xs.filter (inT kd h b x.m.t) = [] := by
        rw [List.filter_eq_nil_iff]
        intro y hy z
        exact hn ((v.ky _).mpr ⟨y, hy, z⟩)
      rw [e0]
      exact LsAt.nil.snoc (lk hx)
  · rw [List.map_append, List.mem_append, v.ky t]
    constructor
    · rintro (⟨y, hy, z⟩ | z)
      · exact ⟨y, List.mem_append_left _ hy, z⟩
      · rw [List.map_cons, List.map_nil, List.mem_singleton] at z
        exact ⟨x, List.mem_append_right _ (List.mem_singleton.mpr rfl), by rw [z]; exact inT_self c⟩
    · rintro ⟨y, hy, z⟩
      rcases List.mem_append.mp hy with hy | hy
      · exact .inl ⟨y, hy, z⟩
      · rw [List.mem_singleton.mp hy] at z
        exact .inr (by rw [inT_t z]; exact List.mem_singleton.mpr rfl)
  · have := v.few
    rw [List.length_append, List.length_append]
    simp
    omega
def spVbt (K : PySem.W.Frag) : Sp := fun vs H Q _ => ∃ (l : Addr) (ps : List Addr) (xs : List Lt) (kd : Kd) (h : Int) (b : Option Str), vs = [.ref l, .str kd.s, .int h, oS b] ∧ H l = some (.lst (ps.map V.ref)) ∧ LsAt H ps xs ∧ xs.length ≤ 900 ∧
  ∀ (D : Addr) (ks : List (Int × Addr)) H', Same H H' → VbAt H' D xs kd h b ks → Q (.ref D) H'
/-- a dict of turns -/
def tru (L : List Int) : List (Key × V) := L.map fun t => (Sum.inl t, V.bl true)
theorem val_tru {t : Int} : ∀ {L : List Int}, (valV (tru L) (Sum.inl t)).isSome = decide (t ∈ L)
  | [] => by simp [tru, valV]
  | e :: L => by
    have ih := val_tru (t := t) (L := L)
    by_cases c : e = t
    · rw [show valV (tru (e :: L)) (Sum.inl t) = some (.bl true) from valV_pos (p := (Sum.inl e, V.bl true)) (by rw [c])]
      simp [c]
    · rw [show valV (tru (e :: L)) (Sum.inl t) = valV (tru L) (Sum.inl t) from valV_neg (p := (Sum.inl e, V.bl true)) (fun z => c (Sum.inl.inj z)), ih]
      exact decide_eq_decide.mpr ⟨fun m => List.mem_cons_of_mem _ m, fun m => (List.mem_cons.mp m).resolve_left fun z => c z.symm⟩
def cntL (m : Sm) (L : List Int) : Bool := match m.l with | none => true | some l => decide (l < m.t) && decide (l ∈ L)
def spCounts (K : PySem.W.Frag) : Sp := fun vs H Q _ => ∃ (p D : Addr) (m : Sm) (L : List Int), vs = [.ref p, .ref D] ∧ SmAt H p m ∧ m.k = .pre ∧ H D = some (.dK (tru L)) ∧ ∀ H', Same H H' → Q (.bl (cntL m L)) H'
def TB (xs : List Lt) : Prop := ∀ x ∈ xs, 0 ≤ x.m.t ∧ x.m.t < 60
def ctL (ws : List Int) (xs : List Lt) (h : Int) (b : Option Str) : List Int := match b with | none => [] | some _ => lns ws xs h b 60
def spCts (K : PySem.W.Frag) (C : Addr) : Sp := fun vs H Q _ => ∃ (c l : Addr) (ws : List Int) (ps : List Addr) (xs : List Lt) (h : Int) (b : Option Str), vs = [.ref c, .ref l, .int h, oS b] ∧ CommAt C H c ws ∧ GoodW ws ∧ H l = some (.lst (ps.map V.ref)) ∧ LsAt H ps xs ∧ xs.length ≤ 900 ∧ TB xs ∧
  ∀ (R : Addr) H', Same H H' → H R = none → H' R = some (.lst ((ctL ws xs h b).map V.int)) → Q (.ref R) H'
def cmL (ws : List Int) (xs : List Lt) (h : Int) (b : Option Str) : List Int := (ctL ws xs h b).filter fun t => qrm ws (comS xs h t b)
def spCms (K : PySem.W.Frag) (C : Addr) : Sp := fun vs H Q _ => ∃ (c l : Addr) (ws : List Int) (ps : List Addr) (xs : List Lt) (h : Int) (b : Option Str), vs = [.ref c, .ref l, .int h, oS b] ∧ CommAt C H c ws ∧ GoodW ws ∧ H l = some (.lst (ps.map V.ref)) ∧ LsAt H ps xs ∧ xs.length ≤ 900 ∧ TB xs ∧
  ∀ (R : Addr) H', Same H H' → H R = none → H' R = some (.lst ((cmL ws xs h b).map V.int)) → Q (.ref R) H'
theorem mem_lnsI {ws : List Int} {xs : List Lt} {h : Int} {b : Option Str} (t : Int) : ∀ n, t ∈ lns ws xs h b n ↔ 0 ≤ t ∧ t < n ∧ certM ws xs h b t.toNat = true
  | 0 => by
    simp [lns]
    omega
  | n + 1 => by
    have ih := mem_lnsI (ws := ws) (xs := xs) (h := h) (b := b) t n
    by_cases c : certM ws xs h b n = true
    · rw [lns_yes c, List.mem_append, ih, List.mem_singleton]
      constructor
      · rintro (⟨h1, h2, h3⟩ | z)
        · exact ⟨h1, by omega, h3⟩
        · rw [z]
          exact ⟨by omega, by omega, by rw [Int.toNat_natCast]; exact c⟩
      · rintro ⟨h1, h2, h3⟩
        rcases Int.lt_or_le t n with z | z
        · exact .inl ⟨h1, z, h3⟩
        · exact .inr (by omega)
    · rw [lns_no c, ih]
      constructor
      · rintro ⟨h1, h2, h3⟩
        exact ⟨h1, by omega, h3⟩
      · rintro ⟨h1, h2, h3⟩
        refine ⟨h1, ?_, h3⟩
        rcases Int.lt_or_le t n with z | z
        · exact z
        · have e : t.toNat = n := by omega
          rw [e] at h3
          exact absurd h3 c
theorem lns_gap {ws : List Int} {xs : List Lt} {h : Int} {b : Option Str} {a : Nat} : ∀ d, (∀ n, a ≤ n → n < a + d → certM ws xs h b n = false) → lns ws xs h b (a + d) = lns ws xs h b a
  | 0, _ => rfl
  | d + 1, z => by
    have := lns_gap d fun n h1 h2 => z n h1 (by omega)
    rw [← this]
    exact lns_no (n := a + d) (fun y => Bool.false_ne_true ((z (a + d) (by omega) (by omega)).symm.trans y))
theorem wt_none (ws : List Int) : ∀ n, wt ws (fun k => decide (k ∈ ([] : List Int))) n = 0
  | 0 => rfl
  | n + 1 => by
    rw [wt_succ, wt_none ws n]
    simp
theorem good_sum : ∀ {ws : List Int}, (∀ w ∈ ws, 1 ≤ w) → 0 < ws.length → 0 < ws.sum
  | [], _, h => absurd h (Nat.lt_irrefl 0)
  | [w], g, _ => by
    have := g w List.mem_cons_self
    simp
    omega
  | w :: v :: ws, g, _ => by
    have h1 := g w List.mem_cons_self
    have h2 := good_sum (ws := v :: ws) (fun x hx => g x (List.mem_cons_of_mem _ hx)) (by simp)
    rw [List.sum_cons]
    omega
theorem GoodW.sum {ws : List Int} (g : GoodW ws) : 0 < ws.sum := good_sum (fun w hw => (g.2.2 w hw).1) g.1
theorem qrm_nil {ws : List Int} (g : GoodW ws) : qrm ws [] = false := by
  unfold qrm wOf
  rw [wt_none]
  have := g.sum
  exact decide_eq_false (by omega)
theorem cnt_inT {h t : Int} {b : Option Str} {L : List Int} {x : Lt} (nb : b ≠ none) : cnt h t b L x = (inT .pre h b t x && cntL x.m L) := by
  unfold cnt inT selV cntL
  by_cases c : x.m.k = .pre ∧ x.m.h = h ∧ x.m.t = t ∧ x.m.b = b
  · obtain ⟨c1, c2, c3, c4⟩ := c
    simp only [c1, c2, c3, c4, nb, ne_eq, not_false_eq_true, and_self, decide_true, Bool.true_and]
    cases x.m.l with
    | none => rfl
    | some l => exact Bool.and_comm _ _
  · rw [decide_eq_false c, Bool.false_and]
    symm
    rw [Bool.and_eq_false_iff]
    left
    rw [Bool.and_eq_false_iff]
    by_cases c3 : x.m.t = t
    · left
      exact decide_eq_false fun z => c ⟨z.2.1, z.2.2.1, c3, z.2.2.2⟩
    · right
      exact decide_eq_false c3
theorem mem_inT {xs : List Lt} {h t : Int} {b : Option Str} {L : List Int} (nb : b ≠ none) : memM xs h t b L = ((xs.filter (inT .pre h b t)).filter fun x => cntL x.m L).map Lt.w := by
  unfold memM
  rw [List.filter_filter]
  congr 1
  refine List.filter_congr fun x _ => ?_
  rw [cnt_inT nb, Bool.and_comm]
theorem com_inT {xs : List Lt} {h t : Int} {b : Option Str} (nb : b ≠ none) : comS xs h t b = (xs.filter (inT .com h b t)).map Lt.w := by
  unfold comS
  congr 1
  refine List.filter_congr fun x _ => ?_
  unfold inT selV
  rw [Bool.eq_iff_iff, Bool.and_eq_true_iff, decide_eq_true_iff, decide_eq_true_iff, decide_eq_true_iff]
  exact ⟨fun ⟨z1, z2, z3, z4⟩ => ⟨⟨nb, z1, z2, z4⟩, z3⟩, fun ⟨⟨_, z1, z2, z4⟩, z3⟩ => ⟨z1, z2, z3, z4⟩⟩
/-- no prevote in a turn: no certificate -/
theorem cert_none {ws : List Int} {xs : List Lt} {h : Int} {b : Option Str} {n : Nat} (g : GoodW ws) (nb : b ≠ none) (z : ¬ ∃ x ∈ xs, inT .pre h b (n : Int) x = true) : certM ws xs h b n = false := by
  unfold certM
  rw [mem_inT nb]
  have e : xs.filter (inT .pre h b (n : Int)) = [] := List.filter_eq_nil_iff.mpr fun x hx y => z ⟨x, hx, y⟩
  rw [e]
  exact qrm_nil g
theorem nodup_few : ∀ (n : Nat) {L : List Int}, L.Nodup → (∀ t ∈ L, 0 ≤ t ∧ t < n) → L.length ≤ n
  | 0, [], _, _ => Nat.le_refl _
  | 0, t :: L, _, h => by
    have := h t List.mem_cons_self
    omega
  | n + 1, L, nd, h => by
    by_cases c : (n : Int) ∈ L
    · have l1 := List.length_erase_of_mem c
      have ih := nodup_few n (nd.erase (n : Int)) fun t ht => by
        have h2 := (nd.mem_erase_iff).mp ht
        have h3 := h t h2.2
        have h4 := h2.1
        omega
      omega
    · have := nodup_few n nd fun t ht => by
        have h3 := h t ht
        have h4 : t ≠ (n : Int) := fun z => c (z ▸ ht)
        omega
      omega
theorem tru_snoc (L : List Int) (t : Int) : tru (L ++ [t]) = tru L ++ [(Sum.inl t, V.bl true)] := by simp [tru]
theorem take_len {α : Type} (xs : List α) : xs.take xs.length = xs := List.take_length
theorem srt_lt {ts : List Int} (pw : ts.Pairwise (· ≤ ·)) (nd : ts.Nodup) {i j : Nat} (h : i < j) (hj : j < ts.length) : ts.getD i 0 < ts.getD j 0 := by
  have hi : i < ts.length := by omega
  have e1 : ts.getD i 0 = ts[i] := by rw [List.getD_eq_getElem?_getD, List.getElem?_eq_getElem hi]; rfl
  have e2 : ts.getD j 0 = ts[j] := by rw [List.getD_eq_getElem?_getD, List.getElem?_eq_getElem hj]; rfl
  rw [e1, e2]
  have h1 := List.pairwise_iff_getElem.mp pw i j hi hj h
  have h2 := List.pairwise_iff_getElem.mp nd i j hi hj h
  omega
/-- behind the turn before the place i -/
def nxt (ts : List Int) : Nat → Nat
  | 0 => 0
  | i + 1 => (ts.getD i 0 + 1).toNat
theorem gap_gen {ws : List Int} {xs : List Lt} {h : Int} {b : Option Str} {ts : List Int} (g : GoodW ws) (nb : b ≠ none) (ky : ∀ t : Int, t ∈ ts ↔ ∃ x ∈ xs, inT .pre h b t x = true) (pw : ts.Pairwise (· ≤ ·)) (nd : ts.Nodup)
    {i m : Nat} (hi : i ≤ ts.length) (le : nxt ts i ≤ m) (up : ∀ j, i ≤ j → j < ts.length → (m : Int) ≤ ts.getD j 0) : lns ws xs h b m = lns ws xs h b (nxt ts i) := by
  obtain ⟨d, rfl⟩ : ∃ d, m = nxt ts i + d := ⟨m - nxt ts i, by omega⟩
  refine lns_gap d fun n h1 h2 => cert_none g nb fun ex => ?_
  obtain ⟨j, hj, ej⟩ := List.getElem_of_mem ((ky n).mpr ex)
  have ej2 : ts.getD j 0 = (n : Int) := by rw [List.getD_eq_getElem?_getD, List.getElem?_eq_getElem hj]; exact ej
  rcases Nat.lt_or_ge j i with z | z
  · cases i with
    | zero => omega
    | succ k =>
      have h3 : ts.getD j 0 ≤ ts.getD k 0 := by
        rcases Nat.lt_or_ge j k with y | y
        · have := srt_lt pw nd y (by omega)
          omega
        · have : j = k := by omega
          rw [this]
          exact Int.le_refl _
      have h4 : nxt ts (k + 1) = (ts.getD k 0 + 1).toNat := rfl
      omega
  · have := up j z hj
    omega
theorem inT_some {kd : Kd} {h t : Int} {b : Option Str} {x : Lt} (c : inT kd h b t x = true) : b ≠ none ∧ x.m.k = kd := by
  unfold inT selV at c
  have := of_decide_eq_true (Bool.and_eq_true_iff.mp c).1
  exact ⟨this.1, this.2.1⟩
theorem filt_mem {xs : List Lt} {p : Lt → Bool} {i : Nat} (h : i < (xs.filter p).length) : (xs.filter p).getD i default ∈ xs ∧ p ((xs.filter p).getD i default) = true := List.mem_filter.mp (getD_mem2 h)

/-! ### the court: charges -/
def chf (who : Int) (a1 b1 : Addr) : List (Str × V) := putF "second" (.ref b1) (putF "first" (.ref a1) (putF "who" (.int who) []))
def spChI (K : PySem.W.Frag) (C : Addr) : Sp := fun vs H Q _ => ∃ (p dx : Addr) (who : Int) (a1 b1 : Addr), vs = [.ref p, .int who, .ref a1, .ref b1] ∧ H p = some (.ins C dx []) ∧
  ∀ H' : Hp, H' p = some (.ins C dx (chf who a1 b1)) → (∀ b o, H b = some o → b ≠ p → H' b = some o) → Q .non H'
def ChAt (C : Addr) (H : Hp) (v : V) (who : Int) : Option (Lt × Lt) → Prop
  | none => v = .non
  | some r => ∃ p dx a1 b1, v = .ref p ∧ H p = some (.ins C dx (chf who a1 b1)) ∧ LtAt H a1 r.1 ∧ LtAt H b1 r.2
theorem ChAt.same {C : Addr} {H H' : Hp} {v : V} {who : Int} {r : Option (Lt × Lt)} (h : ChAt C H v who r) (s : Same H H') : ChAt C H' v who r := by
  cases r with
  | none => exact h
  | some r =>
    obtain ⟨p, dx, a, b, e, h1, h2, h3⟩ := h
    exact ⟨p, dx, a, b, e, s _ _ h1, h2.same s, h3.same s⟩
theorem ne_wf : ¬ (("who" : Str) = "first") := by decide +kernel
theorem ne_ws2 : ¬ (("who" : Str) = "second") := by decide +kernel
theorem ne_fs : ¬ (("first" : Str) = "second") := by decide +kernel
theorem chf_w (who : Int) (a1 b1 : Addr) : (chf who a1 b1).lookup ("who" : Str) = some (.int who) := by
  unfold chf
  rw [lookup_putF, if_neg ne_ws2, lookup_putF, if_neg ne_wf, lookup_putF, if_pos rfl]
theorem chf_f (who : Int) (a1 b1 : Addr) : (chf who a1 b1).lookup ("first" : Str) = some (.ref a1) := by
  unfold chf
  rw [lookup_putF, if_neg ne_fs, lookup_putF, if_pos rfl]
theorem chf_s (who : Int) (a1 b1 : Addr) : (chf who a1 b1).lookup ("second" : Str) = some (.ref b1) := by
  unfold chf
  rw [lookup_putF, if_pos rfl]
theorem fnd_yes {xs : List Lt} {n : Nat} {r : Lt × Lt} (h : due (ownOf xs (n : Int)) = some r) : fnd xs (n + 1) = fnd xs n ++ [(n : Int)] := by
  rw [fnd, h]
  rfl
theorem fnd_no {xs : List Lt} {n : Nat} (h : due (ownOf xs (n : Int)) = none) : fnd xs (n + 1) = fnd xs n := by
  rw [fnd, h]
  rfl
/-- the first of the earlier letters that clashes with x -/
def FcAt (v : V) (qs : List Addr) (own : List Lt) (x : Lt) : Prop :=
  (v = .non ∧ ∀ j, j < own.length → clashM (own.getD j default).m x.m = false) ∨
  ∃ j, j < own.length ∧ v = .ref (qs.getD j 0) ∧ clashM (own.getD j default).m x.m = true ∧ ∀ i, i < j → clashM (own.getD i default).m x.m = false
def spFc (K : PySem.W.Frag) : Sp := fun vs H Q _ => ∃ (l p : Addr) (qs : List Addr) (own : List Lt) (x : Lt), vs = [.ref l, .ref p] ∧ H l = some (.lst (qs.map V.ref)) ∧ LsAt H qs own ∧ LtAt H p x ∧ ∀ v H', Same H H' → FcAt v qs own x → Q v H'
def spCofC (K : PySem.W.Frag) (C : Addr) : Sp := fun vs H Q _ => ∃ (l : Addr) (who : Int) (ps : List Addr) (xs : List Lt), vs = [.ref l, .int who] ∧ H l = some (.lst (ps.map V.ref)) ∧ LsAt H ps xs ∧ xs.length ≤ 900 ∧ ∀ v H', Same H H' → ChAt C H' v who (due (ownOf xs who)) → Q v H'
def spCharges (K : PySem.W.Frag) (C1 C2 : Addr) : Sp := fun vs H Q _ => ∃ (c l : Addr) (ws : List Int) (ps : List Addr) (xs : List Lt), vs = [.ref c, .ref l] ∧ CommAt C1 H c ws ∧ ws.length ≤ 16 ∧ H l = some (.lst (ps.map V.ref)) ∧ LsAt H ps xs ∧ xs.length ≤ 900 ∧
  ∀ (p : Addr) (cs : List Addr) H', Same H H' → H' p = some (.lst (cs.map V.ref)) → cs.length = (fnd xs ws.length).length → (∀ i, i < cs.length → ChAt C2 H' (.ref (cs.getD i 0)) ((fnd xs ws.length).getD i 0) (due (ownOf xs ((fnd xs ws.length).getD i 0)))) → Q (.ref p) H'
theorem row_app {own ys : List Lt} {a : Nat} (ha : a < own.length) : ∀ n, n ≤ own.length → rowDue (own ++ ys) a n = rowDue own a n
  | 0, _ => rfl
  | n + 1, hn => by
    rw [rowDue, rowDue, row_app ha n (Nat.le_of_lt hn), getD_left (show n < own.length from hn), getD_left ha]
theorem col_app {own ys : List Lt} : ∀ n, n ≤ own.length → colDue (own ++ ys) n = colDue own n
  | 0, _ => rfl
  | n + 1, hn => by
    rw [colDue, colDue, col_app n (Nat.le_of_lt hn), row_app (show n < own.length from hn) n (Nat.le_of_lt hn)]
theorem due_app {own ys : List Lt} {r : Lt × Lt} (h : due own = some r) : due (own ++ ys) = some r := by
  unfold due at h ⊢
  have e : colDue (own ++ ys) own.length = some r := by rw [col_app _ (Nat.le_refl _), h]
  have := col_mono e ys.length
  rwa [← List.length_append] at this
theorem row_last_no {own : List Lt} {x : Lt} (h : ∀ j, j < own.length → clashM (own.getD j default).m x.m = false) : ∀ n, n ≤ own.length → rowDue (own ++ [x]) own.length n = none
  | 0, _ => rfl
  | n + 1, hn => by
    refine row_no (row_last_no h n (Nat.le_of_lt hn)) ?_
    rw [getD_last, getD_left (show n < own.length from hn)]
    exact h n hn
theorem due_snoc_no {own : List Lt} {x : Lt} (d : due own = none) (h : ∀ j, j < own.length → clashM (own.getD j default).m x.m = false) : due (own ++ [x]) = none := by
  unfold due at d ⊢
  rw [List.length_append, List.length_singleton]
  refine col_no ?_ (row_last_no h _ (Nat.le_refl _))
  rw [col_app _ (Nat.le_refl _), d]
theorem row_last_before {own : List Lt} {x : Lt} {j : Nat} (hj : j ≤ own.length) (h : ∀ i, i < j → clashM (own.getD i default).m x.m = false) : ∀ n, n ≤ j → rowDue (own ++ [x]) own.length n = none
  | 0, _ => rfl
  | n + 1, hn => by
    refine row_no (row_last_before hj h n (Nat.le_of_lt hn)) ?_
    rw [getD_last, getD_left (show n < own.length by omega)]
    exact h n hn
theorem due_snoc_yes {own : List Lt} {x : Lt} {j : Nat} (d : due own = none) (hj : j < own.length) (c : clashM (own.getD j default).m x.m = true) (h : ∀ i, i < j → clashM (own.getD i default).m x.m = false) : due (own ++ [x]) = some (own.getD j default, x) := by
  have e : (own ++ [x]).getD own.length default = x := getD_last
  have e2 : (own ++ [x]).getD j default = own.getD j default := getD_left hj
  have := due_at (own := own ++ [x]) (a := own.length) (n := j) (by rw [List.length_append, List.length_singleton]; omega) hj (by rw [col_app _ (Nat.le_refl _)]; exact d) (row_last_before (Nat.le_of_lt hj) h j (Nat.le_refl _)) (by rw [e, e2]; exact c)
  rwa [e, e2] at this
theorem own_split (xs : List Lt) (who : Int) (i : Nat) : ownOf xs who = ownOf (xs.take i) who ++ ownOf (xs.drop i) who := by
  unfold ownOf
  rw [← List.filter_append, List.take_append_drop]

/-! ### papers -/
def spShown (K : PySem.W.Frag) (C : Addr) : Sp := fun vs H Q _ => ∃ (c l : Addr) (ws : List Int) (ps : List Addr) (xs : List Lt) (h : Int) (b : Option Str), vs = [.ref c, .int h, oS b, .ref l] ∧ CommAt C H c ws ∧ GoodW ws ∧ H l = some (.lst (ps.map V.ref)) ∧ LsAt H ps xs ∧ xs.length ≤ 900 ∧ TB xs ∧
  ∀ (v : V) H', Same H H' → (cmL ws xs h b = [] → v = .non) → (cmL ws xs h b ≠ [] → ∃ m ∈ cmL ws xs h b, (∀ y ∈ cmL ws xs h b, m ≤ y) ∧ v = .int m) → Q v H'
def shM (ws : List Int) (xs : List Lt) (h : Int) (b : Option Str) : Bool := !(cmL ws xs h b).isEmpty
def spShows (K : PySem.W.Frag) (C : Addr) : Sp := fun vs H Q _ => ∃ (c l : Addr) (ws : List Int) (ps : List Addr) (xs : List Lt) (h : Int) (b : Option Str), vs = [.ref c, .int h, oS b, .ref l] ∧ CommAt C H c ws ∧ GoodW ws ∧ H l = some (.lst (ps.map V.ref)) ∧ LsAt H ps xs ∧ xs.length ≤ 900 ∧ TB xs ∧
  ∀ H', Same H H' → Q (.bl (shM ws xs h b)) H'
def spAcc (K : PySem.W.Frag) (C1 C2 CB : Addr) : Sp := fun vs H Q E => ∃ (c o1 o2 l1 l2 : Addr) (ws : List Int) (h : Int) (b1 b2 : Str) (ps1 ps2 : List Addr) (xs1 xs2 : List Lt), vs = [.ref c, .int h, .ref o1, .ref o2] ∧ CommAt C1 H c ws ∧ GoodW ws ∧
  H o1 = some (.tup [.str b1, .ref l1]) ∧ H o2 = some (.tup [.str b2, .ref l2]) ∧ H l1 = some (.lst (ps1.map V.ref)) ∧ H l2 = some (.lst (ps2.map V.ref)) ∧ LsAt H ps1 xs1 ∧ LsAt H ps2 xs2 ∧ xs1.length ≤ 400 ∧ xs2.length ≤ 400 ∧ TB xs1 ∧ TB xs2 ∧
  (b1 ≠ b2 → shM ws xs1 h (some b1) = true → shM ws xs2 h (some b2) = true →
    ∀ (p : Addr) (cs : List Addr) H', Same H H' → H' p = some (.lst (cs.map V.ref)) → cs.length = (fnd (xs1 ++ xs2) ws.length).length → (∀ i, i < cs.length → ChAt C2 H' (.ref (cs.getD i 0)) ((fnd (xs1 ++ xs2) ws.length).getD i 0) (due (ownOf (xs1 ++ xs2) ((fnd (xs1 ++ xs2) ws.length).getD i 0)))) → Q (.ref p) H') ∧
  (b1 = b2 ∨ shM ws xs1 h (some b1) = false ∨ shM ws xs2 h (some b2) = false → ∀ H', Same H H' → E (.ref CB) none H')
theorem LsAt.app {H : Hp} {ps qs : List Addr} {xs ys : List Lt} (h : LsAt H ps xs) (e : LsAt H qs ys) : LsAt H (ps ++ qs) (xs ++ ys) := by
  refine ⟨by rw [List.length_append, List.length_append, h.1, e.1], fun i hi => ?_⟩
  rw [List.length_append] at hi
  rcases Nat.lt_or_ge i xs.length with z | z
  · rw [getD_left (by rw [h.1]; exact z), getD_left z]
    exact h.2 i z
  · have z' : ps.length ≤ i := by rw [h.1]; exact z
    rw [List.getD_eq_getElem?_getD, List.getD_eq_getElem?_getD, List.getElem?_append_right z', List.getElem?_append_right z, ← List.getD_eq_getElem?_getD, ← List.getD_eq_getElem?_getD, h.1]
    exact e.2 _ (by omega)

def spCell (K : PySem.W.Frag) : Sp := fun vs H Q _ => ∃ (a : Addr) (ns : List Int) (k : Int), vs = [.ref a, .int k] ∧ SqL K H a (ns.map V.int) ∧ ns.length ≤ 63 ∧ 0 ≤ k ∧ Q (.int (ns.getD k.toNat 0)) H
def spRow (K : PySem.W.Frag) : Sp := fun vs H Q _ => ∃ (cell count size : Int), vs = [.int cell, .int count, .int size] ∧ 0 ≤ count ∧ count ≤ 1000 ∧ 0 < size ∧ size < 1000 ∧
  ∀ p (row : List Int) H', Same H H' → H' p = some (.lst (row.map V.int)) → row.length = count.toNat → (∀ x ∈ row, 0 ≤ x ∧ x < size) → H p = none → Q (.ref p) H'
def spWeights (K : PySem.W.Frag) : Sp := fun vs H Q _ => ∃ (cell most : Int), vs = [.int cell, .int most] ∧ 0 < most ∧ most ≤ 16 ∧ ∀ p (ws : List Int) H', Same H H' → H' p = some (.lst (ws.map V.int)) → GoodW ws → ws.length ≤ most.toNat → Q (.ref p) H'
def spWeight (K : PySem.W.Frag) : Sp := fun vs H Q _ => ∃ (p q : Addr) (ws ms : List Int), vs = [.ref p, .ref q] ∧ SqL K H p (ws.map V.int) ∧ SqL K H q (ms.map V.int) ∧ ws.length ≤ 16 ∧ ∀ H', Same H H' → Q (.int (wOf ws ms)) H'
def spLCert (K : PySem.W.Frag) : Sp := fun vs H Q _ => ∃ (pw l : Addr) (ws : List Int) (ps : List Addr) (xs : List Lt) (h t : Int) (b : Option Str), vs = [.ref pw, .ref l, .int h, .int t, oS b] ∧ SqL K H pw (ws.map V.int) ∧ ws.length ≤ 16 ∧ H l = some (.lst (ps.map V.ref)) ∧ LsAt H ps xs ∧ xs.length ≤ 100 ∧
  0 ≤ t ∧ t ≤ 12 ∧ ∀ H', Same H H' → Q (.bl (certM ws xs h b t.toNat)) H'
def spLComm (K : PySem.W.Frag) : Sp := fun vs H Q _ => ∃ (pw l : Addr) (ws : List Int) (ps : List Addr) (xs : List Lt) (h t : Int) (b : Option Str), vs = [.ref pw, .ref l, .int h, .int t, oS b] ∧ SqL K H pw (ws.map V.int) ∧ ws.length ≤ 16 ∧ H l = some (.lst (ps.map V.ref)) ∧ LsAt H ps xs ∧ xs.length ≤ 100 ∧
  0 ≤ t ∧ t ≤ 12 ∧ OkS b ∧ OkL xs ∧ ∀ H', Same H H' → Q (.bl (commM ws xs h b t.toNat)) H'

/-- a command -/
inductive Cm where
  | p (a b c : Int)
  | w (a b : Int)
  | k (a b c : Int)
  | d (a : Int) (code : Str)
def nu (i : Int) : Str := Str.ofString (toString i)
def Cm.ki : Cm → Str
  | .p _ _ _ => "p"
  | .w _ _ => "w"
  | .k _ _ _ => "k"
  | .d _ _ => "d"
def Cm.ps : Cm → List V
  | .p a b c => [.int a, .int b, .int c]
  | .w a b => [.int a, .int b]
  | .k a b c => [.int a, .int b, .int c]
  | .d a s => [.int a, .str s]
def Cm.txt : Cm → Str
  | .p a b c => "p" ++ nu a ++ "q" ++ nu b ++ "r" ++ nu c
  | .w a b => "w" ++ nu a ++ "x" ++ nu b
  | .k a b c => "k" ++ nu a ++ "b" ++ nu b ++ "v" ++ nu c
  | .d a s => "d" ++ nu a ++ "z" ++ s ++ "z"
/-- what stands before each part -/
def Cm.ms : Cm → List Str
  | .p _ _ _ => ["p", "q", "r"]
  | .w _ _ => ["w", "x"]
  | .k _ _ _ => ["k", "b", "v"]
  | .d _ _ => ["d", "z"]
def Cm.ma (a : Ads) : Cm → Addr
  | .p _ _ _ => a.M_MARKS_p
  | .w _ _ => a.M_MARKS_w
  | .k _ _ _ => a.M_MARKS_k
  | .d _ _ => a.M_MARKS_d
/-- each part behind its mark -/
def Cm.bits : Cm → List Str
  | .p a b c => ["p" ++ nu a, "q" ++ nu b, "r" ++ nu c]
  | .w a b => ["w" ++ nu a, "x" ++ nu b]
  | .k a b c => ["k" ++ nu a, "b" ++ nu b, "v" ++ nu c]
  | .d a s => ["d" ++ nu a, "z" ++ s]
/-- a part as a text -/
def paT : V → Str
  | .int i => nu i
  | .str s => s
  | _ => Str.empty
def CmAt (H : Hp) (p : Addr) (c : Cm) : Prop := H p = some (.tup (.str c.ki :: c.ps))
def NOk (i : Int) : Prop := 0 ≤ i ∧ i ≤ 999999
/-- a number that may stand in a command tuple -/
def WOk (i : Int) : Prop := -1000 ≤ i ∧ i ≤ 2000000
theorem NOk.w {i : Int} (h : NOk i) : WOk i := ⟨by have := h.1; omega, by have := h.2; omega⟩
def Cm.ok : Cm → Prop
  | .p a b c => WOk a ∧ WOk b ∧ WOk c
  | .w a b => WOk a ∧ WOk b
  | .k a b c => WOk a ∧ WOk b ∧ WOk c
  | .d a s => WOk a ∧ s.length ≤ 250 ∧ PyData.strOk s = true
/-- the signs of programs -/
def Sgn (z : Str) : Prop := ∀ n ∈ TL.tl z, n ∈ TL.tl "0123456789ginasmtcehlujfyo"
/-- a command that a text writes -/
def Cm.right : Cm → Prop
  | .p a b c => NOk a ∧ NOk b ∧ NOk c
  | .w a b => NOk a ∧ NOk b
  | .k a b c => NOk a ∧ NOk b ∧ NOk c
  | .d a s => NOk a ∧ Sgn s
/-- a command that the law makes -/
def Cm.good : Cm → Prop
  | .p a b c => NOk a ∧ NOk b ∧ NOk c
  | .w a b => NOk a ∧ NOk b
  | .k a b c => NOk a ∧ NOk b ∧ NOk c
  | .d a s => NOk a ∧ s.length ≤ 12 ∧ Sgn s
theorem strOk_cps {x : Str} (h : ∀ c ∈ TL.tl x, c < 1114112) : PyData.strOk x = true := by
  unfold PyData.strOk
  rw [← Array.all_toList]
  exact List.all_eq_true.mpr fun c hc => decide_eq_true (h c hc)
theorem Sgn.ok {z : Str} (h : Sgn z) : PyData.strOk z = true := strOk_cps fun c hc => by
  have : ∀ c ∈ TL.tl "0123456789ginasmtcehlujfyo", c < 1114112 := by decide +kernel
  exact this c (h c hc)
theorem Cm.good.ok : ∀ {c : Cm}, c.good → c.ok
  | .p _ _ _, h => ⟨h.1.w, h.2.1.w, h.2.2.w⟩
  | .w _ _, h => ⟨h.1.w, h.2.w⟩
  | .k _ _ _, h => ⟨h.1.w, h.2.1.w, h.2.2.w⟩
  | .d _ _, h => ⟨h.1.w, Nat.le_trans h.2.1 (by decide), h.2.2.ok⟩
theorem Cm.good.right : ∀ {c : Cm}, c.good → c.right
  | .p _ _ _, h => h
  | .w _ _, h => h
  | .k _ _ _, h => h
  | .d _ _, h => ⟨h.1, h.2.2⟩
instance : Inhabited Cm := ⟨.w 0 0⟩
def CmsAt (H : Hp) (ps : List Addr) (cs : List Cm) : Prop := ps.length = cs.length ∧ ∀ i, i < cs.length → CmAt H (ps.getD i 0) (cs.getD i default)
theorem CmsAt.same {H H' : Hp} {ps : List Addr} {cs : List Cm} (h : CmsAt H ps cs) (s : Same H H') : CmsAt H' ps cs := ⟨h.1, fun i hi => s _ _ (h.2 i hi)⟩
/-- the texts one behind the other -/
def cat (cs : List Cm) : Str := cs.foldl (fun z c => z ++ c.txt) Str.empty
theorem cat_snoc (cs : List Cm) (c : Cm) : cat (cs ++ [c]) = cat cs ++ c.txt := by
  unfold cat
  rw [List.foldl_append]
  rfl
/-- the first n commands fit, and no more do -/
def Fit (cs : List Cm) (n : Nat) : Prop := n ≤ cs.length ∧ (∀ j, j ≤ n → (cat (cs.take j)).length ≤ 60) ∧ (n < cs.length → 60 < (cat (cs.take (n + 1))).length)
theorem Fit.one {cs : List Cm} {m n : Nat} (h : Fit cs m) (g : Fit cs n) : m = n := by
  obtain ⟨a1, a2, a3⟩ := h
  obtain ⟨b1, b2, b3⟩ := g
  rcases Nat.lt_trichotomy m n with c | c | c
  · have := a3 (by omega)
    have := b2 (m + 1) c
    omega
  · exact c
  · have := b3 (by omega)
    have := a2 (n + 1) c
    omega
/-- a reader of z that stands at i -/
def RdAt (C : Addr) (H : Hp) (p : Addr) (z : Str) (i : Nat) : Prop := ∃ dx, H p = some (.ins C dx [("text", .str z), ("at", .int (i : Int))])
/-- how many signs from i on are allowed -/
def runL (al : List Nat) : List Nat → Nat
  | [] => 0
  | c :: r => if c ∈ al then runL al r + 1 else 0
def spRInit (C : Addr) : Sp := fun vs H Q _ => ∃ (p dx : Addr) (z : Str), vs = [.ref p, .str z] ∧ H p = some (.ins C dx []) ∧ ∀ H', RdAt C H' p z 0 → (∀ b o, b ≠ p → H b = some o → H' b = some o) → Q .non H'
def spSigns (C : Addr) : Sp := fun vs H Q _ => ∃ (p : Addr) (z al : Str) (i : Nat), vs = [.ref p, .str al] ∧ RdAt C H p z i ∧ z.length ≤ 1000 ∧ i ≤ z.length ∧
  ∀ H', RdAt C H' p z (i + runL (TL.tl al) ((TL.tl z).drop i)) → (∀ b o, b ≠ p → H b = some o → H' b = some o) → Q (.str ⟨(((TL.tl z).drop i).take (runL (TL.tl al) ((TL.tl z).drop i))).toArray⟩) H'
def spSkip (C CE : Addr) : Sp := fun vs H Q E => ∃ (p : Addr) (z : Str) (c i : Nat), vs = [.ref p, .str ⟨#[c]⟩] ∧ RdAt C H p z i ∧ z.length ≤ 1000 ∧ i ≤ z.length ∧
  ((TL.tl z)[i]? = some c → ∀ H', RdAt C H' p z (i + 1) → (∀ b o, b ≠ p → H b = some o → H' b = some o) → Q .non H') ∧
  ((TL.tl z)[i]? ≠ some c → E (.ref CE) none H)
/-- the digits that stand at i -/
def digsAt (z : Str) (i : Nat) : List Nat := ((TL.tl z).drop i).take (runL (TL.tl "0123456789") ((TL.tl z).drop i))
/-- a right number -/
def NumW (w : List Nat) : Prop := 1 ≤ w.length ∧ w.length ≤ 6 ∧ ¬ (w.head? = some 48 ∧ w ≠ [48])
def spNumR (C CE : Addr) : Sp := fun vs H Q E => ∃ (p : Addr) (z : Str) (i : Nat), vs = [.ref p] ∧ RdAt C H p z i ∧ z.length ≤ 1000 ∧ i ≤ z.length ∧
  (NumW (digsAt z i) → ∀ H', RdAt C H' p z (i + (digsAt z i).length) → (∀ b o, b ≠ p → H b = some o → H' b = some o) → Q (.int (NumText.digitsVal (digsAt z i) : Nat)) H') ∧
  (¬ NumW (digsAt z i) → ∀ H', (∀ b o, b ≠ p → H b = some o → H' b = some o) → E (.ref CE) none H')

def spLaw (K : PySem.W.Frag) : Sp := fun vs H Q _ => ∃ (a : Addr) (ns : List Int), vs = [.ref a] ∧ SqL K H a (ns.map V.int) ∧ ns.length ≤ 63 ∧ ∀ H', Q (.bl true) H'
section
local macro_rules | `(tactic| walk_at "r1") => `(tactic| first
  | refine ⟨_, rfl, ?_⟩
  | refine ⟨_, _, rfl, rfl, (by show (0 : Int) < _; first | decide | omega), ?_⟩
  | refine ⟨_, _, rfl, rfl, (show CDiv _ _ from ⟨by decide, by decide⟩), ?_⟩
  | refine ⟨_, _, rfl, rfl, (show CMul _ _ from .inl ⟨by decide, by decide⟩), ?_⟩
  | refine ⟨_, _, rfl, rfl, (show CMul _ _ from .inr ⟨by decide, by decide⟩), ?_⟩
  | refine ⟨_, _, rfl, rfl, (show CPow _ _ from ⟨by decide, by decide, by decide⟩), ?_⟩
  | refine ⟨_, _, rfl, rfl, ?_⟩
  | refine ⟨_, _, _, _, rfl, rfl, SqT.of (by assumption), by first | exact at0 _ | exact at1 _ | exact at2 _ | exact at3 _ | exact at4 _ (by assumption), ?_⟩
  | refine ⟨scal_oS _ _, ?_⟩
  | refine .inl ⟨_, rfl, ?_⟩
  | refine ⟨rfl, ?_⟩)
local macro_rules | `(tactic| walk_at "rs") => `(tactic| repeat walk_at "r1")

variable {P : Program} {w : World} {K : PySem.W.Frag} {mg : Str → Option Value} {base : Heap} {a : Ads}
theorem getD_mem {zs : List Int} {i : Nat} (h : i < zs.length) : zs.getD i 0 ∈ zs := by
  rw [List.getD_eq_getElem?_getD, List.getElem?_eq_getElem h]
  exact List.getElem_mem h
theorem at_ints {zs : List Int} {i : Nat} (h : i < zs.length) : (zs.map V.int)[i]? = some (.int (zs.getD i 0)) := by
  rw [List.getElem?_map, List.getD_eq_getElem?_getD, List.getElem?_eq_getElem h]
  rfl

theorem ok_first_wrong (T : Txt K mg a) : ∃ fd, FnOk P w K mg base CX0 1 a.d_first_wrong fd ["weights"] (spFirst K) ∧ Binds K fd ["weights"] [] := by
  obtain ⟨fd, F, b⟩ := T.d_first_wrong.F
  refine ⟨fd, F.ok sc_first_wrong (fun vs H Q E h => ?_) (fun cdv A outer s H vs Q E hr h => ?_), b⟩
  · obtain ⟨_, _, rfl, _⟩ := h
    rfl
  · obtain ⟨p, ws, rfl, hp, gw, k⟩ := h
    refine ⟨_, (pss_cons (ps_for PassesOwn.never rfl (pi_enum (by rfl) T.n_enumerate (pa_cons (pv 0) pa_nil)) (pg_tup rfl (pgs_cons (pg_name (i := 1) sc_first_wrong.nd rfl (Or.inl rfl)) (pgs_cons (pg_name (i := 2) sc_first_wrong.nd rfl (Or.inl rfl)) pgs_nil)))
      (pss_one (ps_if (PW.pt (pw_or (pt_cmpR op_ge (pv 1) (pe_glob (v := (.int 16)) rfl T.c_MOST_MEMBERS.choose_spec ⟨_, rfl⟩) (nomark _)) (pw_or (pt_cmpR op_lt (pv 2) pe_int (nomark _)) (pw_or1 (pt_cmpR op_gt (pv 2) (pe_glob (v := (.int 1000000000000)) rfl T.c_MOST_WEIGHT.choose_spec ⟨_, rfl⟩) (nomark _))))))
        (pss_one (ps_ret (pv 1)))
        pss_nil)))
      (pss_cons (ps_if (pt_cmpR op_eq (pe_callB call_len_seq (by rfl) T.n_len PySem.boot_len (pa_cons (pv 0) pa_nil)) pe_int (nomark _))
      (pss_one (ps_ret pe_int))
      pss_nil)
      (pss_one (ps_ret pe_non)))), ?_⟩
    walk_at "rs"
    refine ⟨p, _, rfl, hp, ?_⟩
    refine for_enumL (K := K) (a := p) (ys := ws.map V.int) (fun i σ H2 => ∃ v1 v2 : Option V, σ = [some (.ref p), v1, v2] ∧ Same H H2) ⟨_, _, rfl, Same.refl H⟩ (fun i σ H2 _ ⟨_, _, _, s2⟩ => s2.seq hp) ?_ ?_
    · rintro i y σ H2 q hy ⟨v1, v2, rfl, s2⟩ hq
      have hi : i < ws.length := by
        have e := (List.getElem?_eq_some_iff.mp hy).1
        rwa [List.length_map] at e
      rw [at_ints hi] at hy
      cases hy
      have g1 := gw.2.2 _ (getD_mem hi)
      have g2 := gw.2.1
      walk_at "rs"
      refine ⟨q, _, rfl, SqT.of upd_same, rfl, ?_⟩
      refine ⟨_, _, rfl, _, _, rfl, rfl, ?_⟩
      walk_at "rs"
      refine ite2 (fun c1 => ?_) (fun c1 => ?_)
      · exfalso
        have := of_decide_eq_true c1
        omega
      walk_at "rs"
      refine ite2 (fun c2 => ?_) (fun c2 => ?_)
      · exfalso
        have := of_decide_eq_true c2
        omega
      walk_at "rs"
      refine ite2 (fun c3 => ?_) (fun c3 => ?_)
      · exfalso
        have := of_decide_eq_true c3
        omega
      exact ⟨_, _, rfl, same_upd s2 (s2.free hq)⟩
    · rintro σ H2 ⟨v1, v2, rfl, s2⟩
      walk_at "rs"
      refine ⟨p, _, rfl, .inl (s2.seq hp), ?_⟩
      walk_at "rs"
      refine ite2 (fun c1 => ?_) (fun c1 => ?_)
      · exfalso
        have g0 := gw.1
        simp at c1
        simp [c1] at g0
      exact k H2 s2
theorem ok_Committee_init (T : Txt K mg a) : ∃ fd, FnOk P w K mg base CX0 2 a.d_Committee_init fd ["self", "weights"] (spInit K a.C_Committee) ∧ Binds K fd ["self", "weights"] [] := by
  obtain ⟨fd, F, b⟩ := T.d_Committee_init.F
  obtain ⟨fd_first_wrong, G_first_wrong, b_first_wrong⟩ := ok_first_wrong (P := P) (w := w) (base := base) T
  refine ⟨fd, F.ok sc_Committee_init (fun vs H Q E h => ?_) (fun cdv A outer s H vs Q E hr h => ?_), b⟩
  · obtain ⟨_, _, _, _, rfl, _⟩ := h
    rfl
  · obtain ⟨p, dx, l, ws, rfl, hp, hl, gw, k⟩ := h
    refine ⟨_, (pss_cons (ps_set (i := 2) sc_Committee_init.nd rfl (Or.inl rfl) (pe_call G_first_wrong (hr.mono (by decide)) rfl T.d_first_wrong.g T.d_first_wrong.kp b_first_wrong .nil pass0 (pa_cons (pv 1) pa_nil)))
      (pss_cons (ps_if (pt_cmpR op_notN (pv 2) pe_non (nomark _))
      (pss_one ps_never)
      pss_nil)
      (pss_cons (ps_fld (pv 0) (pe_callTy call_tuple_of (by rfl) T.n_tuple (by decide +kernel) (pa_cons (pv 1) pa_nil)) rfl)
      (pss_cons (ps_fld (pv 0) (pe_callB call_len_seq (by rfl) T.n_len PySem.boot_len (pa_cons (pe_fld (pv 0) rfl) pa_nil)) rfl)
      (pss_one (ps_fld (pv 0) (pe_callB (cr_sumT rfl) (by rfl) T.n_sum (by decide +kernel) (pa_cons (pe_fld (pv 0) rfl) pa_nil)) rfl)))))), ?_⟩
    walk_at "rs"
    refine ⟨l, ws, rfl, hl, gw, fun H1 s1 => ?_⟩
    walk_at "rs"
    have hp1 := s1 _ _ hp
    refine ⟨l, _, rfl, .inl ⟨s1.seq hl, fun t ht => ?_⟩⟩
    have npt : p ≠ t := ne_of_none hp1 ht
    have hp2 : (upd H1 t (.tup (ws.map V.int))) p = some (.ins a.C_Committee dx []) := by rw [upd_ne npt]; exact hp1
    walk_at "rs"
    refine ⟨p, _, dx, [], rfl, hp2, T.cl_Committee, T.a_Committee_weights, (by show 0 < 1000; decide), ?_⟩
    have ht3 : ∀ o : HO, (upd (upd H1 t (.tup (ws.map V.int))) p o) t = some (.tup (ws.map V.int)) := fun o => by rw [upd_ne npt.symm, upd_same]
    walk_at "rs"
    refine ⟨p, _, dx, _, .ref t, rfl, upd_same, T.cl_Committee, T.a_Committee_weights, by rw [lookup_putF, if_pos rfl], ?_⟩
    walk_at "rs"
    refine ⟨t, _, rfl, .inr (SqT.of (ht3 _)), ?_⟩
    walk_at "rs"
    refine ⟨p, _, dx, _, rfl, upd_same, T.cl_Committee, T.a_Committee_size, (by show 1 < 1000; decide), ?_⟩
    rw [upd_upd]
    walk_at "rs"
    refine ⟨p, _, dx, _, .ref t, rfl, upd_same, T.cl_Committee, T.a_Committee_weights, by rw [lookup_putF, if_neg ne_ws, lookup_putF, if_pos rfl], ?_⟩
    walk_at "rs"
    refine ⟨t, ws, rfl, SqT.of (ht3 _), ?_⟩
    walk_at "rs"
    refine ⟨p, _, dx, _, rfl, upd_same, T.cl_Committee, T.a_Committee_total, (Nat.lt_of_le_of_lt (length_putF _ _ _) (Nat.lt_of_le_of_lt (Nat.add_le_add_right (length_putF _ _ _) 1) (by show 2 < 1000; decide))), ?_⟩
    rw [upd_upd, List.length_map]
    exact k _ ⟨dx, t, upd_same, ht3 _⟩ fun b o e hb => by
      rw [upd_ne hb, upd_ne (ne_of_none (s1 _ _ e) ht)]
      exact s1 _ _ e

theorem ok_is_vote (T : Txt K mg a) : ∃ fd, FnOk P w K mg base CX0 1 a.d_is_vote fd ["statement"] (spVote K) ∧ Binds K fd ["statement"] [] := by
  obtain ⟨fd, F, b⟩ := T.d_is_vote.F
  refine ⟨fd, F.ok sc_is_vote (fun vs H Q E h => ?_) (fun cdv A outer s H vs Q E hr h => ?_), b⟩
  · obtain ⟨p, m, rfl, _⟩ := h
    rfl
  · obtain ⟨p, m, rfl, hp, k⟩ := h
    refine ⟨_, (pss_one (ps_ret (pe_cmpR op_in_seq (pe_ix ix_tup (pv 0) (pe_glob (v := (.int 0)) rfl T.c_KIND.choose_spec ⟨_, rfl⟩) (fun _ _ => rfl)) (pe_tup (pa_cons pe_str (pa_cons pe_str pa_nil))) (by rfl)))), ?_⟩
    refine ⟨_, rfl, p, _, _, _, rfl, rfl, SqT.of hp, at0 m, (by show 2 ≤ sizeLine; decide), fun t ht => ?_⟩
    refine ⟨t, _, rfl, .inr (SqT.of upd_same), rfl, rfl, ?_⟩
    have e : inV (V.str m.k.s) [V.str "prevote", V.str "precommit"] = decide (m.k ≠ .prop) := by
      cases hk : m.k <;> decide +kernel
    show Q (.bl (inV (V.str m.k.s) [V.str "prevote", V.str "precommit"])) _
    rw [e]
    exact k _ (same_new ht)
theorem ok_abandons (T : Txt K mg a) : ∃ fd, FnOk P w K mg base CX0 1 a.d_abandons fd ["one", "other"] (spAband K) ∧ Binds K fd ["one", "other"] [] := by
  obtain ⟨fd, F, b⟩ := T.d_abandons.F
  refine ⟨fd, F.ok sc_abandons (fun vs H Q E h => ?_) (fun cdv A outer s H vs Q E hr h => ?_), b⟩
  · obtain ⟨_, _, _, _, rfl, _⟩ := h
    rfl
  · obtain ⟨p, q, m, n, rfl, hp, hq, k⟩ := h
    have k0 : Q (.bl (abandM m n)) H := k _ (Same.refl H)
    refine ⟨_, (pss_cons (ps_if (PW.pt (pw_or (pt_cmpR op_ne (pe_ix ix_tup (pv 0) (pe_glob (v := (.int 0)) rfl T.c_KIND.choose_spec ⟨_, rfl⟩) (fun _ _ => rfl)) pe_str (nomark _)) (pw_or1 (pt_cmpR op_ne (pe_ix ix_tup (pv 1) (pe_glob (v := (.int 0)) rfl T.c_KIND.choose_spec ⟨_, rfl⟩) (fun _ _ => rfl)) pe_str (nomark _)))))
      (pss_one (ps_ret pe_bl))
      pss_nil)
      (pss_cons (ps_if (PW.pt (pw_or (pt_cmpR op_isN (pe_ix ix_tup (pv 0) (pe_glob (v := (.int 3)) rfl T.c_BLOCK.choose_spec ⟨_, rfl⟩) (fun _ _ => rfl)) pe_non (nomark _)) (pw_or1 (pt_cmpR op_isN (pe_ix ix_tup (pv 1) (pe_glob (v := (.int 3)) rfl T.c_BLOCK.choose_spec ⟨_, rfl⟩) (fun _ _ => rfl)) pe_non (nomark _)))))
      (pss_one (ps_ret pe_bl))
      pss_nil)
      (pss_cons (ps_if (PW.pt (pw_or (pt_cmpR op_eq (pe_ix ix_tup (pv 0) (pe_glob (v := (.int 3)) rfl T.c_BLOCK.choose_spec ⟨_, rfl⟩) (fun _ _ => rfl)) (pe_ix ix_tup (pv 1) (pe_glob (v := (.int 3)) rfl T.c_BLOCK.choose_spec ⟨_, rfl⟩) (fun _ _ => rfl)) (nomark _)) (pw_or1 (pt_cmpR op_ge (pe_ix ix_tup (pv 0) (pe_glob (v := (.int 2)) rfl T.c_TURN.choose_spec ⟨_, rfl⟩) (fun _ _ => rfl)) (pe_ix ix_tup (pv 1) (pe_glob (v := (.int 2)) rfl T.c_TURN.choose_spec ⟨_, rfl⟩) (fun _ _ => rfl)) (nomark _)))))
      (pss_one (ps_ret pe_bl))
      pss_nil)
      (pss_one (ps_ret (pe_or (pe_cmpR op_isN (pe_ix ix_tup (pv 1) (pe_glob (v := (.int 4)) rfl T.c_LEAN.choose_spec ⟨_, rfl⟩) (fun _ _ => rfl)) pe_non (nomark _)) (pe_one (pe_cmpR op_lt (pe_ix ix_tup (pv 1) (pe_glob (v := (.int 4)) rfl T.c_LEAN.choose_spec ⟨_, rfl⟩) (fun _ _ => rfl)) (pe_ix ix_tup (pv 0) (pe_glob (v := (.int 2)) rfl T.c_TURN.choose_spec ⟨_, rfl⟩) (fun _ _ => rfl)) (nomark _))))))))), ?_⟩
    walk_at "rs"
    refine ite2 (fun c1 => ?_) (fun c1 => ?_) <;> simp only [kcom, Bool.not_eq_true', decide_eq_false_iff_not, decide_eq_true_iff, Decidable.not_not] at c1
    · rw [show abandM m n = false from if_neg (fun z => c1 z.1)] at k0
      exact k0
    walk_at "rs"
    refine ite2 (fun c2 => ?_) (fun c2 => ?_) <;> simp only [kpre, Bool.not_eq_true', decide_eq_false_iff_not, decide_eq_true_iff, Decidable.not_not] at c2
    · rw [show abandM m n = false from if_neg (fun z => c2 z.2.1)] at k0
      exact k0
    walk_at "rs"
    refine ite2 (fun c3 => ?_) (fun c3 => ?_) <;> simp only [koSn, decide_eq_true_iff] at c3
    · rw [show abandM m n = false from if_neg (fun z => z.2.2.1 c3)] at k0
      exact k0
    walk_at "rs"
    refine ite2 (fun c4 => ?_) (fun c4 => ?_) <;> simp only [koSn, decide_eq_true_iff] at c4
    · rw [show abandM m n = false from if_neg (fun z => z.2.2.2.1 c4)] at k0
      exact k0
    walk_at "rs"
    refine ite2 (fun c5 => ?_) (fun c5 => ?_) <;> simp only [koS, decide_eq_true_iff] at c5
    · rw [show abandM m n = false from if_neg (fun z => z.2.2.2.2.1 c5)] at k0
      exact k0
    walk_at "rs"
    refine ite2 (fun c6 => ?_) (fun c6 => ?_) <;> simp only [decide_eq_true_iff] at c6
    · rw [show abandM m n = false from if_neg (fun z => by have := z.2.2.2.2.2; omega)] at k0
      exact k0
    have e : abandM m n = (match n.l with | none => true | some l => decide (l < m.t)) := if_pos ⟨c1, c2, c3, c4, c5, by omega⟩
    rw [e] at k0
    clear e
    walk_at "rs"
    refine ite2 (fun c7 => ?_) (fun c7 => ?_) <;> simp only [koIn, decide_eq_true_iff] at c7
    · rw [c7] at k0
      exact k0
    · cases hnl : n.l with
      | none => exact absurd hnl c7
      | some l =>
        rw [hnl] at k0
        refine ⟨_, rfl, _, _, _, _, rfl, rfl, SqT.of hq, (at4 n c2).trans (by rw [hnl]), ?_⟩
        walk_at "rs"
        exact k0
theorem ok_clash (T : Txt K mg a) : ∃ fd, FnOk P w K mg base CX0 2 a.d_clash fd ["one", "other"] (spClash K) ∧ Binds K fd ["one", "other"] [] := by
  obtain ⟨fd, F, b⟩ := T.d_clash.F
  obtain ⟨fd_abandons, G_abandons, b_abandons⟩ := ok_abandons (P := P) (w := w) (base := base) T
  obtain ⟨fd_is_vote, G_is_vote, b_is_vote⟩ := ok_is_vote (P := P) (w := w) (base := base) T
  refine ⟨fd, F.ok sc_clash (fun vs H Q E h => ?_) (fun cdv A outer s H vs Q E hr h => ?_), b⟩
  · obtain ⟨_, _, _, _, rfl, _⟩ := h
    rfl
  · obtain ⟨p, q, m, n, rfl, hp, hq, k⟩ := h
    refine ⟨_, (pss_cons (ps_if (pt_cmpR op_ne (pe_ix ix_tup (pv 0) (pe_glob (v := (.int 1)) rfl T.c_HEIGHT.choose_spec ⟨_, rfl⟩) (fun _ _ => rfl)) (pe_ix ix_tup (pv 1) (pe_glob (v := (.int 1)) rfl T.c_HEIGHT.choose_spec ⟨_, rfl⟩) (fun _ _ => rfl)) (nomark _))
      (pss_one (ps_ret pe_bl))
      pss_nil)
      (pss_cons (ps_if (pt_cmpR op_eq (pe_ix ix_tup (pv 0) (pe_glob (v := (.int 0)) rfl T.c_KIND.choose_spec ⟨_, rfl⟩) (fun _ _ => rfl)) (pe_ix ix_tup (pv 1) (pe_glob (v := (.int 0)) rfl T.c_KIND.choose_spec ⟨_, rfl⟩) (fun _ _ => rfl)) (nomark _))
      (pss_one (ps_ret (pe_and (pe_call G_is_vote (hr.mono (by decide)) rfl T.d_is_vote.g T.d_is_vote.kp b_is_vote .nil pass0 (pa_cons (pv 0) pa_nil)) (pe_and (pe_cmpR op_eq (pe_ix ix_tup (pv 0) (pe_glob (v := (.int 2)) rfl T.c_TURN.choose_spec ⟨_, rfl⟩) (fun _ _ => rfl)) (pe_ix ix_tup (pv 1) (pe_glob (v := (.int 2)) rfl T.c_TURN.choose_spec ⟨_, rfl⟩) (fun _ _ => rfl)) (nomark _)) (pe_one (pe_cmpR op_ne (pe_ix ix_tup (pv 0) (pe_glob (v := (.int 3)) rfl T.c_BLOCK.choose_spec ⟨_, rfl⟩) (fun _ _ => rfl)) (pe_ix ix_tup (pv 1) (pe_glob (v := (.int 3)) rfl T.c_BLOCK.choose_spec ⟨_, rfl⟩) (fun _ _ => rfl)) (nomark _)))))))
      pss_nil)
      (pss_one (ps_ret (pe_or (pe_call G_abandons (hr.mono (by decide)) rfl T.d_abandons.g T.d_abandons.kp b_abandons .nil pass0 (pa_cons (pv 0) (pa_cons (pv 1) pa_nil))) (pe_one (pe_call G_abandons (hr.mono (by decide)) rfl T.d_abandons.g T.d_abandons.kp b_abandons .nil pass0 (pa_cons (pv 1) (pa_cons (pv 0) pa_nil))))))))), ?_⟩
    unfold clashM at k
    walk_at "rs"
    refine ite2 (fun c1 => ?_) (fun c1 => ?_) <;> simp only [dec_int, Bool.not_eq_true', beq_eq_false_iff_ne, Bool.not_eq_false', Bool.not_eq_true, beq_iff_eq, ne_eq, Decidable.not_not] at c1
    · rw [if_pos c1] at k
      exact k _ (Same.refl H)
    rw [if_neg (fun z => z c1)] at k
    walk_at "rs"
    refine ite2 (fun c2 => ?_) (fun c2 => ?_) <;> simp only [dec_kd, decide_eq_true_iff] at c2
    · rw [if_pos c2] at k
      walk_at "rs"
      refine ⟨p, m, rfl, hp, fun H' s1 => ?_⟩
      have hp' : SmAt H' p m := s1 _ _ hp
      have hq' : SmAt H' q n := s1 _ _ hq
      walk_at "rs"
      refine ite2 (fun c3 => ?_) (fun c3 => ?_)
      · rw [c3, Bool.true_and] at k
        walk_at "rs"
        refine ite2 (fun c4 => ?_) (fun c4 => ?_) <;> simp only [dec_int, beq_iff_eq] at c4
        · rw [decide_eq_true c4, Bool.true_and] at k
          walk_at "rs"
          have k' := k H' s1
          rw [show decide (m.b ≠ n.b) = (!decide (oS m.b = oS n.b)) by rw [dec_oS, decide_not]] at k'
          exact k'
        · rw [decide_eq_false c4, Bool.false_and] at k
          exact k H' s1
      · rw [Bool.eq_false_iff.mpr c3, Bool.false_and] at k
        exact k H' s1
    · rw [if_neg c2] at k
      walk_at "rs"
      refine ⟨p, q, m, n, rfl, hp, hq, fun H' s1 => ?_⟩
      have hp' : SmAt H' p m := s1 _ _ hp
      have hq' : SmAt H' q n := s1 _ _ hq
      walk_at "rs"
      refine ite2 (fun c3 => ?_) (fun c3 => ?_)
      · rw [c3, Bool.true_or] at k
        exact k H' s1
      · rw [Bool.eq_false_iff.mpr c3, Bool.false_or] at k
        walk_at "rs"
        exact ⟨q, p, n, m, rfl, hq', hp', fun H2 s2 => k H2 (s1.trans s2)⟩

theorem ok_Charge_init (T : Txt K mg a) : ∃ fd, FnOk P w K mg base CX0 1 a.d_Charge_init fd ["self", "who", "first", "second"] (spChI K a.C_Charge) ∧ Binds K fd ["self", "who", "first", "second"] [] := by
  obtain ⟨fd, F, b⟩ := T.d_Charge_init.F
  refine ⟨fd, F.ok sc_Charge_init (fun vs H Q E h => ?_) (fun cdv A outer s H vs Q E hr h => ?_), b⟩
  · obtain ⟨_, _, _, _, _, rfl, _⟩ := h
    rfl
  · obtain ⟨p, dx, who, a1, b1, rfl, hp, k⟩ := h
    refine ⟨_, (pss_cons (ps_fld (pv 0) (pv 1) rfl)
      (pss_cons (ps_fld (pv 0) (pv 2) rfl)
      (pss_one (ps_fld (pv 0) (pv 3) rfl)))), ?_⟩
    walk_at "rs"
    refine ⟨p, _, dx, [], rfl, hp, T.cl_Charge, T.a_Charge_who, (by show 0 < 1000; decide), ?_⟩
    walk_at "rs"
    refine ⟨p, _, dx, _, rfl, upd_same, T.cl_Charge, T.a_Charge_first, (by show 1 < 1000; decide), ?_⟩
    rw [upd_upd]
    walk_at "rs"
    refine ⟨p, _, dx, _, rfl, upd_same, T.cl_Charge, T.a_Charge_second, (Nat.lt_of_le_of_lt (length_putF _ _ _) (Nat.lt_of_le_of_lt (Nat.add_le_add_right (length_putF _ _ _) 1) (by show 2 < 1000; decide))), ?_⟩
    rw [upd_upd]
    exact k _ upd_same fun b o e hb => by
      rw [upd_ne hb]
      exact e
theorem ok_first_clash (T : Txt K mg a) : ∃ fd, FnOk P w K mg base CX0 3 a.d_first_clash fd ["earlier", "letter"] (spFc K) ∧ Binds K fd ["earlier", "letter"] [] := by
  obtain ⟨fd, F, b⟩ := T.d_first_clash.F
  obtain ⟨fd_clash, G_clash, b_clash⟩ := ok_clash (P := P) (w := w) (base := base) T
  refine ⟨fd, F.ok sc_first_clash (fun vs H Q E h => ?_) (fun cdv A outer s H vs Q E hr h => ?_), b⟩
  · obtain ⟨_, _, _, _, _, rfl, _⟩ := h
    rfl
  · obtain ⟨l, p, qs, own, x, rfl, hl, hq, hx, k⟩ := h
    obtain ⟨px, hpx, hmx⟩ := id hx
    refine ⟨_, (pss_cons (ps_for PassesOwn.never rfl (pi_list (pv 0)) (pg_name (i := 2) sc_first_clash.nd rfl (Or.inl rfl))
      (pss_one (ps_if (pt_val (pe_call G_clash (hr.mono (by decide)) rfl T.d_clash.g T.d_clash.kp b_clash .nil pass0 (pa_cons (pe_ix ix_tup (pv 2) pe_int (fun _ _ => rfl)) (pa_cons (pe_ix ix_tup (pv 1) pe_int (fun _ _ => rfl)) pa_nil))))
        (pss_one (ps_ret (pv 2)))
        pss_nil)))
      (pss_one (ps_ret pe_non))), ?_⟩
    walk_at "rs"
    refine ⟨⟨_, SqL.of hl⟩, for_list (K := K) (a := l) (xs := qs.map V.ref) (fun i σ H2 => ∃ v2 : Option V, σ = [some (.ref l), some (.ref p), v2] ∧ Same H H2 ∧ ∀ j, j < i → clashM (own.getD j default).m x.m = false) ⟨_, rfl, Same.refl H, fun j h => absurd h (Nat.not_lt_zero _)⟩ (fun i σ H2 _ ⟨_, _, s2, _⟩ => SqL.of (s2 _ _ hl)) ?_ ?_⟩
    · rintro i y σ H2 hy ⟨v2, rfl, s2, hno⟩
      have hi : i < qs.length := by
        have e := (List.getElem?_eq_some_iff.mp hy).1
        rwa [List.length_map] at e
      have hi' : i < own.length := by
        rw [← hq.1]
        exact hi
      rw [at_refs hi] at hy
      cases hy
      have hli := (hq.2 i hi').same s2
      obtain ⟨pi, hpi, hmi⟩ := id hli
      walk_at "rs"
      refine ⟨_, _, _, _, rfl, rfl, SqT.of hpi, rfl, ?_⟩
      walk_at "rs"
      refine ⟨_, _, _, _, rfl, rfl, SqT.of (s2 _ _ hpx), rfl, ?_⟩
      walk_at "rs"
      refine ⟨pi, px, _, _, rfl, hmi, s2 _ _ hmx, fun H5 s5 => ?_⟩
      walk_at "rs"
      refine ite2 (fun c1 => ?_) (fun c1 => ?_)
      · walk_at "rs"
        exact k _ _ (s2.trans s5) (.inr ⟨i, hi', rfl, c1, hno⟩)
      · refine ⟨_, rfl, s2.trans s5, fun j hj => ?_⟩
        rcases Nat.lt_or_ge j i with z | z
        · exact hno j z
        · have : j = i := by omega
          rw [this]
          simpa using c1
    · rintro σ H2 ⟨v2, rfl, s2, hno⟩
      walk_at "rs"
      exact k _ _ s2 (.inl ⟨rfl, fun j hj => hno j (by rw [List.length_map, hq.1]; exact hj)⟩)
theorem ok_charge_of (T : Txt K mg a) : ∃ fd, FnOk P w K mg base CX0 4 a.d_charge_of fd ["letters", "who"] (spCofC K a.C_Charge) ∧ Binds K fd ["letters", "who"] [] := by
  obtain ⟨fd, F, b⟩ := T.d_charge_of.F
  obtain ⟨fd_first_clash, G_first_clash, b_first_clash⟩ := ok_first_clash (P := P) (w := w) (base := base) T
  obtain ⟨fd_Charge_init, G_Charge_init, b_Charge_init⟩ := ok_Charge_init (P := P) (w := w) (base := base) T
  refine ⟨fd, F.ok sc_charge_of (fun vs H Q E h => ?_) (fun cdv A outer s H vs Q E hr h => ?_), b⟩
  · obtain ⟨_, _, _, _, rfl, _⟩ := h
    rfl
  · obtain ⟨l, who, ps, xs, rfl, hl, hx, few, k⟩ := h
    refine ⟨_, (pss_cons (ps_set (i := 2) sc_charge_of.nd rfl (Or.inl rfl) (pe_lst pa_nil))
      (pss_cons (ps_for PassesOwn.never rfl (pi_list (pv 0)) (pg_name (i := 3) sc_charge_of.nd rfl (Or.inl rfl))
      (pss_one (ps_if (pt_cmpR op_eq (pe_ix ix_tup (pv 3) pe_int (fun _ _ => rfl)) (pv 1) (nomark _))
        (pss_cons (ps_set (i := 4) sc_charge_of.nd rfl (Or.inl rfl) (pe_call G_first_clash (hr.mono (by decide)) rfl T.d_first_clash.g T.d_first_clash.kp b_first_clash .nil pass0 (pa_cons (pv 2) (pa_cons (pv 3) pa_nil))))
          (pss_cons (ps_if (pt_cmpR op_notN (pv 4) pe_non (nomark _))
          (pss_one (ps_ret (pe_make T.m_Charge G_Charge_init (hr.mono (by decide)) (by rfl) T.g_Charge b_Charge_init .nil pass0 (pa_cons (pv 1) (pa_cons (pv 4) (pa_cons (pv 3) pa_nil))))))
          pss_nil)
          (pss_one (ps_expr (pe_bm PySem.F.plainAttrs_list PySem.F.slot_list_append PySem.F.type_list_append mt_append (pv 2) (pa_cons (pv 3) pa_nil))))))
        pss_nil)))
      (pss_one (ps_ret pe_non)))), ?_⟩
    walk_at "rs"
    refine ⟨(by show 0 ≤ sizeLine; decide), fun D hD => ?_⟩
    walk_at "rs"
    have s0 : Same H (upd H D (.lst [])) := same_new hD
    refine ⟨⟨_, SqL.of (s0 _ _ hl)⟩, for_list (K := K) (a := l) (xs := ps.map V.ref) (fun i σ H2 => ∃ v3 v4 : Option V, σ = [some (.ref l), some (.int who), some (.ref D), v3, v4] ∧ Same H H2 ∧ ∃ qs, H2 D = some (.lst (qs.map V.ref)) ∧ LsAt H2 qs (ownOf (xs.take i) who) ∧ due (ownOf (xs.take i) who) = none)
      ⟨_, _, rfl, s0, [], upd_same, LsAt.nil, rfl⟩ (fun i σ H2 _ ⟨_, _, _, s2, _⟩ => SqL.of (s2 _ _ hl)) ?_ ?_⟩
    · rintro i y σ H2 hy ⟨v3, v4, rfl, s2, qs, hd, hqs, hdue⟩
      have hi : i < ps.length := by
        have e := (List.getElem?_eq_some_iff.mp hy).1
        rwa [List.length_map] at e
      have hi' : i < xs.length := by
        rw [← hx.1]
        exact hi
      rw [at_refs hi] at hy
      cases hy
      have hlt := (hx.2 i hi').same s2
      obtain ⟨q, hp, hq⟩ := id hlt
      have ql : qs.length ≤ 900 := by
        have := own_len (xs.take i) who
        rw [hqs.1]
        rw [List.length_take] at this
        omega
      walk_at "rs"
      refine ⟨_, _, _, _, rfl, rfl, SqT.of hp, rfl, ?_⟩
      walk_at "rs"
      refine ite2 (fun c1 => ?_) (fun c1 => ?_) <;> simp only [dec_int, beq_iff_eq] at c1
      · walk_at "rs"
        refine ⟨D, _, qs, _, _, rfl, hd, hqs, hlt, fun v H3 s3 hv => ?_⟩
        have hd3 := s3 _ _ hd
        have hqs3 := hqs.same s3
        have hlt3 := hlt.same s3
        rcases hv with ⟨rfl, hno⟩ | ⟨j, hj, rfl, hc, hno⟩
        · walk_at "rs"
          refine ⟨.inl ⟨rfl, _, SqL.of hd3⟩, ?_⟩
          walk_at "rs"
          refine ⟨D, _, _, rfl, rfl, hd3, by rw [List.length_map]; exact small1000 (by omega), ?_⟩
          refine ⟨_, _, rfl, same_upd (s2.trans s3) hD, qs ++ [ps.getD i 0], by rw [upd_same]; simp, ?_, ?_⟩
          · rw [own_yes hi' c1]
            exact (hqs3.snoc hlt3).upd hd3
          · rw [own_yes hi' c1]
            exact due_snoc_no hdue hno
        · walk_at "rs"
          intro y1 dy1 nx1 ndx1 nex1
          refine ⟨y1, dy1, who, _, _, rfl, upd_same, fun J1 hc1 kp1 => ⟨rfl, ?_⟩⟩
          have sm1 : Same H3 J1 := Same.made nx1 ndx1 kp1
          have e : due (ownOf xs who) = some ((ownOf (xs.take i) who).getD j default, xs.getD i default) := by
            rw [own_split xs who (i + 1)]
            refine due_app ?_
            rw [own_yes hi' c1]
            exact due_snoc_yes hdue hj hc hno
          refine k _ _ ((s2.trans s3).trans sm1) ?_
          rw [e]
          exact ⟨y1, dy1, _, _, rfl, hc1, (hqs3.2 j hj).same sm1, hlt3.same sm1⟩
      · exact ⟨_, _, rfl, s2, qs, hd, by rw [own_no hi' c1]; exact hqs, by rw [own_no hi' c1]; exact hdue⟩
    · rintro σ H2 ⟨v3, v4, rfl, s2, qs, hd, hqs, hdue⟩
      rw [List.length_map, hx.1, List.take_length] at hdue
      walk_at "rs"
      refine k _ _ s2 ?_
      rw [hdue]
      rfl
theorem at_vals {vs : List V} {i : Nat} (h : i < vs.length) : vs[i]? = some (vs.getD i .non) := by
  rw [List.getD_eq_getElem?_getD, List.getElem?_eq_getElem h]
  rfl
theorem ChAt.upd {C : Addr} {H : Hp} {v : V} {who : Int} {r : Option (Lt × Lt)} {l : Addr} {ys : List V} {o : HO} (h : ChAt C H v who r) (hl : H l = some (.lst ys)) : ChAt C (upd H l o) v who r := by
  cases r with
  | none => exact h
  | some r =>
    obtain ⟨p, dx, a, b, e, h1, h2, h3⟩ := h
    refine ⟨p, dx, a, b, e, ?_, h2.upd hl, h3.upd hl⟩
    rw [upd_ne (fun z => by rw [z, hl] at h1; cases h1)]
    exact h1

theorem ok_charges (T : Txt K mg a) : ∃ fd, FnOk P w K mg base CX0 5 a.d_charges fd ["committee", "letters"] (spCharges K a.C_Committee a.C_Charge) ∧ Binds K fd ["committee", "letters"] [] := by
  obtain ⟨fd, F, b⟩ := T.d_charges.F
  obtain ⟨fd_charge_of, G_charge_of, b_charge_of⟩ := ok_charge_of (P := P) (w := w) (base := base) T
  refine ⟨fd, F.ok sc_charges (fun vs H Q E h => ?_) (fun cdv A outer s H vs Q E hr h => ?_), b⟩
  · obtain ⟨_, _, _, _, _, rfl, _⟩ := h
    rfl
  · obtain ⟨c, l, ws, ps, xs, rfl, hc, hw, hl, hx, few, k⟩ := h
    obtain ⟨dx, t, hcp, hct⟩ := id hc
    refine ⟨_, (pss_cons (ps_setLc (i := 2) (own := [("who", 3)]) (g := (gName 3)) (tt := tYes) rfl sc_charges.nd rfl rfl (sw_true rfl rfl rfl (by decide +kernel)) (pi_range1 rfl T.n_range (pa_cons (pe_fld (pv 0) rfl) pa_nil)) (blkOk_by (own := [("who", 3)]) (N := sc_charges_N) (sc := defScope s_charges) (by decide +kernel)) (fun _ _ _ _ _ => (pg_name (i := 3) sc_charges.nd rfl (Or.inl rfl))) (fun _ _ _ _ _ => pts_nil) (fun _ _ _ _ _ => (pe_call G_charge_of (hr.mono (by decide)) rfl T.d_charge_of.g T.d_charge_of.kp b_charge_of .nil pass0 (pa_cons (pv 1) (pa_cons (pv 3) pa_nil)))))
      (pss_one (ps_ret (pe_lc (own := [("charge", 4)]) (g := (gName 4)) rfl sc_charges.nd (pi_list (pv 2)) (blkOk_by (own := [("charge", 4)]) (N := sc_charges_N) (sc := defScope s_charges) (by decide +kernel)) (fun _ _ _ _ _ => (pg_name (i := 4) sc_charges.nd rfl (Or.inl rfl))) (fun _ _ _ _ _ => (pts_one (pt_cmpR op_notN (pv 4) pe_non (nomark _)))) (fun _ _ _ _ _ => (pv 4)))))), ?_⟩
    walk_at "rs"
    refine ⟨c, _, dx, _, .int ws.length, rfl, hcp, T.cl_Committee, T.a_Committee_size, cfs_s _ _, ?_⟩
    walk_at "rs"
    refine ⟨(by show -(2 ^ 62 : Int) ≤ _; omega), (by show _ < (2 ^ 62 : Int); omega), fun D hD => ?_⟩
    refine lc_range (lo := 0) (n := ((ws.length : Int)).toNat) (fun i H2 => Same H H2 ∧ ∃ vs : List V, H2 D = some (.lst vs) ∧ vs.length = i ∧ ∀ j, j < i → ChAt a.C_Charge H2 (vs.getD j .non) (j : Int) (due (ownOf xs (j : Int)))) ⟨same_new hD, [], upd_same, rfl, fun j hj => absurd hj (Nat.not_lt_zero _)⟩ ?_ ?_
    · rintro i H2 hi ⟨s2, vs, hd, hv, hch⟩
      have e0 : (0 : Int) + (i : Int) = (i : Int) := Int.zero_add _
      rw [e0]
      refine ⟨rfl, ?_⟩
      walk_at "rs"
      refine ⟨l, _, ps, xs, rfl, s2 _ _ hl, hx.same s2, few, fun v H3 s3 hv3 => ?_⟩
      have hd3 := s3 _ _ hd
      refine ⟨_, hd3, by rw [hv]; exact small1000 (by omega), same_upd (s2.trans s3) hD, vs ++ [v], upd_same, by rw [List.length_append, hv]; rfl, fun j hj => ?_⟩
      rcases Nat.lt_or_ge j i with z | z
      · rw [getD_left (by omega)]
        exact ((hch j z).same s3).upd hd3
      · have ej : j = i := by omega
        subst ej
        have : (vs ++ [v]).getD j V.non = v := by rw [← hv, getD_last]
        rw [this]
        exact hv3.upd hd3
    · rintro H2 ⟨s2, vs, hd, hv, hch⟩
      rw [Int.toNat_natCast] at hv hch
      walk_at "rs"
      refine ⟨⟨_, SqL.of hd⟩, fun D2 hD2 => ?_⟩
      have s02 := same_new (o := .lst []) hD2
      refine lc_list (K := K) (a := D) (xs := vs) (fun i H3 => Same H2 H3 ∧ ∃ cs : List Addr, H3 D2 = some (.lst (cs.map V.ref)) ∧ cs.length = (fnd xs i).length ∧ ∀ j, j < cs.length → ChAt a.C_Charge H3 (.ref (cs.getD j 0)) ((fnd xs i).getD j 0) (due (ownOf xs ((fnd xs i).getD j 0)))) ⟨s02, [], upd_same, rfl, fun j hj => absurd hj (Nat.not_lt_zero _)⟩ (fun i H3 _ ⟨s3, _⟩ => SqL.of (s3 _ _ hd)) ?_ ?_
      · rintro i y H3 hy ⟨s3, cs, hd3, hcs, hch3⟩
        have hi : i < vs.length := (List.getElem?_eq_some_iff.mp hy).1
        rw [at_vals hi] at hy
        cases hy
        have hci := (hch i (by omega)).same s3
        have fl := fnd_len xs i
        refine ⟨rfl, ?_⟩
        walk_at "rs"
        generalize ed : due (ownOf xs (i : Int)) = r at hci
        generalize vs.getD i V.non = v at hci ⊢
        cases r with
        | none =>
          cases (show v = .non from hci)
          walk_at "rs"
          refine ⟨s3, cs, hd3, by rw [fnd_no ed]; exact hcs, ?_⟩
          rw [fnd_no ed]
          exact hch3
        | some r =>
          have hci2 := hci
          obtain ⟨pd, dd, ad, bd, rfl, _⟩ := hci2
          walk_at "rs"
          refine ⟨_, hd3, by rw [List.length_map]; exact small1000 (by omega), same_upd s3 hD2, cs ++ [pd], by rw [upd_same]; simp, by rw [fnd_yes ed, List.length_append, List.length_append, hcs]; rfl, fun j hj => ?_⟩
          rw [fnd_yes ed]
          rw [List.length_append, List.length_singleton] at hj
          rcases Nat.lt_or_ge j cs.length with z | z
          · rw [getD_left z, getD_left (by omega)]
            exact (hch3 j z).upd hd3
          · have ej : j = cs.length := by omega
            have e1 : (cs ++ [pd]).getD j 0 = pd := by rw [ej, getD_last]
            have e2 : (fnd xs i ++ [(i : Int)]).getD j 0 = (i : Int) := by rw [ej, hcs, getD_last]
            rw [e1, e2, ed]
            exact hci.upd hd3
      · rintro H3 ⟨s3, cs, hd3, hcs, hch3⟩
        rw [hv] at hcs hch3
        walk_at "rs"
        exact k D2 cs H3 (s2.trans s3) hd3 hcs hch3

theorem ok_Committee_weight_of (T : Txt K mg a) : ∃ fd, FnOk P w K mg base CX0 1 a.d_Committee_weight_of fd ["self", "members"] (spWof K a.C_Committee) ∧ Binds K fd ["self", "members"] [] := by
  obtain ⟨fd, F, b⟩ := T.d_Committee_weight_of.F
  refine ⟨fd, F.ok sc_Committee_weight_of (fun vs H Q E h => ?_) (fun cdv A outer s H vs Q E hr h => ?_), b⟩
  · obtain ⟨_, _, _, _, rfl, _⟩ := h
    rfl
  · obtain ⟨p, l, ws, ms, rfl, ⟨dx, t, hp, ht⟩, hlen, hl, hms, k⟩ := h
    refine ⟨_, (pss_cons (ps_set (i := 2) sc_Committee_weight_of.nd rfl (Or.inr rfl) (pe_callTy (cr_set rfl) (by rfl) T.n_set (by decide +kernel) (pa_cons (pv 1) pa_nil)))
      (pss_one (ps_ret (pe_callB (cr_sum rfl) (by rfl) T.n_sum (by decide +kernel) (pa_cons (pe_lc (own := [("member", 3), ("weight", 4)]) (g := (gTup K 2 (gCons (gName 3) (gCons (gName 4) gNil)))) rfl sc_Committee_weight_of.nd (pi_enumT (by rfl) T.n_enumerate (pa_cons (pe_fld (pv 0) rfl) pa_nil)) (blkOk_by (own := [("member", 3), ("weight", 4)]) (N := sc_Committee_weight_of_N) (sc := defScope s_Committee_weight_of) (by decide +kernel)) (fun _ _ _ _ _ => (pg_tup rfl (pgs_cons (pg_name (i := 3) sc_Committee_weight_of.nd rfl (Or.inl rfl)) (pgs_cons (pg_name (i := 4) sc_Committee_weight_of.nd rfl (Or.inl rfl)) pgs_nil)))) (fun _ _ _ _ _ => (pts_one (pt_cmpR op_in_set (pv 3) (pv 2) (by rfl)))) (fun _ _ _ _ _ => (pv 4))) pa_nil))))), ?_⟩
    walk_at "rs"
    refine ⟨l, ms, rfl, hl, hms, fun S n hS => ?_⟩
    have nS : ∀ q o, H q = some o → (upd H S (.set (fun k => decide (k ∈ ms)) n)) q = some o := same_new hS
    walk_at "rs"
    refine ⟨p, _, dx, _, .ref t, rfl, nS _ _ hp, T.cl_Committee, T.a_Committee_weights, cfs_w _ _, ?_⟩
    walk_at "rs"
    refine ⟨t, _, rfl, SqT.of (nS _ _ ht), fun D hD => ?_⟩
    generalize eH : upd H S (.set (fun k => decide (k ∈ ms)) n) = H1 at nS hD
    have hS1 : H1 S = some (.set (fun k => decide (k ∈ ms)) n) := by rw [← eH, upd_same]
    refine lc_enumT (K := K) (a := t) (ys := ws.map V.int) (fun i H2 => Same H1 H2 ∧ H2 D = some (.lst ((pick ws (fun k => decide (k ∈ ms)) i).map V.int))) ⟨same_new hD, upd_same⟩ (fun i H2 _ ⟨s2, _⟩ => SqT.of (s2 _ _ (nS _ _ ht))) ?_ ?_
    · rintro i y H2 q hy ⟨s2, hd⟩ hq
      have hi : i < ws.length := by
        have e := (List.getElem?_eq_some_iff.mp hy).1
        rwa [List.length_map] at e
      rw [at_ints hi] at hy
      cases hy
      have fit : ((pick ws (fun k => decide (k ∈ ms)) i).map V.int).length < sizeLine := by
        have := pick_len ws (fun k => decide (k ∈ ms)) i
        rw [List.length_map]
        exact small1000 (by omega)
      have s3 : Same H2 (upd H2 q (.tup [V.int (i : Nat), V.int (ws.getD i 0)])) := same_new hq
      refine ⟨q, _, rfl, SqT.of upd_same, rfl, ?_⟩
      refine ⟨_, _, rfl, _, _, rfl, rfl, rfl, ?_⟩
      walk_at "rs"
      refine ⟨_, S, _, n, rfl, rfl, s3 _ _ (s2 _ _ hS1), ?_⟩
      rw [if_neg Bool.false_ne_true]
      walk_at "rs"
      refine ite2 (fun c1 => ?_) (fun c1 => ?_)
      · walk_at "rs"
        refine ⟨_, s3 _ _ hd, fit, same_upd (fun b o z => s3 _ _ (s2 _ _ z)) hD, ?_⟩
        rw [upd_same, pick, if_pos c1]
        simp
      · refine ⟨fun b o z => s3 _ _ (s2 _ _ z), ?_⟩
        rw [s3 _ _ hd, pick, if_neg c1]
    · rintro H2 ⟨s2, hd⟩
      rw [List.length_map] at hd
      walk_at "rs"
      exact ⟨D, _, rfl, SqL.of hd, k H2 fun b o z => s2 _ _ (nS _ _ z)⟩
theorem ok_Committee_is_quorum (T : Txt K mg a) : ∃ fd, FnOk P w K mg base CX0 2 a.d_Committee_is_quorum fd ["self", "members"] (spQuorum K a.C_Committee) ∧ Binds K fd ["self", "members"] [] := by
  obtain ⟨fd, F, b⟩ := T.d_Committee_is_quorum.F
  obtain ⟨fd_Committee_weight_of, G_Committee_weight_of, b_Committee_weight_of⟩ := ok_Committee_weight_of (P := P) (w := w) (base := base) T
  refine ⟨fd, F.ok sc_Committee_is_quorum (fun vs H Q E h => ?_) (fun cdv A outer s H vs Q E hr h => ?_), b⟩
  · obtain ⟨_, _, _, _, rfl, _⟩ := h
    rfl
  · obtain ⟨p, l, ws, ms, rfl, hc, hlen, hl, hms, k⟩ := h
    obtain ⟨dx, t, hp, ht⟩ := id hc
    refine ⟨_, (pss_one (ps_ret (pe_cmpR op_gt (pe_op op_mul pe_int (pe_meth (pv 0) T.cl_Committee T.me_Committee_weight_of G_Committee_weight_of (hr.mono (by decide)) b_Committee_weight_of .nil pass0 (pa_cons (pv 1) pa_nil))) (pe_op op_mul pe_int (pe_fld (pv 0) rfl)) (nomark _)))), ?_⟩
    walk_at "rs"
    refine ⟨p, dx, _, rfl, hp, cfs_no _ _ (by decide +kernel) (by decide +kernel) (by decide +kernel), ?_⟩
    walk_at "rs"
    refine ⟨p, l, ws, ms, rfl, hc, hlen, hl, hms, fun H1 s1 => ?_⟩
    walk_at "rs"
    refine ⟨p, _, dx, _, _, rfl, s1 _ _ hp, T.cl_Committee, T.a_Committee_total, cfs_t _ _, ?_⟩
    walk_at "rs"
    exact k H1 s1

theorem vb_nil {H : Hp} {D : Addr} {xs : List Lt} {kd : Kd} {h : Int} {b : Option Str} (hD : H D = some (.dK [])) (z : ∀ x ∈ xs, selV kd h b x = false) : VbAt H D xs kd h b [] :=
  ⟨hD, List.nodup_nil, List.nodup_nil, fun e he => (nomatch he), fun t => ⟨fun q => (nomatch q), fun ⟨x, hx, q⟩ => by rw [inT_no (z x hx)] at q; cases q⟩, Nat.zero_le _⟩
theorem ok_votes_by_turn (T : Txt K mg a) : ∃ fd, FnOk P w K mg base CX0 1 a.d_votes_by_turn fd ["letters", "kind", "height", "block"] (spVbt K) ∧ Binds K fd ["letters", "kind", "height", "block"] [] := by
  obtain ⟨fd, F, b⟩ := T.d_votes_by_turn.F
  refine ⟨fd, F.ok sc_votes_by_turn (fun vs H Q E h => ?_) (fun cdv A outer s H vs Q E hr h => ?_), b⟩
  · obtain ⟨_, _, _, _, _, _, rfl, _⟩ := h
    rfl
  · obtain ⟨l, ps, xs, kd, h, b, rfl, hl, hx, few, k⟩ := h
    refine ⟨_, (pss_cons (ps_set (i := 4) sc_votes_by_turn.nd rfl (Or.inl rfl) pe_dnewK)
      (pss_cons (ps_if (pt_cmpR op_isN (pv 3) pe_non (nomark _))
      (pss_one (ps_ret (pv 4)))
      pss_nil)
      (pss_cons (ps_for PassesOwn.never rfl (pi_list (pv 0)) (pg_name (i := 5) sc_votes_by_turn.nd rfl (Or.inl rfl))
      (pss_cons (ps_set (i := 6) sc_votes_by_turn.nd rfl (Or.inl rfl) (pe_ix ix_tup (pv 5) pe_int (fun _ _ => rfl)))
        (pss_one (ps_if (PW.pt (pw_and (pt_cmpR op_eq (pe_ix ix_tup (pv 6) (pe_glob (v := (.int 0)) rfl T.c_KIND.choose_spec ⟨_, rfl⟩) (fun _ _ => rfl)) (pv 1) (nomark _)) (pw_and (pt_cmpR op_eq (pe_ix ix_tup (pv 6) (pe_glob (v := (.int 1)) rfl T.c_HEIGHT.choose_spec ⟨_, rfl⟩) (fun _ _ => rfl)) (pv 2) (nomark _)) (pw_and1 (pt_cmpR op_eq (pe_ix ix_tup (pv 6) (pe_glob (v := (.int 3)) rfl T.c_BLOCK.choose_spec ⟨_, rfl⟩) (fun _ _ => rfl)) (pv 3) (nomark _))))))
        (pss_one (ps_expr (pe_bm PySem.F.plainAttrs_list PySem.F.slot_list_append PySem.F.type_list_append mt_append (pe_dsetd (pv 4) (pe_ix ix_tup (pv 6) (pe_glob (v := (.int 2)) rfl T.c_TURN.choose_spec ⟨_, rfl⟩) (fun _ _ => rfl)) (pe_lst pa_nil) ⟨rfl, rfl, rfl, rfl⟩) (pa_cons (pv 5) pa_nil))))
        pss_nil))))
      (pss_one (ps_ret (pv 4)))))), ?_⟩
    walk_at "rs"
    intro D hD
    have s0 : Same H (upd H D (.dK [])) := same_new hD
    walk_at "rs"
    refine ite2 (fun c1 => ?_) (fun c1 => ?_) <;> simp only [koSn, decide_eq_true_iff] at c1
    · walk_at "rs"
      refine k D [] _ s0 (vb_nil upd_same fun x _ => ?_)
      unfold selV
      rw [c1]
      simp
    walk_at "rs"
    refine ⟨⟨_, SqL.of (s0 _ _ hl)⟩, for_list (K := K) (a := l) (xs := ps.map V.ref) (fun i σ H2 => ∃ v5 v6 : Option V, σ = [some (.ref l), some (.str kd.s), some (.int h), some (oS b), some (.ref D), v5, v6] ∧ Same H H2 ∧ ∃ ks, VbAt H2 D (xs.take i) kd h b ks ∧ ∀ e ∈ ks, H e.2 = none)
      ⟨_, _, rfl, s0, [], vb_nil upd_same fun x hx => (nomatch hx), fun e he => (nomatch he)⟩ (fun i σ H2 _ ⟨_, _, _, s2, _⟩ => SqL.of (s2 _ _ hl)) ?_ ?_⟩
    · rintro i y σ H2 hy ⟨v5, v6, rfl, s2, ks, hv, hfr⟩
      have hi : i < ps.length := by
        have e := (List.getElem?_eq_some_iff.mp hy).1
        rwa [List.length_map] at e
      have hi' : i < xs.length := by
        rw [← hx.1]
        exact hi
      rw [at_refs hi] at hy
      cases hy
      have hlt := (hx.2 i hi').same s2
      obtain ⟨q, hp, hq⟩ := id hlt
      have et := take_succ_getD (d := default) hi'
      generalize xs.getD i default = x at hlt hq hp et
      walk_at "rs"
      refine ⟨_, _, _, _, rfl, rfl, SqT.of hp, rfl, ?_⟩
      walk_at "rs"
      refine ite2 (fun c2 => ?_) (fun c2 => ?_) <;> simp only [dec_kd, decide_eq_true_iff] at c2
      · walk_at "rs"
        refine ite2 (fun c3 => ?_) (fun c3 => ?_) <;> simp only [dec_int, beq_iff_eq] at c3
        · walk_at "rs"
          refine ite2 (fun c4 => ?_) (fun c4 => ?_) <;> simp only [dec_oS, decide_eq_true_iff] at c4
          · have cs : selV kd h b x = true := decide_eq_true ⟨c1, c2, c3, c4⟩
            walk_at "rs"
            refine ⟨.inl ⟨_, .inl hv.here⟩, ?_⟩
            walk_at "rs"
            refine ⟨(by show 0 ≤ sizeLine; decide), fun z hz => ?_⟩
            have sz : Same H2 (upd H2 z (.lst [])) := same_new hz
            have hv3 := hv.same sz
            have few3 := hv.few
            rw [List.length_take] at few3
            have hHz : H z = none := s2.free hz
            refine ⟨_, Sum.inl x.m.t, hv3.here, rfl, by unfold vbK; rw [List.length_map]; exact small1000 (by omega), fun v hval => ?_, fun hval => ?_⟩
            · have hin : x.m.t ∈ ks.map (·.1) := by
                refine Decidable.byContradiction fun no => ?_
                rw [val_vbn no] at hval
                cases hval
              obtain ⟨l2, hm, e2⟩ := val_vb hin
              rw [e2] at hval
              cases hval
              obtain ⟨qs, hl2, hls⟩ := hv3.ls _ hm
              have lq : qs.length ≤ 900 := by
                have := List.length_filter_le (inT kd h b x.m.t) (xs.take i)
                rw [List.length_take] at this
                have e3 : qs.length = ((xs.take i).filter (inT kd h b x.m.t)).length := hls.1
                omega
              walk_at "rs"
              refine ⟨.inl ⟨rfl, _, SqL.of hl2⟩, ?_⟩
              walk_at "rs"
              refine ⟨l2, _, _, rfl, rfl, hl2, by rw [List.length_map]; exact small1000 (by omega), ?_⟩
              refine ⟨_, _, rfl, same_upd (s2.trans sz) (hfr _ hm), ks, ?_, hfr⟩
              rw [et]
              exact hv3.more cs hm hl2 (hlt.same sz)
            · have hno : x.m.t ∉ ks.map (·.1) := fun hin => by
                obtain ⟨l2, hm, e2⟩ := val_vb hin
                rw [e2] at hval
                cases hval
              have nl : z ∉ ks.map (·.2) := fun hin => by
                obtain ⟨e, he, ez⟩ := List.mem_map.mp hin
                obtain ⟨qs, hl2, _⟩ := hv.ls e he
                rw [ez, hz] at hl2
                cases hl2
              have ekvs : putK (vbK ks) (Sum.inl x.m.t) (V.ref z) = vbK (ks ++ [(x.m.t, z)]) := by
                rw [putK_new hval]
                unfold vbK
                simp
              rw [ekvs]
              have hz3 : (upd H2 z (.lst [])) z = some (.lst []) := upd_same
              have nDz := ne_dk hv3.here hz3
              walk_at "rs"
              refine ⟨.inl ⟨rfl, _, SqL.of (by rw [upd_ne nDz.symm]; exact hz3)⟩, ?_⟩
              walk_at "rs"
              refine ⟨z, _, _, rfl, rfl, (by rw [upd_ne nDz.symm]; exact hz3), by show 0 < sizeLine; decide, ?_⟩
              refine ⟨_, _, rfl, same_upd (same_upd (s2.trans sz) hD) hHz, ks ++ [(x.m.t, z)], ?_, fun e he => ?_⟩
              · rw [et]
                exact hv3.first cs hno hz3 nl (hlt.same sz)
              · rcases List.mem_append.mp he with he | he
                · exact hfr e he
                · rw [List.mem_singleton.mp he]
                  exact hHz
          · exact ⟨_, _, rfl, s2, ks, by rw [et]; exact hv.skip (decide_eq_false fun z => c4 z.2.2.2), hfr⟩
        · exact ⟨_, _, rfl, s2, ks, by rw [et]; exact hv.skip (decide_eq_false fun z => c3 z.2.2.1), hfr⟩
      · exact ⟨_, _, rfl, s2, ks, by rw [et]; exact hv.skip (decide_eq_false fun z => c2 z.2.1), hfr⟩
    · rintro σ H2 ⟨v5, v6, rfl, s2, ks, hv, hfr⟩
      rw [List.length_map, hx.1, List.take_length] at hv
      walk_at "rs"
      exact k D ks _ s2 hv
theorem ok_counts (T : Txt K mg a) : ∃ fd, FnOk P w K mg base CX0 1 a.d_counts fd ["prevote", "turns"] (spCounts K) ∧ Binds K fd ["prevote", "turns"] [] := by
  obtain ⟨fd, F, b⟩ := T.d_counts.F
  refine ⟨fd, F.ok sc_counts (fun vs H Q E h => ?_) (fun cdv A outer s H vs Q E hr h => ?_), b⟩
  · obtain ⟨_, _, _, _, rfl, _⟩ := h
    rfl
  · obtain ⟨p, D, m, L, rfl, hp, hk, hD, k⟩ := h
    have k0 := k H (Same.refl H)
    unfold cntL at k0
    refine ⟨_, (pss_cons (ps_set (i := 2) sc_counts.nd rfl (Or.inl rfl) (pe_ix ix_tup (pv 0) (pe_glob (v := (.int 4)) rfl T.c_LEAN.choose_spec ⟨_, rfl⟩) (fun _ _ => rfl)))
      (pss_one (ps_ret (pe_or (pe_cmpR op_isN (pv 2) pe_non (nomark _)) (pe_one (pe_and (pe_cmpR op_lt (pv 2) (pe_ix ix_tup (pv 0) (pe_glob (v := (.int 2)) rfl T.c_TURN.choose_spec ⟨_, rfl⟩) (fun _ _ => rfl)) (nomark _)) (pe_one (pe_cmp (pc_din (hu_of hr) (pv 2) (pv 1)) rfl)))))))), ?_⟩
    walk_at "rs"
    refine ite2 (fun c1 => ?_) (fun c1 => ?_) <;> simp only [koIn, decide_eq_true_iff] at c1
    · rw [c1] at k0
      exact k0
    obtain ⟨i, hl⟩ : ∃ i, m.l = some i := by
      cases hl : m.l with
      | none => exact absurd hl c1
      | some i => exact ⟨i, rfl⟩
    rw [hl] at k0 ⊢
    have k0 : Q (.bl (decide (i < m.t) && decide (i ∈ L))) H := k0
    refine ⟨_, rfl, ?_⟩
    walk_at "rs"
    refine ite2 (fun c2 => ?_) (fun c2 => ?_) <;> simp only [decide_eq_true_iff] at c2
    · rw [decide_eq_true c2, Bool.true_and] at k0
      walk_at "rs"
      refine ⟨D, _, rfl, DGet.k (k := Sum.inl i) hD, ?_⟩
      rw [val_tru]
      exact k0
    · rw [decide_eq_false c2, Bool.false_and] at k0
      exact k0
theorem ok_certified_turns (T : Txt K mg a) : ∃ fd, FnOk P w K mg base CX0 3 a.d_certified_turns fd ["committee", "letters", "height", "block"] (spCts K a.C_Committee) ∧ Binds K fd ["committee", "letters", "height", "block"] [] := by
  obtain ⟨fd, F, b⟩ := T.d_certified_turns.F
  obtain ⟨fd_votes_by_turn, G_votes_by_turn, b_votes_by_turn⟩ := ok_votes_by_turn (P := P) (w := w) (base := base) T
  obtain ⟨fd_Committee_is_quorum, G_Committee_is_quorum, b_Committee_is_quorum⟩ := ok_Committee_is_quorum (P := P) (w := w) (base := base) T
  obtain ⟨fd_counts, G_counts, b_counts⟩ := ok_counts (P := P) (w := w) (base := base) T
  refine ⟨fd, F.ok sc_certified_turns (fun vs H Q E h => ?_) (fun cdv A outer s H vs Q E hr h => ?_), b⟩
  · obtain ⟨_, _, _, _, _, _, _, rfl, _⟩ := h
    rfl
  · obtain ⟨c, l, ws, ps, xs, h, b, rfl, hc, gw, hl, hx, few, tb, k⟩ := h
    obtain ⟨dx, t, hcp, hct⟩ := id hc
    refine ⟨_, (pss_cons (ps_set (i := 4) sc_certified_turns.nd rfl (Or.inl rfl) (pe_call G_votes_by_turn (hr.mono (by decide)) rfl T.d_votes_by_turn.g T.d_votes_by_turn.kp b_votes_by_turn .nil pass0 (pa_cons (pv 1) (pa_cons pe_str (pa_cons (pv 2) (pa_cons (pv 3) pa_nil))))))
      (pss_cons (ps_set (i := 5) sc_certified_turns.nd rfl (Or.inr rfl) pe_dnewK)
      (pss_cons (ps_for PassesOwn.never rfl (pi_list (pe_callB (call_sortedDI rfl) (by rfl) T.n_sorted (by decide +kernel) (pa_cons (pv 4) pa_nil))) (pg_name (i := 6) sc_certified_turns.nd rfl (Or.inl rfl))
      (pss_cons (ps_setLc (i := 7) (own := [("letter", 8)]) (g := (gName 8)) rfl sc_certified_turns.nd rfl rfl (sw_true rfl rfl rfl (by decide +kernel)) (pi_list (pe_dget (hu_of hr) (pv 4) (pv 6) (fun _ _ => rfl))) (blkOk_by (own := [("letter", 8)]) (N := sc_certified_turns_N) (sc := defScope s_certified_turns) (by decide +kernel)) (fun _ _ _ _ _ => (pg_name (i := 8) sc_certified_turns.nd rfl (Or.inl rfl))) (fun _ _ _ _ _ => (pts_one (pt_val (pe_call G_counts (hr.mono (by decide)) rfl T.d_counts.g T.d_counts.kp b_counts .nil pass0 (pa_cons (pe_ix (r := rIxT K) ix_tup (pv 8) pe_int (fun _ _ => rfl)) (pa_cons (pv 5) pa_nil)))))) (fun _ _ _ _ _ => (pe_ix (r := rIxT K) ix_tup (pv 8) pe_int (fun _ _ => rfl))))
        (pss_one (ps_if (pt_val (pe_meth (pv 0) T.cl_Committee T.me_Committee_is_quorum G_Committee_is_quorum (hr.mono (by decide)) b_Committee_is_quorum .nil pass0 (pa_cons (pv 7) pa_nil)))
        (pss_one (ps_dput (hu_of hr) (pv 5) (pv 6) pe_bl rfl))
        pss_nil))))
      (pss_one (ps_ret (pe_callTy (call_listD rfl) (by rfl) T.n_list (by decide +kernel) (pa_cons (pv 5) pa_nil))))))), ?_⟩
    walk_at "rs"
    refine ⟨l, ps, xs, .pre, h, b, rfl, hl, hx, few, fun D ks H1 s1 hv => ?_⟩
    walk_at "rs"
    intro F1 hF1
    have s2 : Same H1 (upd H1 F1 (.dK [])) := same_new hF1
    have hF2 : (upd H1 F1 (.dK [])) F1 = some (.dK (tru [])) := upd_same
    have hv2 := hv.same s2
    have hFH : H F1 = none := s1.free hF1
    generalize upd H1 F1 (.dK []) = H2 at s2 hF2 hv2 ⊢
    walk_at "rs"
    have kb : ∀ t ∈ ks.map (·.1), 0 ≤ t ∧ t < 60 := fun t ht => by
      obtain ⟨x, hx, z⟩ := (hv.ky t).mp ht
      rw [inT_t z]
      exact tb x hx
    have k60 := nodup_few 60 hv.nd kb
    rw [List.length_map] at k60
    refine ⟨D, _, ks.map (·.1), rfl, .inl hv2.here, by unfold vbK; simp [Function.comp_def], by rw [List.length_map]; omega, fun ts R hp hpw hR => ?_⟩
    have nd := (hp.nodup_iff).mpr hv.nd
    have ky : ∀ t : Int, t ∈ ts ↔ ∃ x ∈ xs, inT .pre h b t x = true := fun t => by rw [hp.mem_iff]; exact hv.ky t
    have tb2 : ∀ t ∈ ts, 0 ≤ t ∧ t < 60 := fun t ht => kb t (hp.mem_iff.mp ht)
    have s3 : Same H2 (upd H2 R (.lst (ts.map V.int))) := same_new hR
    have hF3 := s3 _ _ hF2
    have hR3 : (upd H2 R (.lst (ts.map V.int))) R = some (.lst (ts.map V.int)) := upd_same
    generalize upd H2 R (.lst (ts.map V.int)) = H3 at s3 hF3 hR3 ⊢
    have nF : H1 F1 = none := hF1
    refine ⟨R, rfl, ⟨_, SqL.of hR3⟩, for_list (K := K) (a := R) (xs := ts.map V.int) (fun i σ H4 => ∃ v6 v7 : Option V, σ = [some (.ref c), some (.ref l), some (.int h), some (oS b), some (.ref D), some (.ref F1), v6, v7, none] ∧ Same H1 H4 ∧ H4 R = some (.lst (ts.map V.int)) ∧ H4 F1 = some (.dK (tru (lns ws xs h b (nxt ts i)))))
      ⟨_, _, rfl, s2.trans s3, hR3, hF3⟩ (fun i σ H4 _ ⟨_, _, _, _, hr4, _⟩ => SqL.of hr4) ?_ ?_⟩
    · rintro i y σ H4 hy ⟨v6, v7, rfl, s4, hr4, hf4⟩
      have hi : i < ts.length := by
        have e := (List.getElem?_eq_some_iff.mp hy).1
        rwa [List.length_map] at e
      rw [at_ints hi] at hy
      cases hy
      have ht := getD_mem hi
      have hb := tb2 _ ht
      obtain ⟨x0, hx0, i0⟩ := (ky _).mp ht
      have nb := (inT_some i0).1
      obtain ⟨n, en⟩ := Int.eq_ofNat_of_zero_le hb.1
      have lo : ∀ k, k < i → 0 ≤ ts.getD k 0 := fun k hk => (tb2 _ (getD_mem (by omega))).1
      have eL : lns ws xs h b n = lns ws xs h b (nxt ts i) := by
        refine gap_gen gw nb ky hpw nd (Nat.le_of_lt hi) ?_ fun j h1 h2 => ?_
        · cases i with
          | zero => exact Nat.zero_le _
          | succ k =>
            have h3 := srt_lt hpw nd (show k < k + 1 by omega) hi
            have h4 := lo k (show k < k + 1 by omega)
            have h5 : nxt ts (k + 1) = (ts.getD k 0 + 1).toNat := rfl
            omega
        · rcases Nat.lt_or_ge i j with z | z
          · have := srt_lt hpw nd z h2
            omega
          · have : j = i := by omega
            rw [this]
            omega
      have eN : nxt ts (i + 1) = n + 1 := by
        have h5 : nxt ts (i + 1) = (ts.getD i 0 + 1).toNat := rfl
        omega
      rw [← eL] at hf4
      rw [eN]
      rw [en] at i0 ⊢
      clear eL eN hb en
      have hin : (n : Int) ∈ ks.map (·.1) := (hv.ky _).mpr ⟨x0, hx0, i0⟩
      obtain ⟨lt, hm, e2⟩ := val_vb hin
      have hv4 := hv.same s4
      obtain ⟨qs, hl4, hls⟩ := hv4.ls _ hm
      have hls : LsAt H4 qs (xs.filter (inT .pre h b (n : Int))) := hls
      have lq : qs.length ≤ 900 := by
        have h1 := List.length_filter_le (inT .pre h b (n : Int)) xs
        have h2 := hls.1
        omega
      have eM : memM xs h n b (lns ws xs h b n) = ((xs.filter (inT .pre h b n)).filter fun x => cntL x.m (lns ws xs h b n)).map Lt.w := mem_inT nb
      have eC : certM ws xs h b n = qrm ws (memM xs h n b (lns ws xs h b n)) := rfl
      have lL := lns_len ws xs h b n
      have n60 : n < 60 := by
        have := tb2 _ ht
        have e := tb x0 hx0
        have e3 := inT_t i0
        omega
      have nL : (n : Int) ∉ lns ws xs h b n := fun z => by
        have := ((mem_lnsI (n : Int) n).mp z).2.1
        omega
      have yes := fun q => lns_yes (ws := ws) (xs := xs) (h := h) (b := b) (n := n) q
      have no := fun q => lns_no (ws := ws) (xs := xs) (h := h) (b := b) (n := n) q
      rw [eC, eM] at yes no
      clear eC eM
      generalize lns ws xs h b n = L at hf4 lL nL yes no
      have ysk : ∀ j, j < (xs.filter (inT .pre h b (n : Int))).length → ((xs.filter (inT .pre h b (n : Int))).getD j default).m.k = .pre := fun j hj => (inT_some (filt_mem hj).2).2
      generalize xs.filter (inT .pre h b (n : Int)) = ys at hls yes no ysk
      walk_at "rs"
      refine ⟨D, .ref lt, rfl, by rw [← e2]; exact DGet.k (k := Sum.inl (n : Int)) hv4.here, ?_⟩
      walk_at "rs"
      refine ⟨⟨_, SqL.of hl4⟩, fun D3 hD3 => ?_⟩
      refine lc_list (K := K) (a := lt) (xs := qs.map V.ref) (fun j H5 => Same H4 H5 ∧ H5 D3 = some (.lst ((((ys.take j).filter fun x => cntL x.m L).map Lt.w).map V.int))) ⟨same_new hD3, by rw [upd_same]; simp⟩ (fun j H5 _ ⟨s5, _⟩ => SqL.of (s5 _ _ hl4)) ?_ ?_
      · rintro j y H5 hy ⟨s5, hd5⟩
        have hj : j < qs.length := by
          have e := (List.getElem?_eq_some_iff.mp hy).1
          rwa [List.length_map] at e
        have hj' : j < ys.length := by
          rw [← hls.1]
          exact hj
        rw [at_refs hj] at hy
        cases hy
        have hlt := (hls.2 j hj').same s5
        obtain ⟨q, hp5, hq5⟩ := id hlt
        have hk5 := ysk j hj'
        have et := take_succ_getD (d := default) hj'
        generalize ys.getD j default = x at hlt hp5 hq5 hk5 et
        refine ⟨rfl, ?_⟩
        walk_at "rs"
        refine ⟨_, _, _, _, rfl, rfl, SqT.of hp5, rfl, ?_⟩
        walk_at "rs"
        refine ⟨q, F1, x.m, L, rfl, hq5, hk5, s5 _ _ hf4, fun H6 s6 => ?_⟩
        walk_at "rs"
        refine ite2 (fun c1 => ?_) (fun c1 => ?_)
        · walk_at "rs"
          refine ⟨_, _, _, _, rfl, rfl, SqT.of (s6 _ _ hp5), rfl, ?_⟩
          have l5 := List.length_filter_le (fun x => cntL x.m L) (ys.take j)
          rw [List.length_take] at l5
          have l6 := hls.1
          refine ⟨_, s6 _ _ hd5, by rw [List.length_map, List.length_map]; exact small1000 (by omega), same_upd (s5.trans s6) hD3, ?_⟩
          rw [upd_same, et, List.filter_append, List.filter_cons_of_pos (by exact c1)]
          simp
        · refine ⟨s5.trans s6, ?_⟩
          rw [s6 _ _ hd5, et, List.filter_append, List.filter_cons_of_neg (by exact c1)]
          simp
      · rintro H5 ⟨s5, hd5⟩
        rw [List.length_map, hls.1, List.take_length] at hd5
        have l5 := List.length_filter_le (fun x => cntL x.m L) ys
        have l6 := hls.1
        have s15 := s4.trans s5
        have sH5 := s1.trans s15
        walk_at "rs"
        refine ⟨c, dx, _, rfl, sH5 _ _ hcp, cfs_no _ _ (by decide +kernel) (by decide +kernel) (by decide +kernel), ?_⟩
        walk_at "rs"
        refine ⟨c, D3, ws, _, rfl, hc.same sH5, gw.2.1, SqL.of hd5, by rw [List.length_map]; omega, fun H6 s6 => ?_⟩
        walk_at "rs"
        have hf6 := s6 _ _ (s5 _ _ hf4)
        have s16 := s15.trans s6
        have hr6 := s6 _ _ (s5 _ _ hr4)
        refine ite2 (fun c1 => ?_) (fun c1 => ?_)
        · walk_at "rs"
          refine ⟨F1, _, rfl, DPut.k (k := Sum.inl (n : Int)) hf6 (by unfold tru; rw [List.length_map]; exact small1000 (by omega)), ?_⟩
          refine ⟨_, _, rfl, same_upd s16 nF, ?_, ?_⟩
          · rw [upd_ne (fun z => by rw [← z, hr6] at hf6; cases hf6)]
            exact hr6
          · have ev : valV (tru L) (Sum.inl (n : Int)) = none := by
              have := val_tru (t := (n : Int)) (L := L)
              rw [decide_eq_false nL] at this
              cases q : valV (tru L) (Sum.inl (n : Int)) with
              | none => rfl
              | some v => rw [q] at this; cases this
            rw [upd_same, putK_new ev, yes c1, tru_snoc]
        · refine ⟨_, _, rfl, s16, hr6, ?_⟩
          rw [no c1]
          exact hf6
    · rintro σ H4 ⟨v6, v7, rfl, s4, hr4, hf4⟩
      rw [List.length_map] at hf4
      have eE : lns ws xs h b (nxt ts ts.length) = ctL ws xs h b := by
        cases b with
        | none =>
          have : ts = [] := by
            cases ts with
            | nil => rfl
            | cons t ts =>
              obtain ⟨x, _, z⟩ := (ky t).mp List.mem_cons_self
              exact absurd rfl (inT_some z).1
          rw [this]
          rfl
        | some bb =>
          symm
          refine gap_gen (b := some bb) (h := h) gw (by simp) ky hpw nd (Nat.le_refl _) ?_ fun j h1 h2 => absurd h2 (by omega)
          cases q : ts.length with
          | zero => exact Nat.zero_le _
          | succ k =>
            have h5 : nxt ts (k + 1) = (ts.getD k 0 + 1).toNat := rfl
            have h6 := tb2 _ (getD_mem (show k < ts.length by omega))
            omega
      rw [eE] at hf4
      walk_at "rs"
      refine ⟨F1, _, rfl, .inl hf4, fun R2 hR2 => ?_⟩
      have s5 := same_new (o := .lst ((ctL ws xs h b).map V.int)) hR2
      have e : (tru (ctL ws xs h b)).map (fun kv => kV kv.1) = (ctL ws xs h b).map V.int := by
        unfold tru
        rw [List.map_map]
        rfl
      rw [e]
      exact k R2 _ (s1.trans (s4.trans s5)) (s1.free (s4.free hR2)) upd_same
theorem ok_committed_turns (T : Txt K mg a) : ∃ fd, FnOk P w K mg base CX0 4 a.d_committed_turns fd ["committee", "letters", "height", "block"] (spCms K a.C_Committee) ∧ Binds K fd ["committee", "letters", "height", "block"] [] := by
  obtain ⟨fd, F, b⟩ := T.d_committed_turns.F
  obtain ⟨fd_votes_by_turn, G_votes_by_turn, b_votes_by_turn⟩ := ok_votes_by_turn (P := P) (w := w) (base := base) T
  obtain ⟨fd_certified_turns, G_certified_turns, b_certified_turns⟩ := ok_certified_turns (P := P) (w := w) (base := base) T
  obtain ⟨fd_Committee_is_quorum, G_Committee_is_quorum, b_Committee_is_quorum⟩ := ok_Committee_is_quorum (P := P) (w := w) (base := base) T
  refine ⟨fd, F.ok sc_committed_turns (fun vs H Q E h => ?_) (fun cdv A outer s H vs Q E hr h => ?_), b⟩
  · obtain ⟨_, _, _, _, _, _, _, rfl, _⟩ := h
    rfl
  · obtain ⟨c, l, ws, ps, xs, h, b, rfl, hc, gw, hl, hx, few, tb, k⟩ := h
    obtain ⟨dx, t, hcp, hct⟩ := id hc
    refine ⟨_, (pss_cons (ps_set (i := 4) sc_committed_turns.nd rfl (Or.inl rfl) (pe_call G_votes_by_turn (hr.mono (by decide)) rfl T.d_votes_by_turn.g T.d_votes_by_turn.kp b_votes_by_turn .nil pass0 (pa_cons (pv 1) (pa_cons pe_str (pa_cons (pv 2) (pa_cons (pv 3) pa_nil))))))
      (pss_cons (ps_set (i := 5) sc_committed_turns.nd rfl (Or.inl rfl) (pe_lst pa_nil))
      (pss_cons (ps_for PassesOwn.never rfl (pi_list (pe_call G_certified_turns (hr.mono (by decide)) rfl T.d_certified_turns.g T.d_certified_turns.kp b_certified_turns .nil pass0 (pa_cons (pv 0) (pa_cons (pv 1) (pa_cons (pv 2) (pa_cons (pv 3) pa_nil)))))) (pg_name (i := 6) sc_committed_turns.nd rfl (Or.inl rfl))
      (pss_cons (ps_setLc (i := 7) (own := [("letter", 8)]) (g := (gName 8)) (tt := tYes) rfl sc_committed_turns.nd rfl rfl (sw_true rfl rfl rfl (by decide +kernel)) (pi_list (pe_dget2 (hu_of hr) (pv 4) (pv 6) (pe_lst pa_nil) ⟨rfl, rfl, rfl, rfl⟩)) (blkOk_by (own := [("letter", 8)]) (N := sc_committed_turns_N) (sc := defScope s_committed_turns) (by decide +kernel)) (fun _ _ _ _ _ => (pg_name (i := 8) sc_committed_turns.nd rfl (Or.inl rfl))) (fun _ _ _ _ _ => pts_nil) (fun _ _ _ _ _ => (pe_ix (r := rIxT K) ix_tup (pv 8) pe_int (fun _ _ => rfl))))
        (pss_one (ps_if (pt_val (pe_meth (pv 0) T.cl_Committee T.me_Committee_is_quorum G_Committee_is_quorum (hr.mono (by decide)) b_Committee_is_quorum .nil pass0 (pa_cons (pv 7) pa_nil)))
        (pss_one (ps_expr (pe_bm PySem.F.plainAttrs_list PySem.F.slot_list_append PySem.F.type_list_append mt_append (pv 5) (pa_cons (pv 6) pa_nil))))
        pss_nil))))
      (pss_one (ps_ret (pv 5)))))), ?_⟩
    walk_at "rs"
    refine ⟨l, ps, xs, .com, h, b, rfl, hl, hx, few, fun D ks H1 s1 hv => ?_⟩
    walk_at "rs"
    refine ⟨(by show 0 ≤ sizeLine; decide), fun F1 hF1 => ?_⟩
    have s2 : Same H1 (upd H1 F1 (.lst [])) := same_new hF1
    have hF2 : (upd H1 F1 (.lst [])) F1 = some (.lst (([] : List Int).map V.int)) := upd_same
    have nF : H F1 = none := s1.free hF1
    generalize upd H1 F1 (.lst []) = H2 at s2 hF2 ⊢
    walk_at "rs"
    have s02 := s1.trans s2
    refine ⟨c, l, ws, ps, xs, h, b, rfl, hc.same s02, gw, s02 _ _ hl, hx.same s02, few, tb, fun R H3 s3 hR hR3 => ?_⟩
    have s03 := s02.trans s3
    have hv3 := hv.same (s2.trans s3)
    have hF3 := s3 _ _ hF2
    have s13 := s2.trans s3
    have nRF : R ≠ F1 := fun e => by
      rw [e, hF2] at hR
      cases hR
    have lC : (ctL ws xs h b).length ≤ 60 := by
      unfold ctL
      cases b with
      | none => exact Nat.zero_le _
      | some bb => exact lns_len ws xs h (some bb) 60
    have nbC : ∀ t ∈ ctL ws xs h b, b ≠ none := fun t ht z => by
      rw [z] at ht
      cases ht
    unfold cmL at k
    generalize ctL ws xs h b = C at hR3 lC nbC k
    refine ⟨R, rfl, ⟨_, SqL.of hR3⟩, for_list (K := K) (a := R) (xs := C.map V.int) (fun i σ H4 => ∃ v6 v7 : Option V, σ = [some (.ref c), some (.ref l), some (.int h), some (oS b), some (.ref D), some (.ref F1), v6, v7, none] ∧ Same H1 H4 ∧ H4 R = some (.lst (C.map V.int)) ∧ H4 F1 = some (.lst (((C.take i).filter fun t => qrm ws (comS xs h t b)).map V.int)))
      ⟨_, _, rfl, s13, hR3, hF3⟩ (fun i σ H4 _ ⟨_, _, _, _, hr4, _⟩ => SqL.of hr4) ?_ ?_⟩
    · rintro i y σ H4 hy ⟨v6, v7, rfl, s4, hr4, hf4⟩
      have hi : i < C.length := by
        have e := (List.getElem?_eq_some_iff.mp hy).1
        rwa [List.length_map] at e
      rw [at_ints hi] at hy
      cases hy
      have nb := nbC _ (getD_mem hi)
      have et := take_succ_getD (d := (0 : Int)) hi
      generalize C.getD i 0 = t at et ⊢
      have hv4 := hv.same s4
      have s04 := s1.trans s4
      have eS : comS xs h t b = (xs.filter (inT .com h b t)).map Lt.w := com_inT nb
      have lF := List.length_filter_le (inT .com h b t) xs
      walk_at "rs"
      refine ⟨.inl ⟨_, .inl hv4.here⟩, ?_⟩
      walk_at "rs"
      refine ⟨(by show 0 ≤ sizeLine; decide), fun z hz => ?_⟩
      have sz : Same H4 (upd H4 z (.lst [])) := same_new hz
      have hzz : (upd H4 z (.lst [])) z = some (.lst (([] : List Addr).map V.ref)) := upd_same
      have hv5 := hv4.same sz
      have hr5 := sz _ _ hr4
      have hf5 := sz _ _ hf4
      have s05 := s04.trans sz
      have s15 := s4.trans sz
      generalize upd H4 z (.lst []) = H5 at sz hzz hv5 hr5 hf5 s05 s15 ⊢
      obtain ⟨lt, qs, o, hdg, eo, hlt, hls⟩ : ∃ (lt : Addr) (qs : List Addr) (o : Option V), DGet H5 D (.int t) o ∧ o.getD (.ref z) = .ref lt ∧ H5 lt = some (.lst (qs.map V.ref)) ∧ LsAt H5 qs (xs.filter (inT .com h b t)) := by
        by_cases hin : t ∈ ks.map (·.1)
        · obtain ⟨lt, hm, e2⟩ := val_vb hin
          obtain ⟨qs, h1, h2⟩ := hv5.ls _ hm
          exact ⟨lt, qs, _, DGet.k (k := Sum.inl t) hv5.here, by rw [e2]; rfl, h1, h2⟩
        · refine ⟨z, [], _, DGet.k (k := Sum.inl t) hv5.here, by rw [val_vbn hin]; rfl, hzz, ?_⟩
          have e0 : xs.filter (inT .com h b t) = [] := List.filter_eq_nil_iff.mpr fun x hx y => hin ((hv.ky t).mpr ⟨x, hx, y⟩)
          rw [e0]
          exact LsAt.nil
      refine ⟨o, hdg, ?_⟩
      rw [eo]
      walk_at "rs"
      generalize xs.filter (inT .com h b t) = ys at hls lF eS
      refine ⟨⟨_, SqL.of hlt⟩, fun D3 hD3 => ?_⟩
      refine lc_list (K := K) (a := lt) (xs := qs.map V.ref) (fun j H6 => Same H5 H6 ∧ H6 D3 = some (.lst (((ys.take j).map Lt.w).map V.int))) ⟨same_new hD3, by rw [upd_same]; simp⟩ (fun j H6 _ ⟨s6, _⟩ => SqL.of (s6 _ _ hlt)) ?_ ?_
      · rintro j y H6 hy ⟨s6, hd6⟩
        have hj : j < qs.length := by
          have e := (List.getElem?_eq_some_iff.mp hy).1
          rwa [List.length_map] at e
        have hj' : j < ys.length := by
          rw [← hls.1]
          exact hj
        rw [at_refs hj] at hy
        cases hy
        have hl6 := (hls.2 j hj').same s6
        obtain ⟨q, hp6, hq6⟩ := id hl6
        have ej := take_succ_getD (d := default) hj'
        refine ⟨rfl, ?_⟩
        walk_at "rs"
        refine ⟨_, _, _, _, rfl, rfl, SqT.of hp6, rfl, ?_⟩
        refine ⟨_, hd6, by rw [List.length_map, List.length_map, List.length_take]; exact small1000 (by omega), same_upd s6 hD3, ?_⟩
        rw [upd_same, ej]
        simp
      · rintro H6 ⟨s6, hd6⟩
        rw [List.length_map, hls.1, List.take_length] at hd6
        have s06 := s05.trans s6
        walk_at "rs"
        refine ⟨c, dx, _, rfl, s06 _ _ hcp, cfs_no _ _ (by decide +kernel) (by decide +kernel) (by decide +kernel), ?_⟩
        walk_at "rs"
        refine ⟨c, D3, ws, _, rfl, hc.same s06, gw.2.1, SqL.of hd6, by rw [List.length_map]; omega, fun H7 s7 => ?_⟩
        walk_at "rs"
        have hf7 := s7 _ _ (s6 _ _ hf5)
        have hr7 := s7 _ _ (s6 _ _ hr5)
        have s17 := (s15.trans s6).trans s7
        refine ite2 (fun c1 => ?_) (fun c1 => ?_)
        · walk_at "rs"
          refine ⟨.inl ⟨rfl, _, SqL.of hf7⟩, ?_⟩
          walk_at "rs"
          have l7 := List.length_filter_le (fun t => qrm ws (comS xs h t b)) (C.take i)
          rw [List.length_take] at l7
          refine ⟨F1, _, _, rfl, rfl, hf7, by rw [List.length_map]; exact small1000 (by omega), ?_⟩
          refine ⟨_, _, rfl, same_upd s17 hF1, ?_, ?_⟩
          · rw [upd_ne nRF]
            exact hr7
          · rw [upd_same, et, List.filter_append, List.filter_cons_of_pos (by rw [eS]; exact c1)]
            simp
        · refine ⟨_, _, rfl, s17, hr7, ?_⟩
          rw [hf7, et, List.filter_append, List.filter_cons_of_neg (by rw [eS]; exact c1)]
          simp
    · rintro σ H4 ⟨v6, v7, rfl, s4, hr4, hf4⟩
      rw [List.length_map, List.take_length] at hf4
      walk_at "rs"
      exact k F1 _ (s1.trans s4) nF hf4

theorem ok_shown_turn (T : Txt K mg a) : ∃ fd, FnOk P w K mg base CX0 5 a.d_shown_turn fd ["committee", "height", "block", "letters"] (spShown K a.C_Committee) ∧ Binds K fd ["committee", "height", "block", "letters"] [] := by
  obtain ⟨fd, F, b⟩ := T.d_shown_turn.F
  obtain ⟨fd_committed_turns, G_committed_turns, b_committed_turns⟩ := ok_committed_turns (P := P) (w := w) (base := base) T
  refine ⟨fd, F.ok sc_shown_turn (fun vs H Q E h => ?_) (fun cdv A outer s H vs Q E hr h => ?_), b⟩
  · obtain ⟨_, _, _, _, _, _, _, rfl, _⟩ := h
    rfl
  · obtain ⟨c, l, ws, ps, xs, h, b, rfl, hc, gw, hl, hx, few, tb, k⟩ := h
    refine ⟨_, (pss_one (ps_ret (pe_callBK (cr_mind rfl) (by rfl) T.n_min (by decide +kernel) (pa_cons (pe_call G_committed_turns (hr.mono (by decide)) rfl T.d_committed_turns.g T.d_committed_turns.kp b_committed_turns .nil pass0 (pa_cons (pv 0) (pa_cons (pv 3) (pa_cons (pv 1) (pa_cons (pv 2) pa_nil))))) pa_nil) (pk_cons pe_non pk_nil)))), ?_⟩
    walk_at "rs"
    refine ⟨c, l, ws, ps, xs, h, b, rfl, hc, gw, hl, hx, few, tb, fun R H1 s1 hR hR1 => ?_⟩
    walk_at "rs"
    refine ⟨R, _, _, rfl, rfl, SqL.of hR1, fun e => ?_, fun m hm lo => ?_⟩
    · exact k _ H1 s1 (fun _ => rfl) (fun z => absurd e z)
    · refine k _ H1 s1 (fun e => ?_) (fun _ => ⟨m, hm, lo, rfl⟩)
      rw [e] at hm
      cases hm
theorem ok_shows (T : Txt K mg a) : ∃ fd, FnOk P w K mg base CX0 6 a.d_shows fd ["committee", "height", "block", "letters"] (spShows K a.C_Committee) ∧ Binds K fd ["committee", "height", "block", "letters"] [] := by
  obtain ⟨fd, F, b⟩ := T.d_shows.F
  obtain ⟨fd_shown_turn, G_shown_turn, b_shown_turn⟩ := ok_shown_turn (P := P) (w := w) (base := base) T
  refine ⟨fd, F.ok sc_shows (fun vs H Q E h => ?_) (fun cdv A outer s H vs Q E hr h => ?_), b⟩
  · obtain ⟨_, _, _, _, _, _, _, rfl, _⟩ := h
    rfl
  · obtain ⟨c, l, ws, ps, xs, h, b, rfl, hc, gw, hl, hx, few, tb, k⟩ := h
    refine ⟨_, (pss_one (ps_ret (pe_cmpR op_notN (pe_call G_shown_turn (hr.mono (by decide)) rfl T.d_shown_turn.g T.d_shown_turn.kp b_shown_turn .nil pass0 (pa_cons (pv 0) (pa_cons (pv 1) (pa_cons (pv 2) (pa_cons (pv 3) pa_nil))))) pe_non (nomark _)))), ?_⟩
    walk_at "rs"
    refine ⟨c, l, ws, ps, xs, h, b, rfl, hc, gw, hl, hx, few, tb, fun v H1 s1 e0 e1 => ?_⟩
    have k1 := k H1 s1
    unfold shM at k1
    cases q : cmL ws xs h b with
    | nil =>
      rw [e0 q]
      rw [q] at k1
      walk_at "rs"
      exact k1
    | cons y ys =>
      obtain ⟨m, _, _, rfl⟩ := e1 (by rw [q]; exact fun z => nomatch z)
      rw [q] at k1
      walk_at "rs"
      exact k1
theorem ok_accuse (TE : TxtE w K mg a) (T : Txt K mg a) : ∃ fd, FnOk P w K mg base (L2.CX P w) 7 a.d_accuse fd ["committee", "height", "one", "other"] (spAcc K a.C_Committee a.C_Charge a.C_BadPaper) ∧ Binds K fd ["committee", "height", "one", "other"] [] := by
  obtain ⟨fd, F, b⟩ := T.d_accuse.F
  obtain ⟨fd_charges, G_charges, b_charges⟩ := ok_charges (P := P) (w := w) (base := base) T
  obtain ⟨fd_shows, G_shows, b_shows⟩ := ok_shows (P := P) (w := w) (base := base) T
  refine ⟨fd, F.okX sc_accuse (fun vs H Q E h => ?_) (fun cdv A outer s H vs Q E hr h => ?_), b⟩
  · obtain ⟨_, _, _, _, _, _, _, _, _, _, _, _, _, rfl, _⟩ := h
    rfl
  · obtain ⟨c, o1, o2, l1, l2, ws, h, b1, b2, ps1, ps2, xs1, xs2, rfl, hc, gw, ho1, ho2, hl1, hl2, hx1, hx2, f1, f2, t1, t2, ky, kn⟩ := h
    refine ⟨_, (pss_cons (ps_asg (pv 2) (pg_tup rfl (pgs_cons (pg_name (i := 4) sc_accuse.nd rfl (Or.inl rfl)) (pgs_cons (pg_name (i := 5) sc_accuse.nd rfl (Or.inl rfl)) pgs_nil))))
      (pss_cons (ps_asg (pv 3) (pg_tup rfl (pgs_cons (pg_name (i := 6) sc_accuse.nd rfl (Or.inl rfl)) (pgs_cons (pg_name (i := 7) sc_accuse.nd rfl (Or.inl rfl)) pgs_nil))))
      (pss_cons (ps_if (pt_cmpR op_eq (pv 4) (pv 6) (nomark _))
      (pss_one (ps_raise rfl (takes_of rfl rfl rfl rfl) (pmk_own PySem.F.excBase_ValueError TE.x_BadPaper TE.g_BadPaper TE.kc_BadPaper (raises_own TE.b_BadPaper TE.t_BadPaper) rfl)))
      pss_nil)
      (pss_cons (ps_for (passes_of rfl) rfl (pi_tup (pe_tup (pa_cons (pv 2) (pa_cons (pv 3) pa_nil)))) (pg_tup rfl (pgs_cons (pg_name (i := 8) sc_accuse.nd rfl (Or.inl rfl)) (pgs_cons (pg_name (i := 9) sc_accuse.nd rfl (Or.inl rfl)) pgs_nil)))
      (pss_one (ps_if (pt_not (pt_val (pe_call G_shows (hr.mono (by decide)) rfl T.d_shows.g T.d_shows.kp b_shows .nil pass0 (pa_cons (pv 0) (pa_cons (pv 1) (pa_cons (pv 8) (pa_cons (pv 9) pa_nil)))))))
        (pss_one (ps_raise rfl (takes_of rfl rfl rfl rfl) (pmk_own PySem.F.excBase_ValueError TE.x_BadPaper TE.g_BadPaper TE.kc_BadPaper (raises_own TE.b_BadPaper TE.t_BadPaper) rfl)))
        pss_nil)))
      (pss_one (ps_ret (pe_call G_charges (hr.mono (by decide)) rfl T.d_charges.g T.d_charges.kp b_charges .nil pass0 (pa_cons (pv 0) (pa_cons (pe_op op_cat (pv 5) (pv 7)) pa_nil))))))))), ?_⟩
    walk_at "rs"
    refine ⟨_, _, rfl, SqT.of ho1, rfl, _, _, rfl, _, _, rfl, rfl, ?_⟩
    walk_at "rs"
    refine ⟨_, _, rfl, SqT.of ho2, rfl, _, _, rfl, _, _, rfl, rfl, ?_⟩
    walk_at "rs"
    refine ite2 (fun c1 => ?_) (fun c1 => ?_)
    · have e : b1 = b2 := by
        have := of_decide_eq_true c1
        injection this
      exact kn (.inl e) H (Same.refl H)
    have ne : b1 ≠ b2 := fun z => c1 (decide_eq_true (by rw [z]))
    walk_at "rs"
    refine ⟨(by show 2 ≤ sizeLine; decide), fun tp htp => ?_⟩
    have s0 : Same H (upd H tp (.tup [V.ref o1, V.ref o2])) := same_new htp
    have ht0 : (upd H tp (.tup [V.ref o1, V.ref o2])) tp = some (.tup [V.ref o1, V.ref o2]) := upd_same
    generalize upd H tp (.tup [V.ref o1, V.ref o2]) = H0 at s0 ht0 ⊢
    refine ⟨tp, rfl, ⟨_, SqT.of ht0⟩, for_tup (K := K) (a := tp) (xs := [V.ref o1, V.ref o2]) (fun i σ H2 => ∃ v8 v9 : Option V, σ = [some (.ref c), some (.int h), some (.ref o1), some (.ref o2), some (.str b1), some (.ref l1), some (.str b2), some (.ref l2), v8, v9] ∧ Same H0 H2 ∧
      (1 ≤ i → shM ws xs1 h (some b1) = true) ∧ (2 ≤ i → shM ws xs2 h (some b2) = true)) ⟨_, _, rfl, Same.refl H0, fun z => absurd z (by omega), fun z => absurd z (by omega)⟩ (fun i σ H2 _ ⟨_, _, _, s2, _⟩ => SqT.of (s2 _ _ ht0)) ?_ ?_⟩
    · rintro i y σ H2 hy ⟨v8, v9, rfl, s2, k1, k2⟩
      have s02 := s0.trans s2
      obtain ⟨o, bb, ll, pp, xx, rfl, ho, hll, hxx, fx, tx, more, less⟩ : ∃ (o : Addr) (bb : Str) (ll : Addr) (pp : List Addr) (xx : List Lt), y = V.ref o ∧ H2 o = some (.tup [.str bb, .ref ll]) ∧ H2 ll = some (.lst (pp.map V.ref)) ∧ LsAt H2 pp xx ∧ xx.length ≤ 400 ∧ TB xx ∧
          (shM ws xx h (some bb) = true → (1 ≤ i + 1 → shM ws xs1 h (some b1) = true) ∧ (2 ≤ i + 1 → shM ws xs2 h (some b2) = true)) ∧ (shM ws xx h (some bb) = false → b1 = b2 ∨ shM ws xs1 h (some b1) = false ∨ shM ws xs2 h (some b2) = false) := by
        match i, hy with
        | 0, hy =>
          cases hy
          exact ⟨o1, b1, l1, ps1, xs1, rfl, s02 _ _ ho1, s02 _ _ hl1, hx1.same s02, f1, t1, fun z => ⟨fun _ => z, fun q => absurd q (by omega)⟩, fun z => .inr (.inl z)⟩
        | 1, hy =>
          cases hy
          exact ⟨o2, b2, l2, ps2, xs2, rfl, s02 _ _ ho2, s02 _ _ hl2, hx2.same s02, f2, t2, fun z => ⟨fun _ => k1 (by omega), fun _ => z⟩, fun z => .inr (.inr z)⟩
        | i + 2, hy => simp at hy
      refine ⟨_, _, rfl, SqT.of ho, rfl, _, _, rfl, _, _, rfl, rfl, ?_⟩
      walk_at "rs"
      refine ⟨c, ll, ws, pp, xx, h, some bb, rfl, hc.same s02, gw, hll, hxx, by omega, tx, fun H3 s3 => ?_⟩
      walk_at "rs"
      cases q : shM ws xx h (some bb) with
      | true => exact ⟨_, _, rfl, s2.trans s3, more q⟩
      | false => exact kn (less q) H3 (s02.trans s3)
    · rintro σ H2 ⟨v8, v9, rfl, s2, k1, k2⟩
      have s02 := s0.trans s2
      have n1 := hx1.1
      have n2 := hx2.1
      walk_at "rs"
      refine ⟨l1, l2, _, _, rfl, rfl, s02 _ _ hl1, s02 _ _ hl2, by rw [List.length_map, List.length_map, sizeLine_eq]; omega, fun p4 hp4 => ?_⟩
      have s4 := same_new (o := .lst (ps1.map V.ref ++ ps2.map V.ref)) hp4
      have s04 := s02.trans s4
      refine ⟨c, p4, ws, ps1 ++ ps2, xs1 ++ xs2, rfl, hc.same s04, gw.2.1, by rw [upd_same]; simp, (hx1.app hx2).same s04, by rw [List.length_append]; omega, fun p cs H5 s5 hp5 hl5 hch => ?_⟩
      exact ky ne (k1 (by show 1 ≤ 2; decide)) (k2 (by show 2 ≤ 2; decide)) p cs H5 (s04.trans s5) hp5 hl5 hch

theorem ok_law_cell (T : Txt K mg a) : ∃ fd, FnOk P w K mg base CX0 1 a.d_law_cell fd ["script", "k"] (spCell K) ∧ Binds K fd ["script", "k"] [] := by
  obtain ⟨fd, F, b⟩ := T.d_law_cell.F
  refine ⟨fd, F.ok sc_law_cell (fun vs H Q E h => ?_) (fun cdv A outer s H vs Q E hr h => ?_), b⟩
  · obtain ⟨a, ns, k, rfl, _⟩ := h
    rfl
  · obtain ⟨l, ns, k, rfl, hS, hl, hk, q⟩ := h
    refine ⟨_, (pss_cons (ps_if (pt_cmpR op_lt (pv 1) (pe_callB call_len_seq (by rfl) T.n_len PySem.boot_len (pa_cons (pv 0) pa_nil)) (nomark _))
      (pss_one (ps_ret (pe_ix ix_list (pv 0) (pv 1) (fun _ _ => rfl))))
      pss_nil)
      (pss_one (ps_ret pe_int))), ?_⟩
    refine ⟨_, rfl, _, rfl, l, _, rfl, .inl hS, _, _, rfl, rfl, _, rfl, ?_⟩
    refine ite2 (fun hlt => ?_) (fun hge => ?_)
    · have hlt : k < ((ns.map V.int).length : Int) := of_decide_eq_true hlt
      rw [List.length_map] at hlt
      have hj : k.toNat < ns.length := by omega
      have e : ns.getD k.toNat 0 = ns[k.toNat] := by rw [List.getD_eq_getElem?_getD, List.getElem?_eq_getElem hj]; rfl
      rw [e] at q
      refine ⟨_, rfl, _, rfl, l, _, k, .int ns[k.toNat], rfl, rfl, hS, at_of (j := k.toNat) (by omega) (by rw [List.getElem?_map, List.getElem?_eq_getElem hj]; rfl), q⟩
    · have hge : ¬ k < ((ns.map V.int).length : Int) := fun e => hge (decide_eq_true e)
      rw [List.length_map] at hge
      have e : ns.getD k.toNat 0 = 0 := by rw [List.getD_eq_getElem?_getD, List.getElem?_eq_none (by omega)]; rfl
      rw [e] at q
      exact q

theorem ok_law_row (T : Txt K mg a) : ∃ fd, FnOk P w K mg base CX0 1 a.d_law_row fd ["cell", "count", "size"] (spRow K) ∧ Binds K fd ["cell", "count", "size"] [] := by
  obtain ⟨fd, F, b⟩ := T.d_law_row.F
  refine ⟨fd, F.ok sc_law_row (fun vs H Q E h => ?_) (fun cdv A outer s H vs Q E hr h => ?_), b⟩
  · obtain ⟨_, _, _, rfl, _⟩ := h
    rfl
  · obtain ⟨cell, count, size, rfl, c0, c1, z0, z1, k⟩ := h
    refine ⟨_, (pss_cons (ps_set (i := 3) sc_law_row.nd rfl (Or.inl rfl) (pv 0))
      (pss_cons (ps_set (i := 4) sc_law_row.nd rfl (Or.inl rfl) (pe_lst pa_nil))
      (pss_cons (ps_for PassesOwn.never rfl (pi_range1 rfl T.n_range (pa_cons (pv 1) pa_nil)) (pg_name (i := 5) sc_law_row.nd rfl (Or.inl rfl))
      (pss_one (ps_if (pt_cmpR op_ge (pv 0) (pe_op op_pow pe_int pe_int) (nomark _))
        (pss_cons (ps_expr (pe_bm PySem.F.plainAttrs_list PySem.F.slot_list_append PySem.F.type_list_append mt_append (pv 4) (pa_cons (pe_op op_mod (pe_callTy call_int1 (by rfl) T.n_int (by decide +kernel) (pa_cons (pv 3) pa_nil)) (pv 2)) pa_nil)))
          (pss_one (ps_set (i := 3) sc_law_row.nd rfl (Or.inl rfl) (pe_op op_fdivN (pv 3) (pv 2)))))
        (pss_cons (ps_set (i := 3) sc_law_row.nd rfl (Or.inl rfl) (pe_op op_mod (pe_callTy call_int1 (by rfl) T.n_int (by decide +kernel) (pa_cons (pe_op op_add (pe_op op_mul (pv 3) pe_int) pe_int) pa_nil)) pe_int))
          (pss_one (ps_expr (pe_bm PySem.F.plainAttrs_list PySem.F.slot_list_append PySem.F.type_list_append mt_append (pv 4) (pa_cons (pe_op op_mod (pe_op op_mod (pe_callTy call_int1 (by rfl) T.n_int (by decide +kernel) (pa_cons (pe_op op_add (pe_op op_mul (pv 3) pe_int) (pe_op op_mul (pv 5) pe_int)) pa_nil)) pe_int) (pv 2)) pa_nil))))))))
      (pss_one (ps_ret (pv 4)))))), ?_⟩
    walk_at "rs"
    refine ⟨(by show 0 ≤ sizeLine; decide), fun p hp => ?_⟩
    walk_at "rs"
    refine ⟨(by show -(2 ^ 62 : Int) ≤ _; omega), (by show _ < (2 ^ 62 : Int); omega), ?_⟩
    refine for_range (lo := 0) (n := count.toNat) (fun i σ H2 => ∃ (st : Int) (row : List Int) (v5 : Option V), σ = [some (.int cell), some (.int count), some (.int size), some (.int st), some (.ref p), v5] ∧ Same H H2 ∧
      H2 p = some (.lst (row.map V.int)) ∧ row.length = i ∧ ∀ x ∈ row, 0 ≤ x ∧ x < size) ⟨_, [], _, rfl, same_new hp, upd_same, rfl, fun x hx => nomatch hx⟩ ?_ ?_
    · rintro i σ H2 hi ⟨st, row, v5, rfl, s2, hrow, hlen, hb⟩
      have fit : (row.map V.int).length < sizeLine := by
        rw [List.length_map]
        exact small1000 (by omega)
      have grow : ∀ z : Int, 0 ≤ z → z < size → ∀ x ∈ row ++ [z], 0 ≤ x ∧ x < size := fun z h0 h1 x hx => by
        rcases List.mem_append.mp hx with hx | hx
        · exact hb x hx
        · rw [List.mem_singleton.mp hx]
          exact ⟨h0, h1⟩
      walk_at "rs"
      refine ite2 (fun c1 => ?_) (fun c1 => ?_)
      · walk_at "rs"
        refine ⟨.inl ⟨rfl, _, SqL.of hrow⟩, ?_⟩
        walk_at "rs"
        refine ⟨p, _, _, rfl, rfl, hrow, fit, ?_⟩
        walk_at "rs"
        refine ⟨(show CDivN _ _ from ⟨by omega, by omega⟩), ?_⟩
        exact ⟨_, row ++ [st % size], _, rfl, same_upd s2 hp, by rw [upd_same]; simp, by simp [hlen], grow _ (Int.emod_nonneg _ (by omega)) (Int.emod_lt_of_pos _ z0)⟩
      · walk_at "rs"
        refine ⟨.inl ⟨rfl, _, SqL.of hrow⟩, ?_⟩
        walk_at "rs"
        refine ⟨p, _, _, rfl, rfl, hrow, fit, ?_⟩
        exact ⟨_, row ++ [((st * 48271 + 12345) % 2147483647 * 69621 + (i : Int) * 7919) % 2147483647 % size], _, rfl, same_upd s2 hp, by rw [upd_same]; simp, by simp [hlen], grow _ (Int.emod_nonneg _ (by omega)) (Int.emod_lt_of_pos _ z0)⟩
    · rintro σ H2 ⟨st, row, v5, rfl, s2, hrow, hlen, hb⟩
      walk_at "rs"
      exact k p row H2 s2 hrow hlen hb hp

theorem ok_law_weights (T : Txt K mg a) : ∃ fd, FnOk P w K mg base CX0 2 a.d_law_weights fd ["cell", "most"] (spWeights K) ∧ Binds K fd ["cell", "most"] [] := by
  obtain ⟨fd, F, b⟩ := T.d_law_weights.F
  obtain ⟨fd_law_row, G_law_row, b_law_row⟩ := ok_law_row (P := P) (w := w) (base := base) T
  refine ⟨fd, F.ok sc_law_weights (fun vs H Q E h => ?_) (fun cdv A outer s H vs Q E hr h => ?_), b⟩
  · obtain ⟨_, _, rfl, _⟩ := h
    rfl
  · obtain ⟨cell, most, rfl, m0, m1, k⟩ := h
    refine ⟨_, (pss_cons (ps_set (i := 2) sc_law_weights.nd rfl (Or.inl rfl) (pe_op op_add pe_int (pe_op op_mod (pe_callTy call_int1 (by rfl) T.n_int (by decide +kernel) (pa_cons (pv 0) pa_nil)) (pv 1))))
      (pss_cons (ps_if (pt_cmpR op_eq (pe_op op_mod (pe_op op_fdiv (pv 0) pe_int) pe_int) pe_int (nomark _))
      (pss_one (ps_ret (pe_op op_rep (pe_lst (pa_cons pe_int pa_nil)) (pv 2))))
      pss_nil)
      (pss_one (ps_ret (pe_lc (own := [("value", 3)]) (g := (gName 3)) (tt := tYes) rfl sc_law_weights.nd (pi_list (pe_call G_law_row (hr.mono (by decide)) rfl T.d_law_row.g T.d_law_row.kp b_law_row .nil pass0 (pa_cons (pe_op op_fdiv (pv 0) pe_int) (pa_cons (pv 2) (pa_cons pe_int pa_nil))))) (blkOk_by (own := [("value", 3)]) (N := sc_law_weights_N) (sc := defScope s_law_weights) (by decide +kernel)) (fun _ _ _ _ _ => (pg_name (i := 3) sc_law_weights.nd rfl (Or.inl rfl))) (fun _ _ _ _ _ => pts_nil) (fun _ _ _ _ _ => (pe_op op_add pe_int (pv 3)))))))), ?_⟩
    have c0 : 0 ≤ cell % most := Int.emod_nonneg _ (by omega)
    have c1 : cell % most < most := Int.emod_lt_of_pos _ (by omega)
    walk_at "rs"
    refine ite2 (fun c2 => ?_) (fun c2 => ?_)
    · walk_at "rs"
      refine ⟨(by show 1 ≤ sizeLine; decide), fun p hp => ?_⟩
      walk_at "rs"
      refine ⟨p, _, _, rfl, rfl, upd_same, (by show -(2 ^ 63 : Int) ≤ 1 + cell % most; omega), (by show 1 + cell % most < (2 ^ 63 : Int); omega), (by rw [sizeLine_eq]; show 1 * (1 + cell % most).toNat ≤ _; omega), fun q hq => ?_⟩
      refine k q (List.replicate (1 + cell % most).toNat 1) _ (same_upd (same_new hp) (Same.free (same_new hp) hq)) (by rw [upd_same]; simp) ⟨by rw [List.length_replicate]; omega, by rw [List.length_replicate]; omega, fun x hx => ?_⟩ (by rw [List.length_replicate]; omega)
      rw [(List.mem_replicate.mp hx).2]
      decide
    · walk_at "rs"
      refine ⟨_, _, _, rfl, by omega, by omega, by decide, by decide, fun p row H1 s1 hrow hlen hb hp => ?_⟩
      refine ⟨p, rfl, ⟨_, SqL.of hrow⟩, fun D hD => ?_⟩
      have nDp : D ≠ p := (ne_of_none hrow hD).symm
      refine lc_list (K := K) (a := p) (xs := row.map V.int) (fun i H2 => Same H1 H2 ∧ H2 D = some (.lst (((row.take i).map (1 + ·)).map V.int))) ⟨same_new hD, upd_same⟩ (fun i H2 _ ⟨s2, _⟩ => SqL.of (s2 _ _ hrow)) ?_ ?_
      · rintro i x H2 hx ⟨s2, hd⟩
        have hi : i < row.length := by
          have e := (List.getElem?_eq_some_iff.mp hx).1
          rwa [List.length_map] at e
        rw [at_ints hi] at hx
        cases hx
        refine ⟨rfl, ?_⟩
        walk_at "rs"
        refine ⟨_, hd, by simp only [List.length_map, List.length_take]; exact small1000 (by omega), same_upd s2 hD, ?_⟩
        rw [upd_same, List.take_add_one, List.getElem?_eq_getElem hi, List.getD_eq_getElem?_getD, List.getElem?_eq_getElem hi]
        simp only [Option.toList_some, Option.getD_some, List.map_append, List.map_cons, List.map_nil]
      · rintro H2 ⟨s2, hd⟩
        have e : row.take (row.map V.int).length = row := by rw [List.length_map, List.take_length]
        rw [e] at hd
        refine k D _ H2 (fun b o z => s2 _ _ (s1 _ _ z)) hd ⟨by rw [List.length_map]; omega, by rw [List.length_map]; omega, fun x hx => ?_⟩ (by rw [List.length_map]; omega)
        obtain ⟨y, hy, rfl⟩ := List.mem_map.mp hx
        have := hb y hy
        omega

theorem ok_law_weight (T : Txt K mg a) : ∃ fd, FnOk P w K mg base CX0 1 a.d_law_weight fd ["weights", "members"] (spWeight K) ∧ Binds K fd ["weights", "members"] [] := by
  obtain ⟨fd, F, b⟩ := T.d_law_weight.F
  refine ⟨fd, F.ok sc_law_weight (fun vs H Q E h => ?_) (fun cdv A outer s H vs Q E hr h => ?_), b⟩
  · obtain ⟨_, _, _, _, rfl, _⟩ := h
    rfl
  · obtain ⟨p, q, ws, ms, rfl, hp, hq, hlen, k⟩ := h
    refine ⟨_, (pss_one (ps_ret (pe_callB (cr_sum rfl) (by rfl) T.n_sum (by decide +kernel) (pa_cons (pe_lc (own := [("k", 2)]) (g := (gName 2)) rfl sc_law_weight.nd (pi_range1 rfl T.n_range (pa_cons (pe_callB call_len_seq (by rfl) T.n_len PySem.boot_len (pa_cons (pv 0) pa_nil)) pa_nil)) (blkOk_by (own := [("k", 2)]) (N := sc_law_weight_N) (sc := defScope s_law_weight) (by decide +kernel)) (fun _ _ _ _ _ => (pg_name (i := 2) sc_law_weight.nd rfl (Or.inl rfl))) (fun _ _ _ _ _ => (pts_one (pt_cmpR (r := rIn K false) op_in_seq (pv 2) (pv 1) (by rfl)))) (fun _ _ _ _ _ => (pe_ix (r := rIxL K) ix_list (pv 0) (pv 2) (fun _ _ => rfl)))) pa_nil)))), ?_⟩
    walk_at "rs"
    refine ⟨p, _, rfl, .inl hp, ?_⟩
    walk_at "rs"
    have hN : ((ws.map V.int).length : Int) = ws.length := by rw [List.length_map]
    refine ⟨(by show -(2 ^ 62 : Int) ≤ _; omega), (by show _ < (2 ^ 62 : Int); omega), fun D hD => ?_⟩
    refine lc_range (lo := 0) (n := (((ws.map V.int).length : Int)).toNat) (fun i H2 => Same H H2 ∧ H2 D = some (.lst ((pick ws (fun k => decide (k ∈ ms)) i).map V.int))) ⟨same_new hD, upd_same⟩ ?_ ?_
    · rintro i H2 hi ⟨s2, hd⟩
      have hi' : i < ws.length := by omega
      have fit : ((pick ws (fun k => decide (k ∈ ms)) i).map V.int).length < sizeLine := by
        have := pick_len ws (fun k => decide (k ∈ ms)) i
        rw [List.length_map]
        exact small1000 (by omega)
      refine ⟨rfl, ?_⟩
      walk_at "rs"
      refine ⟨q, _, rfl, .inl (s2.seq hq), rfl, flat_ints ms, ?_⟩
      rw [if_neg Bool.false_ne_true, inV_ints]
      walk_at "rs"
      refine ite2 (fun c1 => ?_) (fun c1 => ?_)
      · walk_at "rs"
        refine ⟨p, _, _, .int (ws.getD i 0), rfl, rfl, s2.seq hp, at_of (j := i) (by omega) (at_ints hi'), ?_⟩
        refine ⟨_, hd, fit, same_upd s2 hD, ?_⟩
        rw [upd_same, pick]
        have c1' : decide ((i : Int) ∈ ms) = true := by simpa using c1
        rw [if_pos c1']
        simp
      · refine ⟨s2, ?_⟩
        have c1' : ¬ decide ((i : Int) ∈ ms) = true := by simpa using c1
        rw [hd, pick, if_neg c1']
    · rintro H2 ⟨s2, hd⟩
      rw [hN, Int.toNat_natCast] at hd
      walk_at "rs"
      exact ⟨D, _, rfl, SqL.of hd, k H2 s2⟩

theorem ok_law_clash (T : Txt K mg a) : ∃ fd, FnOk P w K mg base CX0 1 a.d_law_clash fd ["one", "other"] (spClash K) ∧ Binds K fd ["one", "other"] [] := by
  obtain ⟨fd, F, b⟩ := T.d_law_clash.F
  refine ⟨fd, F.ok sc_law_clash (fun vs H Q E h => ?_) (fun cdv A outer s H vs Q E hr h => ?_), b⟩
  · obtain ⟨_, _, _, _, rfl, _⟩ := h
    rfl
  · obtain ⟨p, q, m, n, rfl, hp, hq, k⟩ := h
    have k0 : Q (.bl (clashM m n)) H := k _ (Same.refl H)
    clear k
    refine ⟨_, (pss_cons (ps_if (PW.pt (pw_or (pt_cmpR op_ne (pe_ix ix_tup (pv 0) pe_int (fun _ _ => rfl)) (pe_ix ix_tup (pv 1) pe_int (fun _ _ => rfl)) (nomark _)) (pw_or (pt_cmpR op_eq (pe_ix ix_tup (pv 0) pe_int (fun _ _ => rfl)) pe_str (nomark _)) (pw_or1 (pt_cmpR op_eq (pe_ix ix_tup (pv 1) pe_int (fun _ _ => rfl)) pe_str (nomark _))))))
      (pss_one (ps_ret pe_bl))
      pss_nil)
      (pss_cons (ps_if (pt_cmpR op_eq (pe_ix ix_tup (pv 0) pe_int (fun _ _ => rfl)) (pe_ix ix_tup (pv 1) pe_int (fun _ _ => rfl)) (nomark _))
      (pss_one (ps_ret (pe_and (pe_cmpR op_eq (pe_ix ix_tup (pv 0) pe_int (fun _ _ => rfl)) (pe_ix ix_tup (pv 1) pe_int (fun _ _ => rfl)) (nomark _)) (pe_one (pe_cmpR op_ne (pe_ix ix_tup (pv 0) pe_int (fun _ _ => rfl)) (pe_ix ix_tup (pv 1) pe_int (fun _ _ => rfl)) (nomark _))))))
      pss_nil)
      (pss_cons (ps_set (i := 2) sc_law_clash.nd rfl (Or.inl rfl) (pv 0))
      (pss_cons (ps_set (i := 3) sc_law_clash.nd rfl (Or.inl rfl) (pv 1))
      (pss_cons (ps_if (pt_cmpR op_eq (pe_ix ix_tup (pv 0) pe_int (fun _ _ => rfl)) pe_str (nomark _))
      (pss_cons (ps_set (i := 2) sc_law_clash.nd rfl (Or.inl rfl) (pv 1))
        (pss_one (ps_set (i := 3) sc_law_clash.nd rfl (Or.inl rfl) (pv 0))))
      pss_nil)
      (pss_cons (ps_if (PW.pt (pw_or (pt_cmpR op_isN (pe_ix ix_tup (pv 2) pe_int (fun _ _ => rfl)) pe_non (nomark _)) (pw_or (pt_cmpR op_isN (pe_ix ix_tup (pv 3) pe_int (fun _ _ => rfl)) pe_non (nomark _)) (pw_or (pt_cmpR op_eq (pe_ix ix_tup (pv 2) pe_int (fun _ _ => rfl)) (pe_ix ix_tup (pv 3) pe_int (fun _ _ => rfl)) (nomark _)) (pw_or1 (pt_cmpR op_le (pe_ix ix_tup (pv 3) pe_int (fun _ _ => rfl)) (pe_ix ix_tup (pv 2) pe_int (fun _ _ => rfl)) (nomark _)))))))
      (pss_one (ps_ret pe_bl))
      pss_nil)
      (pss_one (ps_ret (pe_or (pe_cmpR op_isN (pe_ix ix_tup (pv 3) pe_int (fun _ _ => rfl)) pe_non (nomark _)) (pe_one (pe_cmpR op_lt (pe_ix ix_tup (pv 3) pe_int (fun _ _ => rfl)) (pe_ix ix_tup (pv 2) pe_int (fun _ _ => rfl)) (nomark _)))))))))))), ?_⟩
    walk_at "rs"
    refine ite2 (fun c1 => ?_) (fun c1 => ?_) <;> simp only [dec_int, Bool.not_eq_true', beq_eq_false_iff_ne, Bool.not_eq_false', Bool.not_eq_true, beq_iff_eq, ne_eq, Decidable.not_not] at c1
    · rw [show clashM m n = false from if_pos c1] at k0
      exact k0
    walk_at "rs"
    refine ite2 (fun c2 => ?_) (fun c2 => ?_) <;> simp only [kprop, decide_eq_true_iff] at c2
    · rw [show clashM m n = false by
        unfold clashM abandM
        rw [if_neg (fun z => z c1)]
        by_cases e : m.k = n.k
        · rw [if_pos e, c2]
          rfl
        · rw [if_neg e, c2]
          simp] at k0
      exact k0
    walk_at "rs"
    refine ite2 (fun c3 => ?_) (fun c3 => ?_) <;> simp only [kprop, decide_eq_true_iff] at c3
    · rw [show clashM m n = false by
        unfold clashM abandM
        rw [if_neg (fun z => z c1)]
        by_cases e : m.k = n.k
        · rw [if_pos e, e, c3]
          rfl
        · rw [if_neg e, c3]
          simp] at k0
      exact k0
    walk_at "rs"
    refine ite2 (fun c4 => ?_) (fun c4 => ?_) <;> simp only [dec_kd, decide_eq_true_iff] at c4
    · unfold clashM at k0
      rw [if_neg (fun z => z c1), if_pos c4, decide_eq_true c2, Bool.true_and] at k0
      walk_at "rs"
      refine ite2 (fun c5 => ?_) (fun c5 => ?_) <;> simp only [dec_int, beq_iff_eq] at c5
      · rw [decide_eq_true c5, Bool.true_and] at k0
        walk_at "rs"
        rw [show decide (m.b ≠ n.b) = (!decide (oS m.b = oS n.b)) by rw [dec_oS, decide_not]] at k0
        exact k0
      · rw [decide_eq_false c5, Bool.false_and] at k0
        exact k0
    · unfold clashM at k0
      rw [if_neg (fun z => z c1), if_neg c4] at k0
      walk_at "rs"
      refine ite2 (fun c5 => ?_) (fun c5 => ?_) <;> simp only [kpre, decide_eq_true_iff] at c5
      · have cn : n.k = .com := by
          cases e : n.k with
          | prop => exact absurd e c3
          | pre => exact absurd (c5.trans e.symm) c4
          | com => rfl
        rw [show abandM m n = false from if_neg (fun z => by rw [c5] at z; cases z.1), Bool.false_or] at k0
        walk_at "rs"
        refine ite2 (fun d1 => ?_) (fun d1 => ?_) <;> simp only [koSn, decide_eq_true_iff] at d1
        · rw [show abandM n m = false from if_neg (fun z => z.2.2.1 d1)] at k0
          exact k0
        walk_at "rs"
        refine ite2 (fun d2 => ?_) (fun d2 => ?_) <;> simp only [koSn, decide_eq_true_iff] at d2
        · rw [show abandM n m = false from if_neg (fun z => z.2.2.2.1 d2)] at k0
          exact k0
        walk_at "rs"
        refine ite2 (fun d3 => ?_) (fun d3 => ?_) <;> simp only [koS, decide_eq_true_iff] at d3
        · rw [show abandM n m = false from if_neg (fun z => z.2.2.2.2.1 d3)] at k0
          exact k0
        walk_at "rs"
        refine ite2 (fun d4 => ?_) (fun d4 => ?_) <;> simp only [decide_eq_true_iff] at d4
        · rw [show abandM n m = false from if_neg (fun z => by have := z.2.2.2.2.2; omega)] at k0
          exact k0
        rw [show abandM n m = (match m.l with | none => true | some l => decide (l < n.t)) from if_pos ⟨by assumption, by assumption, d1, d2, d3, by omega⟩] at k0
        walk_at "rs"
        refine ite2 (fun d5 => ?_) (fun d5 => ?_) <;> simp only [koIn, decide_eq_true_iff] at d5
        · rw [d5] at k0
          exact k0
        · cases hnl : m.l with
          | none => exact absurd hnl d5
          | some l =>
            rw [hnl] at k0
            refine ⟨_, rfl, _, _, _, _, rfl, rfl, SqT.of (by assumption), (at4 m (by assumption)).trans (by rw [hnl]), ?_⟩
            walk_at "rs"
            exact k0
      · have cm : m.k = .com := by
          cases e : m.k with
          | prop => exact absurd e c2
          | pre => exact absurd e c5
          | com => rfl
        have cn : n.k = .pre := by
          cases e : n.k with
          | prop => exact absurd e c3
          | pre => rfl
          | com => exact absurd (cm.trans e.symm) c4
        rw [show abandM n m = false from if_neg (fun z => by rw [cn] at z; cases z.1), Bool.or_false] at k0
        walk_at "rs"
        refine ite2 (fun d1 => ?_) (fun d1 => ?_) <;> simp only [koSn, decide_eq_true_iff] at d1
        · rw [show abandM m n = false from if_neg (fun z => z.2.2.1 d1)] at k0
          exact k0
        walk_at "rs"
        refine ite2 (fun d2 => ?_) (fun d2 => ?_) <;> simp only [koSn, decide_eq_true_iff] at d2
        · rw [show abandM m n = false from if_neg (fun z => z.2.2.2.1 d2)] at k0
          exact k0
        walk_at "rs"
        refine ite2 (fun d3 => ?_) (fun d3 => ?_) <;> simp only [koS, decide_eq_true_iff] at d3
        · rw [show abandM m n = false from if_neg (fun z => z.2.2.2.2.1 d3)] at k0
          exact k0
        walk_at "rs"
        refine ite2 (fun d4 => ?_) (fun d4 => ?_) <;> simp only [decide_eq_true_iff] at d4
        · rw [show abandM m n = false from if_neg (fun z => by have := z.2.2.2.2.2; omega)] at k0
          exact k0
        rw [show abandM m n = (match n.l with | none => true | some l => decide (l < m.t)) from if_pos ⟨by assumption, by assumption, d1, d2, d3, by omega⟩] at k0
        walk_at "rs"
        refine ite2 (fun d5 => ?_) (fun d5 => ?_) <;> simp only [koIn, decide_eq_true_iff] at d5
        · rw [d5] at k0
          exact k0
        · cases hnl : n.l with
          | none => exact absurd hnl d5
          | some l =>
            rw [hnl] at k0
            refine ⟨_, rfl, _, _, _, _, rfl, rfl, SqT.of (by assumption), (at4 n (by assumption)).trans (by rw [hnl]), ?_⟩
            walk_at "rs"
            exact k0

theorem nu_tl {i : Int} (h : NOk i) : TL.tl (nu i) = TL.numL i.toNat := by
  unfold nu
  rw [← TL.tl_num, Int.toNat_of_nonneg h.1]
theorem nu_neg {n : Nat} : TL.tl (nu (Int.negSucc n)) = 45 :: TL.numL (n + 1) := by
  unfold nu
  rw [TL.tl_ofString]
  show (("-" ++ (n + 1).repr).toList.map Char.toNat) = _
  rw [String.toList_append, List.map_append]
  unfold TL.numL Nat.repr
  simp
theorem nu_len {i : Int} (h : WOk i) : (nu i).length ≤ 7 := by
  obtain ⟨h0, h1⟩ := id h
  rw [TL.len_tl]
  cases i with
  | ofNat n =>
    show (TL.tl (Str.ofString (toString ((n : Nat) : Int)))).length ≤ 7
    rw [TL.tl_num]
    exact TL.numL_len (k := 7) (by decide) (by have : ((n : Nat) : Int) ≤ 2000000 := h1; omega)
  | negSucc n =>
    rw [nu_neg, List.length_cons]
    have : n + 1 ≤ 1000 := by omega
    have := TL.numL_len (n := n + 1) (k := 4) (by decide) (by omega)
    omega
theorem nu_log {i : Int} (h : WOk i) : i.natAbs.log2 < 1920 := by
  obtain ⟨h0, h1⟩ := h
  rcases Nat.eq_zero_or_pos i.natAbs with z | z
  · rw [z]
    decide
  · have : i.natAbs.log2 < 30 := (Nat.log2_lt (Nat.ne_of_gt z)).mpr (by omega)
    omega

theorem ok_Reader_init (T : Txt K mg a) : ∃ fd, FnOk P w K mg base CX0 1 a.d_Reader_init fd ["self", "text"] (spRInit a.C_Reader) ∧ Binds K fd ["self", "text"] [] := by
  obtain ⟨fd, F, b⟩ := T.d_Reader_init.F
  refine ⟨fd, F.ok sc_Reader_init (fun vs H Q E h => ?_) (fun cdv A outer s H vs Q E hr h => ?_), b⟩
  · obtain ⟨_, _, _, rfl, _⟩ := h
    rfl
  · obtain ⟨p, dx, z, rfl, hp, k⟩ := h
    refine ⟨_, (pss_cons (ps_fld (pv 0) (pv 1) rfl)
      (pss_one (ps_fld (pv 0) pe_int rfl))), ?_⟩
    walk_at "rs"
    refine ⟨p, _, dx, [], rfl, hp, T.cl_Reader, T.a_Reader_text, (by show 0 < 1000; decide), ?_⟩
    walk_at "rs"
    refine ⟨p, _, dx, _, rfl, upd_same, T.cl_Reader, T.a_Reader_at, (by show 1 < 1000; decide), ?_⟩
    rw [upd_upd]
    walk_at "rs"
    refine k _ ⟨dx, ?_⟩ (fun b o n e => by rw [upd_ne n]; exact e)
    rw [upd_same]
    rfl
theorem ok_Reader_read_signs (T : Txt K mg a) : ∃ fd, FnOk P w K mg base CX0 1 a.d_Reader_read_signs fd ["self", "allowed"] (spSigns a.C_Reader) ∧ Binds K fd ["self", "allowed"] [] := by
  obtain ⟨fd, F, b⟩ := T.d_Reader_read_signs.F
  refine ⟨fd, F.ok sc_Reader_read_signs (fun vs H Q E h => ?_) (fun cdv A outer s H vs Q E hr h => ?_), b⟩
  · obtain ⟨_, _, _, _, rfl, _⟩ := h
    rfl
  · obtain ⟨p, z, al, i, rfl, ⟨dx, hp⟩, lz, li, k⟩ := h
    refine ⟨_, (pss_cons (ps_set (i := 2) sc_Reader_read_signs.nd rfl (Or.inl rfl) (pe_fld (pv 0) rfl))
      (pss_cons (ps_while PassesOwn.never (PW.pt (pw_and (pt_cmpR op_lt (pe_fld (pv 0) rfl) (pe_callB call_len_str (by rfl) T.n_len PySem.boot_len (pa_cons (pe_fld (pv 0) rfl) pa_nil)) (nomark _)) (pw_and1 (pt_cmpR op_in_sign (pe_ix ix_str (pe_fld (pv 0) rfl) (pe_fld (pv 0) rfl) (fun _ _ => rfl)) (pv 1) (by rfl)))))
      (pss_one (ps_fldaug (pv 0) pe_int in_add)))
      (pss_one (ps_ret (pe_slice sl_str (pe_fld (pv 0) rfl) (po_some (pv 2)) (po_some (pe_fld (pv 0) rfl))))))), ?_⟩
    walk_at "rs"
    refine ⟨p, _, dx, _, .int (i : Int), rfl, hp, T.cl_Reader, T.a_Reader_at, rfl, ?_⟩
    walk_at "rs"
    refine ⟨fun m σ H2 => ∃ j : Nat, m = z.length - j ∧ σ = [some (.ref p), some (.str al), some (.int (i : Int))] ∧ H2 p = some (.ins a.C_Reader dx [("text", .str z), ("at", .int (j : Int))]) ∧ (∀ b o, b ≠ p → H b = some o → H2 b = some o) ∧ i ≤ j ∧ j ≤ z.length ∧ i + runL (TL.tl al) ((TL.tl z).drop i) = j + runL (TL.tl al) ((TL.tl z).drop j),
      ⟨_, i, rfl, rfl, hp, fun b o _ e => e, Nat.le_refl _, li, rfl⟩, ?_⟩
    rintro m σ H2 ⟨j, rfl, rfl, h2, k2, ij, jz, ej⟩
    walk_at "rs"
    refine ⟨p, _, dx, _, .int (j : Int), rfl, h2, T.cl_Reader, T.a_Reader_at, rfl, ?_⟩
    walk_at "rs"
    refine ⟨p, _, dx, _, .str z, rfl, h2, T.cl_Reader, T.a_Reader_text, rfl, ?_⟩
    walk_at "rs"
    refine ⟨(by rw [sizeLine_eq]; omega), ?_⟩
    walk_at "rs"
    have fin : runL (TL.tl al) ((TL.tl z).drop j) = 0 → Q (V.str (cutS z (some (i : Int)) (some (j : Int)))) H2 := fun e0 => by
      have ejj : j = i + runL (TL.tl al) ((TL.tl z).drop i) := by omega
      have ec : cutS z (some (i : Int)) (some (j : Int)) = ⟨(((TL.tl z).drop i).take (runL (TL.tl al) ((TL.tl z).drop i))).toArray⟩ := by
        unfold cutS
        rw [HT.sIx_nat, HT.sIx_nat, Nat.min_eq_left li, Nat.min_eq_left jz, show j - i = runL (TL.tl al) ((TL.tl z).drop i) by omega]
      rw [ec]
      refine k H2 ⟨dx, ?_⟩ k2
      rw [← ejj]
      exact h2
    refine ite2 (fun c1 => ?_) (fun c1 => ?_)
    · have c1 : j < z.length := by
        have := of_decide_eq_true c1
        omega
      have c1' : j < (TL.tl z).length := by rw [← TL.len_tl]; exact c1
      walk_at "rs"
      refine ⟨p, _, dx, _, .str z, rfl, h2, T.cl_Reader, T.a_Reader_text, rfl, ?_⟩
      walk_at "rs"
      refine ⟨p, _, dx, _, .int (j : Int), rfl, h2, T.cl_Reader, T.a_Reader_at, rfl, ?_⟩
      walk_at "rs"
      obtain ⟨c, rest, ed⟩ : ∃ c rest, (TL.tl z).drop j = c :: rest := by
        cases e : (TL.tl z).drop j with
        | nil =>
          have := congrArg List.length e
          rw [List.length_drop, List.length_nil] at this
          omega
        | cons c rest => exact ⟨c, rest, rfl⟩
      have eg : (TL.tl z)[j]? = some c := by
        have : ((TL.tl z).drop j)[0]? = some c := by rw [ed]; rfl
        rw [List.getElem?_drop] at this
        simpa using this
      have er : (TL.tl z).drop (j + 1) = rest := by
        rw [← List.drop_drop, ed]
        rfl
      refine ⟨z, j, c, rfl, rfl, (by rw [sizeLine_eq]; omega), atI_nat eg, ?_⟩
      walk_at "rs"
      refine ite2 (fun c2 => ?_) (fun c2 => ?_)
      · have c2 : c ∈ TL.tl al := of_decide_eq_true c2
        have e1 : runL (TL.tl al) ((TL.tl z).drop j) = runL (TL.tl al) ((TL.tl z).drop (j + 1)) + 1 := by
          rw [ed, er, runL, if_pos c2]
        refine ⟨fun σ' H' => σ' = [some (.ref p), some (.str al), some (.int (i : Int))] ∧ H' = upd H2 p (.ins a.C_Reader dx [("text", .str z), ("at", .int ((j + 1 : Nat) : Int))]), fun σ' H' w => ?_, ?_⟩
        · obtain ⟨rfl, rfl⟩ := w
          exact ⟨z.length - (j + 1), by omega, j + 1, rfl, rfl, upd_same, fun b o n e => by rw [upd_ne n]; exact k2 b o n e, by omega, by omega, by omega⟩
        walk_at "rs"
        refine ⟨p, _, dx, _, .int (j : Int), rfl, h2, T.cl_Reader, T.a_Reader_at, rfl, ?_⟩
        walk_at "rs"
        exact ⟨dx, _, h2, (by show 2 < 1000; decide), rfl, rfl⟩
      · have c2 : ¬ c ∈ TL.tl al := fun h => c2 (decide_eq_true h)
        have e0 : runL (TL.tl al) ((TL.tl z).drop j) = 0 := by
          rw [ed, runL, if_neg c2]
        walk_at "rs"
        refine ⟨p, _, dx, _, .str z, rfl, h2, T.cl_Reader, T.a_Reader_text, rfl, ?_⟩
        walk_at "rs"
        refine ⟨p, _, dx, _, .int (j : Int), rfl, h2, T.cl_Reader, T.a_Reader_at, rfl, ?_⟩
        walk_at "rs"
        exact ⟨(by rw [sizeLine_eq]; omega), fin e0⟩
    · have c1 : ¬ j < z.length := fun h => c1 (decide_eq_true (by omega))
      have e0 : runL (TL.tl al) ((TL.tl z).drop j) = 0 := by
        rw [List.drop_eq_nil_of_le (by rw [← TL.len_tl]; omega)]
        rfl
      walk_at "rs"
      refine ⟨p, _, dx, _, .str z, rfl, h2, T.cl_Reader, T.a_Reader_text, rfl, ?_⟩
      walk_at "rs"
      refine ⟨p, _, dx, _, .int (j : Int), rfl, h2, T.cl_Reader, T.a_Reader_at, rfl, ?_⟩
      walk_at "rs"
      exact ⟨(by rw [sizeLine_eq]; omega), fin e0⟩

theorem starts_one {z : Str} {c i : Nat} (li : i ≤ z.length) : Txt.startswith3 z ⟨#[c]⟩ (i : Int) = decide ((TL.tl z)[i]? = some c) := by
  have ef : PySem.fromIndex z.length (i : Int) = i := by
    unfold PySem.fromIndex
    rw [if_neg (by omega)]
    omega
  unfold Txt.startswith3
  rw [ef]
  have h := PySem.StrLaws.subAt_one z c i
  rw [Bool.eq_iff_iff, Bool.and_eq_true, decide_eq_true_iff, decide_eq_true_iff]
  exact h
theorem ok_Reader_skip (TE : TxtE w K mg a) (T : Txt K mg a) : ∃ fd, FnOk P w K mg base (L2.CX P w) 1 a.d_Reader_skip fd ["self", "mark"] (spSkip a.C_Reader a.C_BadCommand) ∧ Binds K fd ["self", "mark"] [] := by
  obtain ⟨fd, F, b⟩ := T.d_Reader_skip.F
  refine ⟨fd, F.okX sc_Reader_skip (fun vs H Q E h => ?_) (fun cdv A outer s H vs Q E hr h => ?_), b⟩
  · obtain ⟨_, _, _, _, rfl, _⟩ := h
    rfl
  · obtain ⟨p, z, c, i, rfl, ⟨dx, hp⟩, lz, li, k1, k2⟩ := h
    refine ⟨_, (pss_cons (ps_if (pt_not (pt_val (pe_bm PySem.F.plainAttrs_str PySem.F.slot_str_startswith PySem.F.type_str_startswith mt_startswith3 (pe_fld (pv 0) rfl) (pa_cons (pv 1) (pa_cons (pe_fld (pv 0) rfl) pa_nil)))))
      (pss_one (ps_raise rfl (takes_of rfl rfl rfl rfl) (pmk_own PySem.F.excBase_ValueError TE.x_BadCommand TE.g_BadCommand TE.kc_BadCommand (raises_own TE.b_BadCommand TE.t_BadCommand) rfl)))
      pss_nil)
      (pss_one (ps_fldaug (pv 0) pe_int in_add))), ?_⟩
    walk_at "rs"
    refine ⟨p, _, dx, _, .str z, rfl, hp, T.cl_Reader, T.a_Reader_text, rfl, ?_⟩
    walk_at "rs"
    refine ⟨p, _, dx, _, .int (i : Int), rfl, hp, T.cl_Reader, T.a_Reader_at, rfl, ?_⟩
    walk_at "rs"
    refine ⟨z, _, _, rfl, rfl, ?_⟩
    rw [starts_one li]
    by_cases c0 : (TL.tl z)[i]? = some c
    · rw [decide_eq_true c0]
      walk_at "rs"
      refine ⟨p, _, dx, _, .int (i : Int), rfl, hp, T.cl_Reader, T.a_Reader_at, rfl, ?_⟩
      walk_at "rs"
      refine ⟨dx, _, hp, (by show 2 < 1000; decide), ?_⟩
      exact k1 c0 _ ⟨dx, upd_same⟩ fun b o n e => by rw [upd_ne n]; exact e
    · rw [decide_eq_false c0]
      walk_at "rs"
      exact k2 c0

theorem run_le (al : List Nat) : ∀ l : List Nat, runL al l ≤ l.length
  | [] => Nat.le_refl _
  | c :: r => by
    have := run_le al r
    rw [runL]
    split
    · rw [List.length_cons]
      omega
    · exact Nat.zero_le _
theorem run_mem (al : List Nat) : ∀ (l : List Nat), ∀ n ∈ l.take (runL al l), n ∈ al
  | [], n, h => by cases h
  | c :: r, n, h => by
    rw [runL] at h
    split at h
    · rename_i hc
      rw [List.take_succ_cons] at h
      rcases List.mem_cons.mp h with rfl | h
      · exact hc
      · exact run_mem al r n h
    · rw [List.take_zero] at h
      cases h
theorem digs_len (z : Str) (i : Nat) : (digsAt z i).length = runL (TL.tl "0123456789") ((TL.tl z).drop i) := by
  unfold digsAt
  rw [List.length_take]
  exact Nat.min_eq_left (run_le _ _)
theorem digs_all (z : Str) (i : Nat) : NumText.AllDigits (digsAt z i) := fun n hn => by
  have h := run_mem _ _ n hn
  have e : TL.tl "0123456789" = [48, 49, 50, 51, 52, 53, 54, 55, 56, 57] := by decide +kernel
  rw [e] at h
  simp only [List.mem_cons, List.not_mem_nil, or_false] at h
  omega
theorem ok_Reader_read_number (TE : TxtE w K mg a) (T : Txt K mg a) : ∃ fd, FnOk P w K mg base (L2.CX P w) 2 a.d_Reader_read_number fd ["self"] (spNumR a.C_Reader a.C_BadCommand) ∧ Binds K fd ["self"] [] := by
  obtain ⟨fd, F, b⟩ := T.d_Reader_read_number.F
  obtain ⟨fd_Reader_read_signs, G_Reader_read_signs, b_Reader_read_signs⟩ := ok_Reader_read_signs (P := P) (w := w) (base := base) T
  refine ⟨fd, F.okX sc_Reader_read_number (fun vs H Q E h => ?_) (fun cdv A outer s H vs Q E hr h => ?_), b⟩
  · obtain ⟨_, _, _, rfl, _⟩ := h
    rfl
  · obtain ⟨p, z, i, rfl, ⟨dx, hp⟩, lz, li, k1, k2⟩ := h
    refine ⟨_, (pss_cons (ps_set (i := 1) sc_Reader_read_number.nd rfl (Or.inl rfl) (pe_meth (pv 0) T.cl_Reader T.me_Reader_read_signs G_Reader_read_signs (hr.mono (by decide)) b_Reader_read_signs .nil pass0 (pa_cons (pe_glob (v := (.str "0123456789")) rfl T.c_DIGITS.choose_spec ⟨_, rfl⟩) pa_nil)))
      (pss_cons (ps_if (PW.pt (pw_or (pt_cmpR op_lt (pe_callB call_len_str (by rfl) T.n_len PySem.boot_len (pa_cons (pv 1) pa_nil)) pe_int (nomark _)) (pw_or (pt_cmpR op_gt (pe_callB call_len_str (by rfl) T.n_len PySem.boot_len (pa_cons (pv 1) pa_nil)) (pe_glob (v := (.int 6)) rfl T.c_MOST_DIGITS.choose_spec ⟨_, rfl⟩) (nomark _)) (pw_or1 (PW.pt (pw_and (pt_cmpR op_eq (pe_ix ix_str (pv 1) pe_int (fun _ _ => rfl)) pe_str (nomark _)) (pw_and1 (pt_cmpR op_ne (pv 1) pe_str (nomark _)))))))))
      (pss_one (ps_raise rfl (takes_of rfl rfl rfl rfl) (pmk_own PySem.F.excBase_ValueError TE.x_BadCommand TE.g_BadCommand TE.kc_BadCommand (raises_own TE.b_BadCommand TE.t_BadCommand) rfl)))
      pss_nil)
      (pss_one (ps_ret (pe_callTy call_int_str (by rfl) T.n_int (by decide +kernel) (pa_cons (pv 1) pa_nil)))))), ?_⟩
    walk_at "rs"
    refine ⟨p, dx, _, rfl, hp, rfl, ?_⟩
    walk_at "rs"
    refine ⟨p, z, _, i, rfl, ⟨dx, hp⟩, lz, li, fun H1 h1 kp => ?_⟩
    rw [show (⟨(((TL.tl z).drop i).take (runL (TL.tl "0123456789") ((TL.tl z).drop i))).toArray⟩ : Str) = ⟨(digsAt z i).toArray⟩ from rfl]
    rw [← digs_len] at h1
    have hall := digs_all z i
    have lw : (digsAt z i).length ≤ 1000 := by
      rw [digs_len]
      have := run_le (TL.tl "0123456789") ((TL.tl z).drop i)
      rw [List.length_drop, ← TL.len_tl] at this
      omega
    have k1 := fun g => k1 g H1 h1 kp
    have k2 := fun g => k2 g H1 kp
    generalize digsAt z i = dg at hall lw k1 k2 ⊢
    have el : (⟨dg.toArray⟩ : Str).length = dg.length := by
      rw [TL.len_tl, TL.tl_mk]
    walk_at "rs"
    refine ⟨(by rw [el, sizeLine_eq]; omega), ?_⟩
    walk_at "rs"
    refine ite2 (fun c1 => ?_) (fun c1 => ?_)
    · have c1 := of_decide_eq_true c1
      refine k2 fun g => ?_
      have := g.1
      rw [el] at c1
      omega
    · have c1 : ¬ dg.length < 1 := fun h => c1 (decide_eq_true (by rw [el]; omega))
      walk_at "rs"
      refine ⟨(by rw [el, sizeLine_eq]; omega), ?_⟩
      walk_at "rs"
      refine ite2 (fun c2 => ?_) (fun c2 => ?_)
      · have c2 := of_decide_eq_true c2
        refine k2 fun g => ?_
        have := g.2.1
        rw [el] at c2
        omega
      · have c2 : ¬ 6 < dg.length := fun h => c2 (decide_eq_true (by rw [el]; omega))
        cases dg with
        | nil => exact absurd (by decide) c1
        | cons d r =>
          walk_at "rs"
          refine ⟨_, 0, d, rfl, rfl, (by rw [el, sizeLine_eq]; omega), atI_nat (j := 0) rfl, ?_⟩
          walk_at "rs"
          have z48 : (Str.ofString "0") = ⟨#[48]⟩ := rfl
          have fin : NumW (d :: r) → (∃ (x : Str) (n : Int), [V.str ⟨(d :: r).toArray⟩] = [V.str x] ∧ PySem.intText? x = some n ∧ x.length ≤ 640 ∧ Q (.int n) H1) := fun g =>
            ⟨_, _, rfl, PySem.intText_digits (x := ⟨(d :: r).toArray⟩) hall (fun e => nomatch e) (by rw [el]; have := g.2.1; omega), by rw [el]; have := g.2.1; omega, k1 g⟩
          refine ite2 (fun c3 => ?_) (fun c3 => ?_)
          · have c3 : d = 48 := by
              have := of_decide_eq_true c3
              rw [z48] at this
              simpa using this
            walk_at "rs"
            refine ite2 (fun c4 => ?_) (fun c4 => ?_)
            · refine k2 fun g => g.2.2 ⟨by rw [c3]; rfl, fun e => ?_⟩
              rw [e, z48] at c4
              simp at c4
            · have e : d :: r = [48] := by
                rw [z48] at c4
                simp at c4
                rw [c4.1, c4.2]
              walk_at "rs"
              exact fin ⟨by rw [e]; decide, by rw [e]; decide, fun g => g.2 e⟩
          · have c3 : d ≠ 48 := fun e => c3 (by rw [e, z48]; simp)
            walk_at "rs"
            exact fin ⟨by simp, by omega, fun g => c3 (by simpa using g.1)⟩

/-- the signs of a program that stand at i -/
def codeAt (z : Str) (i : Nat) : List Nat := ((TL.tl z).drop i).take (runL (TL.tl "0123456789ginasmtcehlujfyo") ((TL.tl z).drop i))
def spCodeR (C CE : Addr) : Sp := fun vs H Q E => ∃ (p : Addr) (z : Str) (i : Nat), vs = [.ref p] ∧ RdAt C H p z i ∧ z.length ≤ 1000 ∧ i ≤ z.length ∧
  ((TL.tl z)[i + (codeAt z i).length]? = some 122 → ∀ H', RdAt C H' p z (i + (codeAt z i).length + 1) → (∀ b o, b ≠ p → H b = some o → H' b = some o) → Q (.str ⟨(codeAt z i).toArray⟩) H') ∧
  ((TL.tl z)[i + (codeAt z i).length]? ≠ some 122 → ∀ H', (∀ b o, b ≠ p → H b = some o → H' b = some o) → E (.ref CE) none H')
theorem code_len (z : Str) (i : Nat) : (codeAt z i).length = runL (TL.tl "0123456789ginasmtcehlujfyo") ((TL.tl z).drop i) := by
  unfold codeAt
  rw [List.length_take]
  exact Nat.min_eq_left (run_le _ _)
theorem ok_Reader_read_code (TE : TxtE w K mg a) (T : Txt K mg a) : ∃ fd, FnOk P w K mg base (L2.CX P w) 2 a.d_Reader_read_code fd ["self"] (spCodeR a.C_Reader a.C_BadCommand) ∧ Binds K fd ["self"] [] := by
  obtain ⟨fd, F, b⟩ := T.d_Reader_read_code.F
  obtain ⟨fd_Reader_read_signs, G_Reader_read_signs, b_Reader_read_signs⟩ := ok_Reader_read_signs (P := P) (w := w) (base := base) T
  obtain ⟨fd_Reader_skip, G_Reader_skip, b_Reader_skip⟩ := ok_Reader_skip (P := P) (w := w) (base := base) TE T
  refine ⟨fd, F.okX sc_Reader_read_code (fun vs H Q E h => ?_) (fun cdv A outer s H vs Q E hr h => ?_), b⟩
  · obtain ⟨_, _, _, rfl, _⟩ := h
    rfl
  · obtain ⟨p, z, i, rfl, ⟨dx, hp⟩, lz, li, k1, k2⟩ := h
    refine ⟨_, (pss_cons (ps_set (i := 1) sc_Reader_read_code.nd rfl (Or.inl rfl) (pe_meth (pv 0) T.cl_Reader T.me_Reader_read_signs G_Reader_read_signs (hr.mono (by decide)) b_Reader_read_signs .nil pass0 (pa_cons (pe_glob (v := (.str "0123456789ginasmtcehlujfyo")) rfl T.c_SIGNS.choose_spec ⟨_, rfl⟩) pa_nil)))
      (pss_cons (ps_expr (pe_meth (pv 0) T.cl_Reader T.me_Reader_skip G_Reader_skip (hr.mono (by decide)) b_Reader_skip .nil (L2.passes_call (W := fun c d _ H => E c d H) (E := E) (L2.takes_of rfl rfl rfl rfl) (fun _ _ _ _ h => h)) (pa_cons (pe_glob (v := (.str "z")) rfl T.c_CODE_END.choose_spec ⟨_, rfl⟩) pa_nil)))
      (pss_one (ps_ret (pv 1))))), ?_⟩
    walk_at "rs"
    refine ⟨p, dx, _, rfl, hp, rfl, ?_⟩
    walk_at "rs"
    refine ⟨p, z, _, i, rfl, ⟨dx, hp⟩, lz, li, fun H1 h1 kp => ?_⟩
    rw [show (⟨(((TL.tl z).drop i).take (runL (TL.tl "0123456789ginasmtcehlujfyo") ((TL.tl z).drop i))).toArray⟩ : Str) = ⟨(codeAt z i).toArray⟩ from rfl]
    rw [← code_len] at h1
    have lc : i + (codeAt z i).length ≤ z.length := by
      rw [code_len]
      have := run_le (TL.tl "0123456789ginasmtcehlujfyo") ((TL.tl z).drop i)
      rw [List.length_drop, ← TL.len_tl] at this
      omega
    obtain ⟨dx1, hp1⟩ := id h1
    walk_at "rs"
    refine ⟨p, dx1, _, rfl, hp1, rfl, ?_⟩
    walk_at "rs"
    refine ⟨p, z, 122, _, rfl, h1, lz, lc, fun e H2 h2 kp2 => ?_, fun e => k2 e H1 kp⟩
    walk_at "rs"
    exact k1 e H2 h2 fun b o n q => kp2 b o n (kp b o n q)

/-! ### the reader's model -/
theorem dig10 : TL.tl "0123456789" = [48, 49, 50, 51, 52, 53, 54, 55, 56, 57] := by decide +kernel
theorem run_app {al : List Nat} : ∀ {v : List Nat} {r : List Nat}, (∀ n ∈ v, n ∈ al) → runL al (v ++ r) = v.length + runL al r
  | [], r, _ => by simp
  | c :: v, r, h => by
    rw [List.cons_append, runL, if_pos (h c List.mem_cons_self), run_app fun n hn => h n (List.mem_cons_of_mem _ hn), List.length_cons]
    omega
theorem run_stop {al : List Nat} : ∀ {r : List Nat}, (∀ c, r.head? = some c → c ∉ al) → runL al r = 0
  | [], _ => rfl
  | c :: r, h => by rw [runL, if_neg (h c rfl)]
theorem run_cut {al v r : List Nat} (h : ∀ n ∈ v, n ∈ al) (hr : ∀ c, r.head? = some c → c ∉ al) : runL al (v ++ r) = v.length := by
  rw [run_app h, run_stop hr]
  rfl
instance decNumW (v : List Nat) : Decidable (NumW v) := by unfold NumW; infer_instance
def numP (l : List Nat) : Option (V × List Nat) :=
  if NumW (l.take (runL (TL.tl "0123456789") l)) then some (.int (NumText.digitsVal (l.take (runL (TL.tl "0123456789") l)) : Nat), l.drop (runL (TL.tl "0123456789") l)) else none
def codeP (l : List Nat) : Option (V × List Nat) :=
  if l[runL (TL.tl "0123456789ginasmtcehlujfyo") l]? = some 122 then some (.str ⟨(l.take (runL (TL.tl "0123456789ginasmtcehlujfyo") l)).toArray⟩, l.drop (runL (TL.tl "0123456789ginasmtcehlujfyo") l + 1)) else none
def partP (m : Nat) : List Nat → Option (V × List Nat)
  | [] => none
  | c :: r => if c = m then (if m = 122 then codeP r else numP r) else none
def partsP : List Nat → List Nat → Option (List V × List Nat)
  | [], l => some ([], l)
  | m :: ms, l => match partP m l with
    | none => none
    | some (v, r) => match partsP ms r with
      | none => none
      | some (vs, q) => some (v :: vs, q)
theorem numL_head2 : ∀ (n : Nat), 0 < n → (TL.numL n).head? ≠ some 48
  | n, h => by
    rcases Nat.lt_or_ge n 10 with z | z
    · rw [TL.numL_lt z]
      simp
      omega
    · rw [TL.numL_step z]
      have ih := numL_head2 (n / 10) (by omega)
      have ne := TL.numL_ne (n / 10)
      cases e : TL.numL (n / 10) with
      | nil => exact absurd e ne
      | cons c l =>
        rw [e] at ih
        exact ih
theorem numL_long : ∀ (k n : Nat), 10 ^ k ≤ n → k < (TL.numL n).length
  | 0, n, _ => List.length_pos_iff.mpr (TL.numL_ne n)
  | k + 1, n, h => by
    have p : 0 < 10 ^ k := Nat.pow_pos (by decide)
    rw [Nat.pow_succ] at h
    have := numL_long k (n / 10) (by omega)
    rw [TL.numL_step (by omega), List.length_append, List.length_singleton]
    omega
theorem digs_toNat : ∀ {v : List Nat}, NumText.AllDigits v → (v.map Char.ofNat).map Char.toNat = v
  | [], _ => rfl
  | c :: v, h => by
    have hc := h c List.mem_cons_self
    have ih := digs_toNat (v := v) fun n hn => h n (List.mem_cons_of_mem _ hn)
    rw [List.map_cons, List.map_cons, ih]
    congr 1
    have : ∀ i : Fin 58, (Char.ofNat i.val).toNat = i.val := by decide +kernel
    exact this ⟨c, by omega⟩
theorem num_back {v : List Nat} (h : NumW v) (d : NumText.AllDigits v) : NOk (NumText.digitsVal v : Nat) ∧ TL.tl (nu (NumText.digitsVal v : Nat)) = v := by
  obtain ⟨h1, h2, h3⟩ := h
  have e : TL.numL (NumText.digitsVal v) = v := by
    unfold TL.numL
    rw [NumText.toDigits_digitsVal (v.length - 1) v (by omega) d, digs_toNat d]
    rcases Nat.lt_or_ge 1 v.length with z | z
    · right
      cases v with
      | nil => simp at h1
      | cons c r =>
        refine ⟨c, r, rfl, ?_⟩
        have hc := d c List.mem_cons_self
        rcases Nat.lt_or_ge c 49 with y | y
        · exfalso
          refine h3 ⟨?_, fun q => ?_⟩
          · have : c = 48 := by omega
            rw [this]
            rfl
          · rw [q] at z
            simp at z
        · exact y
    · left
      omega
  refine ⟨⟨Int.natCast_nonneg _, ?_⟩, ?_⟩
  · rcases Nat.lt_or_ge (NumText.digitsVal v) (10 ^ 6) with z | z
    · have : (10 : Nat) ^ 6 = 1000000 := by decide
      omega
    · have := numL_long 6 _ z
      rw [e] at this
      omega
  · show TL.tl (Str.ofString (toString ((NumText.digitsVal v : Nat) : Int))) = v
    rw [TL.tl_num, e]
theorem take_run_digits (l : List Nat) : NumText.AllDigits (l.take (runL (TL.tl "0123456789") l)) := fun n hn => by
  have h := run_mem _ _ n hn
  rw [dig10] at h
  simp only [List.mem_cons, List.not_mem_nil, or_false] at h
  omega
theorem numP_ok {l : List Nat} {v : V} {r : List Nat} (h : numP l = some (v, r)) : ∃ i, v = .int i ∧ NOk i ∧ TL.tl (nu i) ++ r = l := by
  unfold numP at h
  split at h
  · rename_i c
    cases h
    obtain ⟨h1, h2⟩ := num_back c (take_run_digits l)
    refine ⟨_, rfl, h1, ?_⟩
    rw [h2]
    exact List.take_append_drop _ _
  · cases h
theorem codeP_ok {l : List Nat} {v : V} {r : List Nat} (h : codeP l = some (v, r)) : ∃ s : Str, v = .str s ∧ Sgn s ∧ TL.tl s ++ 122 :: r = l := by
  unfold codeP at h
  split at h
  · rename_i c
    cases h
    refine ⟨_, rfl, fun n hn => run_mem _ _ n hn, ?_⟩
    rw [TL.tl_mk]
    have hlt := (List.getElem?_eq_some_iff.mp c).1
    have e : l.drop (runL (TL.tl "0123456789ginasmtcehlujfyo") l) = 122 :: l.drop (runL (TL.tl "0123456789ginasmtcehlujfyo") l + 1) := by
      rw [List.drop_eq_getElem_cons hlt, (List.getElem?_eq_some_iff.mp c).2]
    rw [← e]
    exact List.take_append_drop _ _
  · cases h
theorem partP_ok {m : Nat} {l : List Nat} {v : V} {r : List Nat} (h : partP m l = some (v, r)) : (m ≠ 122 ∧ ∃ i, v = .int i ∧ NOk i ∧ m :: (TL.tl (nu i) ++ r) = l) ∨ (m = 122 ∧ ∃ s : Str, v = .str s ∧ Sgn s ∧ 122 :: (TL.tl s ++ 122 :: r) = l) := by
  cases l with
  | nil => cases h
  | cons c q =>
    rw [partP] at h
    split at h
    · rename_i e
      subst e
      split at h
      · rename_i e
        obtain ⟨s, h1, h2, h3⟩ := codeP_ok h
        exact .inr ⟨e, s, h1, h2, by rw [h3, e]⟩
      · rename_i e
        obtain ⟨i, h1, h2, h3⟩ := numP_ok h
        exact .inl ⟨e, i, h1, h2, by rw [h3]⟩
    · cases h
theorem partP_int {m : Nat} {l : List Nat} {v : V} {r : List Nat} (hm : m ≠ 122) (h : partP m l = some (v, r)) : ∃ i, v = .int i ∧ NOk i ∧ m :: (TL.tl (nu i) ++ r) = l := by
  rcases partP_ok h with ⟨_, h⟩ | ⟨h, _⟩
  · exact h
  · exact absurd h hm
theorem partP_code {l : List Nat} {v : V} {r : List Nat} (h : partP 122 l = some (v, r)) : ∃ s : Str, v = .str s ∧ Sgn s ∧ 122 :: (TL.tl s ++ 122 :: r) = l := by
  rcases partP_ok h with ⟨h, _⟩ | ⟨_, h⟩
  · exact absurd rfl h
  · exact h
theorem partsP_cons {m : Nat} {ms l : List Nat} {vs : List V} {q : List Nat} (h : partsP (m :: ms) l = some (vs, q)) : ∃ v r us, partP m l = some (v, r) ∧ partsP ms r = some (us, q) ∧ vs = v :: us := by
  rw [partsP] at h
  split at h
  · cases h
  · rename_i v r e
    split at h
    · cases h
    · rename_i us q' e2
      cases h
      exact ⟨v, r, us, e, e2, rfl⟩
theorem partsP_nil {l : List Nat} {vs : List V} {q : List Nat} (h : partsP [] l = some (vs, q)) : vs = [] ∧ q = l := by
  cases h
  exact ⟨rfl, rfl⟩
def kdOf (c : Nat) : Option (List Nat) := if c = 112 then some [112, 113, 114] else if c = 119 then some [119, 120] else if c = 100 then some [100, 122] else if c = 107 then some [107, 98, 118] else none
def mkC (c : Nat) : List V → Cm
  | [.int a, .int b, .int d] => if c = 112 then .p a b d else .k a b d
  | [.int a, .int b] => .w a b
  | [.int a, .str s] => .d a s
  | _ => default
def cmdP : List Nat → Option (Cm × List Nat)
  | [] => none
  | c :: r => match kdOf c with
    | none => none
    | some ms => match partsP ms (c :: r) with
      | none => none
      | some (vs, q) => some (mkC c vs, q)
theorem tl1 {c : Nat} : TL.tl ⟨#[c]⟩ = [c] := rfl
theorem mk_ok {c : Nat} {ms r : List Nat} {vs : List V} {q : List Nat} (hk : kdOf c = some ms) (h : partsP ms (c :: r) = some (vs, q)) :
    (mkC c vs).ki = ⟨#[c]⟩ ∧ (mkC c vs).ps = vs ∧ TL.tl (mkC c vs).txt ++ q = c :: r ∧ (mkC c vs).right := by
  unfold kdOf at hk
  split at hk
  · rename_i e
    cases hk
    subst e
    obtain ⟨v1, r1, u1, a1, b1, rfl⟩ := partsP_cons h
    obtain ⟨v2, r2, u2, a2, b2, rfl⟩ := partsP_cons b1
    obtain ⟨v3, r3, u3, a3, b3, rfl⟩ := partsP_cons b2
    obtain ⟨rfl, rfl⟩ := partsP_nil b3
    obtain ⟨i1, rfl, o1, e1⟩ := partP_int (by decide) a1
    obtain ⟨i2, rfl, o2, e2⟩ := partP_int (by decide) a2
    obtain ⟨i3, rfl, o3, e3⟩ := partP_int (by decide) a3
    refine ⟨rfl, rfl, ?_, o1, o2, o3⟩
    rw [← e1, ← e2, ← e3]
    show TL.tl ("p" ++ nu i1 ++ "q" ++ nu i2 ++ "r" ++ nu i3) ++ q = _
    simp only [TL.tl_append, List.append_assoc]
    rfl
  · split at hk
    · rename_i e
      cases hk
      subst e
      obtain ⟨v1, r1, u1, a1, b1, rfl⟩ := partsP_cons h
      obtain ⟨v2, r2, u2, a2, b2, rfl⟩ := partsP_cons b1
      obtain ⟨rfl, rfl⟩ := partsP_nil b2
      obtain ⟨i1, rfl, o1, e1⟩ := partP_int (by decide) a1
      obtain ⟨i2, rfl, o2, e2⟩ := partP_int (by decide) a2
      refine ⟨rfl, rfl, ?_, o1, o2⟩
      rw [← e1, ← e2]
      show TL.tl ("w" ++ nu i1 ++ "x" ++ nu i2) ++ q = _
      simp only [TL.tl_append, List.append_assoc]
      rfl
    · split at hk
      · rename_i e
        cases hk
        subst e
        obtain ⟨v1, r1, u1, a1, b1, rfl⟩ := partsP_cons h
        obtain ⟨v2, r2, u2, a2, b2, rfl⟩ := partsP_cons b1
        obtain ⟨rfl, rfl⟩ := partsP_nil b2
        obtain ⟨i1, rfl, o1, e1⟩ := partP_int (by decide) a1
        obtain ⟨i2, rfl, o2, e2⟩ := partP_code a2
        refine ⟨rfl, rfl, ?_, o1, o2⟩
        rw [← e1, ← e2]
        show TL.tl ("d" ++ nu i1 ++ "z" ++ i2 ++ "z") ++ q = _
        simp only [TL.tl_append, List.append_assoc]
        rfl
      · split at hk
        · rename_i e
          cases hk
          subst e
          obtain ⟨v1, r1, u1, a1, b1, rfl⟩ := partsP_cons h
          obtain ⟨v2, r2, u2, a2, b2, rfl⟩ := partsP_cons b1
          obtain ⟨v3, r3, u3, a3, b3, rfl⟩ := partsP_cons b2
          obtain ⟨rfl, rfl⟩ := partsP_nil b3
          obtain ⟨i1, rfl, o1, e1⟩ := partP_int (by decide) a1
          obtain ⟨i2, rfl, o2, e2⟩ := partP_int (by decide) a2
          obtain ⟨i3, rfl, o3, e3⟩ := partP_int (by decide) a3
          refine ⟨rfl, rfl, ?_, o1, o2, o3⟩
          rw [← e1, ← e2, ← e3]
          show TL.tl ("k" ++ nu i1 ++ "b" ++ nu i2 ++ "v" ++ nu i3) ++ q = _
          simp only [TL.tl_append, List.append_assoc]
          rfl
        · cases hk
theorem cmdP_ok {l : List Nat} {x : Cm} {q : List Nat} (h : cmdP l = some (x, q)) : TL.tl x.txt ++ q = l ∧ x.right := by
  cases l with
  | nil => cases h
  | cons c r =>
    rw [cmdP] at h
    split at h
    · cases h
    · rename_i ms hk
      split at h
      · cases h
      · rename_i vs q' hp
        cases h
        exact (mk_ok hk hp).2.2
def NoDig (r : List Nat) : Prop := ∀ c, r.head? = some c → c ∉ TL.tl "0123456789"
theorem num_w {i : Int} (h : NOk i) : NumW (TL.tl (nu i)) := by
  obtain ⟨h0, h1⟩ := id h
  rw [nu_tl h]
  refine ⟨List.length_pos_iff.mpr (TL.numL_ne _), TL.numL_len (by decide) (by omega), fun ⟨g1, g2⟩ => ?_⟩
  rcases Nat.eq_zero_or_pos i.toNat with z | z
  · rw [z] at g2
    exact g2 (by decide +kernel)
  · exact numL_head2 _ z g1
theorem numP_nu {i : Int} (h : NOk i) {r : List Nat} (hr : NoDig r) : numP (TL.tl (nu i) ++ r) = some (.int i, r) := by
  have hd : ∀ n ∈ TL.tl (nu i), n ∈ TL.tl "0123456789" := fun n hn => by
    rw [nu_tl h] at hn
    have := TL.numL_digits _ n hn
    rw [dig10]
    simp only [List.mem_cons, List.not_mem_nil, or_false]
    omega
  have er : runL (TL.tl "0123456789") (TL.tl (nu i) ++ r) = (TL.tl (nu i)).length := run_cut hd hr
  unfold numP
  rw [er, List.take_left', List.drop_left', if_pos (num_w h)]
  · rw [nu_tl h, TL.numL_val, Int.toNat_of_nonneg h.1]
  · rfl
  · rfl
theorem codeP_s {s : Str} (h : Sgn s) {r : List Nat} : codeP (TL.tl s ++ 122 :: r) = some (.str s, r) := by
  have er : runL (TL.tl "0123456789ginasmtcehlujfyo") (TL.tl s ++ 122 :: r) = (TL.tl s).length := run_cut h fun c hc => by
    cases hc
    decide +kernel
  unfold codeP
  have e1 : (TL.tl s ++ 122 :: r).drop ((TL.tl s).length + 1) = r := by
    rw [← List.drop_drop, List.drop_left' rfl]
    rfl
  have e2 : (TL.tl s ++ 122 :: r)[(TL.tl s).length]? = some 122 := by
    rw [List.getElem?_append_right (Nat.le_refl _), Nat.sub_self]
    rfl
  rw [er, if_pos e2, List.take_left' rfl, e1]
theorem partP_nu {m : Nat} (hm : m ≠ 122) {i : Int} (h : NOk i) {r : List Nat} (hr : NoDig r) : partP m (m :: (TL.tl (nu i) ++ r)) = some (.int i, r) := by
  rw [partP, if_pos rfl, if_neg hm]
  exact numP_nu h hr
theorem partP_s {s : Str} (h : Sgn s) {r : List Nat} : partP 122 (122 :: (TL.tl s ++ 122 :: r)) = some (.str s, r) := by
  rw [partP, if_pos rfl, if_pos rfl]
  exact codeP_s h
theorem noDig_cons {c : Nat} {r : List Nat} (h : c ∉ TL.tl "0123456789") : NoDig (c :: r) := fun d hd => by
  cases hd
  exact h
theorem partsP_step {m : Nat} {ms l : List Nat} {v : V} {r : List Nat} {us : List V} {q : List Nat} (h1 : partP m l = some (v, r)) (h2 : partsP ms r = some (us, q)) : partsP (m :: ms) l = some (v :: us, q) := by
  rw [partsP, h1]
  dsimp only
  rw [h2]
theorem partsP_end (r : List Nat) : partsP [] r = some ([], r) := rfl
theorem cmdP_txt {x : Cm} (h : x.right) {r : List Nat} (hr : NoDig r) : cmdP (TL.tl x.txt ++ r) = some (x, r) := by
  cases x with
  | p a b c =>
    obtain ⟨o1, o2, o3⟩ := h
    have e : TL.tl (Cm.p a b c).txt ++ r = 112 :: (TL.tl (nu a) ++ 113 :: (TL.tl (nu b) ++ 114 :: (TL.tl (nu c) ++ r))) := by
      show TL.tl ("p" ++ nu a ++ "q" ++ nu b ++ "r" ++ nu c) ++ r = _
      simp only [TL.tl_append, List.append_assoc]
      rfl
    have hp := partsP_step (partP_nu (m := 112) (by decide) o1 (noDig_cons (by decide +kernel))) (partsP_step (partP_nu (m := 113) (by decide) o2 (noDig_cons (by decide +kernel))) (partsP_step (partP_nu (m := 114) (by decide) o3 hr) (partsP_end r)))
    have hk : kdOf 112 = some [112, 113, 114] := rfl
    rw [e, cmdP, hk]
    dsimp only
    rw [hp]
    rfl
  | w a b =>
    obtain ⟨o1, o2⟩ := h
    have e : TL.tl (Cm.w a b).txt ++ r = 119 :: (TL.tl (nu a) ++ 120 :: (TL.tl (nu b) ++ r)) := by
      show TL.tl ("w" ++ nu a ++ "x" ++ nu b) ++ r = _
      simp only [TL.tl_append, List.append_assoc]
      rfl
    have hp := partsP_step (partP_nu (m := 119) (by decide) o1 (noDig_cons (by decide +kernel))) (partsP_step (partP_nu (m := 120) (by decide) o2 hr) (partsP_end r))
    have hk : kdOf 119 = some [119, 120] := rfl
    rw [e, cmdP, hk]
    dsimp only
    rw [hp]
    rfl
  | k a b c =>
    obtain ⟨o1, o2, o3⟩ := h
    have e : TL.tl (Cm.k a b c).txt ++ r = 107 :: (TL.tl (nu a) ++ 98 :: (TL.tl (nu b) ++ 118 :: (TL.tl (nu c) ++ r))) := by
      show TL.tl ("k" ++ nu a ++ "b" ++ nu b ++ "v" ++ nu c) ++ r = _
      simp only [TL.tl_append, List.append_assoc]
      rfl
    have hp := partsP_step (partP_nu (m := 107) (by decide) o1 (noDig_cons (by decide +kernel))) (partsP_step (partP_nu (m := 98) (by decide) o2 (noDig_cons (by decide +kernel))) (partsP_step (partP_nu (m := 118) (by decide) o3 hr) (partsP_end r)))
    have hk : kdOf 107 = some [107, 98, 118] := rfl
    rw [e, cmdP, hk]
    dsimp only
    rw [hp]
    rfl
  | d a s =>
    obtain ⟨o1, o2⟩ := h
    have e : TL.tl (Cm.d a s).txt ++ r = 100 :: (TL.tl (nu a) ++ 122 :: (TL.tl s ++ 122 :: r)) := by
      show TL.tl ("d" ++ nu a ++ "z" ++ s ++ "z") ++ r = _
      simp only [TL.tl_append, List.append_assoc]
      rfl
    have hp := partsP_step (partP_nu (m := 100) (by decide) o1 (noDig_cons (by decide +kernel))) (partsP_step (partP_s o2 (r := r)) (partsP_end r))
    have hk : kdOf 100 = some [100, 122] := rfl
    rw [e, cmdP, hk]
    dsimp only
    rw [hp]
    rfl
def cmdsP : Nat → List Nat → Option (List Cm)
  | _, [] => some []
  | 0, _ :: _ => none
  | n + 1, c :: r => match cmdP (c :: r) with
    | none => none
    | some (x, q) => match cmdsP n q with
      | none => none
      | some xs => some (x :: xs)
def cmdsOf (z : Str) : List Cm := (cmdsP z.length (TL.tl z)).getD []
def catL (xs : List Cm) : List Nat := (xs.map fun c => TL.tl c.txt).flatten
theorem tl_cat : ∀ xs : List Cm, TL.tl (cat xs) = catL xs := fun xs => by
  have h : ∀ (xs : List Cm) (z : Str), TL.tl (xs.foldl (fun z c => z ++ c.txt) z) = TL.tl z ++ catL xs := fun xs => by
    induction xs with
    | nil => intro z; simp [catL]
    | cons c xs ih =>
      intro z
      rw [List.foldl_cons, ih, TL.tl_append]
      simp [catL, List.append_assoc]
  have := h xs Str.empty
  have e : TL.tl Str.empty = [] := rfl
  rw [e, List.nil_append] at this
  exact this
theorem cmdsP_ok : ∀ (n : Nat) (l : List Nat) (xs : List Cm), cmdsP n l = some xs → catL xs = l ∧ ∀ x ∈ xs, x.right
  | n, [], xs, h => by
    have : xs = [] := by cases n <;> (cases h; rfl)
    subst this
    exact ⟨rfl, fun x hx => absurd hx List.not_mem_nil⟩
  | 0, c :: r, xs, h => by cases h
  | n + 1, c :: r, xs, h => by
    rw [cmdsP] at h
    split at h
    · cases h
    · rename_i x q hx
      split at h
      · cases h
      · rename_i ys hy
        cases h
        obtain ⟨e1, g1⟩ := cmdP_ok hx
        obtain ⟨e2, g2⟩ := cmdsP_ok n q ys hy
        refine ⟨?_, fun y hy => ?_⟩
        · rw [← e1, ← e2]
          simp [catL]
        · rcases List.mem_cons.mp hy with rfl | hy
          · exact g1
          · exact g2 y hy
theorem txt_first (x : Cm) : ∃ c r, TL.tl x.txt = c :: r ∧ c ∉ TL.tl "0123456789" := by
  cases x with
  | p a b c => exact ⟨112, _, by show TL.tl ("p" ++ nu a ++ "q" ++ nu b ++ "r" ++ nu c) = _; simp only [TL.tl_append, List.append_assoc]; rfl, by decide +kernel⟩
  | w a b => exact ⟨119, _, by show TL.tl ("w" ++ nu a ++ "x" ++ nu b) = _; simp only [TL.tl_append, List.append_assoc]; rfl, by decide +kernel⟩
  | k a b c => exact ⟨107, _, by show TL.tl ("k" ++ nu a ++ "b" ++ nu b ++ "v" ++ nu c) = _; simp only [TL.tl_append, List.append_assoc]; rfl, by decide +kernel⟩
  | d a s => exact ⟨100, _, by show TL.tl ("d" ++ nu a ++ "z" ++ s ++ "z") = _; simp only [TL.tl_append, List.append_assoc]; rfl, by decide +kernel⟩
theorem catL_cons (x : Cm) (xs : List Cm) : catL (x :: xs) = TL.tl x.txt ++ catL xs := by simp [catL]
theorem catL_noDig : ∀ xs : List Cm, NoDig (catL xs)
  | [] => fun c h => by cases h
  | x :: xs => by
    obtain ⟨c, r, e, h⟩ := txt_first x
    rw [catL_cons, e]
    exact noDig_cons h
theorem cmdsP_cat : ∀ (xs : List Cm) (n : Nat), (∀ x ∈ xs, x.right) → xs.length ≤ n → cmdsP n (catL xs) = some xs
  | [], n, _, _ => by cases n <;> rfl
  | x :: xs, 0, _, h => by simp at h
  | x :: xs, n + 1, g, h => by
    have ih := cmdsP_cat xs n (fun y hy => g y (List.mem_cons_of_mem _ hy)) (by simpa using h)
    have hx := cmdP_txt (g x List.mem_cons_self) (catL_noDig xs)
    obtain ⟨c, r, e, _⟩ := txt_first x
    rw [catL_cons]
    rw [e, List.cons_append] at hx ⊢
    rw [cmdsP, hx]
    dsimp only
    rw [ih]
theorem cat_long : ∀ xs : List Cm, xs.length ≤ (catL xs).length
  | [] => Nat.le_refl _
  | x :: xs => by
    have := cat_long xs
    obtain ⟨c, r, e, _⟩ := txt_first x
    rw [catL_cons, List.length_append, e, List.length_cons, List.length_cons]
    omega
theorem cmdsOf_cat {xs : List Cm} (g : ∀ x ∈ xs, x.right) : cmdsOf (cat xs) = xs := by
  unfold cmdsOf
  rw [TL.len_tl, tl_cat, cmdsP_cat xs _ g (cat_long xs)]
  rfl
theorem cat_one (x : Cm) : cat [x] = x.txt := by
  refine TL.ext_tl ?_
  rw [tl_cat]
  simp [catL]
theorem cmdsOf_one {x : Cm} (g : x.right) : cmdsOf x.txt = [x] := by
  have := cmdsOf_cat (xs := [x]) fun y hy => by rw [List.mem_singleton.mp hy]; exact g
  rwa [cat_one] at this
theorem cmdsOf_right {z : Str} : ∀ x ∈ cmdsOf z, x.right := by
  unfold cmdsOf
  cases e : cmdsP z.length (TL.tl z) with
  | none => intro x hx; cases hx
  | some xs => exact (cmdsP_ok _ _ _ e).2
theorem cmdsOf_text {z : Str} : cmdsOf z = [] ∨ cat (cmdsOf z) = z := by
  unfold cmdsOf
  cases e : cmdsP z.length (TL.tl z) with
  | none => exact .inl rfl
  | some xs =>
    refine .inr (TL.ext_tl ?_)
    rw [tl_cat]
    exact (cmdsP_ok _ _ _ e).1
theorem cmdsOf_iff {x : Cm} : cmdsOf x.txt = [x] ↔ x.right := ⟨fun h => cmdsOf_right x (by rw [h]; exact List.mem_singleton.mpr rfl), cmdsOf_one⟩
theorem cmdsOf_long (z : Str) : (cmdsOf z).length ≤ z.length := by
  rcases cmdsOf_text (z := z) with h | h
  · rw [h]
    exact Nat.zero_le _
  · have := cat_long (cmdsOf z)
    rw [← tl_cat, h, ← TL.len_tl] at this
    exact this

def spReadC (C CE : Addr) : Sp := fun vs H Q E => ∃ (p : Addr) (z : Str) (i : Nat), vs = [.ref p] ∧ RdAt C H p z i ∧ z.length ≤ 1000 ∧ i < z.length ∧
  (∀ c q, cmdP ((TL.tl z).drop i) = some (c, q) → q = (TL.tl z).drop (i + c.txt.length) → i + c.txt.length ≤ z.length → ∀ t H', RdAt C H' p z (i + c.txt.length) → (∀ b o, b ≠ p → H b = some o → H' b = some o) → H t = none → CmAt H' t c → Q (.ref t) H') ∧
  (cmdP ((TL.tl z).drop i) = none → ∀ H', (∀ b o, b ≠ p → H b = some o → H' b = some o) → E (.ref CE) none H')
/-- what stands before each part, by its sign -/
def mksV (ms : List Nat) : List V := ms.map fun m => V.str ⟨#[m]⟩
theorem sign_ne {c d : Nat} (h : c ≠ d) : ((⟨#[c]⟩ : Str) == ⟨#[d]⟩) = false := beq_eq_false_iff_ne.mpr fun e => h (by simpa using e)
theorem marks_get (TE : TxtE w K mg a) (c : Nat) : (kdOf c = none ∧ [(("p" : Str), a.M_MARKS_p), ("w", a.M_MARKS_w), ("d", a.M_MARKS_d), ("k", a.M_MARKS_k)].lookup ⟨#[c]⟩ = none) ∨
    ∃ ms M, kdOf c = some ms ∧ [(("p" : Str), a.M_MARKS_p), ("w", a.M_MARKS_w), ("d", a.M_MARKS_d), ("k", a.M_MARKS_k)].lookup ⟨#[c]⟩ = some M ∧ (∀ H, SqT K H M (mksV ms)) ∧ ms.length ≤ 3 := by
  by_cases h1 : c = 112
  · subst h1
    exact .inr ⟨_, _, rfl, rfl, fun H => TE.s_MARKS_p H, by decide⟩
  by_cases h2 : c = 119
  · subst h2
    exact .inr ⟨_, _, rfl, rfl, fun H => TE.s_MARKS_w H, by decide⟩
  by_cases h3 : c = 100
  · subst h3
    exact .inr ⟨_, _, rfl, rfl, fun H => TE.s_MARKS_d H, by decide⟩
  by_cases h4 : c = 107
  · subst h4
    exact .inr ⟨_, _, rfl, rfl, fun H => TE.s_MARKS_k H, by decide⟩
  refine .inl ⟨by rw [kdOf, if_neg h1, if_neg h2, if_neg h3, if_neg h4], ?_⟩
  show [((⟨#[112]⟩ : Str), a.M_MARKS_p), (⟨#[119]⟩, a.M_MARKS_w), (⟨#[100]⟩, a.M_MARKS_d), (⟨#[107]⟩, a.M_MARKS_k)].lookup ⟨#[c]⟩ = none
  simp only [List.lookup, sign_ne h1, sign_ne h2, sign_ne h3, sign_ne h4]
/-- what is to come, behind the parts read so far -/
def contP (us : List V) (o : Option (List V × List Nat)) : Option (List V × List Nat) := o.map fun x => (us ++ x.1, x.2)
theorem contP_step {us : List V} {m : Nat} {ms l : List Nat} {v : V} {r : List Nat} (h : partP m l = some (v, r)) : contP us (partsP (m :: ms) l) = contP (us ++ [v]) (partsP ms r) := by
  rw [partsP, h]
  dsimp only
  cases partsP ms r with
  | none => rfl
  | some x => simp [contP]
theorem ok_Reader_read_command (TE : TxtE w K mg a) (T : Txt K mg a) : ∃ fd, FnOk P w K mg base (L2.CX P w) 3 a.d_Reader_read_command fd ["self"] (spReadC a.C_Reader a.C_BadCommand) ∧ Binds K fd ["self"] [] := by
  obtain ⟨fd, F, b⟩ := T.d_Reader_read_command.F
  obtain ⟨fd_Reader_skip, G_Reader_skip, b_Reader_skip⟩ := ok_Reader_skip (P := P) (w := w) (base := base) TE T
  obtain ⟨fd_Reader_read_code, G_Reader_read_code, b_Reader_read_code⟩ := ok_Reader_read_code (P := P) (w := w) (base := base) TE T
  obtain ⟨fd_Reader_read_number, G_Reader_read_number, b_Reader_read_number⟩ := ok_Reader_read_number (P := P) (w := w) (base := base) TE T
  refine ⟨fd, F.okX sc_Reader_read_command (fun vs H Q E h => ?_) (fun cdv A outer s H vs Q E hr h => ?_), b⟩
  · obtain ⟨_, _, _, rfl, _⟩ := h
    rfl
  · obtain ⟨p, z, i, rfl, ⟨dx, hp⟩, lz, li, k1, k2⟩ := h
    refine ⟨_, (pss_cons (ps_set (i := 1) sc_Reader_read_command.nd rfl (Or.inl rfl) (pe_ix ix_str (pe_fld (pv 0) rfl) (pe_fld (pv 0) rfl) (fun _ _ => rfl)))
      (pss_cons (ps_if (pt_cmpR op_notInKd (pv 1) (pe_glob (v := .ref a.P_MARKS) rfl TE.g_MARKS rfl) (by rfl))
      (pss_one (ps_raise rfl (takes_of rfl rfl rfl rfl) (pmk_own PySem.F.excBase_ValueError TE.x_BadCommand TE.g_BadCommand TE.kc_BadCommand (raises_own TE.b_BadCommand TE.t_BadCommand) rfl)))
      pss_nil)
      (pss_cons (ps_set (i := 2) sc_Reader_read_command.nd rfl (Or.inl rfl) (pe_lst pa_nil))
      (pss_cons (ps_for (passes_of rfl) rfl (pi_tup (pe_ix ix_kdict (pe_glob (v := .ref a.P_MARKS) rfl TE.g_MARKS rfl) (pv 1) (fun _ _ => rfl))) (pg_name (i := 3) sc_Reader_read_command.nd rfl (Or.inl rfl))
      (pss_cons (ps_expr (pe_meth (pv 0) T.cl_Reader T.me_Reader_skip G_Reader_skip (hr.mono (by decide)) b_Reader_skip .nil (L2.passes_call (W := fun c d _ H => E c d H) (E := E) (L2.takes_of rfl rfl rfl rfl) (fun _ _ _ _ h => h)) (pa_cons (pv 3) pa_nil)))
        (pss_cons (ps_set (i := 4) sc_Reader_read_command.nd rfl (Or.inl rfl) (pe_ifExp (pt_cmpR op_eq (pv 3) (pe_glob (v := (.str "z")) rfl T.c_CODE_END.choose_spec ⟨_, rfl⟩) (nomark _)) (pe_meth0 (pv 0) T.cl_Reader T.me_Reader_read_code G_Reader_read_code (hr.mono (by decide)) b_Reader_read_code .nil (L2.passes_call (W := fun c d _ H => E c d H) (E := E) (L2.takes_of rfl rfl rfl rfl) (fun _ _ _ _ h => h))) (pe_meth0 (pv 0) T.cl_Reader T.me_Reader_read_number G_Reader_read_number (hr.mono (by decide)) b_Reader_read_number .nil (L2.passes_call (W := fun c d _ H => E c d H) (E := E) (L2.takes_of rfl rfl rfl rfl) (fun _ _ _ _ h => h)))))
        (pss_one (ps_expr (pe_bm PySem.F.plainAttrs_list PySem.F.slot_list_append PySem.F.type_list_append mt_append (pv 2) (pa_cons (pv 4) pa_nil)))))))
      (pss_one (ps_ret (pe_tup (pa_cons (pv 1) (StX.pa_star (pv 2) pa_nil))))))))), ?_⟩
    walk_at "rs"
    refine ⟨p, _, dx, _, .str z, rfl, hp, T.cl_Reader, T.a_Reader_text, rfl, ?_⟩
    walk_at "rs"
    refine ⟨p, _, dx, _, .int (i : Int), rfl, hp, T.cl_Reader, T.a_Reader_at, rfl, ?_⟩
    walk_at "rs"
    obtain ⟨c, rest, ed⟩ : ∃ c rest, (TL.tl z).drop i = c :: rest := by
      cases e : (TL.tl z).drop i with
      | nil =>
        have := congrArg List.length e
        rw [List.length_drop, List.length_nil, ← TL.len_tl] at this
        omega
      | cons c rest => exact ⟨c, rest, rfl⟩
    have eg : (TL.tl z)[i]? = some c := by
      have : ((TL.tl z).drop i)[0]? = some c := by rw [ed]; rfl
      rw [List.getElem?_drop] at this
      simpa using this
    refine ⟨z, i, c, rfl, rfl, (by rw [sizeLine_eq]; omega), atI_nat eg, ?_⟩
    walk_at "rs"
    refine ⟨_, _, _, rfl, rfl, TE.tab_MARKS.has _, ?_⟩
    rcases marks_get TE c with ⟨hk, hm⟩ | ⟨ms, M, hk, hm, hM, lm⟩
    · have ex : cmdP ((TL.tl z).drop i) = none := by rw [ed, cmdP, hk]
      rw [hm]
      walk_at "rs"
      exact k2 ex H fun b o _ e => e
    have ex : ∀ vs q, partsP ms ((TL.tl z).drop i) = some (vs, q) → cmdP ((TL.tl z).drop i) = some (mkC c vs, q) := fun vs q e => by
      rw [ed] at e ⊢
      rw [cmdP, hk]
      dsimp only
      rw [e]
    have ex0 : partsP ms ((TL.tl z).drop i) = none → cmdP ((TL.tl z).drop i) = none := fun e => by
      rw [ed] at e ⊢
      rw [cmdP, hk]
      dsimp only
      rw [e]
    rw [hm]
    walk_at "rs"
    refine iteF ?_
    walk_at "rs"
    refine ⟨(by show 0 ≤ sizeLine; decide), fun L hL => ?_⟩
    have pL : p ≠ L := fun e => by rw [← e, hp] at hL; cases hL
    walk_at "rs"
    refine ⟨_, _, _, rfl, rfl, TE.tab_MARKS.get hm, ?_⟩
    refine ⟨_, rfl, ⟨_, hM _⟩, for_tup (K := K) (a := M) (xs := mksV ms) (fun n σ H2 => ∃ (v3 v4 : Option V) (j : Nat) (us : List V), σ = [some (.ref p), some (.str ⟨#[c]⟩), some (.ref L), v3, v4] ∧ RdAt a.C_Reader H2 p z j ∧ j ≤ z.length ∧ H2 L = some (.lst us) ∧ us.length = n ∧
        (∀ b o, b ≠ p → H b = some o → H2 b = some o) ∧ partsP ms ((TL.tl z).drop i) = contP us (partsP (ms.drop n) ((TL.tl z).drop j)))
      ⟨none, none, i, [], rfl, ⟨dx, by rw [upd_ne pL]; exact hp⟩, Nat.le_of_lt li, upd_same, rfl, fun b o _ e => by rw [upd_ne (fun q => by rw [q, hL] at e; cases e)]; exact e, by
        rw [List.drop_zero]
        cases partsP ms ((TL.tl z).drop i) <;> rfl⟩ (fun _ _ _ _ _ => hM _) ?_ ?_⟩
    · rintro n y σ H2 hy ⟨v3, v4, j, us, rfl, ⟨dx2, hp2⟩, lj, hL2, lu, kp, er⟩
      obtain ⟨m, hm2, rfl⟩ : ∃ m, ms[n]? = some m ∧ y = V.str ⟨#[m]⟩ := by
        unfold mksV at hy
        rw [List.getElem?_map] at hy
        cases e : ms[n]? with
        | none => rw [e] at hy; cases hy
        | some m => rw [e] at hy; cases hy; exact ⟨m, rfl, rfl⟩
      have hn := (List.getElem?_eq_some_iff.mp hm2).1
      have em : ms.drop n = m :: ms.drop (n + 1) := by
        rw [List.drop_eq_getElem_cons hn, (List.getElem?_eq_some_iff.mp hm2).2]
      rw [em] at er
      have bad : partP m ((TL.tl z).drop j) = none → cmdP ((TL.tl z).drop i) = none := fun e => ex0 (by
        rw [er, partsP, e]
        rfl)
      walk_at "rs"
      refine ⟨p, dx2, _, rfl, hp2, rfl, ?_⟩
      walk_at "rs"
      refine ⟨p, z, m, j, rfl, ⟨dx2, hp2⟩, lz, lj, fun e H3 h3 kp3 => ?_, fun e => ?_⟩
      · have lj1 : j < z.length := by
          rw [TL.len_tl]
          exact (List.getElem?_eq_some_iff.mp e).1
        have ej : (TL.tl z).drop j = m :: (TL.tl z).drop (j + 1) := by
          rw [List.drop_eq_getElem_cons (by rw [← TL.len_tl]; exact lj1), (List.getElem?_eq_some_iff.mp e).2]
        rw [ej, partP, if_pos rfl] at bad
        obtain ⟨dx3, hp3⟩ := id h3
        have kp23 : ∀ b o, b ≠ p → H b = some o → H3 b = some o := fun b o q e => kp3 b o q (kp b o q e)
        walk_at "rs"
        have hL3 := kp3 _ _ (fun q => pL q.symm) hL2
        have partP_mk : ∀ {v : V} {r : List Nat}, (if m = 122 then codeP ((TL.tl z).drop (j + 1)) else numP ((TL.tl z).drop (j + 1))) = some (v, r) → partP m ((TL.tl z).drop j) = some (v, r) := fun q => by
          rw [ej, partP, if_pos rfl]
          exact q
        refine ite2 (fun c1 => ?_) (fun c1 => ?_)
        · have c1 : m = 122 := by
            have := of_decide_eq_true c1
            have z122 : (Str.ofString "z") = ⟨#[122]⟩ := rfl
            rw [z122] at this
            simpa using this
          rw [if_pos c1] at bad partP_mk
          have ec : codeP ((TL.tl z).drop (j + 1)) = if (TL.tl z)[j + 1 + (codeAt z (j + 1)).length]? = some 122 then some (.str ⟨(codeAt z (j + 1)).toArray⟩, (TL.tl z).drop (j + 1 + (codeAt z (j + 1)).length + 1)) else none := by
            unfold codeP
            rw [code_len, List.getElem?_drop, List.drop_drop]
            rfl
          walk_at "rs"
          refine ⟨p, dx3, _, rfl, hp3, rfl, ?_⟩
          walk_at "rs"
          refine ⟨p, z, j + 1, rfl, h3, lz, lj1, fun e H4 ⟨dx4, hp4⟩ kp4 => ?_, fun e H4 kp4 => ?_⟩
          · rw [if_pos e] at ec
            have hL4 := kp4 _ _ (fun q => pL q.symm) hL3
            have lj4 : j + 1 + (codeAt z (j + 1)).length + 1 ≤ z.length := by
              rw [TL.len_tl]
              exact (List.getElem?_eq_some_iff.mp e).1
            walk_at "rs"
            refine ⟨.inl ⟨rfl, _, SqL.of hL4⟩, ?_⟩
            walk_at "rs"
            refine ⟨L, _, _, rfl, rfl, hL4, small1000 (by omega), ?_⟩
            refine ⟨_, _, j + 1 + (codeAt z (j + 1)).length + 1, us ++ [V.str ⟨(codeAt z (j + 1)).toArray⟩], rfl, ⟨dx4, by rw [upd_ne pL]; exact hp4⟩, lj4, upd_same, by rw [List.length_append, lu]; rfl, fun b o q e => ?_, ?_⟩
            · rw [upd_ne (fun q => by rw [q, hL] at e; cases e)]
              exact kp4 b o q (kp23 b o q e)
            · rw [er, contP_step (partP_mk (ec))]
          · rw [if_neg e] at ec
            exact k2 (bad ec) H4 fun b o q e => kp4 b o q (kp23 b o q e)
        · have c1 : ¬ m = 122 := fun q => c1 (decide_eq_true (by rw [q]; rfl))
          rw [if_neg c1] at bad partP_mk
          have ec : numP ((TL.tl z).drop (j + 1)) = if NumW (digsAt z (j + 1)) then some (.int (NumText.digitsVal (digsAt z (j + 1)) : Nat), (TL.tl z).drop (j + 1 + (digsAt z (j + 1)).length)) else none := by
            unfold numP
            rw [digs_len, List.drop_drop]
            rfl
          walk_at "rs"
          refine ⟨p, dx3, _, rfl, hp3, rfl, ?_⟩
          walk_at "rs"
          refine ⟨p, z, j + 1, rfl, h3, lz, lj1, fun e H4 ⟨dx4, hp4⟩ kp4 => ?_, fun e H4 kp4 => ?_⟩
          · rw [if_pos e] at ec
            have hL4 := kp4 _ _ (fun q => pL q.symm) hL3
            have lj4 : j + 1 + (digsAt z (j + 1)).length ≤ z.length := by
              rw [digs_len]
              have := run_le (TL.tl "0123456789") ((TL.tl z).drop (j + 1))
              rw [List.length_drop, ← TL.len_tl] at this
              omega
            walk_at "rs"
            refine ⟨.inl ⟨rfl, _, SqL.of hL4⟩, ?_⟩
            walk_at "rs"
            refine ⟨L, _, _, rfl, rfl, hL4, small1000 (by omega), ?_⟩
            refine ⟨_, _, j + 1 + (digsAt z (j + 1)).length, us ++ [V.int (NumText.digitsVal (digsAt z (j + 1)) : Nat)], rfl, ⟨dx4, by rw [upd_ne pL]; exact hp4⟩, lj4, upd_same, by rw [List.length_append, lu]; rfl, fun b o q e => ?_, ?_⟩
            · rw [upd_ne (fun q => by rw [q, hL] at e; cases e)]
              exact kp4 b o q (kp23 b o q e)
            · rw [er, contP_step (partP_mk (ec))]
          · rw [if_neg e] at ec
            exact k2 (bad ec) H4 fun b o q e => kp4 b o q (kp23 b o q e)
      · refine k2 (bad ?_) H2 kp
        cases ed2 : (TL.tl z).drop j with
        | nil => rfl
        | cons d r =>
          rw [partP, if_neg]
          intro q
          refine e ?_
          have : ((TL.tl z).drop j)[0]? = some d := by rw [ed2]; rfl
          rw [List.getElem?_drop] at this
          rw [← q]
          simpa using this
    · rintro σ H2 ⟨v3, v4, j, us, rfl, ⟨dx2, hp2⟩, lj, hL2, lu, kp, er⟩
      have ln : (mksV ms).length = ms.length := List.length_map _
      rw [ln, List.drop_length] at er
      have er : partsP ms ((TL.tl z).drop i) = some (us ++ [], (TL.tl z).drop j) := er
      rw [List.append_nil] at er
      have em := ex _ _ er
      have hmk := mk_ok hk (by rw [← ed]; exact er)
      have et := hmk.2.2.1
      rw [← ed] at et
      have ej : j = i + (mkC c us).txt.length := by
        have := congrArg List.length et
        rw [List.length_append, List.length_drop, List.length_drop, ← TL.len_tl, ← TL.len_tl] at this
        omega
      walk_at "rs"
      refine ⟨L, us, rfl, .inr (SqL.of hL2), ?_⟩
      walk_at "rs"
      refine ⟨by rw [sizeLine_eq]; simp; omega, fun t ht => ?_⟩
      refine k1 _ _ em (by rw [ej]) (by omega) t _ ⟨dx2, ?_⟩ ?_ ?_ ?_
      · rw [upd_ne (fun q => by rw [← q, hp2] at ht; cases ht), ← ej]
        exact hp2
      · intro b o q e
        rw [upd_ne (fun q => by rw [← q, kp b o ‹_› e] at ht; cases ht)]
        exact kp b o q e
      · cases e : H t with
        | none => rfl
        | some o =>
          by_cases q : t = p
          · rw [q, hp2] at ht
            cases ht
          · rw [kp t o q e] at ht
            cases ht
      · show upd H2 t _ t = _
        rw [upd_same, hmk.1, hmk.2.1]
        simp

/-- o.m() within a try: what the method lets out is wished for at the slots -/
def tMethT0 (C : Addr) (m : Str) (sp : Sp) (E : L2.St → XK) (ta : TE) : TE := fun σ H Q => ta σ H fun x H1 => ∃ (j dx : Addr) (fs : List (Str × V)), x = V.ref j ∧ H1 j = some (HO.ins C dx fs) ∧ fs.lookup m = Option.none ∧ sp [x] H1 Q (E σ)
theorem pe_methT0 {X : Cx} {CX : CXT} {k : Nat} {f C : Addr} {fd : FuncData} {ps : List Str} {sp : Sp} {E : L2.St → XK} {m : Str} {apos pos : Pos} {o : Expr} {ta : TE} {pl : Sem Bool} (he : PE X o ta) (c : L2.Cls X.K C) (hm : L2.Meth X.K C m f) (F : FnOk X.prog X.w X.K X.mg X.base CX k f fd ps sp)
    (hr : Room k X.A) (hb : Binds X.K fd ps []) (hx : ∀ σ, PassesAt CX X σ (E σ))
    (text : eval (.Call (.Attribute o m apos) [] [] pos) X.env = (do let ov ← eval o X.env; standAt apos.atName; let (f, first) ← holding [ov] (getMethod ov m pl); callWith pos f first (backTo pos (starEach [] X.env)) (backToKw pos (keywordEach [] X.env))) := by rfl) :
    PE X (.Call (.Attribute o m apos) [] [] pos) (tMethT0 C m sp E ta) := by
  constructor
  intro pins s σ H Q I hyp
  refine PySem.W.methodCall_KW (pl := pl) (thn (he.run pins s σ H _ I hyp) fun u s1 got => ?_) text
  obtain ⟨x, H1, I1, rx, j, dx, fs, ex, ej, nf, q⟩ := got
  subst ex
  have eu : u = Value.ref j := rx
  subst eu
  refine getmeth_ok I1 ej c hm nf ?_
  exact PySem.W.callWith_K0 (first := [Value.ref j]) I1.kIn hm.kp (run_fnS (us := [Value.ref j]) (vs := [V.ref j]) F hr hb (hx σ) I1 (.cons rfl .nil) q)

def spCof (K : PySem.W.Frag) : Sp := fun vs H Q _ => ∃ z : Str, vs = [.str z] ∧ z.length ≤ 1000 ∧ ∀ (q : Addr) (ps : List Addr) H', Same H H' → H q = none → H' q = some (.lst (ps.map V.ref)) → CmsAt H' ps (cmdsOf z) → Q (.ref q) H'
theorem CmsAt.snoc {H : Hp} {ps : List Addr} {cs : List Cm} {p : Addr} {c : Cm} (h : CmsAt H ps cs) (e : CmAt H p c) : CmsAt H (ps ++ [p]) (cs ++ [c]) := by
  refine ⟨by rw [List.length_append, List.length_append, h.1]; rfl, fun i hi => ?_⟩
  rw [List.length_append, List.length_singleton] at hi
  rw [List.getD_eq_getElem?_getD, List.getD_eq_getElem?_getD]
  rcases Nat.lt_or_ge i cs.length with z | z
  · rw [List.getElem?_append_left (by rw [h.1]; exact z), List.getElem?_append_left z, ← List.getD_eq_getElem?_getD, ← List.getD_eq_getElem?_getD]
    exact h.2 i z
  · have ei : i = cs.length := by omega
    rw [ei, List.getElem?_append_right (Nat.le_of_eq h.1), List.getElem?_append_right (Nat.le_refl _), h.1, Nat.sub_self]
    exact e
theorem ok_commands_of (TE : TxtE w K mg a) (T : Txt K mg a) : ∃ fd, FnOk P w K mg base CX0 4 a.d_commands_of fd ["block"] (spCof K) ∧ Binds K fd ["block"] [] := by
  obtain ⟨fd, F, b⟩ := T.d_commands_of.F
  obtain ⟨fd_Reader_init, G_Reader_init, b_Reader_init⟩ := ok_Reader_init (P := P) (w := w) (base := base) T
  obtain ⟨fd_Reader_read_command, G_Reader_read_command, b_Reader_read_command⟩ := ok_Reader_read_command (P := P) (w := w) (base := base) TE T
  refine ⟨fd, F.ok sc_commands_of (fun vs H Q E h => ?_) (fun cdv A outer s H vs Q E hr h => ?_), b⟩
  · obtain ⟨_, rfl, _⟩ := h
    rfl
  · obtain ⟨z, rfl, lz, k⟩ := h
    refine ⟨_, (pss_cons (ps_set (i := 1) sc_commands_of.nd rfl (Or.inl rfl) (pe_make T.m_Reader G_Reader_init (hr.mono (by decide)) (by rfl) T.g_Reader b_Reader_init .nil pass0 (pa_cons (pv 0) pa_nil)))
      (pss_cons (ps_set (i := 2) sc_commands_of.nd rfl (Or.inl rfl) (pe_lst pa_nil))
      (pss_cons (ps_try_only rfl rfl ⟨rfl, by decide, .inl TE.g_BadCommand⟩ takes0 (fun W pn xe tk po => (pss_one (ps_while po (pt_cmpR op_lt (pe_fldK (K := K) rfl (pv 1) rfl) (pe_callB call_len_str (by rfl) T.n_len PySem.boot_len (pa_cons (pv 0) pa_nil)) (nomark _)) (pss_one (ps_expr (pe_bmK (K := K) rfl PySem.F.plainAttrs_list PySem.F.slot_list_append PySem.F.type_list_append mt_append (pv 2) (pa_cons (pe_methT0 (pv 1) T.cl_Reader T.me_Reader_read_command G_Reader_read_command (hr.mono (by decide)) b_Reader_read_command (E := fun σ cls d H => W cls d σ H) (fun σ => passAt tk σ)) pa_nil))))))) (fun ae oe cls d pn hz hf => (pss_one (ps_ret (pe_lst pa_nil)))))
      (pss_one (ps_ret (pv 2)))))), ?_⟩
    walk_at "rs"
    intro rd dx hrd hdx ndx
    refine ⟨rd, dx, z, rfl, upd_same, fun H1 h1 keep => ?_⟩
    have s1 : Same H H1 := fun b o e => keep b o (fun q => by rw [q, hrd] at e; cases e) (by rw [upd_ne (fun q => by rw [q, hrd] at e; cases e), upd_ne (fun q => by rw [q, hdx] at e; cases e)]; exact e)
    refine ⟨rfl, ?_⟩
    clear keep
    walk_at "rs"
    refine ⟨(by show 0 ≤ sizeLine; decide), fun L hL => ?_⟩
    have hL0 := s1.free hL
    have rL : rd ≠ L := fun e => by
      obtain ⟨d, h⟩ := h1
      rw [e, hL] at h
      cases h
    have s2 := same_new (o := .lst []) hL
    walk_at "rs"
    refine ⟨fun m σ H2 => ∃ (j n : Nat) (ps : List Addr) (cs : List Cm), m = z.length - j ∧ σ = [some (.str z), some (.ref rd), some (.ref L)] ∧ RdAt a.C_Reader H2 rd z j ∧ j ≤ z.length ∧ H2 L = some (.lst (ps.map V.ref)) ∧ CmsAt H2 ps cs ∧ Same H H2 ∧ z.length - j ≤ n ∧ cs.length ≤ j ∧
        cmdsP z.length (TL.tl z) = (cmdsP n ((TL.tl z).drop j)).map (cs ++ ·),
      ⟨_, 0, z.length, [], [], rfl, rfl, h1.elim fun d h => ⟨d, by rw [upd_ne rL]; exact h⟩, Nat.zero_le _, upd_same, ⟨rfl, fun i hi => absurd hi (Nat.not_lt_zero i)⟩, s1.trans s2, Nat.le_of_eq (Nat.sub_zero _), Nat.le_refl _, by
        rw [List.drop_zero]
        cases cmdsP z.length (TL.tl z) <;> rfl⟩, ?_⟩
    clear s2 h1
    rintro m σ H2 ⟨j, n, ps, cs, rfl, rfl, ⟨dx2, h2⟩, lj, hL2, hc, s2, ln, lcs, er⟩
    walk_at "rs"
    refine ⟨rd, _, dx2, _, .int (j : Int), rfl, h2, T.cl_Reader, T.a_Reader_at, rfl, ?_⟩
    walk_at "rs"
    refine ⟨(by rw [sizeLine_eq]; omega), ?_⟩
    walk_at "rs"
    refine ite2 (fun c1 => ?_) (fun c1 => ?_)
    · have c1 : j < z.length := by
        have := of_decide_eq_true c1
        omega
      obtain ⟨n, rfl⟩ : ∃ k, n = k + 1 := ⟨n - 1, by omega⟩
      obtain ⟨d, rest, ed⟩ : ∃ c rest, (TL.tl z).drop j = c :: rest := by
        cases e : (TL.tl z).drop j with
        | nil =>
          have := congrArg List.length e
          rw [List.length_drop, List.length_nil, ← TL.len_tl] at this
          omega
        | cons c rest => exact ⟨c, rest, rfl⟩
      refine ⟨fun σ' H' => ∃ (t : Addr) (x : Cm) (q : List Nat), cmdP ((TL.tl z).drop j) = some (x, q) ∧ q = (TL.tl z).drop (j + x.txt.length) ∧ j + x.txt.length ≤ z.length ∧ σ' = [some (.str z), some (.ref rd), some (.ref L)] ∧ RdAt a.C_Reader H' rd z (j + x.txt.length) ∧ H' L = some (.lst ((ps ++ [t]).map V.ref)) ∧ CmsAt H' (ps ++ [t]) (cs ++ [x]) ∧ Same H H', ?_, ?_⟩
      · rintro σ' H' ⟨t, x, q, e1, e2, e3, rfl, h4, hL4, hc4, s4⟩
        have lx : 0 < x.txt.length := by
          obtain ⟨c, r, e, _⟩ := txt_first x
          rw [TL.len_tl, e]
          exact Nat.succ_pos _
        refine ⟨z.length - (j + x.txt.length), by omega, j + x.txt.length, n, ps ++ [t], cs ++ [x], rfl, rfl, h4, e3, hL4, hc4, s4, by omega, by rw [List.length_append]; show cs.length + 1 ≤ _; omega, ?_⟩
        rw [er, ← e2]
        rw [ed] at e1 ⊢
        rw [cmdsP, e1]
        dsimp only
        cases cmdsP n q with
        | none => rfl
        | some xs => simp
      walk_at "rs"
      refine ⟨.inl ⟨rfl, _, SqL.of hL2⟩, ?_⟩
      walk_at "rs"
      refine ⟨rd, dx2, _, rfl, h2, rfl, ?_⟩
      have Lr : L ≠ rd := fun e => rL e.symm
      refine ⟨rd, z, j, rfl, ⟨dx2, h2⟩, lz, c1, fun x q e1 e2 e3 t H4 h4 kp ht ct => ?_, fun e H4 kp => ?_⟩
      · have s4 : Same H H4 := fun b o e => kp b o (fun q => by rw [q, hrd] at e; cases e) (s2 b o e)
        have tL : t ≠ L := fun e => by rw [e, hL2] at ht; cases ht
        walk_at "rs"
        refine ⟨L, _, _, rfl, rfl, kp _ _ Lr hL2, by rw [List.length_map, hc.1]; exact small1000 (by omega), ?_⟩
        refine ⟨t, x, q, e1, e2, e3, rfl, ?_, by rw [upd_same, List.map_append]; rfl, ?_, same_upd s4 hL0⟩
        · obtain ⟨d4, h4⟩ := h4
          exact ⟨d4, by rw [upd_ne rL]; exact h4⟩
        · have hne : ∀ {b : Addr} {y : Cm}, CmAt H2 b y → b ≠ rd ∧ b ≠ L := fun {b y} h => by
            have h : H2 b = some (.tup _) := h
            constructor
            · intro e
              rw [e, h2] at h
              cases h
            · intro e
              rw [e, hL2] at h
              cases h
          refine CmsAt.snoc ⟨hc.1, fun i hi => ?_⟩ ?_
          · have h := hc.2 i hi
            obtain ⟨n1, n2⟩ := hne h
            show upd H4 L _ _ = _
            rw [upd_ne n2]
            exact kp _ _ n1 h
          · show upd H4 L _ _ = _
            rw [upd_ne tL]
            exact ct
      · have s4 : Same H H4 := fun b o e => kp b o (fun q => by rw [q, hrd] at e; cases e) (s2 b o e)
        have eall : cmdsOf z = [] := by
          unfold cmdsOf
          rw [er]
          rw [ed] at e ⊢
          rw [cmdsP, e]
          rfl
        refine ⟨true, TE.exm_BadCommand_BadCommand, fun _ ex hex => ?_, fun z => nomatch z⟩
        walk_at "rs"
        refine ⟨(by show 0 ≤ sizeLine; decide), fun R hR => ?_⟩
        refine k R [] _ (s4.trans (same_new hR)) (s4.free hR) upd_same ?_
        rw [eall]
        exact ⟨rfl, fun i hi => absurd hi (Nat.not_lt_zero i)⟩
    · have c1 : j = z.length := by
        have : ¬ j < z.length := fun h => c1 (decide_eq_true (by omega))
        omega
      have eall : cmdsOf z = cs := by
        unfold cmdsOf
        rw [er, List.drop_of_length_le (by rw [← TL.len_tl]; omega)]
        cases n <;> simp [cmdsP]
      walk_at "rs"
      exact k L ps H2 s2 hL0 hL2 (by rw [eall]; exact hc)


/-! ### a committee made of a tuple -/
theorem seqT_same {H H' : Hp} {b : Addr} {xs : List V} (e : Same H H') (h : SqT K H b xs) : SqT K H' b xs := by
  rcases h with (h | ⟨o, h⟩) | h
  · exact .inl (.inl (e _ _ h))
  · exact .inl (.inr ⟨o, e _ _ h⟩)
  · exact .inr h
def spFirstT (K : PySem.W.Frag) : Sp := fun vs H Q _ => ∃ (p : Addr) (ws : List Int), vs = [.ref p] ∧ SqT K H p (ws.map V.int) ∧ GoodW ws ∧ ∀ H', Same H H' → Q .non H'
def spInitT (K : PySem.W.Frag) (C : Addr) : Sp := fun vs H Q _ => ∃ (p dx t : Addr) (ws : List Int), vs = [.ref p, .ref t] ∧ H p = some (.ins C dx []) ∧ H t = some (.tup (ws.map V.int)) ∧ GoodW ws ∧
  ∀ H' : Hp, CommAt C H' p ws → (∀ b o, H b = some o → b ≠ p → H' b = some o) → Q .non H'
theorem ok_first_wrongT (T : Txt K mg a) : ∃ fd, FnOk P w K mg base CX0 1 a.d_first_wrong fd ["weights"] (spFirstT K) ∧ Binds K fd ["weights"] [] := by
  obtain ⟨fd, F, b⟩ := T.d_first_wrong.F
  refine ⟨fd, F.ok sc_first_wrong (fun vs H Q E h => ?_) (fun cdv A outer s H vs Q E hr h => ?_), b⟩
  · obtain ⟨_, _, rfl, _⟩ := h
    rfl
  · obtain ⟨p, ws, rfl, hp, gw, k⟩ := h
    refine ⟨_, (pss_cons (ps_for PassesOwn.never rfl (pi_enumT (by rfl) T.n_enumerate (pa_cons (pv 0) pa_nil)) (pg_tup rfl (pgs_cons (pg_name (i := 1) sc_first_wrong.nd rfl (Or.inl rfl)) (pgs_cons (pg_name (i := 2) sc_first_wrong.nd rfl (Or.inl rfl)) pgs_nil)))
      (pss_one (ps_if (PW.pt (pw_or (pt_cmpR op_ge (pv 1) (pe_glob (v := (.int 16)) rfl T.c_MOST_MEMBERS.choose_spec ⟨_, rfl⟩) (nomark _)) (pw_or (pt_cmpR op_lt (pv 2) pe_int (nomark _)) (pw_or1 (pt_cmpR op_gt (pv 2) (pe_glob (v := (.int 1000000000000)) rfl T.c_MOST_WEIGHT.choose_spec ⟨_, rfl⟩) (nomark _))))))
        (pss_one (ps_ret (pv 1)))
        pss_nil)))
      (pss_cons (ps_if (pt_cmpR op_eq (pe_callB call_len_seq (by rfl) T.n_len PySem.boot_len (pa_cons (pv 0) pa_nil)) pe_int (nomark _))
      (pss_one (ps_ret pe_int))
      pss_nil)
      (pss_one (ps_ret pe_non)))), ?_⟩
    walk_at "rs"
    refine ⟨p, _, rfl, hp, ?_⟩
    refine for_enumT (K := K) (a := p) (ys := ws.map V.int) (fun i σ H2 => ∃ v1 v2 : Option V, σ = [some (.ref p), v1, v2] ∧ Same H H2) ⟨_, _, rfl, Same.refl H⟩ (fun i σ H2 _ ⟨_, _, _, s2⟩ => seqT_same s2 hp) ?_ ?_
    · rintro i y σ H2 q hy ⟨v1, v2, rfl, s2⟩ hq
      have hi : i < ws.length := by
        have e := (List.getElem?_eq_some_iff.mp hy).1
        rwa [List.length_map] at e
      rw [at_ints hi] at hy
      cases hy
      have g1 := gw.2.2 _ (getD_mem hi)
      have g2 := gw.2.1
      walk_at "rs"
      refine ⟨q, _, rfl, SqT.of upd_same, rfl, ?_⟩
      refine ⟨_, _, rfl, _, _, rfl, rfl, ?_⟩
      walk_at "rs"
      refine ite2 (fun c1 => ?_) (fun c1 => ?_)
      · exfalso
        have := of_decide_eq_true c1
        omega
      walk_at "rs"
      refine ite2 (fun c2 => ?_) (fun c2 => ?_)
      · exfalso
        have := of_decide_eq_true c2
        omega
      walk_at "rs"
      refine ite2 (fun c3 => ?_) (fun c3 => ?_)
      · exfalso
        have := of_decide_eq_true c3
        omega
      exact ⟨_, _, rfl, same_upd s2 (s2.free hq)⟩
    · rintro σ H2 ⟨v1, v2, rfl, s2⟩
      walk_at "rs"
      refine ⟨p, _, rfl, .inr (seqT_same s2 hp), ?_⟩
      walk_at "rs"
      refine ite2 (fun c1 => ?_) (fun c1 => ?_)
      · exfalso
        have g0 := gw.1
        simp at c1
        simp [c1] at g0
      exact k H2 s2
theorem ok_Committee_initT (T : Txt K mg a) : ∃ fd, FnOk P w K mg base CX0 2 a.d_Committee_init fd ["self", "weights"] (spInitT K a.C_Committee) ∧ Binds K fd ["self", "weights"] [] := by
  obtain ⟨fd, F, b⟩ := T.d_Committee_init.F
  obtain ⟨fd_first_wrong, G_first_wrong, b_first_wrong⟩ := ok_first_wrongT (P := P) (w := w) (base := base) T
  refine ⟨fd, F.ok sc_Committee_init (fun vs H Q E h => ?_) (fun cdv A outer s H vs Q E hr h => ?_), b⟩
  · obtain ⟨_, _, _, _, rfl, _⟩ := h
    rfl
  · obtain ⟨p, dx, t, ws, rfl, hp, ht, gw, k⟩ := h
    refine ⟨_, (pss_cons (ps_set (i := 2) sc_Committee_init.nd rfl (Or.inl rfl) (pe_call G_first_wrong (hr.mono (by decide)) rfl T.d_first_wrong.g T.d_first_wrong.kp b_first_wrong .nil pass0 (pa_cons (pv 1) pa_nil)))
      (pss_cons (ps_if (pt_cmpR op_notN (pv 2) pe_non (nomark _))
      (pss_one ps_never)
      pss_nil)
      (pss_cons (ps_fld (pv 0) (pe_callTy call_tuple_of (by rfl) T.n_tuple (by decide +kernel) (pa_cons (pv 1) pa_nil)) rfl)
      (pss_cons (ps_fld (pv 0) (pe_callB call_len_seq (by rfl) T.n_len PySem.boot_len (pa_cons (pe_fld (pv 0) rfl) pa_nil)) rfl)
      (pss_one (ps_fld (pv 0) (pe_callB (cr_sumT rfl) (by rfl) T.n_sum (by decide +kernel) (pa_cons (pe_fld (pv 0) rfl) pa_nil)) rfl)))))), ?_⟩
    walk_at "rs"
    refine ⟨t, ws, rfl, SqT.of ht, gw, fun H1 s1 => ?_⟩
    walk_at "rs"
    have hp1 := s1 _ _ hp
    have ht1 := s1 _ _ ht
    refine ⟨t, _, rfl, .inr ⟨SqT.of ht1, ?_⟩⟩
    have npt : p ≠ t := fun e => by rw [e, ht] at hp; cases hp
    walk_at "rs"
    refine ⟨p, _, dx, [], rfl, hp1, T.cl_Committee, T.a_Committee_weights, (by show 0 < 1000; decide), ?_⟩
    have ht3 : ∀ o : HO, (upd H1 p o) t = some (.tup (ws.map V.int)) := fun o => by rw [upd_ne npt.symm]; exact ht1
    walk_at "rs"
    refine ⟨p, _, dx, _, .ref t, rfl, upd_same, T.cl_Committee, T.a_Committee_weights, by rw [lookup_putF, if_pos rfl], ?_⟩
    walk_at "rs"
    refine ⟨t, _, rfl, .inr (SqT.of (ht3 _)), ?_⟩
    walk_at "rs"
    refine ⟨p, _, dx, _, rfl, upd_same, T.cl_Committee, T.a_Committee_size, (by show 1 < 1000; decide), ?_⟩
    rw [upd_upd]
    walk_at "rs"
    refine ⟨p, _, dx, _, .ref t, rfl, upd_same, T.cl_Committee, T.a_Committee_weights, by rw [lookup_putF, if_neg ne_ws, lookup_putF, if_pos rfl], ?_⟩
    walk_at "rs"
    refine ⟨t, ws, rfl, SqT.of (ht3 _), ?_⟩
    walk_at "rs"
    refine ⟨p, _, dx, _, rfl, upd_same, T.cl_Committee, T.a_Committee_total, (Nat.lt_of_le_of_lt (length_putF _ _ _) (Nat.lt_of_le_of_lt (Nat.add_le_add_right (length_putF _ _ _) 1) (by show 2 < 1000; decide))), ?_⟩
    rw [upd_upd, List.length_map]
    exact k _ ⟨dx, t, upd_same, ht3 _⟩ fun b o e hb => by
      rw [upd_ne hb]
      exact s1 _ _ e

/-! ### ledgers that stay -/
def LdAt (C : Addr) (H : Hp) (p t : Addr) : Prop := ∃ dx c2 c3, H p = some (.ins C dx [("balances", .ref t), ("codes", c2), ("stores", c3)])
theorem LdAt.same {C : Addr} {H H' : Hp} {p t : Addr} (h : LdAt C H p t) (s : Same H H') : LdAt C H' p t := by
  obtain ⟨dx, c2, c3, h⟩ := h
  exact ⟨dx, c2, c3, s _ _ h⟩
def spLInit (C : Addr) : Sp := fun vs H Q _ => ∃ (p dx : Addr) (v1 v2 v3 : V), vs = [.ref p, v1, v2, v3] ∧ H p = some (.ins C dx []) ∧
  ∀ H', H' p = some (.ins C dx [("balances", v1), ("codes", v2), ("stores", v3)]) → (∀ b o, b ≠ p → H b = some o → H' b = some o) → Q .non H'
theorem ok_Ledger_init (T : Txt K mg a) : ∃ fd, FnOk P w K mg base CX0 1 a.d_Ledger_init fd ["self", "balances", "codes", "stores"] (spLInit a.C_Ledger) ∧ Binds K fd ["self", "balances", "codes", "stores"] [] := by
  obtain ⟨fd, F, b⟩ := T.d_Ledger_init.F
  refine ⟨fd, F.ok sc_Ledger_init (fun vs H Q E h => ?_) (fun cdv A outer s H vs Q E hr h => ?_), b⟩
  · obtain ⟨_, _, _, _, _, rfl, _⟩ := h
    rfl
  · obtain ⟨p, dx, v1, v2, v3, rfl, hp, k⟩ := h
    refine ⟨_, (pss_cons (ps_fld (pv 0) (pv 1) rfl)
      (pss_cons (ps_fld (pv 0) (pv 2) rfl)
      (pss_one (ps_fld (pv 0) (pv 3) rfl)))), ?_⟩
    walk_at "rs"
    refine ⟨p, _, dx, [], rfl, hp, T.cl_Ledger, T.a_Ledger_balances, (by show 0 < 1000; decide), ?_⟩
    walk_at "rs"
    refine ⟨p, _, dx, _, rfl, upd_same, T.cl_Ledger, T.a_Ledger_codes, (by show 1 < 1000; decide), ?_⟩
    rw [upd_upd]
    walk_at "rs"
    refine ⟨p, _, dx, _, rfl, upd_same, T.cl_Ledger, T.a_Ledger_stores, (by show 2 < 1000; decide), ?_⟩
    rw [upd_upd]
    refine k _ ?_ (fun b o n e => by rw [upd_ne n]; exact e)
    rw [upd_same]
    rfl
def spFirstL (K : PySem.W.Frag) (C : Addr) : Sp := fun vs H Q _ => ∃ (g : Addr) (x y : Int), vs = [.ref g] ∧ SqL K H g [] ∧
  ∀ p t H', Same H H' → H p = none → LdAt C H' p t → H' t = some (.tup []) → Q (.ref p) H'
theorem ok_first_ledger (T : Txt K mg a) : ∃ fd, FnOk P w K mg base CX0 3 a.d_first_ledger fd ["grants"] (spFirstL K a.C_Ledger) ∧ Binds K fd ["grants"] [] := by
  obtain ⟨fd, F, b⟩ := T.d_first_ledger.F
  obtain ⟨fd_Ledger_init, G_Ledger_init, b_Ledger_init⟩ := ok_Ledger_init (P := P) (w := w) (base := base) T
  refine ⟨fd, F.ok sc_first_ledger (fun vs H Q E h => ?_) (fun cdv A outer s H vs Q E hr h => ?_), b⟩
  · obtain ⟨_, _, _, rfl, _⟩ := h
    rfl
  · obtain ⟨g, x, y, rfl, hg, k⟩ := h
    refine ⟨_, (pss_cons (ps_set (i := 1) sc_first_ledger.nd rfl (Or.inl rfl) (pe_callTy call_tuple_of (by rfl) T.n_tuple (by decide +kernel) (pa_cons (pv 0) pa_nil)))
      (pss_one (ps_ret (pe_make T.m_Ledger G_Ledger_init (hr.mono (by decide)) (by rfl) T.g_Ledger b_Ledger_init .nil pass0 (pa_cons (pv 1) (pa_cons (pe_op op_repT0 (pe_tup (pa_cons pe_str pa_nil)) (pe_callB call_len_seq (by rfl) T.n_len PySem.boot_len (pa_cons (pv 1) pa_nil))) (pa_cons (pe_op op_repT0 (pe_tup (pa_cons (pe_tup pa_nil) pa_nil)) (pe_callB call_len_seq (by rfl) T.n_len PySem.boot_len (pa_cons (pv 1) pa_nil))) pa_nil))))))), ?_⟩
    walk_at "rs"
    refine ⟨g, _, rfl, .inl ⟨hg, fun t ht => ?_⟩⟩
    have s1 := same_new (o := .tup []) ht
    have ht1 : (upd H t (.tup [])) t = some (.tup []) := upd_same
    generalize upd H t (.tup []) = H1 at s1 ht1 ⊢
    walk_at "rs"
    refine ⟨(by show 1 ≤ sizeLine; decide), fun q1 hq1 => ?_⟩
    have s2 := same_new (o := .tup [V.str ""]) hq1
    have h2 : (upd H1 q1 (.tup [V.str ""])) q1 = some (.tup [V.str ""]) := upd_same
    generalize upd H1 q1 (.tup [V.str ""]) = H2 at s2 h2 ⊢
    walk_at "rs"
    refine ⟨t, _, rfl, .inr (SqT.of (s2 _ _ ht1)), ?_⟩
    refine ⟨q1, _, rfl, rfl, SqT.of h2, (fun e => nomatch e), fun q2 hq2 => ?_⟩
    have s3 := same_new (o := .tup []) hq2
    generalize upd H2 q2 (.tup []) = H3 at s3 ⊢
    walk_at "rs"
    refine ⟨(by show 0 ≤ sizeLine; decide), fun q3 hq3 => ?_⟩
    have s4 := same_new (o := .tup []) hq3
    generalize upd H3 q3 (.tup []) = H4 at s4 ⊢
    walk_at "rs"
    refine ⟨(by show 1 ≤ sizeLine; decide), fun q4 hq4 => ?_⟩
    have s5 := same_new (o := .tup [V.ref q3]) hq4
    have h5 : (upd H4 q4 (.tup [V.ref q3])) q4 = some (.tup [V.ref q3]) := upd_same
    generalize upd H4 q4 (.tup [V.ref q3]) = H5 at s5 h5 ⊢
    walk_at "rs"
    have s25 := s2.trans (s3.trans (s4.trans s5))
    refine ⟨t, _, rfl, .inr (SqT.of (s25 _ _ ht1)), ?_⟩
    refine ⟨q4, _, rfl, rfl, SqT.of h5, (fun e => nomatch e), fun q5 hq5 => ?_⟩
    have s6 := same_new (o := .tup []) hq5
    generalize upd H5 q5 (.tup []) = H6 at s6 ⊢
    have s16 := s1.trans (s25.trans s6)
    have ht6 := s6 _ _ (s25 _ _ ht1)
    walk_at "rs"
    intro p dx hp hdx ndx
    have hdx1 := same_new (o := .own p) hdx
    refine ⟨p, dx, _, _, _, rfl, upd_same, fun H7 h7 keep => ⟨rfl, ?_⟩⟩
    have s7 : Same H6 H7 := fun b o e => keep b o (fun q => by rw [q, hp] at e; cases e) (by rw [upd_ne (fun q => by rw [q, hp] at e; cases e), upd_ne (fun q => by rw [q, hdx] at e; cases e)]; exact e)
    exact k p t H7 (s16.trans s7) (s16.free hp) ⟨dx, _, _, h7⟩ (s7 _ _ ht6)
/-! ### chains -/
/-- what stands where in a chain -/
structure CnP where
  B : Addr
  R : Addr
  D : Addr
  L : Addr
/-- blocks, the addresses of receipts and committees, the weights, the ledgers -/
structure CnV where
  zs : List Str
  rs : List Addr
  ps : List Addr
  ws : List (List Int)
  ls : List Addr
structure CnAt (C1 C2 C3 : Addr) (H : Hp) (p : Addr) (q : CnP) (v : CnV) (x y : Int) : Prop where
  ins : ∃ dx, H p = some (.ins C1 dx [("blocks", .ref q.B), ("receipts", .ref q.R), ("committees", .ref q.D), ("ledgers", .ref q.L)])
  hB : H q.B = some (.lst (v.zs.map V.str))
  hR : H q.R = some (.lst (v.rs.map V.ref))
  hD : H q.D = some (.lst (v.ps.map V.ref))
  hL : H q.L = some (.lst (v.ls.map V.ref))
  nr : v.rs.length = v.zs.length
  np : v.ps.length = v.zs.length + 1
  nw : v.ws.length = v.zs.length + 1
  nl : v.ls.length = v.zs.length + 1
  ne1 : q.B ≠ q.R
  ne2 : q.B ≠ q.D
  ne3 : q.B ≠ q.L
  ne4 : q.R ≠ q.D
  ne5 : q.R ≠ q.L
  ne6 : q.D ≠ q.L
  cm : ∀ i, i < v.ws.length → CommAt C2 H (v.ps.getD i 0) (v.ws.getD i []) ∧ GoodW (v.ws.getD i [])
  ld : ∀ l ∈ v.ls, ∃ t, LdAt C3 H l t ∧ H t = some (.tup [])
theorem CnAt.same {C1 C2 C3 : Addr} {H H' : Hp} {p : Addr} {q : CnP} {v : CnV} {x y : Int} (c : CnAt C1 C2 C3 H p q v x y) (s : Same H H') : CnAt C1 C2 C3 H' p q v x y :=
  { c with
    ins := c.ins.elim fun d h => ⟨d, s _ _ h⟩
    hB := s _ _ c.hB
    hR := s _ _ c.hR
    hD := s _ _ c.hD
    hL := s _ _ c.hL
    cm := fun i hi => ⟨(c.cm i hi).1.same s, (c.cm i hi).2⟩
    ld := fun l hl => let ⟨t, h1, h2⟩ := c.ld l hl; ⟨t, h1.same s, s _ _ h2⟩ }
def But1 (p : Addr) (H H' : Hp) : Prop := ∀ b o, b ≠ p → H b = some o → H' b = some o
theorem But1.trans {p : Addr} {H H' H'' : Hp} (h : But1 p H H') (g : But1 p H' H'') : But1 p H H'' := fun b o n e => g b o n (h b o n e)
theorem But1.seq {p : Addr} {H H' : Hp} {C dx : Addr} {fs : List (Str × V)} {l : Addr} {xs : List V} (h : But1 p H H') (hp : H p = some (.ins C dx fs)) (s : SqL K H l xs) : SqL K H' l xs := by
  rcases s with (s | ⟨o, s⟩) | s
  · exact .inl (.inl (h _ _ (fun e => by rw [e, hp] at s; cases s) s))
  · exact .inl (.inr ⟨o, h _ _ (fun e => by rw [e, hp] at s; cases s) s⟩)
  · exact .inr s
theorem CommAt.but {C : Addr} {p : Addr} {H H' : Hp} {C1 dx : Addr} {fs : List (Str × V)} {c : Addr} {ws : List Int} (h : CommAt C H c ws) (k : But1 p H H') (n : c ≠ p) (hp : H p = some (.ins C1 dx fs)) : CommAt C H' c ws := by
  obtain ⟨d, t, h1, h2⟩ := h
  exact ⟨d, t, k _ _ n h1, k _ _ (fun e => by rw [e, hp] at h2; cases h2) h2⟩
def spCInit (K : PySem.W.Frag) (C1 C2 C3 : Addr) : Sp := fun vs H Q _ => ∃ (p dx l g : Addr) (ws : List Int) (x y : Int), vs = [.ref p, .ref l, .ref g] ∧ H p = some (.ins C1 dx []) ∧ SqL K H l (ws.map V.int) ∧ GoodW ws ∧ SqL K H g [] ∧
  ∀ q c d H', CnAt C1 C2 C3 H' p q ⟨[], [], [c], [ws], [d]⟩ x y → H q.B = none → H q.R = none → H q.D = none → H q.L = none → (∀ b o, b ≠ p → H b = some o → H' b = some o) → Q .non H'
theorem ok_Chain_init (T : Txt K mg a) : ∃ fd, FnOk P w K mg base CX0 4 a.d_Chain_init fd ["self", "weights", "grants"] (spCInit K a.C_Chain a.C_Committee a.C_Ledger) ∧ Binds K fd ["self", "weights", "grants"] [] := by
  obtain ⟨fd, F, b⟩ := T.d_Chain_init.F
  obtain ⟨fd_Committee_init, G_Committee_init, b_Committee_init⟩ := ok_Committee_init (P := P) (w := w) (base := base) T
  obtain ⟨fd_first_ledger, G_first_ledger, b_first_ledger⟩ := ok_first_ledger (P := P) (w := w) (base := base) T
  refine ⟨fd, F.ok sc_Chain_init (fun vs H Q E h => ?_) (fun cdv A outer s H vs Q E hr h => ?_), b⟩
  · obtain ⟨_, _, _, _, _, _, _, rfl, _⟩ := h
    rfl
  · obtain ⟨p, dx, l, g, ws, x, y, rfl, hp, hl, gw, hg, k⟩ := h
    refine ⟨_, (pss_cons (ps_fld (pv 0) (pe_lst pa_nil) rfl)
      (pss_cons (ps_fld (pv 0) (pe_lst pa_nil) rfl)
      (pss_cons (ps_fld (pv 0) (pe_lst (pa_cons (pe_make T.m_Committee G_Committee_init (hr.mono (by decide)) (by rfl) T.g_Committee b_Committee_init .nil pass0 (pa_cons (pv 1) pa_nil)) pa_nil)) rfl)
      (pss_one (ps_fld (pv 0) (pe_lst (pa_cons (pe_call G_first_ledger (hr.mono (by decide)) rfl T.d_first_ledger.g T.d_first_ledger.kp b_first_ledger .nil pass0 (pa_cons (pv 2) pa_nil)) pa_nil)) rfl))))), ?_⟩
    walk_at "rs"
    refine ⟨(by show 0 ≤ sizeLine; decide), fun B hB => ?_⟩
    have pB : p ≠ B := fun e => by rw [e, hB] at hp; cases hp
    walk_at "rs"
    refine ⟨p, _, dx, [], rfl, (by rw [upd_ne pB]; exact hp), T.cl_Chain, T.a_Chain_blocks, (by show 0 < 1000; decide), ?_⟩
    have k1 : But1 p H (upd (upd H B (.lst [])) p (.ins a.C_Chain dx (putF "blocks" (.ref B) []))) := fun b o n e => by
      rw [upd_ne n, upd_ne (fun q => by rw [q, hB] at e; cases e)]
      exact e
    have hB1 : (upd (upd H B (.lst [])) p (.ins a.C_Chain dx (putF "blocks" (.ref B) []))) B = some (.lst []) := by rw [upd_ne pB.symm, upd_same]
    have hp1 : (upd (upd H B (.lst [])) p (.ins a.C_Chain dx (putF "blocks" (.ref B) []))) p = some (.ins a.C_Chain dx [("blocks", .ref B)]) := by rw [upd_same]; rfl
    generalize (upd (upd H B (.lst [])) p (.ins a.C_Chain dx (putF "blocks" (.ref B) []))) = H1 at k1 hB1 hp1 ⊢
    walk_at "rs"
    refine ⟨(by show 0 ≤ sizeLine; decide), fun R hR => ?_⟩
    have pR : p ≠ R := fun e => by rw [e, hR] at hp1; cases hp1
    have BR : B ≠ R := fun e => by rw [e, hR] at hB1; cases hB1
    walk_at "rs"
    refine ⟨p, _, dx, _, rfl, (by rw [upd_ne pR]; exact hp1), T.cl_Chain, T.a_Chain_receipts, (by show 1 < 1000; decide), ?_⟩
    have k2 : But1 p H1 (upd (upd H1 R (.lst [])) p (.ins a.C_Chain dx (putF "receipts" (.ref R) [("blocks", .ref B)]))) := fun b o n e => by
      rw [upd_ne n, upd_ne (fun q => by rw [q, hR] at e; cases e)]
      exact e
    have hR2 : (upd (upd H1 R (.lst [])) p (.ins a.C_Chain dx (putF "receipts" (.ref R) [("blocks", .ref B)]))) R = some (.lst []) := by rw [upd_ne pR.symm, upd_same]
    have hp2 : (upd (upd H1 R (.lst [])) p (.ins a.C_Chain dx (putF "receipts" (.ref R) [("blocks", .ref B)]))) p = some (.ins a.C_Chain dx [("blocks", .ref B), ("receipts", .ref R)]) := by rw [upd_same]; rfl
    generalize (upd (upd H1 R (.lst [])) p (.ins a.C_Chain dx (putF "receipts" (.ref R) [("blocks", .ref B)]))) = H2 at k2 hR2 hp2 ⊢
    have k12 := k1.trans k2
    have hB2 := k2 _ _ pB.symm hB1
    walk_at "rs"
    intro c dc hc hdc ndc
    have sM : Same H2 (upd (upd H2 dc (.own c)) c (.ins a.C_Committee dc [])) := same_upd (same_new hdc) hc
    refine ⟨c, dc, l, ws, rfl, upd_same, sM.seq (k12.seq hp hl), gw, fun H3 hcm keep => ⟨rfl, ?_⟩⟩
    have s3 : Same H2 H3 := fun b o e => keep b o (sM _ _ e) (fun q => by rw [q, hc] at e; cases e)
    walk_at "rs"
    refine ⟨(by show 1 ≤ sizeLine; decide), fun D hD => ?_⟩
    have hp3 := s3 _ _ hp2
    have pD : p ≠ D := fun e => by rw [e, hD] at hp3; cases hp3
    have BD : B ≠ D := fun e => by rw [← e, s3 _ _ hB2] at hD; cases hD
    have RD : R ≠ D := fun e => by rw [← e, s3 _ _ hR2] at hD; cases hD
    walk_at "rs"
    refine ⟨p, _, dx, _, rfl, (by rw [upd_ne pD]; exact hp3), T.cl_Chain, T.a_Chain_committees, (by show 2 < 1000; decide), ?_⟩
    have k4 : But1 p H3 (upd (upd H3 D (.lst [V.ref c])) p (.ins a.C_Chain dx (putF "committees" (.ref D) [("blocks", .ref B), ("receipts", .ref R)]))) := fun b o n e => by
      rw [upd_ne n, upd_ne (fun q => by rw [q, hD] at e; cases e)]
      exact e
    have hD4 : (upd (upd H3 D (.lst [V.ref c])) p (.ins a.C_Chain dx (putF "committees" (.ref D) [("blocks", .ref B), ("receipts", .ref R)]))) D = some (.lst [V.ref c]) := by rw [upd_ne pD.symm, upd_same]
    have hp4 : (upd (upd H3 D (.lst [V.ref c])) p (.ins a.C_Chain dx (putF "committees" (.ref D) [("blocks", .ref B), ("receipts", .ref R)]))) p = some (.ins a.C_Chain dx [("blocks", .ref B), ("receipts", .ref R), ("committees", .ref D)]) := by rw [upd_same]; rfl
    have pc : c ≠ p := fun e => by rw [e, hp2] at hc; cases hc
    have hcm4 := hcm.but k4 pc hp3
    generalize (upd (upd H3 D (.lst [V.ref c])) p (.ins a.C_Chain dx (putF "committees" (.ref D) [("blocks", .ref B), ("receipts", .ref R)]))) = H4 at k4 hD4 hp4 hcm4 ⊢
    have k3 : But1 p H2 H3 := fun b o _ e => s3 _ _ e
    have k14 := (k12.trans k3).trans k4
    have hB4 := k4 _ _ pB.symm (s3 _ _ hB2)
    have hR4 := k4 _ _ pR.symm (s3 _ _ hR2)
    walk_at "rs"
    refine ⟨g, x, y, rfl, k14.seq hp hg, fun d t H5 s5 hd0 hld ht => ?_⟩
    walk_at "rs"
    refine ⟨(by show 1 ≤ sizeLine; decide), fun L hL => ?_⟩
    have hp5 := s5 _ _ hp4
    have pL : p ≠ L := fun e => by rw [e, hL] at hp5; cases hp5
    have BL : B ≠ L := fun e => by rw [← e, s5 _ _ hB4] at hL; cases hL
    have RL : R ≠ L := fun e => by rw [← e, s5 _ _ hR4] at hL; cases hL
    have DL : D ≠ L := fun e => by rw [← e, s5 _ _ hD4] at hL; cases hL
    walk_at "rs"
    refine ⟨p, _, dx, _, rfl, (by rw [upd_ne pL]; exact hp5), T.cl_Chain, T.a_Chain_ledgers, (by show 3 < 1000; decide), ?_⟩
    have k6 : But1 p H5 (upd (upd H5 L (.lst [V.ref d])) p (.ins a.C_Chain dx (putF "ledgers" (.ref L) [("blocks", .ref B), ("receipts", .ref R), ("committees", .ref D)]))) := fun b o n e => by
      rw [upd_ne n, upd_ne (fun q => by rw [q, hL] at e; cases e)]
      exact e
    have hL6 : (upd (upd H5 L (.lst [V.ref d])) p (.ins a.C_Chain dx (putF "ledgers" (.ref L) [("blocks", .ref B), ("receipts", .ref R), ("committees", .ref D)]))) L = some (.lst [V.ref d]) := by rw [upd_ne pL.symm, upd_same]
    have hp6 : (upd (upd H5 L (.lst [V.ref d])) p (.ins a.C_Chain dx (putF "ledgers" (.ref L) [("blocks", .ref B), ("receipts", .ref R), ("committees", .ref D)]))) p = some (.ins a.C_Chain dx [("blocks", .ref B), ("receipts", .ref R), ("committees", .ref D), ("ledgers", .ref L)]) := by rw [upd_same]; rfl
    generalize (upd (upd H5 L (.lst [V.ref d])) p (.ins a.C_Chain dx (putF "ledgers" (.ref L) [("blocks", .ref B), ("receipts", .ref R), ("committees", .ref D)]))) = H6 at k6 hL6 hp6 ⊢
    have k5 : But1 p H4 H5 := fun b o _ e => s5 _ _ e
    have kAll := (k14.trans k5).trans k6
    have hcm6 := (hcm4.same s5).but k6 pc hp5
    have dp : d ≠ p := fun e => by rw [e, hp4] at hd0; cases hd0
    have fr : ∀ {b : Addr} {Hx : Hp}, But1 p H Hx → b ≠ p → Hx b = none → H b = none := fun {b Hx} kx n e => by
      cases q : H b with
      | none => rfl
      | some o => rw [kx _ _ n q] at e; cases e
    refine k ⟨B, R, D, L⟩ c d H6 ⟨⟨dx, hp6⟩, k6 _ _ pB.symm (s5 _ _ hB4), k6 _ _ pR.symm (s5 _ _ hR4), k6 _ _ pD.symm (s5 _ _ hD4), hL6, rfl, rfl, rfl, rfl, BR, BD, BL, RD, RL, DL, fun i hi => ?_, fun z hz => ?_⟩ hB (fr k1 pR.symm hR) (fr (k12.trans k3) pD.symm hD) (fr (k14.trans k5) pL.symm hL) kAll
    · have : i = 0 := Nat.lt_one_iff.mp hi
      rw [this]
      exact ⟨hcm6, gw⟩
    · rw [List.mem_singleton.mp hz]
      obtain ⟨dd, c2, c3, h⟩ := hld
      exact ⟨t, ⟨dd, c2, c3, k6 _ _ dp h⟩, k6 _ _ (fun e => by rw [e, hp5] at ht; cases ht) ht⟩
def spCHeight (C1 C2 C3 : Addr) : Sp := fun vs H Q _ => ∃ (p : Addr) (q : CnP) (v : CnV) (x y : Int), vs = [.ref p] ∧ CnAt C1 C2 C3 H p q v x y ∧ Q (.int v.zs.length) H
theorem ok_Chain_height (T : Txt K mg a) : ∃ fd, FnOk P w K mg base CX0 1 a.d_Chain_height fd ["self"] (spCHeight a.C_Chain a.C_Committee a.C_Ledger) ∧ Binds K fd ["self"] [] := by
  obtain ⟨fd, F, b⟩ := T.d_Chain_height.F
  refine ⟨fd, F.ok sc_Chain_height (fun vs H Q E h => ?_) (fun cdv A outer s H vs Q E hr h => ?_), b⟩
  · obtain ⟨_, _, _, _, _, rfl, _⟩ := h
    rfl
  · obtain ⟨p, q, v, x, y, rfl, c, k⟩ := h
    obtain ⟨dx, hp⟩ := c.ins
    refine ⟨_, (pss_one (ps_ret (pe_callB call_len_seq (by rfl) T.n_len PySem.boot_len (pa_cons (pe_fld (pv 0) rfl) pa_nil)))), ?_⟩
    walk_at "rs"
    refine ⟨p, _, dx, _, .ref q.B, rfl, hp, T.cl_Chain, T.a_Chain_blocks, rfl, ?_⟩
    walk_at "rs"
    refine ⟨q.B, _, rfl, .inl (SqL.of c.hB), ?_⟩
    rw [List.length_map]
    exact k
def spCComm (C1 C2 C3 : Addr) : Sp := fun vs H Q _ => ∃ (p : Addr) (q : CnP) (v : CnV) (x y : Int), vs = [.ref p] ∧ CnAt C1 C2 C3 H p q v x y ∧ Q (.ref (v.ps.getD v.zs.length 0)) H
theorem at_last {α : Type} {xs : List α} {d : α} {n : Nat} (h : xs.length = n + 1) : atI xs (-1) = some (xs.getD n d) := by
  have ne : xs ≠ [] := fun e => by rw [e] at h; cases h
  have e := List.dropLast_concat_getLast ne
  rw [← e, atI_last]
  congr 1
  have l : xs.dropLast.length = n := by rw [List.length_dropLast]; omega
  rw [List.getD_eq_getElem?_getD, List.getElem?_append_right (Nat.le_of_eq l), l, Nat.sub_self]
  rfl
theorem map_getD {ps : List Addr} {n : Nat} (h : n < ps.length) : (ps.map V.ref).getD n .non = .ref (ps.getD n 0) := by
  rw [List.getD_eq_getElem?_getD, List.getD_eq_getElem?_getD, List.getElem?_map, List.getElem?_eq_getElem h]
  rfl
theorem ok_Chain_committee (T : Txt K mg a) : ∃ fd, FnOk P w K mg base CX0 1 a.d_Chain_committee fd ["self"] (spCComm a.C_Chain a.C_Committee a.C_Ledger) ∧ Binds K fd ["self"] [] := by
  obtain ⟨fd, F, b⟩ := T.d_Chain_committee.F
  refine ⟨fd, F.ok sc_Chain_committee (fun vs H Q E h => ?_) (fun cdv A outer s H vs Q E hr h => ?_), b⟩
  · obtain ⟨_, _, _, _, _, rfl, _⟩ := h
    rfl
  · obtain ⟨p, q, v, x, y, rfl, c, k⟩ := h
    obtain ⟨dx, hp⟩ := c.ins
    refine ⟨_, (pss_one (ps_ret (pe_ix ix_list (pe_fld (pv 0) rfl) (pe_un un_neg pe_int) (fun _ _ => rfl)))), ?_⟩
    walk_at "rs"
    refine ⟨p, _, dx, _, .ref q.D, rfl, hp, T.cl_Chain, T.a_Chain_committees, rfl, ?_⟩
    walk_at "rs"
    have e : atI (v.ps.map V.ref) (-1) = some (.ref (v.ps.getD v.zs.length 0)) := by
      rw [at_last (d := .non) (n := v.zs.length) (by rw [List.length_map]; exact c.np), map_getD (by have := c.np; omega)]
    refine ⟨q.D, _, _, _, rfl, rfl, SqL.of c.hD, e, ?_⟩
    exact k


def afterW (ws : List Int) (m v : Int) : List Int := if (ws.length : Int) ≤ m ∨ v < 1 then ws else ws.set m.toNat v
theorem afterW_len (ws : List Int) (m v : Int) : (afterW ws m v).length = ws.length := by
  unfold afterW
  split
  · rfl
  · rw [List.length_set]
theorem afterW_good {ws : List Int} {m v : Int} (g : GoodW ws) (hv : NOk v) : GoodW (afterW ws m v) := by
  unfold afterW
  split
  · exact g
  · rename_i c
    refine ⟨by rw [List.length_set]; exact g.1, by rw [List.length_set]; exact g.2.1, fun x hx => ?_⟩
    rcases List.mem_or_eq_of_mem_set hx with h | h
    · exact g.2.2 x h
    · rw [h]
      have := hv.2
      omega
def spAW (K : PySem.W.Frag) : Sp := fun vs H Q _ => ∃ (t c : Addr) (ws : List Int) (m v : Int), vs = [.ref t, .ref c] ∧ H t = some (.tup (ws.map V.int)) ∧ GoodW ws ∧ CmAt H c (.w m v) ∧ NOk m ∧ NOk v ∧
  ∀ q t' b H', Same H H' → H' q = some (.tup [.ref t', .bl b]) → H' t' = some (.tup ((afterW ws m v).map V.int)) → Q (.ref q) H'
theorem ok_after_weight (T : Txt K mg a) : ∃ fd, FnOk P w K mg base CX0 1 a.d_after_weight fd ["weights", "command"] (spAW K) ∧ Binds K fd ["weights", "command"] [] := by
  obtain ⟨fd, F, b⟩ := T.d_after_weight.F
  refine ⟨fd, F.ok sc_after_weight (fun vs H Q E h => ?_) (fun cdv A outer s H vs Q E hr h => ?_), b⟩
  · obtain ⟨_, _, _, _, _, rfl, _⟩ := h
    rfl
  · obtain ⟨t, c, ws, m, v, rfl, ht, gw, hc, om, ov, k⟩ := h
    have hc' : H c = some (.tup [.str "w", .int m, .int v]) := hc
    refine ⟨_, (pss_cons (ps_asg (pv 1) (pg_tup rfl (pgs_cons (pg_name (i := 2) sc_after_weight.nd rfl (Or.inl rfl)) (pgs_cons (pg_name (i := 3) sc_after_weight.nd rfl (Or.inl rfl)) (pgs_cons (pg_name (i := 4) sc_after_weight.nd rfl (Or.inl rfl)) pgs_nil)))))
      (pss_cons (ps_if (PW.pt (pw_or (pt_cmpR op_ge (pv 3) (pe_callB call_len_seq (by rfl) T.n_len PySem.boot_len (pa_cons (pv 0) pa_nil)) (nomark _)) (pw_or1 (pt_cmpR op_lt (pv 4) pe_int (nomark _)))))
      (pss_one (ps_ret (pe_tup (pa_cons (pv 0) (pa_cons pe_bl pa_nil)))))
      pss_nil)
      (pss_one (ps_ret (pe_tup (pa_cons (pe_op op_catA (pe_op op_catA (pe_slice sl_tup (pv 0) po_none (po_some (pv 3))) (pe_tup (pa_cons (pv 4) pa_nil))) (pe_slice sl_tup (pv 0) (po_some (pe_op op_add (pv 3) pe_int)) po_none)) (pa_cons pe_bl pa_nil))))))), ?_⟩
    walk_at "rs"
    refine ⟨c, _, rfl, SqT.of hc', rfl, ?_⟩
    refine ⟨_, _, rfl, _, _, rfl, _, _, rfl, rfl, ?_⟩
    walk_at "rs"
    refine ⟨t, _, rfl, .inr (SqT.of ht), ?_⟩
    have ln : (ws.map V.int).length = ws.length := List.length_map _
    rw [ln]
    have g2 := gw.2.1
    have no : (ws.length : Int) ≤ m ∨ v < 1 → ∀ q, H q = none → Q (.ref q) (upd H q (.tup [.ref t, .bl false])) := fun h q hq => by
      refine k q t false _ (same_new hq) upd_same ?_
      unfold afterW
      rw [if_pos h]
      exact same_new hq _ _ ht
    walk_at "rs"
    refine ite2 (fun c1 => ?_) (fun c1 => ?_)
    · have c1 : (ws.length : Int) ≤ m := by simpa using c1
      walk_at "rs"
      exact ⟨(by show 2 ≤ sizeLine; decide), no (.inl c1)⟩
    have c1 : ¬ (ws.length : Int) ≤ m := by simpa using c1
    walk_at "rs"
    refine ite2 (fun c2 => ?_) (fun c2 => ?_)
    · have c2 : v < 1 := by simpa using c2
      walk_at "rs"
      exact ⟨(by show 2 ≤ sizeLine; decide), no (.inr c2)⟩
    have c2 : ¬ v < 1 := by simpa using c2
    clear no
    have ea : afterW ws m v = ws.set m.toNat v := by
      unfold afterW
      rw [if_neg (by omega)]
    rw [ea] at k
    obtain ⟨j, rfl⟩ : ∃ j : Nat, m = (j : Int) := ⟨m.toNat, by have := om.1; omega⟩
    rw [Int.toNat_natCast] at k
    have hj : j < ws.length := by omega
    have nw1 : ¬ (HT.sIx (ws.map V.int).length 0 none = 0 ∧ HT.sIx (ws.map V.int).length (ws.map V.int).length (some (j : Int)) = (ws.map V.int).length) := by
      rw [HT.sIx_nat]
      omega
    have nw2 : ¬ (HT.sIx (ws.map V.int).length 0 (some ((j : Int) + 1)) = 0 ∧ HT.sIx (ws.map V.int).length (ws.map V.int).length none = (ws.map V.int).length) := by
      rw [show (j : Int) + 1 = ((j + 1 : Nat) : Int) from rfl, HT.sIx_nat]
      omega
    have hput : cutV (ws.map V.int) none (some (j : Int)) ++ [V.int v] ++ cutV (ws.map V.int) (some ((j : Int) + 1)) none = (ws.set j v).map V.int := by
      unfold cutV
      rw [show (j : Int) + 1 = ((j + 1 : Nat) : Int) from rfl, HT.sIx_nat, HT.sIx_nat, HT.sIx_none, HT.sIx_none, ln, Nat.min_eq_left (Nat.le_of_lt hj), Nat.min_eq_left hj, Nat.sub_zero, List.drop_zero, List.take_of_length_le (l := (ws.map V.int).drop (j + 1)) (by rw [List.length_drop, ln]; exact Nat.le_refl _), List.map_set, List.set_eq_take_append_cons_drop, if_pos (by rw [ln]; exact hj), List.append_assoc]
      rfl
    have lA := cutV_length (ws.map V.int) none (some (j : Int))
    have lC := cutV_length (ws.map V.int) (some ((j : Int) + 1)) none
    rw [ln] at lA lC
    walk_at "rs"
    refine ⟨t, _, rfl, SqT.of ht, nw1, fun q1 hq1 => ?_⟩
    generalize cutV (ws.map V.int) none (some (j : Int)) = A at hput lA
    have s1 := same_new (o := .tup A) hq1
    have h1 : (upd H q1 (.tup A)) q1 = some (.tup A) := upd_same
    generalize upd H q1 (.tup A) = H1 at s1 h1 ⊢
    walk_at "rs"
    refine ⟨(by show 1 ≤ sizeLine; decide), fun q2 hq2 => ?_⟩
    have s2 := same_new (o := .tup [V.int v]) hq2
    have h2 : (upd H1 q2 (.tup [V.int v])) q2 = some (.tup [V.int v]) := upd_same
    have h12 := s2 _ _ h1
    generalize upd H1 q2 (.tup [V.int v]) = H2 at s2 h2 h12 ⊢
    refine ⟨q1, q2, _, _, rfl, rfl, SqT.of h12, SqT.of h2, by rw [sizeLine_eq]; show A.length + 1 ≤ _; omega, fun h => ?_, fun _ h => (nomatch h), fun _ _ q3 hq3 => ?_⟩
    · have h3 : H2 q2 = some (.tup (A ++ [V.int v])) := by rw [h]; exact h2
      have s3 : Same H H2 := s1.trans s2
      generalize H2 = H3 at s3 h3 ⊢
      walk_at "rs"
      refine ⟨t, _, rfl, SqT.of (s3 _ _ ht), nw2, fun q4 hq4 => ?_⟩
      generalize cutV (ws.map V.int) (some ((j : Int) + 1)) none = C at hput lC
      have s4 := same_new (o := .tup C) hq4
      have h4 : (upd H3 q4 (.tup C)) q4 = some (.tup C) := upd_same
      have h34 := s4 _ _ h3
      generalize upd H3 q4 (.tup C) = H4 at s4 h4 h34 ⊢
      have s04 := s3.trans s4
      refine ⟨q2, q4, A ++ [V.int v], C, rfl, rfl, SqT.of h34, SqT.of h4, by rw [List.length_append, sizeLine_eq]; show A.length + 1 + C.length ≤ _; omega, fun h => absurd (congrArg List.length h) (by simp), fun _ h => ?_, fun _ _ q5 hq5 => ?_⟩
      · rw [h, List.append_nil] at hput
        rw [hput] at h34
        walk_at "rs"
        refine ⟨(by show 2 ≤ sizeLine; decide), fun r hr => ?_⟩
        exact k r q2 true _ (s04.trans (same_new hr)) upd_same (same_new hr _ _ h34)
      · have s5 := same_new (o := .tup (A ++ [V.int v] ++ C)) hq5
        have h5 : (upd H4 q5 (.tup (A ++ [V.int v] ++ C))) q5 = some (.tup (A ++ [V.int v] ++ C)) := upd_same
        generalize upd H4 q5 (.tup (A ++ [V.int v] ++ C)) = H5 at s5 h5 ⊢
        rw [hput] at h5
        walk_at "rs"
        refine ⟨(by show 2 ≤ sizeLine; decide), fun r hr => ?_⟩
        exact k r q5 true _ ((s04.trans s5).trans (same_new hr)) upd_same (same_new hr _ _ h5)
    · have h3 : (upd H2 q3 (.tup (A ++ [V.int v]))) q3 = some (.tup (A ++ [V.int v])) := upd_same
      have s3 : Same H (upd H2 q3 (.tup (A ++ [V.int v]))) := (s1.trans s2).trans (same_new hq3)
      generalize upd H2 q3 (.tup (A ++ [V.int v])) = H3 at s3 h3 ⊢
      walk_at "rs"
      refine ⟨t, _, rfl, SqT.of (s3 _ _ ht), nw2, fun q4 hq4 => ?_⟩
      generalize cutV (ws.map V.int) (some ((j : Int) + 1)) none = C at hput lC
      have s4 := same_new (o := .tup C) hq4
      have h4 : (upd H3 q4 (.tup C)) q4 = some (.tup C) := upd_same
      have h34 := s4 _ _ h3
      generalize upd H3 q4 (.tup C) = H4 at s4 h4 h34 ⊢
      have s04 := s3.trans s4
      refine ⟨q3, q4, A ++ [V.int v], C, rfl, rfl, SqT.of h34, SqT.of h4, by rw [List.length_append, sizeLine_eq]; show A.length + 1 + C.length ≤ _; omega, fun h => absurd (congrArg List.length h) (by simp), fun _ h => ?_, fun _ _ q5 hq5 => ?_⟩
      · rw [h, List.append_nil] at hput
        rw [hput] at h34
        walk_at "rs"
        refine ⟨(by show 2 ≤ sizeLine; decide), fun r hr => ?_⟩
        exact k r q3 true _ (s04.trans (same_new hr)) upd_same (same_new hr _ _ h34)
      · have s5 := same_new (o := .tup (A ++ [V.int v] ++ C)) hq5
        have h5 : (upd H4 q5 (.tup (A ++ [V.int v] ++ C))) q5 = some (.tup (A ++ [V.int v] ++ C)) := upd_same
        generalize upd H4 q5 (.tup (A ++ [V.int v] ++ C)) = H5 at s5 h5 ⊢
        rw [hput] at h5
        walk_at "rs"
        refine ⟨(by show 2 ≤ sizeLine; decide), fun r hr => ?_⟩
        exact k r q5 true _ ((s04.trans s5).trans (same_new hr)) upd_same (same_new hr _ _ h5)
/-- the weights behind commands -/
def rew (ws : List Int) (cs : List Cm) : List Int := cs.foldl (fun u c => match c with | .w m v => afterW u m v | _ => u) ws
def onlyW (cs : List Cm) : Prop := ∀ c ∈ cs, ∃ m v, c = .w m v ∧ NOk m ∧ NOk v
theorem rew_snoc (ws : List Int) (cs : List Cm) (m v : Int) : rew ws (cs ++ [.w m v]) = afterW (rew ws cs) m v := by
  unfold rew
  rw [List.foldl_append]
  rfl
theorem rew_good {ws : List Int} (g : GoodW ws) : ∀ {cs : List Cm}, onlyW cs → GoodW (rew ws cs) := by
  intro cs
  induction cs generalizing ws with
  | nil => exact fun _ => g
  | cons c cs ih =>
    intro o
    obtain ⟨m, v, rfl, _, hv⟩ := o c List.mem_cons_self
    exact ih (afterW_good g hv) fun x hx => o x (List.mem_cons_of_mem _ hx)
/-- all but what a chain may change stays -/
def ButC (q : CnP) (H H' : Hp) : Prop := ∀ b o, b ≠ q.B → b ≠ q.R → b ≠ q.D → b ≠ q.L → H b = some o → H' b = some o
theorem getD_memC {α : Type} {d : α} {xs : List α} {i : Nat} (h : i < xs.length) : xs.getD i d ∈ xs := by
  rw [List.getD_eq_getElem?_getD, List.getElem?_eq_getElem h]
  exact List.getElem_mem h
theorem take_snocC {α : Type} {d : α} {xs : List α} {i : Nat} (h : i < xs.length) : xs.take (i + 1) = xs.take i ++ [xs.getD i d] := by
  rw [List.take_add_one, List.getElem?_eq_getElem h, List.getD_eq_getElem?_getD, List.getElem?_eq_getElem h]
  rfl
theorem getD_app {α : Type} {d : α} {xs ys : List α} {i : Nat} (h : i < xs.length) : (xs ++ ys).getD i d = xs.getD i d := by
  rw [List.getD_eq_getElem?_getD, List.getD_eq_getElem?_getD, List.getElem?_append_left h]
theorem getD_end {α : Type} {d x : α} {xs : List α} : (xs ++ [x]).getD xs.length d = x := by
  rw [List.getD_eq_getElem?_getD, List.getElem?_append_right (Nat.le_refl _), Nat.sub_self]
  rfl
def NL (o : HO) : Prop := ∀ xs, o ≠ .lst xs
theorem ButC.nl {C1 C2 C3 : Addr} {H H' : Hp} {p : Addr} {q : CnP} {v : CnV} {x y : Int} (k : ButC q H H') (c : CnAt C1 C2 C3 H p q v x y) {b : Addr} {o : HO} (h : H b = some o) (n : NL o) : H' b = some o := by
  refine k b o (fun e => ?_) (fun e => ?_) (fun e => ?_) (fun e => ?_) h
  · rw [e, c.hB] at h; exact n _ (Option.some.inj h).symm
  · rw [e, c.hR] at h; exact n _ (Option.some.inj h).symm
  · rw [e, c.hD] at h; exact n _ (Option.some.inj h).symm
  · rw [e, c.hL] at h; exact n _ (Option.some.inj h).symm
def spExtend (C1 C2 C3 : Addr) : Sp := fun vs H Q _ => ∃ (p : Addr) (q : CnP) (v : CnV) (x y : Int) (z : Str), vs = [.ref p, .str z] ∧ CnAt C1 C2 C3 H p q v x y ∧ z.length ≤ 1000 ∧ onlyW (cmdsOf z) ∧ v.zs.length ≤ 900 ∧
  ∀ r c H', CnAt C1 C2 C3 H' p q ⟨v.zs ++ [z], v.rs ++ [r], v.ps ++ [c], v.ws ++ [rew (v.ws.getD v.zs.length []) (cmdsOf z)], v.ls ++ [v.ls.getD v.zs.length 0]⟩ x y → ButC q H H' → Q .non H'
theorem ok_Chain_extend (TE : TxtE w K mg a) (T : Txt K mg a) : ∃ fd, FnOk P w K mg base CX0 5 a.d_Chain_extend fd ["self", "block"] (spExtend a.C_Chain a.C_Committee a.C_Ledger) ∧ Binds K fd ["self", "block"] [] := by
  obtain ⟨fd, F, b⟩ := T.d_Chain_extend.F
  obtain ⟨fd_commands_of, G_commands_of, b_commands_of⟩ := ok_commands_of (P := P) (w := w) (base := base) TE T
  obtain ⟨fd_Chain_committee, G_Chain_committee, b_Chain_committee⟩ := ok_Chain_committee (P := P) (w := w) (base := base) T
  obtain ⟨fd_Committee_init, G_Committee_init, b_Committee_init⟩ := ok_Committee_initT (P := P) (w := w) (base := base) T
  obtain ⟨fd_after_weight, G_after_weight, b_after_weight⟩ := ok_after_weight (P := P) (w := w) (base := base) T
  refine ⟨fd, F.ok sc_Chain_extend (fun vs H Q E h => ?_) (fun cdv A outer s H vs Q E hr h => ?_), b⟩
  · obtain ⟨_, _, _, _, _, _, rfl, _⟩ := h
    rfl
  · obtain ⟨p, q, v, x, y, z, rfl, c, lz, ow, few, k⟩ := h
    obtain ⟨dx, hp⟩ := id c.ins
    refine ⟨_, (pss_cons (ps_set (i := 2) sc_Chain_extend.nd rfl (Or.inl rfl) (pe_fld (pe_meth0 (pv 0) T.cl_Chain T.me_Chain_committee G_Chain_committee (hr.mono (by decide)) b_Chain_committee .nil pass0) rfl))
      (pss_cons (ps_set (i := 3) sc_Chain_extend.nd rfl (Or.inl rfl) (pe_ix ix_list (pe_fld (pv 0) rfl) (pe_un un_neg pe_int) (fun _ _ => rfl)))
      (pss_cons (ps_set (i := 4) sc_Chain_extend.nd rfl (Or.inl rfl) (pe_lst pa_nil))
      (pss_cons (ps_for PassesOwn.never rfl (pi_list (pe_call G_commands_of (hr.mono (by decide)) rfl T.d_commands_of.g T.d_commands_of.kp b_commands_of .nil pass0 (pa_cons (pv 1) pa_nil))) (pg_name (i := 5) sc_Chain_extend.nd rfl (Or.inl rfl))
      (pss_cons (ps_if (pt_cmpR op_eq (pe_ix ix_tup (pv 5) pe_int (fun _ _ => rfl)) pe_str (nomark _))
        (pss_one (ps_asg (pe_call G_after_weight (hr.mono (by decide)) rfl T.d_after_weight.g T.d_after_weight.kp b_after_weight .nil pass0 (pa_cons (pv 2) (pa_cons (pv 5) pa_nil))) (pg_tup rfl (pgs_cons (pg_name (i := 2) sc_Chain_extend.nd rfl (Or.inl rfl)) (pgs_cons (pg_name (i := 6) sc_Chain_extend.nd rfl (Or.inl rfl)) pgs_nil)))))
        (pss_one ps_never))
        (pss_one (ps_expr (pe_bm PySem.F.plainAttrs_list PySem.F.slot_list_append PySem.F.type_list_append mt_append (pv 4) (pa_cons (pv 6) pa_nil))))))
      (pss_cons (ps_expr (pe_bm PySem.F.plainAttrs_list PySem.F.slot_list_append PySem.F.type_list_append mt_append (pe_fld (pv 0) rfl) (pa_cons (pv 1) pa_nil)))
      (pss_cons (ps_expr (pe_bm PySem.F.plainAttrs_list PySem.F.slot_list_append PySem.F.type_list_append mt_append (pe_fld (pv 0) rfl) (pa_cons (pe_callTy call_tuple_of (by rfl) T.n_tuple (by decide +kernel) (pa_cons (pv 4) pa_nil)) pa_nil)))
      (pss_cons (ps_expr (pe_bm PySem.F.plainAttrs_list PySem.F.slot_list_append PySem.F.type_list_append mt_append (pe_fld (pv 0) rfl) (pa_cons (pe_make T.m_Committee G_Committee_init (hr.mono (by decide)) (by rfl) T.g_Committee b_Committee_init .nil pass0 (pa_cons (pv 2) pa_nil)) pa_nil)))
      (pss_one (ps_expr (pe_bm PySem.F.plainAttrs_list PySem.F.slot_list_append PySem.F.type_list_append mt_append (pe_fld (pv 0) rfl) (pa_cons (pv 3) pa_nil))))))))))), ?_⟩
    walk_at "rs"
    refine ⟨p, dx, _, rfl, hp, rfl, ?_⟩
    walk_at "rs"
    refine ⟨p, q, v, x, y, rfl, c, ?_⟩
    obtain ⟨⟨dc, t, hc1, hc2⟩, gw⟩ := c.cm v.zs.length (by have := c.nw; omega)
    walk_at "rs"
    refine ⟨_, _, dc, _, .ref t, rfl, hc1, T.cl_Committee, T.a_Committee_weights, cfs_w _ _, ?_⟩
    walk_at "rs"
    refine ⟨p, _, dx, _, .ref q.L, rfl, hp, T.cl_Chain, T.a_Chain_ledgers, rfl, ?_⟩
    walk_at "rs"
    have eL : atI (v.ls.map V.ref) (-1) = some (.ref (v.ls.getD v.zs.length 0)) := by
      rw [at_last (d := .non) (n := v.zs.length) (by rw [List.length_map]; exact c.nl), map_getD (by have := c.nl; omega)]
    refine ⟨q.L, _, _, _, rfl, rfl, SqL.of c.hL, eL, ?_⟩
    walk_at "rs"
    refine ⟨(by show 0 ≤ sizeLine; decide), fun rl hrl => ?_⟩
    have s1 := same_new (o := .lst []) hrl
    have hrl1 : (upd H rl (.lst [])) rl = some (.lst (([] : List Bool).map V.bl)) := upd_same
    generalize upd H rl (.lst []) = H1 at s1 hrl1 ⊢
    walk_at "rs"
    refine ⟨lz, fun u cps H2 s2 hu0 hu hcs => ?_⟩
    have ncs := hcs.1
    have lcs := cmdsOf_long z
    have url : u ≠ rl := fun e => by rw [e, hrl1] at hu0; cases hu0
    generalize cmdsOf z = cs at ow hcs ncs lcs k
    generalize hw0 : v.ws.getD v.zs.length [] = ws0 at gw hc2 k
    refine ⟨u, rfl, ⟨_, SqL.of hu⟩, for_list (K := K) (a := u) (xs := cps.map V.ref) (fun i σ H3 => ∃ (t' : Addr) (v5 v6 : Option V) (bs : List Bool), σ = [some (.ref p), some (.str z), some (.ref t'), some (.ref (v.ls.getD v.zs.length 0)), some (.ref rl), v5, v6] ∧ Same H H3 ∧ H3 rl = some (.lst (bs.map V.bl)) ∧ bs.length = i ∧
        H3 u = some (.lst (cps.map V.ref)) ∧ CmsAt H3 cps cs ∧ H3 t' = some (.tup ((rew ws0 (cs.take i)).map V.int)))
      ⟨t, _, _, [], rfl, s1.trans s2, s2 _ _ hrl1, rfl, hu, hcs, s2 _ _ (s1 _ _ hc2)⟩ (fun i σ H3 _ ⟨_, _, _, _, _, _, _, _, h, _⟩ => SqL.of h) ?_ ?_⟩
    · rintro i y' σ H3 hy ⟨t', v5, v6, bs, rfl, s3, hr3, lb, hu3, hc3, ht3⟩
      have hi : i < cps.length := by
        have e := (List.getElem?_eq_some_iff.mp hy).1
        rwa [List.length_map] at e
      rw [List.getElem?_map, List.getElem?_eq_getElem hi] at hy
      cases hy
      have hi' : i < cs.length := by omega
      have hcm := hc3.2 i hi'
      obtain ⟨m, vv, ec, om, ov⟩ := ow _ (getD_memC (d := default) hi')
      have et : cs.take (i + 1) = cs.take i ++ [.w m vv] := by rw [take_snocC (d := default) hi', ec]
      have ea : cps.getD i 0 = cps[i] := by rw [List.getD_eq_getElem?_getD, List.getElem?_eq_getElem hi]; rfl
      rw [ec, ea] at hcm
      have hcm' : H3 cps[i] = some (.tup [.str "w", .int m, .int vv]) := hcm
      have gi : GoodW (rew ws0 (cs.take i)) := rew_good gw fun c hc => ow c (List.mem_of_mem_take hc)
      walk_at "rs"
      refine ⟨_, _, _, _, rfl, rfl, SqT.of hcm', atI_nat (j := 0) rfl, ?_⟩
      walk_at "rs"
      refine ⟨t', cps[i], _, m, vv, rfl, ht3, gi, hcm', om, ov, fun q5 t5 b5 H4 s4 hq5 ht5 => ?_⟩
      refine ⟨q5, _, rfl, SqT.of hq5, rfl, ?_⟩
      refine ⟨_, _, rfl, _, _, rfl, rfl, ?_⟩
      walk_at "rs"
      have hr4 := s4 _ _ hr3
      refine ⟨.inl ⟨rfl, _, SqL.of hr4⟩, ?_⟩
      walk_at "rs"
      refine ⟨rl, _, _, rfl, rfl, hr4, by rw [List.length_map]; exact small1000 (by omega), ?_⟩
      have nrl : ∀ {b : Addr} {xs : List V}, H4 b = some (.tup xs) → b ≠ rl := fun {b xs} h e => by
        rw [e, hr4] at h
        cases h
      refine ⟨t5, _, _, bs ++ [b5], rfl, same_upd (s3.trans s4) hrl, by rw [upd_same, List.map_append]; rfl, by rw [List.length_append, lb]; rfl, by rw [upd_ne url]; exact s4 _ _ hu3, ⟨hc3.1, fun i' hi2 => ?_⟩, ?_⟩
      · have h := s4 _ _ (hc3.2 i' hi2)
        show upd H4 rl _ _ = _
        rw [upd_ne (nrl h)]
        exact h
      · rw [upd_ne (nrl ht5), et, rew_snoc]
        exact ht5
    · rintro σ H3 ⟨t', v5, v6, bs, rfl, s3, hr3, lb, hu3, hc3, ht3⟩
      rw [List.length_map, ncs, List.take_length] at ht3
      have gwn := rew_good gw ow
      generalize rew ws0 cs = wn at ht3 gwn k
      have c3 := c.same s3
      have lzs : v.zs.length ≤ 900 := few
      clear hcs hc3 hu3 hu hu0
      walk_at "rs"
      refine ⟨p, _, dx, _, .ref q.B, rfl, s3 _ _ hp, T.cl_Chain, T.a_Chain_blocks, rfl, ?_⟩
      refine ⟨.inl ⟨rfl, _, SqL.of c3.hB⟩, ?_⟩
      walk_at "rs"
      refine ⟨q.B, _, _, rfl, rfl, c3.hB, by rw [List.length_map]; exact small1000 (by omega), ?_⟩
      have hpB : p ≠ q.B := fun e => by rw [e, c.hB] at hp; cases hp
      have hpR : p ≠ q.R := fun e => by rw [e, c.hR] at hp; cases hp
      have hpD : p ≠ q.D := fun e => by rw [e, c.hD] at hp; cases hp
      have hpL : p ≠ q.L := fun e => by rw [e, c.hL] at hp; cases hp
      have u4 : ∀ {b : Addr} {o : HO}, b ≠ q.B → H3 b = some o → (upd H3 q.B (.lst (v.zs.map V.str ++ [V.str z]))) b = some o := fun n e => by rw [upd_ne n]; exact e
      have hB4 : (upd H3 q.B (.lst (v.zs.map V.str ++ [V.str z]))) q.B = some (.lst ((v.zs ++ [z]).map V.str)) := by rw [upd_same]; simp
      have rlB : rl ≠ q.B := fun e => by rw [e, c.hB] at hrl; cases hrl
      have rlR : rl ≠ q.R := fun e => by rw [e, c.hR] at hrl; cases hrl
      have tB : t' ≠ q.B := fun e => by rw [e, c3.hB] at ht3; cases ht3
      have tR : t' ≠ q.R := fun e => by rw [e, c3.hR] at ht3; cases ht3
      have hp4 := u4 hpB (s3 _ _ hp)
      have hr4 := u4 rlB hr3
      have ht4 := u4 tB ht3
      have hR4 := u4 c.ne1.symm c3.hR
      have hD4 := u4 c.ne2.symm c3.hD
      have hL4 := u4 c.ne3.symm c3.hL
      generalize upd H3 q.B (.lst (v.zs.map V.str ++ [V.str z])) = H4 at u4 hB4 hp4 hr4 ht4 hR4 hD4 hL4 ⊢
      walk_at "rs"
      refine ⟨p, _, dx, _, .ref q.R, rfl, hp4, T.cl_Chain, T.a_Chain_receipts, rfl, ?_⟩
      refine ⟨.inl ⟨rfl, _, SqL.of hR4⟩, ?_⟩
      walk_at "rs"
      refine ⟨rl, _, rfl, .inl ⟨SqL.of hr4, fun r hr => ?_⟩⟩
      have s5 := same_new (o := .tup (bs.map V.bl)) hr
      generalize upd H4 r (.tup (bs.map V.bl)) = H5 at s5 ⊢
      walk_at "rs"
      refine ⟨q.R, _, _, rfl, rfl, s5 _ _ hR4, by rw [List.length_map, c.nr]; exact small1000 (by omega), ?_⟩
      have u6 : ∀ {b : Addr} {o : HO}, b ≠ q.R → H5 b = some o → (upd H5 q.R (.lst (v.rs.map V.ref ++ [V.ref r]))) b = some o := fun n e => by rw [upd_ne n]; exact e
      have hR6 : (upd H5 q.R (.lst (v.rs.map V.ref ++ [V.ref r]))) q.R = some (.lst ((v.rs ++ [r]).map V.ref)) := by rw [upd_same]; simp
      have hp6 := u6 hpR (s5 _ _ hp4)
      have ht6 := u6 tR (s5 _ _ ht4)
      have hB6 := u6 c.ne1 (s5 _ _ hB4)
      have hD6 := u6 c.ne4.symm (s5 _ _ hD4)
      have hL6 := u6 c.ne5.symm (s5 _ _ hL4)
      generalize upd H5 q.R (.lst (v.rs.map V.ref ++ [V.ref r])) = H6 at u6 hR6 hp6 ht6 hB6 hD6 hL6 ⊢
      walk_at "rs"
      refine ⟨p, _, dx, _, .ref q.D, rfl, hp6, T.cl_Chain, T.a_Chain_committees, rfl, ?_⟩
      refine ⟨.inl ⟨rfl, _, SqL.of hD6⟩, ?_⟩
      walk_at "rs"
      intro cn dn hcn hdn ndn
      have sM : Same H6 (upd (upd H6 dn (.own cn)) cn (.ins a.C_Committee dn [])) := same_upd (same_new hdn) hcn
      refine ⟨cn, dn, t', wn, rfl, upd_same, sM _ _ ht6, gwn, fun H7 hcm keep => ⟨rfl, ?_⟩⟩
      have s7 : Same H6 H7 := fun b o e => keep b o (sM _ _ e) (fun q => by rw [q, hcn] at e; cases e)
      clear keep sM
      walk_at "rs"
      refine ⟨q.D, _, _, rfl, rfl, s7 _ _ hD6, by rw [List.length_map, c.np]; exact small1000 (by omega), ?_⟩
      have u8 : ∀ {b : Addr} {o : HO}, b ≠ q.D → H7 b = some o → (upd H7 q.D (.lst (v.ps.map V.ref ++ [V.ref cn]))) b = some o := fun n e => by rw [upd_ne n]; exact e
      have hD8 : (upd H7 q.D (.lst (v.ps.map V.ref ++ [V.ref cn]))) q.D = some (.lst ((v.ps ++ [cn]).map V.ref)) := by rw [upd_same]; simp
      have hp8 := u8 hpD (s7 _ _ hp6)
      have hB8 := u8 c.ne2 (s7 _ _ hB6)
      have hR8 := u8 c.ne4 (s7 _ _ hR6)
      have hL8 := u8 c.ne6.symm (s7 _ _ hL6)
      have hD7 := s7 _ _ hD6
      have hcm8 : CommAt a.C_Committee (upd H7 q.D (.lst (v.ps.map V.ref ++ [V.ref cn]))) cn wn := by
        obtain ⟨d1, t1, e1, e2⟩ := hcm
        exact ⟨d1, t1, u8 (fun e => by rw [e, hD7] at e1; cases e1) e1, u8 (fun e => by rw [e, hD7] at e2; cases e2) e2⟩
      generalize upd H7 q.D (.lst (v.ps.map V.ref ++ [V.ref cn])) = H8 at u8 hD8 hp8 hB8 hR8 hL8 hcm8 ⊢
      walk_at "rs"
      refine ⟨p, _, dx, _, .ref q.L, rfl, hp8, T.cl_Chain, T.a_Chain_ledgers, rfl, ?_⟩
      refine ⟨.inl ⟨rfl, _, SqL.of hL8⟩, ?_⟩
      walk_at "rs"
      refine ⟨q.L, _, _, rfl, rfl, hL8, by rw [List.length_map, c.nl]; exact small1000 (by omega), ?_⟩
      have u9 : ∀ {b : Addr} {o : HO}, b ≠ q.L → H8 b = some o → (upd H8 q.L (.lst (v.ls.map V.ref ++ [V.ref (v.ls.getD v.zs.length 0)]))) b = some o := fun n e => by rw [upd_ne n]; exact e
      have hL9 : (upd H8 q.L (.lst (v.ls.map V.ref ++ [V.ref (v.ls.getD v.zs.length 0)]))) q.L = some (.lst ((v.ls ++ [v.ls.getD v.zs.length 0]).map V.ref)) := by rw [upd_same]; simp
      have hcm9 : CommAt a.C_Committee (upd H8 q.L (.lst (v.ls.map V.ref ++ [V.ref (v.ls.getD v.zs.length 0)]))) cn wn := by
        obtain ⟨d1, t1, e1, e2⟩ := hcm8
        exact ⟨d1, t1, u9 (fun e => by rw [e, hL8] at e1; cases e1) e1, u9 (fun e => by rw [e, hL8] at e2; cases e2) e2⟩
      have hp9 := u9 hpL hp8
      have hB9 := u9 c.ne3 hB8
      have hR9 := u9 c.ne5 hR8
      have hD9 := u9 c.ne6 hD8
      generalize upd H8 q.L (.lst (v.ls.map V.ref ++ [V.ref (v.ls.getD v.zs.length 0)])) = H9 at u9 hL9 hcm9 hp9 hB9 hR9 hD9 ⊢
      have kq : ButC q H H9 := fun b o n1 n2 n3 n4 e => u9 n4 (u8 n3 (s7 _ _ (u6 n2 (s5 _ _ (u4 n1 (s3 _ _ e))))))
      have l1 := c.nr
      have l2 := c.np
      have l3 := c.nw
      have l4 := c.nl
      refine k r cn H9 ⟨⟨dx, hp9⟩, hB9, hR9, hD9, hL9, ?_, ?_, ?_, ?_, c.ne1, c.ne2, c.ne3, c.ne4, c.ne5, c.ne6, fun i hi => ?_, fun l hl => ?_⟩ kq
      · show (v.rs ++ [r]).length = (v.zs ++ [z]).length
        rw [List.length_append, List.length_append, l1]
        rfl
      · show (v.ps ++ [cn]).length = (v.zs ++ [z]).length + 1
        rw [List.length_append, List.length_append, l2]
        rfl
      · show (v.ws ++ [wn]).length = (v.zs ++ [z]).length + 1
        rw [List.length_append, List.length_append, l3]
        rfl
      · show (v.ls ++ [_]).length = (v.zs ++ [z]).length + 1
        rw [List.length_append, List.length_append, l4]
        rfl
      · have hi : i < (v.ws ++ [wn]).length := hi
        rw [List.length_append, List.length_singleton] at hi
        show CommAt _ _ ((v.ps ++ [cn]).getD i 0) ((v.ws ++ [wn]).getD i []) ∧ GoodW ((v.ws ++ [wn]).getD i [])
        rcases Nat.lt_or_ge i v.ws.length with z1 | z1
        · rw [getD_app (by omega), getD_app z1]
          obtain ⟨⟨d1, t1, e1, e2⟩, g1⟩ := c.cm i z1
          exact ⟨⟨d1, t1, kq.nl c e1 (fun _ e => nomatch e), kq.nl c e2 (fun _ e => nomatch e)⟩, g1⟩
        · have ei : i = v.ws.length := by omega
          rw [ei, getD_end, show v.ws.length = v.ps.length by omega, getD_end]
          exact ⟨hcm9, gwn⟩
      · have hl' : l ∈ v.ls := by
          rcases List.mem_append.mp hl with h | h
          · exact h
          · rw [List.mem_singleton.mp h]
            exact getD_memC (by omega)
        obtain ⟨t1, ⟨d1, c1, c2, e1⟩, e2⟩ := c.ld l hl'
        exact ⟨t1, ⟨d1, c1, c2, kq.nl c e1 (fun _ e => nomatch e)⟩, kq.nl c e2 (fun _ e => nomatch e)⟩


/-- o.m(e, ..) within a try: what the method lets out is wished for at the slots -/
def tMethT (C : Addr) (m : Str) (sp : Sp) (E : L2.St → XK) (ta : TE) (t : TA) : TE := fun σ H Q => ta σ H fun x H1 => ∃ (j dx : Addr) (fs : List (Str × V)), x = V.ref j ∧ H1 j = some (HO.ins C dx fs) ∧ fs.lookup m = Option.none ∧ (t σ H1 fun vs H2 => sp (x :: vs) H2 Q (E σ))
theorem pe_methT {X : Cx} {CX : CXT} {k : Nat} {f C : Addr} {fd : FuncData} {ps : List Str} {sp : Sp} {E : L2.St → XK} {m : Str} {apos pos : Pos} {o e : Expr} {es : List Expr} {ta : TE} {t : TA} {pl : Sem Bool} (he : PE X o ta) (c : L2.Cls X.K C) (hm : L2.Meth X.K C m f) (F : FnOk X.prog X.w X.K X.mg X.base CX k f fd ps sp)
    (hr : Room k X.A) (hb : Binds X.K fd ps []) (hx : ∀ σ, PassesAt CX X σ (E σ)) (ha : PA X (e :: es) t) (one : starEach (e :: es) X.env = (false, eval e X.env) :: starEach es X.env := by rfl) (nost : (backTo pos (starEach es X.env)).any (·.1) = false := by rfl)
    (text : eval (.Call (.Attribute o m apos) (e :: es) [] pos) X.env = (do let ov ← eval o X.env; standAt apos.atName; let (f, first) ← holding [ov] (getMethod ov m pl); callWith pos f first (backTo pos (starEach (e :: es) X.env)) (backToKw pos (keywordEach [] X.env))) := by rfl) :
    PE X (.Call (.Attribute o m apos) (e :: es) [] pos) (tMethT C m sp E ta t) := by
  constructor
  intro pins s σ H Q I hyp
  refine PySem.W.methodCall_KW (pl := pl) (thn (he.run pins s σ H _ I hyp) fun u s1 got => ?_) text
  obtain ⟨x, H1, I1, rx, j, dx, fs, ex, ej, nf, q⟩ := got
  subst ex
  have eu : u = Value.ref j := rx
  subst eu
  refine getmeth_ok I1 ej c hm nf (PySem.W.callWith_K (first := [Value.ref j]) (h₀ := X.base) I.ok.mod.kin hm.kp (thn (ha.run pos pins s1 σ H1 _ I1 q) fun us s2 got2 => ?_) one nost)
  obtain ⟨vs, H2, I2, rel, q2⟩ := got2
  exact ⟨I2.kIn, run_fnS (us := Value.ref j :: us) (vs := V.ref j :: vs) F hr hb (hx σ) I2 (.cons rfl rel) q2⟩

theorem hu65 {k : Nat} {A : Around} (r : Room k A) : A.units + 65 < cLine := by
  have := r.un
  omega
theorem good_pos {ws : List Int} (gw : GoodW ws) (k : Nat) : 0 ≤ ws.getD k 0 := by
  rcases Nat.lt_or_ge k ws.length with h | h
  · have := gw.2.2 _ (getD_mem h)
    omega
  · rw [List.getD_eq_getElem?_getD, List.getElem?_eq_none h]
    exact Int.le_refl _
theorem wt_mono2 {ws : List Int} {f g : Int → Bool} (pos : ∀ k : Nat, 0 ≤ ws.getD k 0) (h : ∀ k : Int, f k = true → g k = true) : ∀ n, wt ws f n ≤ wt ws g n
  | 0 => Int.le_refl _
  | n + 1 => by
    have ih := wt_mono2 pos h n
    have p := pos n
    have q := h n
    rw [wt_succ, wt_succ]
    cases e : f (n : Int) with
    | true =>
      rw [q e, if_pos rfl]
      omega
    | false =>
      rw [if_neg Bool.false_ne_true]
      split <;> omega
theorem qrm_mono {ws ms ns : List Int} (pos : ∀ k : Nat, 0 ≤ ws.getD k 0) (h : ∀ k ∈ ms, k ∈ ns) (q : qrm ws ms = true) : qrm ws ns = true := by
  have q := of_decide_eq_true q
  have : wOf ws ms ≤ wOf ws ns := wt_mono2 pos (fun k hk => decide_eq_true (h k (of_decide_eq_true hk))) _
  exact decide_eq_true (by omega)
theorem mem_mono {xs ys : List Lt} {h t : Int} {b : Option Str} {L M : List Int} (hxy : ∀ x ∈ xs, x ∈ ys) (hL : ∀ k ∈ L, k ∈ M) : ∀ k ∈ memM xs h t b L, k ∈ memM ys h t b M := fun k hk => by
  unfold memM at hk ⊢
  obtain ⟨x, hx, rfl⟩ := List.mem_map.mp hk
  obtain ⟨h1, h2⟩ := List.mem_filter.mp hx
  refine List.mem_map.mpr ⟨x, List.mem_filter.mpr ⟨hxy x h1, ?_⟩, rfl⟩
  unfold cnt at h2 ⊢
  rw [Bool.and_eq_true_iff] at h2 ⊢
  refine ⟨h2.1, ?_⟩
  have h3 := h2.2
  cases e : x.m.l with
  | none => rfl
  | some l =>
    rw [e] at h3
    have h3 : (decide (l ∈ L) && decide (l < t)) = true := h3
    rw [Bool.and_eq_true_iff] at h3
    show (decide (l ∈ M) && decide (l < t)) = true
    rw [decide_eq_true (hL l (of_decide_eq_true h3.1)), h3.2]
    rfl
theorem lns_mono {ws : List Int} {xs ys : List Lt} {h : Int} {b : Option Str} (pos : ∀ k : Nat, 0 ≤ ws.getD k 0) (hxy : ∀ x ∈ xs, x ∈ ys) : ∀ n, ∀ k ∈ lns ws xs h b n, k ∈ lns ws ys h b n
  | 0, k, hk => hk
  | n + 1, k, hk => by
    have ih := lns_mono (h := h) (b := b) pos hxy n
    by_cases c : certM ws xs h b n = true
    · have c2 : certM ws ys h b n = true := qrm_mono pos (mem_mono hxy ih) c
      rw [lns_yes c] at hk
      rw [lns_yes c2]
      rcases List.mem_append.mp hk with hk | hk
      · exact List.mem_append_left _ (ih k hk)
      · exact List.mem_append_right _ hk
    · rw [lns_no c] at hk
      by_cases c2 : certM ws ys h b n = true
      · rw [lns_yes c2]
        exact List.mem_append_left _ (ih k hk)
      · rw [lns_no c2]
        exact ih k hk
theorem comm_mono {ws : List Int} {xs ys : List Lt} {h : Int} {b : Option Str} {n : Nat} (pos : ∀ k : Nat, 0 ≤ ws.getD k 0) (hxy : ∀ x ∈ xs, x ∈ ys) (c : commM ws xs h b n = true) : commM ws ys h b n = true := by
  unfold commM at c ⊢
  rw [Bool.and_eq_true_iff] at c ⊢
  refine ⟨qrm_mono pos (fun k hk => ?_) c.1, qrm_mono pos (mem_mono hxy (lns_mono pos hxy n)) c.2⟩
  unfold comS at hk ⊢
  obtain ⟨x, hx, rfl⟩ := List.mem_map.mp hk
  obtain ⟨h1, h2⟩ := List.mem_filter.mp hx
  exact List.mem_map.mpr ⟨x, List.mem_filter.mpr ⟨hxy x h1, h2⟩, rfl⟩
theorem sh_some {ws : List Int} {xs : List Lt} {h : Int} {b : Str} : shM ws xs h (some b) = true ↔ ∃ t : Nat, t < 60 ∧ commM ws xs h (some b) t = true := by
  have key : ∀ u, u ∈ cmL ws xs h (some b) ↔ (0 ≤ u ∧ u < 60) ∧ commM ws xs h (some b) u.toNat = true := fun u => by
    show u ∈ (lns ws xs h (some b) 60).filter (fun t => qrm ws (comS xs h t (some b))) ↔ _
    rw [List.mem_filter, mem_lnsI]
    unfold commM
    rw [Bool.and_eq_true_iff]
    constructor
    · rintro ⟨⟨h1, h2, h3⟩, h4⟩
      have et : ((u.toNat : Nat) : Int) = u := Int.toNat_of_nonneg h1
      rw [et]
      exact ⟨⟨h1, h2⟩, h4, h3⟩
    · rintro ⟨⟨h1, h2⟩, h4, h3⟩
      have et : ((u.toNat : Nat) : Int) = u := Int.toNat_of_nonneg h1
      rw [et] at h4
      exact ⟨⟨h1, h2, h3⟩, h4⟩
  unfold shM
  constructor
  · intro z
    cases e : cmL ws xs h (some b) with
    | nil => rw [e] at z; cases z
    | cons y ys =>
      have := (key y).mp (by rw [e]; exact List.mem_cons_self)
      exact ⟨y.toNat, by omega, this.2⟩
  · rintro ⟨t, ht, c⟩
    have := (key (t : Int)).mpr ⟨⟨by omega, by omega⟩, by rw [Int.toNat_natCast]; exact c⟩
    cases e : cmL ws xs h (some b) with
    | nil => rw [e] at this; cases this
    | cons y ys => rfl
theorem sh_four {ws : List Int} {xs : List Lt} {h : Int} {b : Str} (g : GoodW ws) (four : ∀ x ∈ xs, 0 ≤ x.m.t ∧ x.m.t < 4) : shM ws xs h (some b) = true ↔ ∃ t : Nat, t < 5 ∧ commM ws xs h (some b) t = true := by
  rw [sh_some]
  constructor
  · rintro ⟨t, _, c⟩
    refine ⟨t, ?_, c⟩
    refine Nat.lt_of_not_le fun z => ?_
    have : certM ws xs h (some b) t = false := cert_none g (fun z => nomatch z) fun ⟨x, hx, y⟩ => by
      have h1 := inT_t y
      have h2 := four x hx
      omega
    unfold commM at c
    rw [this, Bool.and_false] at c
    cases c
  · rintro ⟨t, h1, c⟩
    exact ⟨t, by omega, c⟩
theorem OkL.app {xs ys : List Lt} (h : OkL xs) (g : OkL ys) : OkL (xs ++ ys) := fun y hy => (List.mem_append.mp hy).elim (h y) (g y)

/-! ### clients -/
def ClAt (C : Addr) (H : Hp) (k p : Addr) : Prop := ∃ dx, H k = some (.ins C dx [("chain", .ref p)])
def spClInit (K : PySem.W.Frag) (C0 C1 C2 C3 : Addr) : Sp := fun vs H Q _ => ∃ (k dx l g : Addr) (ws : List Int) (x y : Int), vs = [.ref k, .ref l, .ref g] ∧ H k = some (.ins C0 dx []) ∧ SqL K H l (ws.map V.int) ∧ GoodW ws ∧ SqL K H g [] ∧
  ∀ p q c d H', ClAt C0 H' k p → CnAt C1 C2 C3 H' p q ⟨[], [], [c], [ws], [d]⟩ x y → H p = none → H q.B = none → H q.R = none → H q.D = none → H q.L = none → But1 k H H' → Q .non H'
theorem CnAt.but {C1 C2 C3 : Addr} {H H' : Hp} {p k : Addr} {q : CnP} {v : CnV} {x y : Int} {C dx : Addr} {fs : List (Str × V)} (c : CnAt C1 C2 C3 H p q v x y) (s : But1 k H H') (hk : H k = some (.ins C dx fs)) (n : p ≠ k) (hC3 : ∀ l ∈ v.ls, l ≠ k) (hC2 : ∀ z ∈ v.ps, z ≠ k) : CnAt C1 C2 C3 H' p q v x y := by
  have L : ∀ {b : Addr} {xs : List V}, H b = some (.lst xs) → H' b = some (.lst xs) := fun {b xs} h => s _ _ (fun e => by rw [e, hk] at h; cases h) h
  have Tt : ∀ {b : Addr} {xs : List V}, H b = some (.tup xs) → H' b = some (.tup xs) := fun {b xs} h => s _ _ (fun e => by rw [e, hk] at h; cases h) h
  exact { c with
    ins := c.ins.elim fun d h => ⟨d, s _ _ n h⟩
    hB := L c.hB
    hR := L c.hR
    hD := L c.hD
    hL := L c.hL
    cm := fun i hi => by
      obtain ⟨⟨d1, t1, e1, e2⟩, g⟩ := c.cm i hi
      have : v.ps.getD i 0 ∈ v.ps := getD_memC (by have := c.np; have := c.nw; omega)
      exact ⟨⟨d1, t1, s _ _ (hC2 _ this) e1, Tt e2⟩, g⟩
    ld := fun l hl => by
      obtain ⟨t, ⟨d1, c2, c3, h1⟩, h2⟩ := c.ld l hl
      exact ⟨t, ⟨d1, c2, c3, s _ _ (hC3 l hl) h1⟩, Tt h2⟩ }
theorem ok_Client_init (T : Txt K mg a) : ∃ fd, FnOk P w K mg base CX0 6 a.d_Client_init fd ["self", "weights", "grants"] (spClInit K a.C_Client a.C_Chain a.C_Committee a.C_Ledger) ∧ Binds K fd ["self", "weights", "grants"] [] := by
  obtain ⟨fd, F, b⟩ := T.d_Client_init.F
  obtain ⟨fd_Chain_init, G_Chain_init, b_Chain_init⟩ := ok_Chain_init (P := P) (w := w) (base := base) T
  refine ⟨fd, F.ok sc_Client_init (fun vs H Q E h => ?_) (fun cdv A outer s H vs Q E hr h => ?_), b⟩
  · obtain ⟨_, _, _, _, _, _, _, rfl, _⟩ := h
    rfl
  · obtain ⟨k, dx, l, g, ws, x, y, rfl, hk, hl, gw, hg, kk⟩ := h
    refine ⟨_, (pss_one (ps_fld (pv 0) (pe_make T.m_Chain G_Chain_init (hr.mono (by decide)) (by rfl) T.g_Chain b_Chain_init .nil pass0 (pa_cons (pv 1) (pa_cons (pv 2) pa_nil))) rfl)), ?_⟩
    walk_at "rs"
    intro p dp hp hdp ndp
    have sM : Same H (upd (upd H dp (.own p)) p (.ins a.C_Chain dp [])) := same_upd (same_new hdp) hp
    refine ⟨p, dp, l, g, ws, x, y, rfl, upd_same, sM.seq hl, gw, sM.seq hg, fun q c d H1 hc f1 f2 f3 f4 keep => ⟨rfl, ?_⟩⟩
    have s1 : Same H H1 := fun b o e => keep b o (fun q => by rw [q, hp] at e; cases e) (sM _ _ e)
    have fr : ∀ {b : Addr}, (upd (upd H dp (.own p)) p (.ins a.C_Chain dp [])) b = none → H b = none := fun h => sM.free h
    have hk1 := s1 _ _ hk
    have pk : p ≠ k := fun e => by rw [e, hk] at hp; cases hp
    walk_at "rs"
    refine ⟨k, _, dx, [], rfl, hk1, T.cl_Client, T.a_Client_chain, (by show 0 < 1000; decide), ?_⟩
    have ck : ∀ z ∈ [c], z ≠ k := fun z hz e => by
      rw [List.mem_singleton.mp hz] at e
      obtain ⟨⟨d1, t1, e1, e2⟩, _⟩ := hc.cm 0 (by show 0 < 1; decide)
      have e1 : H1 c = some (.ins a.C_Committee d1 (cfs t1 ws)) := e1
      rw [e, hk1] at e1
      have e3 := (congrArg (fun o : Option HO => match o with | some (.ins _ _ fs) => fs.length | _ => 0) e1)
      have e4 : (cfs t1 ws).length = 0 := e3.symm
      have e5 := cfs_w t1 ws
      rw [List.length_eq_zero_iff.mp e4] at e5
      cases e5
    have dk : ∀ z ∈ [d], z ≠ k := fun z hz e => by
      rw [List.mem_singleton.mp hz] at e
      obtain ⟨t, ⟨d1, c2, c3, h1⟩, h2⟩ := hc.ld d (List.mem_singleton.mpr rfl)
      rw [e, hk1] at h1
      have e3 := (congrArg (fun o : Option HO => match o with | some (.ins _ _ fs) => fs.length | _ => 0) h1)
      exact absurd (show (0 : Nat) = 3 from e3) (by decide)
    have kp : But1 k H1 (upd H1 k (.ins a.C_Client dx (putF "chain" (.ref p) []))) := fun b o n e => by rw [upd_ne n]; exact e
    refine kk p q c d _ ⟨dx, by rw [upd_same]; rfl⟩ (hc.but kp hk1 pk dk ck) hp (fr f1) (fr f2) (fr f3) (fr f4) fun b o n e => kp b o n (s1 _ _ e)
def spFollow (C0 C1 C2 C3 CB : Addr) : Sp := fun vs H Q E => ∃ (k p l : Addr) (z : Str) (q : CnP) (v : CnV) (x y : Int) (ps : List Addr) (xs : List Lt), vs = [.ref k, .str z, .ref l] ∧ ClAt C0 H k p ∧ CnAt C1 C2 C3 H p q v x y ∧ z.length ≤ 1000 ∧ onlyW (cmdsOf z) ∧ v.zs.length ≤ 800 ∧
  H l = some (.lst (ps.map V.ref)) ∧ LsAt H ps xs ∧ xs.length ≤ 900 ∧ TB xs ∧
  (shM (v.ws.getD v.zs.length []) xs v.zs.length (some z) = true → ∀ r c H', CnAt C1 C2 C3 H' p q ⟨v.zs ++ [z], v.rs ++ [r], v.ps ++ [c], v.ws ++ [rew (v.ws.getD v.zs.length []) (cmdsOf z)], v.ls ++ [v.ls.getD v.zs.length 0]⟩ x y → ButC q H H' → Q (.int ((v.zs.length : Int) + 1)) H') ∧
  (shM (v.ws.getD v.zs.length []) xs v.zs.length (some z) = false → ∀ H', Same H H' → E (.ref CB) none H')
theorem ButC.of_same {q : CnP} {H H' H'' : Hp} (s : Same H H') (k : ButC q H' H'') : ButC q H H'' := fun b o n1 n2 n3 n4 e => k b o n1 n2 n3 n4 (s _ _ e)
theorem ok_Client_follow (TE : TxtE w K mg a) (T : Txt K mg a) : ∃ fd, FnOk P w K mg base (L2.CX P w) 7 a.d_Client_follow fd ["self", "block", "paper"] (spFollow a.C_Client a.C_Chain a.C_Committee a.C_Ledger a.C_BadPaper) ∧ Binds K fd ["self", "block", "paper"] [] := by
  obtain ⟨fd, F, b⟩ := T.d_Client_follow.F
  obtain ⟨fd_Chain_extend, G_Chain_extend, b_Chain_extend⟩ := ok_Chain_extend (P := P) (w := w) (base := base) TE T
  obtain ⟨fd_Chain_height, G_Chain_height, b_Chain_height⟩ := ok_Chain_height (P := P) (w := w) (base := base) T
  obtain ⟨fd_shows, G_shows, b_shows⟩ := ok_shows (P := P) (w := w) (base := base) T
  obtain ⟨fd_Chain_committee, G_Chain_committee, b_Chain_committee⟩ := ok_Chain_committee (P := P) (w := w) (base := base) T
  refine ⟨fd, F.okX sc_Client_follow (fun vs H Q E h => ?_) (fun cdv A outer s H vs Q E hr h => ?_), b⟩
  · obtain ⟨_, _, _, _, _, _, _, _, _, _, rfl, _⟩ := h
    rfl
  · obtain ⟨k, p, l, z, q, v, x, y, ps, xs, rfl, ⟨dk, hk⟩, hc, lz, ow, few, hl, hx, fx, tb, k1, k2⟩ := h
    obtain ⟨dp, hp⟩ := id hc.ins
    obtain ⟨cm, gw⟩ := hc.cm v.zs.length (by have := hc.nw; omega)
    refine ⟨_, (pss_cons (ps_if (pt_not (pt_val (pe_call G_shows (hr.mono (by decide)) rfl T.d_shows.g T.d_shows.kp b_shows .nil pass0 (pa_cons (pe_meth0 (pe_fld (pv 0) rfl) T.cl_Chain T.me_Chain_committee G_Chain_committee (hr.mono (by decide)) b_Chain_committee .nil pass0) (pa_cons (pe_meth0 (pe_fld (pv 0) rfl) T.cl_Chain T.me_Chain_height G_Chain_height (hr.mono (by decide)) b_Chain_height .nil pass0) (pa_cons (pv 1) (pa_cons (pv 2) pa_nil)))))))
      (pss_one (ps_raise rfl (takes_of rfl rfl rfl rfl) (pmk_own PySem.F.excBase_ValueError TE.x_BadPaper TE.g_BadPaper TE.kc_BadPaper (raises_own TE.b_BadPaper TE.t_BadPaper) rfl)))
      pss_nil)
      (pss_cons (ps_expr (pe_meth (pe_fld (pv 0) rfl) T.cl_Chain T.me_Chain_extend G_Chain_extend (hr.mono (by decide)) b_Chain_extend .nil pass0 (pa_cons (pv 1) pa_nil)))
      (pss_one (ps_ret (pe_meth0 (pe_fld (pv 0) rfl) T.cl_Chain T.me_Chain_height G_Chain_height (hr.mono (by decide)) b_Chain_height .nil pass0))))), ?_⟩
    walk_at "rs"
    refine ⟨k, _, dk, _, .ref p, rfl, hk, T.cl_Client, T.a_Client_chain, rfl, ?_⟩
    walk_at "rs"
    refine ⟨p, dp, _, rfl, hp, rfl, ?_⟩
    walk_at "rs"
    refine ⟨p, q, v, x, y, rfl, hc, ?_⟩
    walk_at "rs"
    refine ⟨k, _, dk, _, .ref p, rfl, hk, T.cl_Client, T.a_Client_chain, rfl, ?_⟩
    walk_at "rs"
    refine ⟨p, dp, _, rfl, hp, rfl, ?_⟩
    walk_at "rs"
    refine ⟨p, q, v, x, y, rfl, hc, ?_⟩
    walk_at "rs"
    refine ⟨_, l, _, ps, xs, _, some z, rfl, cm, gw, hl, hx, fx, tb, fun H1 s1 => ?_⟩
    cases e : shM (v.ws.getD v.zs.length []) xs v.zs.length (some z) with
    | false =>
      walk_at "rs"
      exact k2 e H1 s1
    | true =>
      have k1 := k1 e
      walk_at "rs"
      refine ⟨k, _, dk, _, .ref p, rfl, s1 _ _ hk, T.cl_Client, T.a_Client_chain, rfl, ?_⟩
      walk_at "rs"
      refine ⟨p, dp, _, rfl, s1 _ _ hp, rfl, ?_⟩
      walk_at "rs"
      refine ⟨p, q, v, x, y, z, rfl, hc.same s1, lz, ow, by omega, fun r c H2 hc2 kq => ?_⟩
      have hk2 := kq.nl (hc.same s1) (s1 _ _ hk) (fun _ e => nomatch e)
      have hp2 := kq.nl (hc.same s1) (s1 _ _ hp) (fun _ e => nomatch e)
      walk_at "rs"
      refine ⟨k, _, dk, _, .ref p, rfl, hk2, T.cl_Client, T.a_Client_chain, rfl, ?_⟩
      walk_at "rs"
      refine ⟨p, dp, _, rfl, hp2, rfl, ?_⟩
      walk_at "rs"
      refine ⟨p, q, _, x, y, rfl, hc2, ?_⟩
      have := k1 r c H2 hc2 (kq.of_same s1)
      show Q (.int (((v.zs ++ [z]).length : Nat) : Int)) H2
      rw [List.length_append]
      exact this


/-! ### a list of letters that is being made -/
structure PLg (H Hc : Hp) (pl : Addr) (G : Lt → Prop) (n : Nat) (ps : List Addr) (xs : List Lt) : Prop where
  same : Same H Hc
  free : H pl = none
  at' : Hc pl = some (.lst (ps.map V.ref))
  ls : LsAt Hc ps xs
  good : ∀ x ∈ xs, G x
  few : xs.length ≤ n
theorem PLg.start {H Hc : Hp} {pl : Addr} {G : Lt → Prop} (s : Same H Hc) (f : Hc pl = none) : PLg H (upd Hc pl (.lst [])) pl G 0 [] [] :=
  ⟨s.trans (same_new f), s.free f, upd_same, LsAt.nil, fun x hx => (nomatch hx), Nat.le_refl _⟩
theorem PLg.more {H Hc : Hp} {pl : Addr} {G : Lt → Prop} {n n' : Nat} {ps : List Addr} {xs : List Lt} (I : PLg H Hc pl G n ps xs) (h : n ≤ n') : PLg H Hc pl G n' ps xs := { I with few := Nat.le_trans I.few h }
theorem PLg.go {H Hc H' : Hp} {pl : Addr} {G : Lt → Prop} {n : Nat} {ps : List Addr} {xs : List Lt} (I : PLg H Hc pl G n ps xs) (s : Same Hc H') : PLg H H' pl G n ps xs :=
  { I with same := I.same.trans s, at' := s _ _ I.at', ls := I.ls.same s }
theorem PLg.push {H Hc : Hp} {pl t : Addr} {G : Lt → Prop} {n : Nat} {ps : List Addr} {xs : List Lt} {x : Lt} (I : PLg H Hc pl G n ps xs) (e : LtAt Hc t x) (g : G x) : PLg H (upd Hc pl (.lst (ps.map V.ref ++ [V.ref t]))) pl G (n + 1) (ps ++ [t]) (xs ++ [x]) where
  same := same_upd I.same I.free
  free := I.free
  at' := by
    rw [upd_same]
    simp
  ls := (I.ls.snoc e).upd I.at'
  good := fun y hy => by
    rcases List.mem_append.mp hy with hy | hy
    · exact I.good y hy
    · rw [List.mem_singleton.mp hy]
      exact g
  few := by
    have := I.few
    rw [List.length_append, List.length_singleton]
    omega
theorem PLg.fit {H Hc : Hp} {pl : Addr} {G : Lt → Prop} {n : Nat} {ps : List Addr} {xs : List Lt} (I : PLg H Hc pl G n ps xs) (h : n < 1000) : (ps.map V.ref).length < sizeLine := by
  have := I.few
  rw [List.length_map, I.ls.1]
  exact small1000 (by omega)
/-- a fresh statement in a fresh letter -/
theorem lt_new {H : Hp} {q t : Addr} {w : Int} {m : Sm} {vs : List V} (hq : H q = none) (ev : vs = m.vals) (ht : upd H q (.tup vs) t = none) : LtAt (upd (upd H q (.tup vs)) t (.tup [.int w, .ref q])) t ⟨w, m⟩ ∧ Same H (upd (upd H q (.tup vs)) t (.tup [.int w, .ref q])) := by
  have s1 : Same H (upd H q (.tup vs)) := same_new hq
  have s2 : Same (upd H q (.tup vs)) (upd (upd H q (.tup vs)) t (.tup [.int w, .ref q])) := same_new ht
  refine ⟨⟨q, upd_same, s2 _ _ ?_⟩, s1.trans s2⟩
  rw [upd_same, ev]
theorem upd_row {H : Hp} {pl pd : Addr} {o r : HO} (n : pd ≠ pl) (h : H pd = some r) : upd H pl o pd = some r := by
  rw [upd_ne n]
  exact h

/-! ### xs[::-1] -/
section
open PyProof.Rows
def tBack (K : PySem.W.Frag) (te ts : TE) : TE := fun σ H Q => te σ H fun x H1 => ts σ H1 fun y H2 => ∃ a xs, x = .ref a ∧ y = .int (-1) ∧ SqL K H2 a xs ∧ ∀ p, H2 p = none → Q (.ref p) (_root_.L2.upd H2 p (.lst xs.reverse))
theorem pe_back {X : Cx} {e st : Expr} {te ts : TE} {p2 pos : Pos} (he : PE X e te) (hst : PE X st ts) : PE X (.Subscript e (.Slice none none (some st) p2) pos) (tBack X.K te ts) := by
  refine ⟨fun pins s σ H Q I h => Subscript_ (thn (he.run pins s σ H _ I h) fun v s1 ⟨x, H1, I1, r1, q1⟩ => wpAny_Slice ?_)⟩
  rw [evalPart_none, evalPart_some]
  refine wpAny_pure (wpAny_pure (thn (hst.run pins s1 σ H1 _ I1 q1) fun vk s2 ⟨y, H2, I2, r2, a, xs, ex, ey, hx, q⟩ => ?_))
  subst ex ey
  obtain ⟨t, rfl⟩ := r2
  obtain rfl : v = Value.ref a := r1
  obtain ⟨its, rv, hl, hz⟩ := I2.list hx
  generalize hsl : (Value.int (-1) t) = vk
  have pk : IsPart vk (some (-1)) := by
    rw [← hsl]
    exact .int (-1) t
  have J := I2.kept (h' := s2.heap.push { cls := .type "slice", data := .fields #[.none, .none, vk] }) (t' := s2.toks) fun b o g => Heap.get?_push_of_some _ g
  obtain ⟨its2, rv2, hl2, hz2⟩ := J.list hx
  refine tail_any (ops := [.ref a, .ref s2.heap.objs.size]) hl2.isList.typeIs PySem.F.slot_list_getitem.lookup ?_ (by with_unfolding_all rfl)
  refine wpAny_getItem_list_slice hl2.isList (Heap.IsSliceOf.new ..) .none .none pk (by decide) ?_ (by rw [List.size_toArray, ← rv2.length]; exact hz2)
  rw [PySem.W.krv_pick]
  refine ⟨.ref _, upd H2 _ (.lst xs.reverse), J.laid (t' := s2.toks) (fun b o g => Heap.get?_push_of_some _ g) (Nat.le_refl _) ⟨?_, _, 0, rv2.reverse, Heap.get?_push_size _ rfl⟩, rfl, q _ (J.hok.fresh (Nat.le_refl _))⟩
  rw [List.length_reverse]
  exact hz2
end

theorem LsAt.reverse {H : Hp} {ps : List Addr} {xs : List Lt} (h : LsAt H ps xs) : LsAt H ps.reverse xs.reverse := by
  have n := h.1
  refine ⟨by rw [List.length_reverse, List.length_reverse, n], fun i hi => ?_⟩
  rw [List.length_reverse] at hi
  have := h.2 (xs.length - 1 - i) (by omega)
  rw [List.getD_eq_getElem?_getD, List.getD_eq_getElem?_getD] at this ⊢
  rw [List.getElem?_reverse (by omega), List.getElem?_reverse hi, n]
  exact this
/-- a letter of a paper that the law makes -/
def PapL (h : Int) (z : Str) (x : Lt) : Prop := x.m.b = some z ∧ x.m.h = h ∧ 0 ≤ x.m.t ∧ x.m.t < 3 ∧ x.m.k ≠ .prop ∧ 0 ≤ x.w ∧ x.w < 16
def spPaper (K : PySem.W.Frag) : Sp := fun vs H Q _ => ∃ (cell size h : Int) (z : Str), vs = [.int cell, .int size, .int h, .str z] ∧ 0 < size ∧ size ≤ 16 ∧
  ∀ p ps xs H', Same H H' → H p = none → H' p = some (.lst (ps.map V.ref)) → LsAt H' ps xs → xs.length ≤ 32 → (∀ x ∈ xs, PapL h z x) → Q (.ref p) H'
theorem ok_law_paper (T : Txt K mg a) : ∃ fd, FnOk P w K mg base CX0 2 a.d_law_paper fd ["cell", "size", "height", "block"] (spPaper K) ∧ Binds K fd ["cell", "size", "height", "block"] [] := by
  obtain ⟨fd, F, b⟩ := T.d_law_paper.F
  obtain ⟨fd_law_row, G_law_row, b_law_row⟩ := ok_law_row (P := P) (w := w) (base := base) T
  refine ⟨fd, F.ok sc_law_paper (fun vs H Q E h => ?_) (fun cdv A outer s H vs Q E hr h => ?_), b⟩
  · obtain ⟨_, _, _, _, rfl, _⟩ := h
    rfl
  · obtain ⟨cell, size, h, z, rfl, z0, z16, kk⟩ := h
    refine ⟨_, (pss_cons (ps_set (i := 4) sc_law_paper.nd rfl (Or.inl rfl) (pe_call G_law_row (hr.mono (by decide)) rfl T.d_law_row.g T.d_law_row.kp b_law_row .nil pass0 (pa_cons (pv 0) (pa_cons (pe_op op_add (pv 1) pe_int) (pa_cons pe_int pa_nil)))))
      (pss_cons (ps_set (i := 5) sc_law_paper.nd rfl (Or.inl rfl) (pe_op op_mod (pe_callTy call_int1 (by rfl) T.n_int (by decide +kernel) (pa_cons (pe_ix ix_list (pv 4) pe_int (fun _ _ => rfl)) pa_nil)) pe_int))
      (pss_cons (ps_set (i := 6) sc_law_paper.nd rfl (Or.inl rfl) (pe_lst pa_nil))
      (pss_cons (ps_for PassesOwn.never rfl (pi_range1 rfl T.n_range (pa_cons (pv 1) pa_nil)) (pg_name (i := 7) sc_law_paper.nd rfl (Or.inl rfl))
      (pss_cons (ps_set (i := 8) sc_law_paper.nd rfl (Or.inl rfl) (pe_op op_mod (pe_callTy call_int1 (by rfl) T.n_int (by decide +kernel) (pa_cons (pe_op op_add (pv 7) (pe_ix ix_list (pv 4) pe_int (fun _ _ => rfl))) pa_nil)) (pv 1)))
        (C8.pss_cut (ps_if (pt_cmpR op_ne (pe_op op_mod (pe_callTy call_int1 (by rfl) T.n_int (by decide +kernel) (pa_cons (pe_ix ix_list (pv 4) (pe_op op_add pe_int (pv 7)) (fun _ _ => rfl)) pa_nil)) pe_int) pe_int (nomark _))
        (pss_one (ps_expr (pe_bm PySem.F.plainAttrs_list PySem.F.slot_list_append PySem.F.type_list_append mt_append (pv 6) (pa_cons (pe_tup (pa_cons (pv 8) (pa_cons (pe_tup (pa_cons pe_str (pa_cons (pv 2) (pa_cons (pv 5) (pa_cons (pv 3) (pa_cons pe_non pa_nil)))))) pa_nil))) pa_nil))))
        pss_nil)
        (pss_one (ps_if (pt_cmpR op_ne (pe_op op_mod (pe_callTy call_int1 (by rfl) T.n_int (by decide +kernel) (pa_cons (pe_ix ix_list (pv 4) (pe_op op_add pe_int (pv 7)) (fun _ _ => rfl)) pa_nil)) pe_int) pe_int (nomark _))
        (pss_one (ps_expr (pe_bm PySem.F.plainAttrs_list PySem.F.slot_list_append PySem.F.type_list_append mt_append (pv 6) (pa_cons (pe_tup (pa_cons (pv 8) (pa_cons (pe_tup (pa_cons pe_str (pa_cons (pv 2) (pa_cons (pv 5) (pa_cons (pv 3) pa_nil))))) pa_nil))) pa_nil))))
        pss_nil)))))
      (C8.pss_cut (ps_if (pt_cmpR op_eq (pe_op op_mod (pe_callTy call_int1 (by rfl) T.n_int (by decide +kernel) (pa_cons (pe_ix ix_list (pv 4) pe_int (fun _ _ => rfl)) pa_nil)) pe_int) pe_int (nomark _))
      (pss_one (ps_set (i := 6) sc_law_paper.nd rfl (Or.inl rfl) (pe_back (pv 6) (pe_un un_neg pe_int))))
      pss_nil)
      (pss_one (ps_ret (pv 6)))))))), ?_⟩
    walk_at "rs"
    refine ⟨_, _, _, rfl, by omega, by omega, by decide, by decide, fun pd row H1 s1 hrow rlen hb hpd => ?_⟩
    walk_at "rs"
    refine ⟨pd, _, _, .int (row.getD 0 0), rfl, rfl, SqL.of hrow, at_of (j := 0) rfl (at_ints (by omega)), ?_⟩
    walk_at "rs"
    refine ⟨(by show 0 ≤ sizeLine; decide), fun pl hpl => ?_⟩
    have I0 : PLg H (upd H1 pl (.lst [])) pl (PapL h z) 0 [] [] := PLg.start s1 hpl
    have npd := ne_of_none hrow hpl
    have hrow0 : (upd H1 pl (.lst [])) pd = some (.lst (row.map V.int)) := (same_new hpl) _ _ hrow
    have y0 : 0 ≤ row.getD 0 0 % 3 := Int.emod_nonneg _ (by decide)
    have y3 : row.getD 0 0 % 3 < 3 := Int.emod_lt_of_pos _ (by decide)
    walk_at "rs"
    refine ⟨(by show -(2 ^ 62 : Int) ≤ _; omega), (by show _ < (2 ^ 62 : Int); omega), ?_⟩
    refine for_range (lo := 0) (n := size.toNat) (fun i σ H2 => ∃ v7 v8 : Option V, σ = [some (.int cell), some (.int size), some (.int h), some (.str z), some (.ref pd), some (.int (row.getD 0 0 % 3)), some (.ref pl), v7, v8] ∧ ∃ ps xs, PLg H H2 pl (PapL h z) (2 * i) ps xs ∧ H2 pd = some (.lst (row.map V.int))) ⟨_, _, rfl, [], [], I0, hrow0⟩ ?_ ?_
    · rintro k σ H2 hi ⟨v7, v8, rfl, ps, xs, I, hrow2⟩
      have e0 : (0 : Int) + (k : Int) = (k : Int) := Int.zero_add _
      rw [e0]
      walk_at "rs"
      refine ⟨pd, _, _, .int (row.getD 1 0), rfl, rfl, SqL.of hrow2, at_of (j := 1) rfl (at_ints (by omega)), ?_⟩
      have w0 : 0 ≤ ((k : Int) + row.getD 1 0) % size := Int.emod_nonneg _ (by omega)
      have w1 : ((k : Int) + row.getD 1 0) % size < 16 := Int.lt_of_lt_of_le (Int.emod_lt_of_pos _ z0) (by omega)
      walk_at "rs"
      refine ⟨fun σ' H' => σ' = [some (.int cell), some (.int size), some (.int h), some (.str z), some (.ref pd), some (.int (row.getD 0 0 % 3)), some (.ref pl), some (.int (k : Int)), some (.int (((k : Int) + row.getD 1 0) % size))] ∧ ∃ ps xs, PLg H H' pl (PapL h z) (2 * k + 1) ps xs ∧ H' pd = some (.lst (row.map V.int)), ?_, ?_⟩
      · walk_at "rs"
        refine ⟨pd, _, _, .int (row.getD (4 + k) 0), rfl, rfl, SqL.of hrow2, at_of (j := 4 + k) (by show (4 : Int) + (k : Int) = _; omega) (at_ints (by omega)), ?_⟩
        walk_at "rs"
        refine ite2 (fun c1 => ?_) (fun c1 => ?_)
        · walk_at "rs"
          refine ⟨.inl ⟨rfl, _, SqL.of I.at'⟩, ?_⟩
          walk_at "rs"
          refine ⟨(by show 5 ≤ sizeLine; decide), fun qI1 hqI1 => ?_⟩
          refine ⟨(by show 2 ≤ sizeLine; decide), fun tI1 htI1 => ?_⟩
          obtain ⟨ltI1, sI1⟩ := lt_new (w := ((k : Int) + row.getD 1 0) % size) (m := ⟨.pre, h, row.getD 0 0 % 3, some z, none⟩) hqI1 rfl htI1
          have JI1 := I.go sI1
          refine ⟨pl, _, _, rfl, rfl, JI1.at', JI1.fit (by omega), ?_⟩
          have I1 := JI1.push ltI1 ⟨rfl, rfl, y0, y3, fun z => (nomatch z), w0, w1⟩
          exact ⟨rfl, _, _, I1.more (by omega), upd_row npd (sI1 _ _ hrow2)⟩
        · exact ⟨rfl, _, _, I.more (by omega), hrow2⟩
      · clear I hrow2
        rintro σ' H3 ⟨rfl, ps, xs, I, hrow2⟩
        walk_at "rs"
        refine ⟨pd, _, _, .int (row.getD (4 + k) 0), rfl, rfl, SqL.of hrow2, at_of (j := 4 + k) (by show (4 : Int) + (k : Int) = _; omega) (at_ints (by omega)), ?_⟩
        walk_at "rs"
        refine ite2 (fun c1 => ?_) (fun c1 => ?_)
        · walk_at "rs"
          refine ⟨.inl ⟨rfl, _, SqL.of I.at'⟩, ?_⟩
          walk_at "rs"
          refine ⟨(by show 4 ≤ sizeLine; decide), fun qI1 hqI1 => ?_⟩
          refine ⟨(by show 2 ≤ sizeLine; decide), fun tI1 htI1 => ?_⟩
          obtain ⟨ltI1, sI1⟩ := lt_new (w := ((k : Int) + row.getD 1 0) % size) (m := ⟨.com, h, row.getD 0 0 % 3, some z, none⟩) hqI1 rfl htI1
          have JI1 := I.go sI1
          refine ⟨pl, _, _, rfl, rfl, JI1.at', JI1.fit (by omega), ?_⟩
          have I1 := JI1.push ltI1 ⟨rfl, rfl, y0, y3, fun z => (nomatch z), w0, w1⟩
          exact ⟨_, _, rfl, _, _, I1.more (by omega), upd_row npd (sI1 _ _ hrow2)⟩
        · exact ⟨_, _, rfl, _, _, I.more (by omega), hrow2⟩
    · rintro σ H2 ⟨v7, v8, rfl, ps, xs, I, hrow2⟩
      have len2 := I.few
      walk_at "rs"
      refine ⟨fun σ' H' => ∃ (p : Addr) (ps : List Addr) (xs : List Lt), σ' = [some (.int cell), some (.int size), some (.int h), some (.str z), some (.ref pd), some (.int (row.getD 0 0 % 3)), some (.ref p), v7, v8] ∧ Same H H' ∧ H p = none ∧ H' p = some (.lst (ps.map V.ref)) ∧ LsAt H' ps xs ∧ xs.length ≤ 32 ∧ ∀ x ∈ xs, PapL h z x, ?_, ?_⟩
      · walk_at "rs"
        refine ⟨pd, _, _, .int (row.getD 2 0), rfl, rfl, SqL.of hrow2, at_of (j := 2) rfl (at_ints (by omega)), ?_⟩
        walk_at "rs"
        refine ite2 (fun c1 => ?_) (fun c1 => ?_)
        · walk_at "rs"
          refine ⟨pl, _, rfl, rfl, SqL.of I.at', fun p5 hp5 => ?_⟩
          have s5 := same_new (o := .lst (ps.map V.ref).reverse) hp5
          exact ⟨p5, ps.reverse, xs.reverse, rfl, I.same.trans s5, I.same.free hp5, by rw [upd_same, List.map_reverse], (LsAt.reverse I.ls).same s5, by rw [List.length_reverse]; omega, fun x hx => I.good x (List.mem_reverse.mp hx)⟩
        · exact ⟨pl, ps, xs, rfl, I.same, I.free, I.at', I.ls, by omega, I.good⟩
      · rintro σ' H3 ⟨p, ps, xs, rfl, s3, fp, hp, hx, len, good⟩
        walk_at "rs"
        exact kk p ps xs H3 s3 fp hp hx len good
/-! ### blocks that the law makes -/
def BlkOk (z : Str) : Prop := z.length ≤ 60 ∧ PyData.strOk z = true ∧ ((∃ m v : Int, z = (Cm.w m v).txt ∧ 0 ≤ m ∧ m < 5 ∧ 1 ≤ v ∧ v < 10) ∨ ((∃ c r, TL.tl z = c :: r ∧ (c = 98 ∨ c = 99))))
theorem BlkOk.cmds {z : Str} (h : BlkOk z) : (∃ m v : Int, z = (Cm.w m v).txt ∧ 0 ≤ m ∧ m < 5 ∧ 1 ≤ v ∧ v < 10 ∧ cmdsOf z = [.w m v]) ∨ ((∃ c r, TL.tl z = c :: r ∧ (c = 98 ∨ c = 99)) ∧ cmdsOf z = []) := by
  rcases h.2.2 with ⟨m, v, e, m0, m1, v0, v1⟩ | ⟨c, r, e, hc⟩
  · refine .inl ⟨m, v, e, m0, m1, v0, v1, ?_⟩
    rw [e]
    exact cmdsOf_one ⟨⟨m0, by omega⟩, ⟨by omega, by omega⟩⟩
  · refine .inr ⟨⟨c, r, e, hc⟩, ?_⟩
    unfold cmdsOf
    rw [TL.len_tl, e, List.length_cons, cmdsP, cmdP]
    have : kdOf c = none := by rcases hc with rfl | rfl <;> rfl
    rw [this]
    rfl
theorem BlkOk.only {z : Str} (h : BlkOk z) : onlyW (cmdsOf z) := by
  rcases h.cmds with ⟨m, v, _, m0, m1, v0, v1, e⟩ | ⟨_, e⟩
  · rw [e]
    intro c hc
    rw [List.mem_singleton.mp hc]
    exact ⟨m, v, rfl, ⟨m0, by omega⟩, ⟨by omega, by omega⟩⟩
  · rw [e]
    exact fun c hc => absurd hc List.not_mem_nil
def spLBlock : Sp := fun vs H Q _ => ∃ c h : Int, vs = [.int c, .int h] ∧ 0 ≤ h ∧ h ≤ 1000 ∧ ∀ z, BlkOk z → Q (.str z) H
theorem nu_ok {i : Int} (h : NOk i) : ∀ c ∈ TL.tl (nu i), c < 1114112 := fun c hc => by
  rw [nu_tl h] at hc
  have := TL.numL_digits _ c hc
  omega
theorem nu_len6 {i : Int} (h : NOk i) : (nu i).length ≤ 6 := by
  obtain ⟨h0, h1⟩ := id h
  rw [TL.len_tl, nu_tl h]
  exact TL.numL_len (k := 6) (by decide) (by omega)
theorem nu_log2 {i : Int} (h : NOk i) : i.natAbs.log2 < 1920 := by
  obtain ⟨h0, h1⟩ := h
  rcases Nat.eq_zero_or_pos i.natAbs with z | z
  · rw [z]
    decide
  · have : i.natAbs.log2 < 30 := (Nat.log2_lt (Nat.ne_of_gt z)).mpr (by omega)
    omega
theorem ok_law_block (T : Txt K mg a) : ∃ fd, FnOk P w K mg base CX0 1 a.d_law_block fd ["cell", "height"] spLBlock ∧ Binds K fd ["cell", "height"] [] := by
  obtain ⟨fd, F, b⟩ := T.d_law_block.F
  refine ⟨fd, F.ok sc_law_block (fun vs H Q E h => ?_) (fun cdv A outer s H vs Q E hr h => ?_), b⟩
  · obtain ⟨_, _, rfl, _⟩ := h
    rfl
  · obtain ⟨c, h, rfl, h0, h1, k⟩ := h
    refine ⟨_, (pss_cons (ps_if (pt_cmpR op_eq (pe_op op_mod (pe_callTy call_int1 (by rfl) T.n_int (by decide +kernel) (pa_cons (pv 0) pa_nil)) pe_int) pe_int (nomark _))
      (pss_one (ps_ret (pe_op op_add_str (pe_op op_add_str (pe_op op_add_str pe_str (pe_callTy call_str_int (by rfl) T.n_str (by decide +kernel) (pa_cons (pe_op op_mod (pe_op op_fdiv (pv 0) pe_int) pe_int) pa_nil))) pe_str) (pe_callTy call_str_int (by rfl) T.n_str (by decide +kernel) (pa_cons (pe_op op_add pe_int (pe_op op_mod (pe_op op_fdiv (pv 0) pe_int) pe_int)) pa_nil)))))
      pss_nil)
      (pss_one (ps_ret (pe_op op_add_str (pe_op op_add_str (pe_op op_add_str pe_str (pe_callTy call_str_int (by rfl) T.n_str (by decide +kernel) (pa_cons (pv 1) pa_nil))) pe_str) (pe_callTy call_str_int (by rfl) T.n_str (by decide +kernel) (pa_cons (pe_op op_mod (pe_op op_fdiv (pv 0) pe_int) pe_int) pa_nil)))))), ?_⟩
    have m0 := Int.emod_nonneg (c / 3) (show (5 : Int) ≠ 0 by decide)
    have m1 := Int.emod_lt_of_pos (c / 3) (show (0 : Int) < 5 by decide)
    have v0 := Int.emod_nonneg (c / 15) (show (9 : Int) ≠ 0 by decide)
    have v1 := Int.emod_lt_of_pos (c / 15) (show (0 : Int) < 9 by decide)
    have t0 := Int.emod_nonneg (c / 3) (show (3 : Int) ≠ 0 by decide)
    have t1 := Int.emod_lt_of_pos (c / 3) (show (0 : Int) < 3 by decide)
    have om : NOk (c / 3 % 5) := ⟨m0, by omega⟩
    have ov : NOk (1 + c / 15 % 9) := ⟨by omega, by omega⟩
    have oh : NOk h := ⟨h0, by omega⟩
    have ot : NOk (c / 3 % 3) := ⟨t0, by omega⟩
    have l1 : (Str.ofString (toString (c / 3 % 5))).length ≤ 6 := nu_len6 om
    have l2 : (Str.ofString (toString (1 + c / 15 % 9))).length ≤ 6 := nu_len6 ov
    have l3 : (Str.ofString (toString h)).length ≤ 6 := nu_len6 oh
    have l4 : (Str.ofString (toString (c / 3 % 3))).length ≤ 6 := nu_len6 ot
    have q1 : ("w" : Str).length = 1 := rfl
    have q2 : ("x" : Str).length = 1 := rfl
    have q3 : ("b" : Str).length = 1 := rfl
    have q4 : ("t" : Str).length = 1 := rfl
    walk_at "rs"
    refine ite2 (fun c1 => ?_) (fun c1 => ?_)
    · walk_at "rs"
      refine ⟨nu_log2 om, ?_⟩
      walk_at "rs"
      refine ⟨by rw [sizeLine_eq]; omega, ?_⟩
      walk_at "rs"
      refine ⟨by rw [PySem.Str.length_append, sizeLine_eq]; omega, ?_⟩
      walk_at "rs"
      refine ⟨nu_log2 ov, ?_⟩
      walk_at "rs"
      refine ⟨by simp only [PySem.Str.length_append]; rw [sizeLine_eq]; omega, ?_⟩
      walk_at "rs"
      refine k _ ⟨by simp only [PySem.Str.length_append]; omega, strOk_cps fun n hn => ?_, .inl ⟨c / 3 % 5, 1 + c / 15 % 9, rfl, m0, m1, by omega, by omega⟩⟩
      simp only [TL.tl_append, List.mem_append] at hn
      rcases hn with ((hn | hn) | hn) | hn
      · have : ∀ n ∈ TL.tl "w", n < 1114112 := by decide +kernel
        exact this n hn
      · exact nu_ok om n hn
      · have : ∀ n ∈ TL.tl "x", n < 1114112 := by decide +kernel
        exact this n hn
      · exact nu_ok ov n hn
    · walk_at "rs"
      refine ⟨nu_log2 oh, ?_⟩
      walk_at "rs"
      refine ⟨by rw [sizeLine_eq]; omega, ?_⟩
      walk_at "rs"
      refine ⟨by rw [PySem.Str.length_append, sizeLine_eq]; omega, ?_⟩
      walk_at "rs"
      refine ⟨nu_log2 ot, ?_⟩
      walk_at "rs"
      refine ⟨by simp only [PySem.Str.length_append]; rw [sizeLine_eq]; omega, ?_⟩
      walk_at "rs"
      refine k _ ⟨by simp only [PySem.Str.length_append]; omega, strOk_cps fun n hn => ?_, .inr ⟨98, TL.tl (nu h ++ "t" ++ nu (c / 3 % 3)), ?_, .inl rfl⟩⟩
      · simp only [TL.tl_append, List.mem_append] at hn
        rcases hn with ((hn | hn) | hn) | hn
        · have : ∀ n ∈ TL.tl "b", n < 1114112 := by decide +kernel
          exact this n hn
        · exact nu_ok oh n hn
        · have : ∀ n ∈ TL.tl "t", n < 1114112 := by decide +kernel
          exact this n hn
        · exact nu_ok ot n hn
      · simp only [TL.tl_append]
        rfl


/-- a weight that a block of the law gives: one figure, or one and a nought -/
def WV (v : Int) : Prop := ∃ u : Int, 1 ≤ u ∧ u < 10 ∧ (v = u ∨ v = 10 * u)
theorem WV.lo {v : Int} (h : WV v) : 1 ≤ v ∧ v < 100 := by
  obtain ⟨u, u0, u1, rfl | rfl⟩ := h <;> omega
def BlkW (z : Str) : Prop := z.length ≤ 61 ∧ PyData.strOk z = true ∧ ((∃ m v : Int, z = (Cm.w m v).txt ∧ 0 ≤ m ∧ m < 5 ∧ WV v) ∨ ((∃ c r, TL.tl z = c :: r ∧ (c = 98 ∨ c = 99))))
theorem BlkW.cmds {z : Str} (h : BlkW z) : (∃ m v : Int, z = (Cm.w m v).txt ∧ 0 ≤ m ∧ m < 5 ∧ WV v ∧ cmdsOf z = [.w m v]) ∨ ((∃ c r, TL.tl z = c :: r ∧ (c = 98 ∨ c = 99)) ∧ cmdsOf z = []) := by
  rcases h.2.2 with ⟨m, v, e, m0, m1, wv⟩ | ⟨c, r, e, hc⟩
  · refine .inl ⟨m, v, e, m0, m1, wv, ?_⟩
    have := wv.lo
    rw [e]
    exact cmdsOf_one ⟨⟨m0, by omega⟩, ⟨by omega, by omega⟩⟩
  · refine .inr ⟨⟨c, r, e, hc⟩, ?_⟩
    unfold cmdsOf
    rw [TL.len_tl, e, List.length_cons, cmdsP, cmdP]
    have : kdOf c = none := by rcases hc with rfl | rfl <;> rfl
    rw [this]
    rfl
theorem BlkW.only {z : Str} (h : BlkW z) : onlyW (cmdsOf z) := by
  rcases h.cmds with ⟨m, v, _, m0, m1, wv, e⟩ | ⟨_, e⟩
  · have := wv.lo
    rw [e]
    intro c hc
    rw [List.mem_singleton.mp hc]
    exact ⟨m, v, rfl, ⟨m0, by omega⟩, ⟨by omega, by omega⟩⟩
  · rw [e]
    exact fun c hc => absurd hc List.not_mem_nil
theorem BlkOk.toW {z : Str} (h : BlkOk z) : BlkW z := by
  refine ⟨by have := h.1; omega, h.2.1, ?_⟩
  rcases h.2.2 with ⟨m, v, e, m0, m1, v0, v1⟩ | h
  · exact .inl ⟨m, v, e, m0, m1, v, v0, v1, .inl rfl⟩
  · exact .inr h
theorem w_nought {m v : Int} (m0 : 0 ≤ m) (m1 : m < 5) (v0 : 1 ≤ v) (v1 : v < 10) : (Cm.w m v).txt ++ Str.ofString "0" = (Cm.w m (10 * v)).txt := by
  have h : ∀ i : Fin 5, ∀ j : Fin 9, (Cm.w (i.val : Int) ((j.val : Int) + 1)).txt ++ Str.ofString "0" = (Cm.w (i.val : Int) (10 * ((j.val : Int) + 1))).txt := by decide +kernel
  have := h ⟨m.toNat, by omega⟩ ⟨(v - 1).toNat, by omega⟩
  rwa [show ((m.toNat : Nat) : Int) = m by omega, show (((v - 1).toNat : Nat) : Int) + 1 = v by omega] at this
theorem strOk_lt {z : Str} (h : PyData.strOk z = true) : ∀ n ∈ TL.tl z, n < 1114112 := by
  intro n hn
  unfold PyData.strOk at h
  rw [← Array.all_toList] at h
  exact of_decide_eq_true (List.all_eq_true.mp h n hn)
theorem BlkOk.nought {z : Str} (h : BlkOk z) : BlkW (z ++ Str.ofString "0") := by
  have l1 : (Str.ofString "0").length = 1 := rfl
  refine ⟨by rw [PySem.Str.length_append]; have := h.1; omega, strOk_cps fun n hn => ?_, ?_⟩
  · rw [TL.tl_append, List.mem_append] at hn
    rcases hn with hn | hn
    · exact strOk_lt h.2.1 n hn
    · have : ∀ n ∈ TL.tl (Str.ofString "0"), n < 1114112 := by decide +kernel
      exact this n hn
  rcases h.2.2 with ⟨m, v, e, m0, m1, v0, v1⟩ | ⟨c, r, e, hc⟩
  · exact .inl ⟨m, 10 * v, by rw [e, w_nought m0 m1 v0 v1], m0, m1, v, v0, v1, .inr rfl⟩
  · exact .inr ⟨c, r ++ TL.tl (Str.ofString "0"), by rw [TL.tl_append, e]; rfl, hc⟩
/-- what stands in the text of a new weight -/
theorem wtxt_facts {m v : Int} (m0 : 0 ≤ m) (m1 : m < 5) (wv : WV v) : (TL.tl (Cm.w m v).txt)[0]? = some 119 ∧ ∃ d, (TL.tl (Cm.w m v).txt)[1]? = some d ∧ PySem.intText? ⟨#[d]⟩ = some m ∧
    PySem.intText? (cutS (Cm.w m v).txt (some 3) none) = some v ∧ (cutS (Cm.w m v).txt (some 3) none).length ≤ 640 := by
  obtain ⟨u, v0, v1, hu⟩ := wv
  have h : ∀ i : Fin 5, ∀ j : Fin 9, (TL.tl (Cm.w (i.val : Int) ((j.val : Int) + 1)).txt)[0]? = some 119 ∧ (TL.tl (Cm.w (i.val : Int) ((j.val : Int) + 1)).txt)[1]? = some (48 + i.val) ∧ PySem.intText? ⟨#[48 + i.val]⟩ = some (i.val : Int) ∧
      PySem.intText? (cutS (Cm.w (i.val : Int) ((j.val : Int) + 1)).txt (some 3) none) = some ((j.val : Int) + 1) ∧ (cutS (Cm.w (i.val : Int) ((j.val : Int) + 1)).txt (some 3) none).length ≤ 640 := by
    decide +kernel
  have h2 : ∀ i : Fin 5, ∀ j : Fin 9, (TL.tl (Cm.w (i.val : Int) (10 * ((j.val : Int) + 1))).txt)[0]? = some 119 ∧ (TL.tl (Cm.w (i.val : Int) (10 * ((j.val : Int) + 1))).txt)[1]? = some (48 + i.val) ∧ PySem.intText? ⟨#[48 + i.val]⟩ = some (i.val : Int) ∧
      PySem.intText? (cutS (Cm.w (i.val : Int) (10 * ((j.val : Int) + 1))).txt (some 3) none) = some (10 * ((j.val : Int) + 1)) ∧ (cutS (Cm.w (i.val : Int) (10 * ((j.val : Int) + 1))).txt (some 3) none).length ≤ 640 := by
    decide +kernel
  rcases hu with rfl | rfl
  · have := h ⟨m.toNat, by omega⟩ ⟨(v - 1).toNat, by omega⟩
    rw [show ((m.toNat : Nat) : Int) = m by omega, show (((v - 1).toNat : Nat) : Int) + 1 = v by omega] at this
    exact ⟨this.1, _, this.2.1, this.2.2.1, this.2.2.2.1, this.2.2.2.2⟩
  · have := h2 ⟨m.toNat, by omega⟩ ⟨(u - 1).toNat, by omega⟩
    rw [show ((m.toNat : Nat) : Int) = m by omega, show (((u - 1).toNat : Nat) : Int) + 1 = u by omega] at this
    exact ⟨this.1, _, this.2.1, this.2.2.1, this.2.2.2.1, this.2.2.2.2⟩
def spRew (K : PySem.W.Frag) : Sp := fun vs H Q _ => ∃ (pw : Addr) (ws : List Int) (z : Str), vs = [.ref pw, .str z] ∧ SqL K H pw (ws.map V.int) ∧ GoodW ws ∧ BlkW z ∧
  ∀ p H', Same H H' → H p = none → H' p = some (.lst ((rew ws (cmdsOf z)).map V.int)) → Q (.ref p) H'
theorem ok_law_reweighted (T : Txt K mg a) : ∃ fd, FnOk P w K mg base CX0 1 a.d_law_reweighted fd ["weights", "block"] (spRew K) ∧ Binds K fd ["weights", "block"] [] := by
  obtain ⟨fd, F, b⟩ := T.d_law_reweighted.F
  refine ⟨fd, F.ok sc_law_reweighted (fun vs H Q E h => ?_) (fun cdv A outer s H vs Q E hr h => ?_), b⟩
  · obtain ⟨_, _, _, rfl, _⟩ := h
    rfl
  · obtain ⟨pw, ws, z, rfl, hw, gw, bo, k⟩ := h
    refine ⟨_, (pss_cons (ps_set (i := 2) sc_law_reweighted.nd rfl (Or.inl rfl) (pe_callTy call_list_of (by rfl) T.n_list (by decide +kernel) (pa_cons (pv 0) pa_nil)))
      (pss_cons (ps_if (PW.pt (pw_and (pt_cmpR op_eq (pe_ix ix_str (pv 1) pe_int (fun _ _ => rfl)) pe_str (nomark _)) (pw_and1 (pt_cmpR op_lt (pe_callTy call_int_str (by rfl) T.n_int (by decide +kernel) (pa_cons (pe_ix ix_str (pv 1) pe_int (fun _ _ => rfl)) pa_nil)) (pe_callB call_len_seq (by rfl) T.n_len PySem.boot_len (pa_cons (pv 0) pa_nil)) (nomark _)))))
      (pss_one (ps_asg (pe_callTy call_int_str (by rfl) T.n_int (by decide +kernel) (pa_cons (pe_slice sl_str (pv 1) (po_some pe_int) po_none) pa_nil)) (pg_sub (pv 2) (pe_callTy call_int_str (by rfl) T.n_int (by decide +kernel) (pa_cons (pe_ix ix_str (pv 1) pe_int (fun _ _ => rfl)) pa_nil)) set_list)))
      pss_nil)
      (pss_one (ps_ret (pv 2))))), ?_⟩
    have lz := bo.1
    walk_at "rs"
    refine ⟨pw, _, rfl, .inl hw, fun p hp => ?_⟩
    have s1 := same_new (o := .lst (ws.map V.int)) hp
    have hp1 : (upd H p (.lst (ws.map V.int))) p = some (.lst (ws.map V.int)) := upd_same
    generalize upd H p (.lst (ws.map V.int)) = H1 at s1 hp1 ⊢
    walk_at "rs"
    have z119 : (Str.ofString "w") = ⟨#[119]⟩ := rfl
    rcases bo.cmds with ⟨m, v, rfl, m0, m1, wv, ec⟩ | ⟨⟨c, r, e, hc⟩, ec⟩
    · have v01 := wv.lo
      obtain ⟨v0, v1⟩ := v01
      obtain ⟨f0, d, f1, fi, fv, fl⟩ := wtxt_facts m0 m1 wv
      rw [ec] at k
      refine ⟨_, 0, 119, rfl, rfl, (by rw [sizeLine_eq]; omega), atI_nat (j := 0) f0, ?_⟩
      walk_at "rs"
      refine ⟨_, 1, d, rfl, rfl, (by rw [sizeLine_eq]; omega), atI_nat (j := 1) f1, ?_⟩
      walk_at "rs"
      refine ⟨_, _, rfl, fi, (by show 1 ≤ 640; decide), ?_⟩
      walk_at "rs"
      refine ⟨pw, _, rfl, .inl (s1.seq hw), ?_⟩
      walk_at "rs"
      have ln : (ws.map V.int).length = ws.length := List.length_map _
      have er : rew ws [.w m v] = afterW ws m v := rfl
      rw [er] at k
      unfold afterW at k
      refine ite2 (fun c1 => ?_) (fun c1 => ?_)
      · have c1 : m < (ws.length : Int) := by
          have := of_decide_eq_true c1
          rwa [ln] at this
        rw [if_neg (by omega)] at k
        walk_at "rs"
        refine ⟨by rw [sizeLine_eq]; omega, ?_⟩
        walk_at "rs"
        refine ⟨_, _, rfl, fv, fl, ?_⟩
        walk_at "rs"
        refine ⟨_, 1, d, rfl, rfl, (by rw [sizeLine_eq]; omega), atI_nat (j := 1) f1, ?_⟩
        walk_at "rs"
        refine ⟨_, _, rfl, fi, (by show 1 ≤ 640; decide), ?_⟩
        refine ⟨p, _, m, m.toNat, rfl, rfl, hp1, (by unfold ixN; rw [if_pos m0, if_pos (by rw [ln]; omega)]), ?_⟩
        walk_at "rs"
        exact k p _ (same_upd s1 hp) hp (by rw [upd_same, List.map_set])
      · have c1 : ¬ m < (ws.length : Int) := fun h => c1 (decide_eq_true (by rw [ln]; exact h))
        rw [if_pos (by omega)] at k
        walk_at "rs"
        exact k p H1 s1 hp hp1
    · rw [ec] at k
      refine ⟨_, 0, c, rfl, rfl, (by rw [sizeLine_eq]; omega), atI_nat (j := 0) (show (TL.tl z)[0]? = some c by rw [e]; rfl), ?_⟩
      have nc : ¬ V.str ⟨#[c]⟩ = V.str "w" := fun h => by
        have h := V.str.inj h
        rw [z119] at h
        have : c = 119 := by simpa using h
        omega
      walk_at "rs"
      refine ite2 (fun c1 => absurd (of_decide_eq_true c1) nc) (fun c1 => ?_)
      walk_at "rs"
      exact k p H1 s1 hp hp1

/-! ### two chains beside each other -/
def NQ (q : CnP) (b : Addr) : Prop := b ≠ q.B ∧ b ≠ q.R ∧ b ≠ q.D ∧ b ≠ q.L
def Dis (q1 q2 : CnP) : Prop := NQ q1 q2.B ∧ NQ q1 q2.R ∧ NQ q1 q2.D ∧ NQ q1 q2.L
theorem ButC.at {q : CnP} {H H' : Hp} (k : ButC q H H') {b : Addr} {o : HO} (n : NQ q b) (h : H b = some o) : H' b = some o := k b o n.1 n.2.1 n.2.2.1 n.2.2.2 h
theorem CnAt.butC2 {C1 C2 C3 : Addr} {H H' : Hp} {p1 p2 : Addr} {q1 q2 : CnP} {v1 v2 : CnV} {x y x2 y2 : Int} (k : ButC q1 H H') (c1 : CnAt C1 C2 C3 H p1 q1 v1 x y) (c2 : CnAt C1 C2 C3 H p2 q2 v2 x2 y2) (d : Dis q1 q2) : CnAt C1 C2 C3 H' p2 q2 v2 x2 y2 :=
  { c2 with
    ins := c2.ins.elim fun dd h => ⟨dd, k.nl c1 h (fun _ e => nomatch e)⟩
    hB := k.at d.1 c2.hB
    hR := k.at d.2.1 c2.hR
    hD := k.at d.2.2.1 c2.hD
    hL := k.at d.2.2.2 c2.hL
    cm := fun i hi => let ⟨⟨d1, t1, e1, e2⟩, g⟩ := c2.cm i hi; ⟨⟨d1, t1, k.nl c1 e1 (fun _ e => nomatch e), k.nl c1 e2 (fun _ e => nomatch e)⟩, g⟩
    ld := fun l hl => let ⟨t, ⟨d1, c2', c3, h1⟩, h2⟩ := c2.ld l hl; ⟨t, ⟨d1, c2', c3, k.nl c1 h1 (fun _ e => nomatch e)⟩, k.nl c1 h2 (fun _ e => nomatch e)⟩ }
theorem upd_nl {H : Hp} {b : Addr} {ys : List V} {o : HO} (hb : H b = some (.lst ys)) {a : Addr} {u : HO} (h : H a = some u) (n : NL u) : upd H b o a = some u := by
  rw [upd_ne (fun e => by rw [e, hb] at h; exact n _ (Option.some.inj h).symm)]
  exact h
theorem CnAt.updL {C1 C2 C3 : Addr} {H : Hp} {p b : Addr} {q : CnP} {v : CnV} {x y : Int} {ys : List V} {o : HO} (c : CnAt C1 C2 C3 H p q v x y) (hb : H b = some (.lst ys)) (n : NQ q b) : CnAt C1 C2 C3 (upd H b o) p q v x y :=
  { c with
    ins := c.ins.elim fun dd h => ⟨dd, upd_nl hb h (fun _ e => nomatch e)⟩
    hB := by rw [upd_ne n.1.symm]; exact c.hB
    hR := by rw [upd_ne n.2.1.symm]; exact c.hR
    hD := by rw [upd_ne n.2.2.1.symm]; exact c.hD
    hL := by rw [upd_ne n.2.2.2.symm]; exact c.hL
    cm := fun i hi => let ⟨⟨d1, t1, e1, e2⟩, g⟩ := c.cm i hi; ⟨⟨d1, t1, upd_nl hb e1 (fun _ e => nomatch e), upd_nl hb e2 (fun _ e => nomatch e)⟩, g⟩
    ld := fun l hl => let ⟨t, ⟨d1, c2', c3, h1⟩, h2⟩ := c.ld l hl; ⟨t, ⟨d1, c2', c3, upd_nl hb h1 (fun _ e => nomatch e)⟩, upd_nl hb h2 (fun _ e => nomatch e)⟩ }
/-- a new object is none of a chain's -/
theorem CnAt.fresh {C1 C2 C3 : Addr} {H : Hp} {p : Addr} {q : CnP} {v : CnV} {x y : Int} (c : CnAt C1 C2 C3 H p q v x y) {b : Addr} (h : H b = none) : NQ q b :=
  ⟨fun e => (by rw [e, c.hB] at h; cases h), fun e => (by rw [e, c.hR] at h; cases h), fun e => (by rw [e, c.hD] at h; cases h), fun e => (by rw [e, c.hL] at h; cases h)⟩

/-! ### where two lists of blocks part -/
def zAt (zs : List Str) (i : Nat) : Str := zs.getD i Str.empty
def DifAt (zs ys : List Str) : Option Nat → Prop
  | some i => i < min zs.length ys.length ∧ zAt zs i ≠ zAt ys i ∧ ∀ j, j < i → zAt zs j = zAt ys j
  | none => ∀ j, j < min zs.length ys.length → zAt zs j = zAt ys j
theorem DifAt.one {zs ys : List Str} : ∀ {o o' : Option Nat}, DifAt zs ys o → DifAt zs ys o' → o = o'
  | none, none, _, _ => rfl
  | none, some i, h, g => absurd (h i g.1) g.2.1
  | some i, none, h, g => absurd (g i h.1) h.2.1
  | some i, some j, h, g => by
    rcases Nat.lt_trichotomy i j with l | l | l
    · exact absurd (g.2.2 i l) h.2.1
    · rw [l]
    · exact absurd (h.2.2 j l) g.2.1
def oN : Option Nat → V
  | some i => .int (i : Int)
  | none => .non
theorem str_at {zs : List Str} {i : Nat} (h : i < zs.length) : (zs.map V.str)[i]? = some (.str (zAt zs i)) := by
  unfold zAt
  rw [List.getElem?_map, List.getD_eq_getElem?_getD, List.getElem?_eq_getElem h]
  rfl
def spLeast (K : PySem.W.Frag) : Sp := fun vs H Q _ => ∃ (p q : Addr) (zs ys : List Str), vs = [.ref p, .ref q] ∧ H p = some (.lst (zs.map V.str)) ∧ H q = some (.lst (ys.map V.str)) ∧ zs.length ≤ 10 ∧ ys.length ≤ 10 ∧
  ∀ o H', Same H H' → DifAt zs ys o → Q (oN o) H'
theorem ok_law_least (T : Txt K mg a) : ∃ fd, FnOk P w K mg base CX0 1 a.d_law_least fd ["blocks", "others"] (spLeast K) ∧ Binds K fd ["blocks", "others"] [] := by
  obtain ⟨fd, F, b⟩ := T.d_law_least.F
  refine ⟨fd, F.ok sc_law_least (fun vs H Q E h => ?_) (fun cdv A outer s H vs Q E hr h => ?_), b⟩
  · obtain ⟨_, _, _, _, rfl, _⟩ := h
    rfl
  · obtain ⟨p, q, zs, ys, rfl, hp, hq, lz, ly, k⟩ := h
    refine ⟨_, (pss_cons (ps_for PassesOwn.never rfl (pi_range1 rfl T.n_range (pa_cons (pe_callB (call_min2 rfl) (by rfl) T.n_min (by decide +kernel) (pa_cons (pe_callB call_len_seq (by rfl) T.n_len PySem.boot_len (pa_cons (pv 0) pa_nil)) (pa_cons (pe_callB call_len_seq (by rfl) T.n_len PySem.boot_len (pa_cons (pv 1) pa_nil)) pa_nil))) pa_nil)) (pg_name (i := 2) sc_law_least.nd rfl (Or.inl rfl))
      (pss_one (ps_if (pt_cmpR op_ne (pe_ix ix_list (pv 0) (pv 2) (fun _ _ => rfl)) (pe_ix ix_list (pv 1) (pv 2) (fun _ _ => rfl)) (nomark _))
        (pss_one (ps_ret (pv 2)))
        pss_nil)))
      (pss_one (ps_ret pe_non))), ?_⟩
    walk_at "rs"
    refine ⟨p, _, rfl, .inl (SqL.of hp), ?_⟩
    walk_at "rs"
    refine ⟨q, _, rfl, .inl (SqL.of hq), ?_⟩
    walk_at "rs"
    refine ⟨_, _, rfl, ?_⟩
    walk_at "rs"
    rw [List.length_map, List.length_map]
    refine ⟨by split <;> omega, by split <;> omega, ?_⟩
    have em : (if (ys.length : Int) < (zs.length : Int) then (ys.length : Int) else (zs.length : Int)).toNat = min zs.length ys.length := by split <;> omega
    rw [em]
    refine for_range (lo := 0) (n := min zs.length ys.length) (fun i σ H2 => ∃ v2 : Option V, σ = [some (.ref p), some (.ref q), v2] ∧ Same H H2 ∧ ∀ j, j < i → zAt zs j = zAt ys j) ⟨_, rfl, Same.refl H, fun j hj => absurd hj (Nat.not_lt_zero _)⟩ ?_ ?_
    · rintro i σ H2 hi ⟨v2, rfl, s2, eq⟩
      have e0 : (0 : Int) + (i : Int) = (i : Int) := Int.zero_add _
      rw [e0]
      walk_at "rs"
      refine ⟨p, _, _, _, rfl, rfl, SqL.of (s2 _ _ hp), at_of (j := i) rfl (str_at (by omega)), ?_⟩
      walk_at "rs"
      refine ⟨q, _, _, _, rfl, rfl, SqL.of (s2 _ _ hq), at_of (j := i) rfl (str_at (by omega)), ?_⟩
      walk_at "rs"
      refine ite2 (fun c => ?_) (fun c => ?_)
      · walk_at "rs"
        exact k (some i) H2 s2 ⟨hi, fun e => by rw [e] at c; simp at c, eq⟩
      · refine ⟨_, rfl, s2, fun j hj => ?_⟩
        rcases Nat.lt_or_ge j i with h | h
        · exact eq j h
        · have : j = i := by omega
          rw [this]
          simpa using c
    · rintro σ H2 ⟨v2, rfl, s2, eq⟩
      walk_at "rs"
      exact k none H2 s2 eq
def spDisp (C0 C1 C2 C3 : Addr) : Sp := fun vs H Q _ => ∃ (k1 p1 k2 p2 : Addr) (q1 q2 : CnP) (v1 v2 : CnV) (x y : Int), vs = [.ref k1, .ref k2] ∧ ClAt C0 H k1 p1 ∧ ClAt C0 H k2 p2 ∧ CnAt C1 C2 C3 H p1 q1 v1 x y ∧ CnAt C1 C2 C3 H p2 q2 v2 x y ∧
  ∀ o H', Same H H' → DifAt v1.zs v2.zs o → Q (oN o) H'
theorem ok_dispute (T : Txt K mg a) : ∃ fd, FnOk P w K mg base CX0 1 a.d_dispute fd ["client", "other"] (spDisp a.C_Client a.C_Chain a.C_Committee a.C_Ledger) ∧ Binds K fd ["client", "other"] [] := by
  obtain ⟨fd, F, b⟩ := T.d_dispute.F
  refine ⟨fd, F.ok sc_dispute (fun vs H Q E h => ?_) (fun cdv A outer s H vs Q E hr h => ?_), b⟩
  · obtain ⟨_, _, _, _, _, _, _, _, _, _, rfl, _⟩ := h
    rfl
  · obtain ⟨k1, p1, k2, p2, q1, q2, v1, v2, x, y, rfl, ⟨dk1, hk1⟩, ⟨dk2, hk2⟩, c1, c2, k⟩ := h
    obtain ⟨dp1, hp1⟩ := id c1.ins
    obtain ⟨dp2, hp2⟩ := id c2.ins
    refine ⟨_, (pss_cons (ps_for PassesOwn.never rfl (pi_enzip (by rfl) T.n_enumerate (by rfl) T.n_zip (pa_cons (pe_fld (pe_fld (pv 0) rfl) rfl) (pa_cons (pe_fld (pe_fld (pv 1) rfl) rfl) pa_nil))) (pg_tup rfl (pgs_cons (pg_name (i := 2) sc_dispute.nd rfl (Or.inl rfl)) (pgs_cons (pg_tup rfl (pgs_cons (pg_name (i := 3) sc_dispute.nd rfl (Or.inl rfl)) (pgs_cons (pg_name (i := 4) sc_dispute.nd rfl (Or.inl rfl)) pgs_nil))) pgs_nil)))
      (pss_one (ps_if (pt_cmpR op_ne (pv 3) (pv 4) (nomark _))
        (pss_one (ps_ret (pv 2)))
        pss_nil)))
      (pss_one (ps_ret pe_non))), ?_⟩
    walk_at "rs"
    refine ⟨k1, _, dk1, _, .ref p1, rfl, hk1, T.cl_Client, T.a_Client_chain, rfl, ?_⟩
    walk_at "rs"
    refine ⟨p1, _, dp1, _, .ref q1.B, rfl, hp1, T.cl_Chain, T.a_Chain_blocks, rfl, ?_⟩
    walk_at "rs"
    refine ⟨k2, _, dk2, _, .ref p2, rfl, hk2, T.cl_Client, T.a_Client_chain, rfl, ?_⟩
    walk_at "rs"
    refine ⟨p2, _, dp2, _, .ref q2.B, rfl, hp2, T.cl_Chain, T.a_Chain_blocks, rfl, ?_⟩
    walk_at "rs"
    refine ⟨q1.B, q2.B, _, _, rfl, SqL.of c1.hB, SqL.of c2.hB, ?_⟩
    refine for_enzip (K := K) (a := q1.B) (b := q2.B) (xs := v1.zs.map V.str) (ys := v2.zs.map V.str) (fun i σ H2 => ∃ v3 v4 v5 : Option V, σ = [some (.ref k1), some (.ref k2), v3, v4, v5] ∧ Same H H2 ∧ ∀ j, j < i → zAt v1.zs j = zAt v2.zs j) ⟨_, _, _, rfl, Same.refl H, fun j hj => absurd hj (Nat.not_lt_zero _)⟩ (fun i σ H2 ⟨_, _, _, _, s2, _⟩ => ⟨SqL.of (s2 _ _ c1.hB), SqL.of (s2 _ _ c2.hB)⟩) ?_ ?_
    · rintro i x' y' T1 T2 σ H2 hx hy ⟨v3, v4, v5, rfl, s2, eq⟩ h1 h2
      have i1 := (List.getElem?_eq_some_iff.mp hx).1
      have i2 := (List.getElem?_eq_some_iff.mp hy).1
      rw [List.length_map] at i1 i2
      rw [str_at i1] at hx
      rw [str_at i2] at hy
      cases hx
      cases hy
      have s3 := (same_new (o := .tup [V.str (zAt v1.zs i), V.str (zAt v2.zs i)]) h1).trans (same_new (o := .tup [V.int (i : Nat), V.ref T1]) h2)
      have t2 : (upd (upd H2 T1 (.tup [V.str (zAt v1.zs i), V.str (zAt v2.zs i)])) T2 (.tup [V.int (i : Nat), V.ref T1])) T2 = some (.tup [V.int (i : Nat), V.ref T1]) := upd_same
      have t1 : (upd (upd H2 T1 (.tup [V.str (zAt v1.zs i), V.str (zAt v2.zs i)])) T2 (.tup [V.int (i : Nat), V.ref T1])) T1 = some (.tup [V.str (zAt v1.zs i), V.str (zAt v2.zs i)]) := (same_new h2) _ _ upd_same
      generalize upd (upd H2 T1 (.tup [V.str (zAt v1.zs i), V.str (zAt v2.zs i)])) T2 (.tup [V.int (i : Nat), V.ref T1]) = H3 at s3 t1 t2 ⊢
      refine ⟨T2, _, rfl, SqT.of t2, rfl, ?_⟩
      refine ⟨_, _, rfl, _, _, rfl, _, _, rfl, SqT.of t1, rfl, _, _, rfl, _, _, rfl, rfl, rfl, ?_⟩
      walk_at "rs"
      refine ite2 (fun c => ?_) (fun c => ?_)
      · walk_at "rs"
        exact k (some i) H3 (s2.trans s3) ⟨by omega, fun e => by rw [e] at c; simp at c, eq⟩
      · refine ⟨_, _, _, rfl, s2.trans s3, fun j hj => ?_⟩
        rcases Nat.lt_or_ge j i with h | h
        · exact eq j h
        · have : j = i := by omega
          rw [this]
          simpa using c
    · rintro σ H2 ⟨v3, v4, v5, rfl, s2, eq⟩
      walk_at "rs"
      rw [List.length_map, List.length_map] at eq
      exact k none H2 s2 eq

/-- a statement whose reading is kept whole -/
def tWhole (t : TS) : TS := t
theorem ps_whole {X : Cx} {st : Stmt} {t : TS} (h : PS X st t) : PS X st (tWhole t) := h

/-! ### what a client of the law has followed -/
theorem LtAt.butC {C1 C2 C3 : Addr} {H H' : Hp} {p : Addr} {q : CnP} {v : CnV} {x y : Int} (k : ButC q H H') (c : CnAt C1 C2 C3 H p q v x y) {t : Addr} {m : Lt} (h : LtAt H t m) : LtAt H' t m := by
  obtain ⟨r, h1, h2⟩ := h
  exact ⟨r, k.nl c h1 (fun _ e => nomatch e), k.nl c h2 (fun _ e => nomatch e)⟩
structure Pa where
  z : Str
  l : Addr
  ps : List Addr
  xs : List Lt
instance : Inhabited Pa := ⟨⟨Str.empty, 0, [], []⟩⟩
structure PaOk (H : Hp) (n : Pa) (h : Int) : Prop where
  hl : H n.l = some (.lst (n.ps.map V.ref))
  hx : LsAt H n.ps n.xs
  few : n.xs.length ≤ 32
  pap : ∀ x ∈ n.xs, PapL h n.z x
  bo : BlkW n.z
theorem PaOk.same {H H' : Hp} {n : Pa} {h : Int} (p : PaOk H n h) (s : Same H H') : PaOk H' n h := { p with hl := s _ _ p.hl, hx := p.hx.same s }
theorem PaOk.but {C1 C2 C3 : Addr} {H H4 : Hp} {p pl : Addr} {q : CnP} {v : CnV} {x y : Int} {n : Pa} {h : Int} {ys : List V} {o : HO} (P : PaOk H n h) (c : CnAt C1 C2 C3 H p q v x y) (k : ButC q H H4) (hp : H4 pl = some (.lst ys)) (nq : NQ q n.l) (ne : n.l ≠ pl) : PaOk (upd H4 pl o) n h :=
  { P with
    hl := by rw [upd_ne ne]; exact k.at nq P.hl
    hx := ⟨P.hx.1, fun i hi => let ⟨r, h1, h2⟩ := LtAt.butC k c (P.hx.2 i hi); ⟨r, upd_nl hp h1 (fun _ e => nomatch e), upd_nl hp h2 (fun _ e => nomatch e)⟩⟩ }
def rwZ (ws : List Int) (zs : List Str) : List Int := zs.foldl (fun w z => rew w (cmdsOf z)) ws
theorem rwZ_snoc (ws : List Int) (zs : List Str) (z : Str) : rwZ ws (zs ++ [z]) = rew (rwZ ws zs) (cmdsOf z) := by
  unfold rwZ
  rw [List.foldl_append]
  rfl
structure FolAt (C0 C1 C2 C3 : Addr) (H : Hp) (k p pl : Addr) (q : CnP) (v : CnV) (es : List Pa) (ws : List Int) : Prop where
  k : ClAt C0 H k p
  c : CnAt C1 C2 C3 H p q v 0 0
  hp : H pl = some (.lst ((es.map (·.l)).map V.ref))
  ez : v.zs = es.map (·.z)
  ok : ∀ i, i < es.length → PaOk H (es.getD i default) (i : Int) ∧ shM (v.ws.getD i []) (es.getD i default).xs (i : Int) (some (es.getD i default).z) = true
  wz : ∀ i, i ≤ es.length → v.ws.getD i [] = rwZ ws (v.zs.take i)
theorem FolAt.same {C0 C1 C2 C3 : Addr} {H H' : Hp} {k p pl : Addr} {q : CnP} {v : CnV} {es : List Pa} {ws : List Int} (f : FolAt C0 C1 C2 C3 H k p pl q v es ws) (s : Same H H') : FolAt C0 C1 C2 C3 H' k p pl q v es ws :=
  { f with k := f.k.elim fun d e => ⟨d, s _ _ e⟩, c := f.c.same s, hp := s _ _ f.hp, ok := fun i hi => ⟨(f.ok i hi).1.same s, (f.ok i hi).2⟩ }
/-- a followed list that is being made -/
structure FolI (C0 C1 C2 C3 : Addr) (H0 H : Hp) (k p pl : Addr) (q : CnP) (v : CnV) (es : List Pa) (ws : List Int) : Prop where
  f : FolAt C0 C1 C2 C3 H k p pl q v es ws
  s : Same H0 H
  nq : NQ q pl
  fr : H0 q.B = none ∧ H0 q.R = none ∧ H0 q.D = none ∧ H0 q.L = none ∧ H0 pl = none
  ns : ∀ n ∈ es, NQ q n.l ∧ n.l ≠ pl
theorem FolI.same {C0 C1 C2 C3 : Addr} {H0 H H' : Hp} {k p pl : Addr} {q : CnP} {v : CnV} {es : List Pa} {ws : List Int} (f : FolI C0 C1 C2 C3 H0 H k p pl q v es ws) (s : Same H H') : FolI C0 C1 C2 C3 H0 H' k p pl q v es ws := { f with f := f.f.same s, s := f.s.trans s }
theorem getD_memP {es : List Pa} {i : Nat} (h : i < es.length) : es.getD i default ∈ es := by
  rw [List.getD_eq_getElem?_getD, List.getElem?_eq_getElem h]
  exact List.getElem_mem h
theorem FolI.step {C0 C1 C2 C3 : Addr} {H0 H H4 : Hp} {k p pl : Addr} {q : CnP} {v : CnV} {es : List Pa} {ws : List Int} (I : FolI C0 C1 C2 C3 H0 H k p pl q v es ws) (n : Pa) (N : PaOk H n (es.length : Int)) (nq : NQ q n.l) (ne : n.l ≠ pl)
    (hd : shM (v.ws.getD v.zs.length []) n.xs (v.zs.length : Int) (some n.z) = true) {r c d : Addr} (kq : ButC q H H4) (c4 : CnAt C1 C2 C3 H4 p q ⟨v.zs ++ [n.z], v.rs ++ [r], v.ps ++ [c], v.ws ++ [rew (v.ws.getD v.zs.length []) (cmdsOf n.z)], v.ls ++ [d]⟩ 0 0) :
    FolI C0 C1 C2 C3 H0 (upd H4 pl (.lst ((es.map (·.l)).map V.ref ++ [V.ref n.l]))) k p pl q ⟨v.zs ++ [n.z], v.rs ++ [r], v.ps ++ [c], v.ws ++ [rew (v.ws.getD v.zs.length []) (cmdsOf n.z)], v.ls ++ [d]⟩ (es ++ [n]) ws := by
  have f := I.f
  have hpl4 := kq.at I.nq f.hp
  have lz : v.zs.length = es.length := by rw [f.ez, List.length_map]
  have lw := f.c.nw
  have left : ∀ i, i ≤ es.length → (v.ws ++ [rew (v.ws.getD v.zs.length []) (cmdsOf n.z)]).getD i [] = v.ws.getD i [] := fun i hi => getD_left (by omega)
  refine ⟨⟨f.k.elim fun dd e => ⟨dd, upd_nl hpl4 (kq.nl f.c e (fun _ e => nomatch e)) (fun _ e => nomatch e)⟩, c4.updL hpl4 I.nq, by rw [upd_same]; simp, by show v.zs ++ [n.z] = _; rw [f.ez]; simp, fun i hi => ?_, fun i hi => ?_⟩, fun b o e => ?_, I.nq, I.fr, fun m hm => ?_⟩
  · rw [List.length_append, List.length_singleton] at hi
    rcases Nat.lt_or_ge i es.length with h | h
    · obtain ⟨P, sh⟩ := f.ok i h
      obtain ⟨n1, n2⟩ := I.ns _ (getD_memP h)
      rw [getD_left h]
      refine ⟨P.but f.c kq hpl4 n1 n2, ?_⟩
      show shM ((v.ws ++ [_]).getD i []) _ _ _ = true
      rw [left i (Nat.le_of_lt h)]
      exact sh
    · have : i = es.length := by omega
      subst this
      have en : (es ++ [n]).getD es.length default = n := getD_end
      rw [en]
      refine ⟨N.but f.c kq hpl4 nq ne, ?_⟩
      show shM ((v.ws ++ [_]).getD es.length []) _ _ _ = true
      rw [left _ (Nat.le_refl _), ← lz]
      exact hd
  · rw [List.length_append, List.length_singleton] at hi
    show (v.ws ++ [_]).getD i [] = rwZ ws ((v.zs ++ [n.z]).take i)
    rcases Nat.lt_or_ge i (es.length + 1) with h | h
    · rw [left i (by omega), List.take_append_of_le_length (by omega)]
      exact f.wz i (by omega)
    · have : i = v.ws.length := by omega
      rw [this, getD_end, List.take_of_length_le (by rw [List.length_append, List.length_singleton]; omega), rwZ_snoc, lz, f.wz _ (Nat.le_refl _), List.take_of_length_le (by omega)]
  · have n1 : b ≠ q.B := fun z => by rw [z, I.fr.1] at e; cases e
    have n2 : b ≠ q.R := fun z => by rw [z, I.fr.2.1] at e; cases e
    have n3 : b ≠ q.D := fun z => by rw [z, I.fr.2.2.1] at e; cases e
    have n4 : b ≠ q.L := fun z => by rw [z, I.fr.2.2.2.1] at e; cases e
    rw [upd_ne (fun z => by rw [z, I.fr.2.2.2.2] at e; cases e)]
    exact kq b o n1 n2 n3 n4 (I.s _ _ e)
  · rcases List.mem_append.mp hm with h | h
    · exact I.ns m h
    · rw [List.mem_singleton.mp h]
      exact ⟨nq, ne⟩
def spFol (K : PySem.W.Frag) (C0 C1 C2 C3 : Addr) : Sp := fun vs H Q _ => ∃ (pw l : Addr) (ws ns : List Int) (side : Int), vs = [.ref pw, .ref l, .int side] ∧ SqL K H pw (ws.map V.int) ∧ GoodW ws ∧ SqL K H l (ns.map V.int) ∧ ns.length ≤ 63 ∧ 0 ≤ side ∧ side ≤ 1 ∧
  ∀ T k p pl q v es H', Same H H' → H' T = some (.tup [.ref k, .ref pl]) → FolAt C0 C1 C2 C3 H' k p pl q v es ws → es.length ≤ 4 → Q (.ref T) H'
theorem ok_law_followed (TE : TxtE w K mg a) (T : Txt K mg a) : ∃ fd, FnOk P w K mg base CX0 8 a.d_law_followed fd ["weights", "script", "side"] (spFol K a.C_Client a.C_Chain a.C_Committee a.C_Ledger) ∧ Binds K fd ["weights", "script", "side"] [] := by
  obtain ⟨fd, F, b⟩ := T.d_law_followed.F
  obtain ⟨fd_Client_init, G_Client_init, b_Client_init⟩ := ok_Client_init (P := P) (w := w) (base := base) T
  obtain ⟨fd_law_block, G_law_block, b_law_block⟩ := ok_law_block (P := P) (w := w) (base := base) T
  obtain ⟨fd_law_paper, G_law_paper, b_law_paper⟩ := ok_law_paper (P := P) (w := w) (base := base) T
  obtain ⟨fd_law_cell, G_law_cell, b_law_cell⟩ := ok_law_cell (P := P) (w := w) (base := base) T
  obtain ⟨fd_Client_follow, G_Client_follow, b_Client_follow⟩ := ok_Client_follow (P := P) (w := w) (base := base) TE T
  refine ⟨fd, F.ok sc_law_followed (fun vs H Q E h => ?_) (fun cdv A outer s H vs Q E hr h => ?_), b⟩
  · obtain ⟨_, _, _, _, _, rfl, _⟩ := h
    rfl
  · obtain ⟨pw, l, ws, ns, side, rfl, hpw, gw, hl, hn, s0, s1, kk⟩ := h
    refine ⟨_, (pss_cons (ps_set (i := 3) sc_law_followed.nd rfl (Or.inl rfl) (pe_make T.m_Client G_Client_init (hr.mono (by decide)) (by rfl) T.g_Client b_Client_init .nil pass0 (pa_cons (pe_callTy call_list_of (by rfl) T.n_list (by decide +kernel) (pa_cons (pv 0) pa_nil)) (pa_cons (pe_lst pa_nil) pa_nil))))
      (pss_cons (ps_set (i := 4) sc_law_followed.nd rfl (Or.inl rfl) (pe_lst pa_nil))
      (pss_cons (ps_for PassesOwn.never rfl (pi_range1 rfl T.n_range (pa_cons pe_int pa_nil)) (pg_name (i := 5) sc_law_followed.nd rfl (Or.inl rfl))
      (pss_cons (ps_set (i := 6) sc_law_followed.nd rfl (Or.inl rfl) (pe_callB call_abs (by rfl) T.n_abs (by decide +kernel) (pa_cons (pe_call G_law_cell (hr.mono (by decide)) rfl T.d_law_cell.g T.d_law_cell.kp b_law_cell .nil pass0 (pa_cons (pv 1) (pa_cons (pe_op op_add pe_int (pv 5)) pa_nil))) pa_nil)))
        (pss_cons (ps_set (i := 7) sc_law_followed.nd rfl (Or.inl rfl) (pe_call G_law_block (hr.mono (by decide)) rfl T.d_law_block.g T.d_law_block.kp b_law_block .nil pass0 (pa_cons (pe_op op_fdiv (pv 6) pe_int) (pa_cons (pv 5) pa_nil))))
        (C8.pss_cut (ps_if (PW.pt (pw_and (pt_cmpR op_eq (pv 2) pe_int (nomark _)) (pw_and1 (pt_cmpR op_eq (pe_op op_mod (pe_callTy call_int1 (by rfl) T.n_int (by decide +kernel) (pa_cons (pv 6) pa_nil)) pe_int) pe_int (nomark _)))))
        (pss_one (ps_set (i := 7) sc_law_followed.nd rfl (Or.inl rfl) (pe_op op_add_str (pe_call G_law_block (hr.mono (by decide)) rfl T.d_law_block.g T.d_law_block.kp b_law_block .nil pass0 (pa_cons (pe_op op_fdiv (pv 6) pe_int) (pa_cons (pv 5) pa_nil))) pe_str)))
        pss_nil)
        (pss_cons (ps_set (i := 8) sc_law_followed.nd rfl (Or.inl rfl) (pe_call G_law_paper (hr.mono (by decide)) rfl T.d_law_paper.g T.d_law_paper.kp b_law_paper .nil pass0 (pa_cons (pe_call G_law_cell (hr.mono (by decide)) rfl T.d_law_cell.g T.d_law_cell.kp b_law_cell .nil pass0 (pa_cons (pv 1) (pa_cons (pe_op op_add (pe_op op_add pe_int (pe_op op_mul pe_int (pv 5))) (pv 2)) pa_nil))) (pa_cons (pe_callB call_len_seq (by rfl) T.n_len PySem.boot_len (pa_cons (pv 0) pa_nil)) (pa_cons (pv 5) (pa_cons (pv 7) pa_nil))))))
        (pss_cons (ps_whole (ps_try_only rfl rfl ⟨rfl, by decide, .inl TE.g_BadPaper⟩ takes0 (fun W pn xe tk po => (pss_one (ps_expr (pe_methT (pv 3) T.cl_Client T.me_Client_follow G_Client_follow (hr.mono (by decide)) b_Client_follow (E := fun σ cls d H => W cls d σ H) (fun σ => passAt tk σ) (pa_cons (pv 7) (pa_cons (pv 8) pa_nil)))))) (fun ae oe cls d pn hz hf => (pss_one ps_break))))
        (pss_one (ps_expr (pe_bm PySem.F.plainAttrs_list PySem.F.slot_list_append PySem.F.type_list_append mt_append (pv 4) (pa_cons (pv 8) pa_nil))))))))))
      (pss_one (ps_ret (pe_tup (pa_cons (pv 3) (pa_cons (pv 4) pa_nil)))))))), ?_⟩
    walk_at "rs"
    refine ⟨pw, _, rfl, .inl hpw, fun a1 ha1 => ?_⟩
    have sa1 := same_new (o := .lst (ws.map V.int)) ha1
    have a11 : (upd H a1 (.lst (ws.map V.int))) a1 = some (.lst (ws.map V.int)) := upd_same
    generalize upd H a1 (.lst (ws.map V.int)) = Ha1 at sa1 a11 ⊢
    walk_at "rs"
    refine ⟨(by show 0 ≤ sizeLine; decide), fun g1 hg1 => ?_⟩
    have sg1 := same_new (o := .lst []) hg1
    have g11 : (upd Ha1 g1 (.lst [])) g1 = some (.lst []) := upd_same
    generalize upd Ha1 g1 (.lst []) = Hg1 at sg1 g11 ⊢
    walk_at "rs"
    intro k1 dk1 hk1 hdk1 ndk1
    have sM1 : Same Hg1 (upd (upd Hg1 dk1 (.own k1)) k1 (.ins a.C_Client dk1 [])) := same_upd (same_new hdk1) hk1
    refine ⟨k1, dk1, a1, g1, ws, 0, 0, rfl, upd_same, SqL.of (sM1 _ _ (sg1 _ _ a11)), gw, SqL.of (sM1 _ _ g11), fun p1 q1 c1 d1 Hc1 cl1 cn1 f01 fB1 fR1 fD1 fL1 keep1 => ⟨rfl, ?_⟩⟩
    have sc1 : Same Hg1 Hc1 := fun b o e => keep1 b o (fun q => by rw [q, hk1] at e; cases e) (sM1 _ _ e)
    have S1 : Same H Hc1 := sa1.trans (sg1.trans sc1)
    have fr1 : ∀ {b : Addr}, (upd (upd Hg1 dk1 (.own k1)) k1 (.ins a.C_Client dk1 [])) b = none → H b = none := fun h => (sa1.trans (sg1.trans sM1)).free h
    have fB1 := fr1 fB1
    have fR1 := fr1 fR1
    have fD1 := fr1 fD1
    have fL1 := fr1 fL1
    clear keep1 sM1 fr1 sa1 sg1 sc1 a11 g11 hk1 hdk1 ndk1 ha1 hg1 f01
    walk_at "rs"
    refine ⟨(by show 0 ≤ sizeLine; decide), fun pl hpl => ?_⟩
    have sb := same_new (o := .lst []) hpl
    have I0 : FolI a.C_Client a.C_Chain a.C_Committee a.C_Ledger H (upd Hc1 pl (.lst [])) k1 p1 pl q1 ⟨[], [], [c1], [ws], [d1]⟩ [] ws :=
      ⟨⟨cl1.elim fun d e => ⟨d, sb _ _ e⟩, cn1.same sb, upd_same, rfl, fun i hi => absurd hi (Nat.not_lt_zero _), fun i hi => by rw [Nat.le_zero.mp hi]; rfl⟩, S1.trans sb, cn1.fresh hpl, ⟨fB1, fR1, fD1, fL1, S1.free hpl⟩, fun n h => nomatch h⟩
    generalize upd Hc1 pl (.lst []) = Hp at I0 ⊢
    clear sb hpl cn1 cl1 S1 fB1 fR1 fD1 fL1
    walk_at "rs"
    refine ⟨(by decide), (by decide), ?_⟩
    refine for_range (lo := 0) (n := (4 : Int).toNat) (fun i σ Hx => ∃ (v5 v6 v7 v8 : Option V) (v : CnV) (es : List Pa), σ = [some (.ref pw), some (.ref l), some (.int side), some (.ref k1), some (.ref pl), v5, v6, v7, v8] ∧ FolI a.C_Client a.C_Chain a.C_Committee a.C_Ledger H Hx k1 p1 pl q1 v es ws ∧ es.length = i)
      ⟨_, _, _, _, _, [], rfl, I0, rfl⟩ ?_ ?_
    · clear I0
      rintro i σ Hx hi ⟨v5, v6, v7, v8, v, es, rfl, I, le⟩
      have i4 : i < 4 := hi
      have e0 : (0 : Int) + (i : Int) = (i : Int) := Int.zero_add _
      rw [e0]
      walk_at "rs"
      refine ⟨l, ns, _, rfl, I.s.seq hl, hn, by omega, ?_⟩
      walk_at "rs"
      generalize (if ns.getD (1 + (i : Int)).toNat 0 < 0 then -ns.getD (1 + (i : Int)).toNat 0 else ns.getD (1 + (i : Int)).toNat 0) = cc
      refine ⟨_, _, rfl, by omega, by omega, fun z0 bo0 => ?_⟩
      walk_at "rs"
      refine ⟨fun σ' H' => ∃ z, BlkW z ∧ H' = Hx ∧ σ' = [some (.ref pw), some (.ref l), some (.int side), some (.ref k1), some (.ref pl), some (.int (i : Int)), some (.int cc), some (.str z), v8], ?_, ?_⟩
      · walk_at "rs"
        refine ite2 (fun c1 => ?_) (fun c1 => ?_)
        · walk_at "rs"
          refine ite2 (fun c2 => ?_) (fun c2 => ?_)
          · walk_at "rs"
            refine ⟨_, _, rfl, by omega, by omega, fun z1 bo1 => ?_⟩
            walk_at "rs"
            refine ⟨by have := bo1.1; have l1 : (Str.ofString "0").length = 1 := rfl; rw [sizeLine_eq]; omega, ?_⟩
            exact ⟨_, bo1.nought, rfl, rfl⟩
          · exact ⟨z0, bo0.toW, rfl, rfl⟩
        · exact ⟨z0, bo0.toW, rfl, rfl⟩
      rintro σ' H' ⟨z, bo, rfl, rfl⟩
      walk_at "rs"
      refine ⟨l, ns, _, rfl, I.s.seq hl, hn, by omega, ?_⟩
      walk_at "rs"
      refine ⟨pw, _, rfl, .inl (I.s.seq hpw), ?_⟩
      have ln : (ws.map V.int).length = ws.length := List.length_map _
      have gw2 := gw.2.1
      have gw1 := gw.1
      rw [ln]
      walk_at "rs"
      refine ⟨_, _, _, z, rfl, by omega, by omega, fun lt ps xs H3 s3 flt hlt hx few pap => ?_⟩
      have I3 := I.same s3
      have nq : NQ q1 lt := I.f.c.fresh flt
      have npl : lt ≠ pl := fun e => by rw [e, I.f.hp] at flt; cases flt
      have lz : v.zs.length = es.length := by rw [I.f.ez, List.length_map]
      have lz61 := bo.1
      have tb : TB xs := fun x hx => by
        have := (pap x hx).2.2
        omega
      rw [← le] at pap
      obtain ⟨dk, hk⟩ := id I3.f.k
      walk_at "rs"
      refine ⟨k1, dk, _, rfl, hk, rfl, ?_⟩
      walk_at "rs"
      refine ⟨k1, p1, lt, z, q1, v, 0, 0, ps, xs, rfl, ⟨dk, hk⟩, I3.f.c, by omega, bo.only, by omega, hlt, hx, by omega, tb, fun e r c H4 hc4 kq => ?_, fun e H4 s4 => ?_⟩
      · have hpl4 := kq.at I3.nq I3.f.hp
        walk_at "rs"
        refine ⟨.inl ⟨rfl, _, SqL.of hpl4⟩, ?_⟩
        walk_at "rs"
        refine ⟨pl, _, _, rfl, rfl, hpl4, by rw [List.length_map, List.length_map]; exact small1000 (by omega), ?_⟩
        exact ⟨_, _, _, _, _, es ++ [⟨z, lt, ps, xs⟩], rfl, I3.step ⟨z, lt, ps, xs⟩ ⟨hlt, hx, few, pap, bo⟩ nq npl e kq hc4, by rw [List.length_append, le]; rfl⟩
      · refine ⟨true, TE.exm_BadPaper_BadPaper, fun _ ex hex => ?_, fun z => nomatch z⟩
        walk_at "rs"
        refine ⟨(by show 2 ≤ sizeLine; decide), fun T hT => ?_⟩
        have s5 := same_new (o := .tup [V.ref k1, V.ref pl]) hT
        exact kk T k1 p1 pl q1 v es _ ((I3.s.trans s4).trans s5) upd_same ((I3.f.same s4).same s5) (by omega)
    · rintro σ Hx ⟨v5, v6, v7, v8, v, es, rfl, I, le⟩
      walk_at "rs"
      refine ⟨(by show 2 ≤ sizeLine; decide), fun T hT => ?_⟩
      have s2 := same_new (o := .tup [V.ref k1, V.ref pl]) hT
      exact kk T k1 p1 pl q1 v es _ (I.s.trans s2) upd_same (I.f.same s2) (Nat.le_of_eq le)

def spIsInt (K : PySem.W.Frag) : Sp := fun vs H Q _ => ∃ i : Int, vs = [.int i] ∧ Q (.bl true) H
theorem ok_law_is_integer (T : Txt K mg a) : ∃ fd, FnOk P w K mg base CX0 1 a.d_law_is_integer fd ["actual"] (spIsInt K) ∧ Binds K fd ["actual"] [] := by
  obtain ⟨fd, F, b⟩ := T.d_law_is_integer.F
  refine ⟨fd, F.ok sc_law_is_integer (fun vs H Q E h => ?_) (fun cdv A outer s H vs Q E hr h => ?_), b⟩
  · obtain ⟨_, rfl, _⟩ := h
    rfl
  · obtain ⟨i, rfl, k⟩ := h
    refine ⟨_, (pss_one (ps_ret (pe_and (pe_callB call_isi (by rfl) T.n_isinstance (by decide +kernel) (pa_cons (pv 0) (pa_cons (pe_bltn (v := .ty "int") (u := .type "int") (by rfl) T.n_int (by decide +kernel) rfl) pa_nil))) (pe_one (pe_not (pe_callB call_isi (by rfl) T.n_isinstance (by decide +kernel) (pa_cons (pv 0) (pa_cons (pe_bltn (v := .ty "bool") (u := .type "bool") (by rfl) T.n_bool (by decide +kernel) rfl) pa_nil)))))))), ?_⟩
    walk_at "rs"
    refine ⟨_, _, .type "int", .type "int", true, rfl, .ty _, .base (.int _), kit_ty (by decide +kernel), ?_⟩
    walk_at "rs"
    refine ⟨_, _, .type "int", .type "bool", false, rfl, .ty _, .base (.int _), kit_ty (by decide +kernel), ?_⟩
    walk_at "rs"
    exact k

theorem dp_ints {H : Hp} : ∀ xs : List Int, DpAll K H (xs.map V.int) (xs.map PyData.int)
  | [] => .nil
  | x :: xs => .cons (.int x) (dp_ints xs)
theorem lay_ints : ∀ xs : List Int, PyData.canLayAll0 (xs.map PyData.int) = true
  | [] => by simp [PyData.canLayAll0]
  | x :: xs => by
    simp only [List.map_cons, PyData.canLayAll0, PyData.canLay0, lay_ints xs]
    rfl
theorem depth_ints : ∀ xs : List Int, PyData.depthAll (xs.map PyData.int) = 0
  | [] => by simp [PyData.depthAll]
  | x :: xs => by
    have := depth_ints xs
    simp only [List.map_cons, PyData.depthAll, PyData.depth, this]
    rfl
theorem shaped_ints (xs : List Int) : SeqAt.shaped (.tuple (xs.map PyData.int)) = true := by
  unfold SeqAt.shaped
  have e : PyData.depth (.tuple (xs.map PyData.int)) = PyData.depthAll (xs.map PyData.int) + 1 := by simp only [PyData.depth]
  have l : PyData.canLay0 (.tuple (xs.map PyData.int)) = true := by simp only [PyData.canLay0, lay_ints xs]
  rw [l, e, depth_ints]
  rfl
theorem ints_refl (xs : List Int) : PyData.eqv (.tuple (xs.map PyData.int)) (.tuple (xs.map PyData.int)) = true := SeqAt.eqv_refl _ (by
  simp only [PyData.canLay0, lay_ints xs])

theorem ok_law {f : Addr} {fd : FuncData} (F : Fun K "law" "law" s_law f fd) (TE : TxtE w K mg a) (T : Txt K mg a) : FnOk P w K mg base CX0 9 f fd ["script"] (spLaw K) := by
  obtain ⟨fd_law_weights, G_law_weights, b_law_weights⟩ := ok_law_weights (P := P) (w := w) (base := base) T
  obtain ⟨fd_law_followed, G_law_followed, b_law_followed⟩ := ok_law_followed (P := P) (w := w) (base := base) TE T
  obtain ⟨fd_law_least, G_law_least, b_law_least⟩ := ok_law_least (P := P) (w := w) (base := base) T
  obtain ⟨fd_dispute, G_dispute, b_dispute⟩ := ok_dispute (P := P) (w := w) (base := base) T
  obtain ⟨fd_accuse, G_accuse, b_accuse⟩ := ok_accuse (P := P) (w := w) (base := base) TE T
  obtain ⟨fd_law_cell, G_law_cell, b_law_cell⟩ := ok_law_cell (P := P) (w := w) (base := base) T
  obtain ⟨fd_law_reweighted, G_law_reweighted, b_law_reweighted⟩ := ok_law_reweighted (P := P) (w := w) (base := base) T
  obtain ⟨fd_law_is_integer, G_law_is_integer, b_law_is_integer⟩ := ok_law_is_integer (P := P) (w := w) (base := base) T
  obtain ⟨fd_law_weight, G_law_weight, b_law_weight⟩ := ok_law_weight (P := P) (w := w) (base := base) T
  obtain ⟨fd_law_clash, G_law_clash, b_law_clash⟩ := ok_law_clash (P := P) (w := w) (base := base) T
  refine F.ok sc_law (fun vs H Q E h => ?_) (fun cdv A outer s H vs Q E hr h => ?_)
  · obtain ⟨_, _, rfl, _⟩ := h
    rfl
  · obtain ⟨l, ns, rfl, hS, hl, k⟩ := h
    refine ⟨_, (pss_cons (ps_set (i := 1) sc_law.nd rfl (Or.inl rfl) (pe_call G_law_weights (hr.mono (by decide)) rfl T.d_law_weights.g T.d_law_weights.kp b_law_weights .nil pass0 (pa_cons (pe_call G_law_cell (hr.mono (by decide)) rfl T.d_law_cell.g T.d_law_cell.kp b_law_cell .nil pass0 (pa_cons (pv 0) (pa_cons pe_int pa_nil))) (pa_cons pe_int pa_nil))))
      (pss_cons (ps_set (i := 2) sc_law.nd rfl (Or.inl rfl) (pe_call G_law_followed (hr.mono (by decide)) rfl T.d_law_followed.g T.d_law_followed.kp b_law_followed .nil pass0 (pa_cons (pv 1) (pa_cons (pv 0) (pa_cons pe_int pa_nil)))))
      (pss_cons (ps_set (i := 3) sc_law.nd rfl (Or.inl rfl) (pe_call G_law_followed (hr.mono (by decide)) rfl T.d_law_followed.g T.d_law_followed.kp b_law_followed .nil pass0 (pa_cons (pv 1) (pa_cons (pv 0) (pa_cons pe_int pa_nil)))))
      (pss_cons (ps_set (i := 4) sc_law.nd rfl (Or.inl rfl) (pe_callTy call_list_of (by rfl) T.n_list (by decide +kernel) (pa_cons (pe_fld (pe_fld (pe_ix ix_tup (pv 2) pe_int (fun _ _ => rfl)) rfl) rfl) pa_nil)))
      (pss_cons (ps_set (i := 5) sc_law.nd rfl (Or.inl rfl) (pe_callTy call_list_of (by rfl) T.n_list (by decide +kernel) (pa_cons (pe_fld (pe_fld (pe_ix ix_tup (pv 3) pe_int (fun _ _ => rfl)) rfl) rfl) pa_nil)))
      (pss_cons (ps_set (i := 6) sc_law.nd rfl (Or.inl rfl) (pe_call G_law_least (hr.mono (by decide)) rfl T.d_law_least.g T.d_law_least.kp b_law_least .nil pass0 (pa_cons (pv 4) (pa_cons (pv 5) pa_nil))))
      (pss_cons (ps_set (i := 7) sc_law.nd rfl (Or.inl rfl) (pe_call G_dispute (hr.mono (by decide)) rfl T.d_dispute.g T.d_dispute.kp b_dispute .nil pass0 (pa_cons (pe_ix ix_tup (pv 2) pe_int (fun _ _ => rfl)) (pa_cons (pe_ix ix_tup (pv 3) pe_int (fun _ _ => rfl)) pa_nil))))
      (pss_cons (ps_if (pt_cmpR op_isN (pv 6) pe_non (nomark _))
      (pss_one (ps_ret (pe_cmpR op_isN (pv 7) pe_non (nomark _))))
      pss_nil)
      (pss_cons (ps_if (PW.pt (pw_or (pt_not (pt_val (pe_call G_law_is_integer (hr.mono (by decide)) rfl T.d_law_is_integer.g T.d_law_is_integer.kp b_law_is_integer .nil pass0 (pa_cons (pv 7) pa_nil)))) (pw_or1 (pt_cmpR op_ne (pv 7) (pv 6) (nomark _)))))
      (pss_one (ps_ret pe_bl))
      pss_nil)
      (pss_cons (ps_set (i := 8) sc_law.nd rfl (Or.inl rfl) (pe_callTy call_list_of (by rfl) T.n_list (by decide +kernel) (pa_cons (pv 1) pa_nil)))
      (pss_cons (ps_for PassesOwn.never rfl (pi_list (pe_slice sl_list (pv 4) po_none (po_some (pv 6)))) (pg_name (i := 9) sc_law.nd rfl (Or.inl rfl))
      (pss_one (ps_set (i := 8) sc_law.nd rfl (Or.inl rfl) (pe_call G_law_reweighted (hr.mono (by decide)) rfl T.d_law_reweighted.g T.d_law_reweighted.kp b_law_reweighted .nil pass0 (pa_cons (pv 8) (pa_cons (pv 9) pa_nil))))))
      (pss_cons (ps_set (i := 10) sc_law.nd rfl (Or.inl rfl) (pe_ix ix_list (pe_fld (pe_fld (pe_ix ix_tup (pv 2) pe_int (fun _ _ => rfl)) rfl) rfl) (pv 6) (fun _ _ => rfl)))
      (pss_cons (ps_if (PW.pt (pw_or (pt_cmpR (op_neD hr.units) (pe_fld (pv 10) rfl) (pe_callTy call_tuple_of (by rfl) T.n_tuple (by decide +kernel) (pa_cons (pv 8) pa_nil)) (nomark _)) (pw_or1 (pt_cmpR (op_neD hr.units) (pe_fld (pe_ix ix_list (pe_fld (pe_fld (pe_ix ix_tup (pv 3) pe_int (fun _ _ => rfl)) rfl) rfl) (pv 6) (fun _ _ => rfl)) rfl) (pe_callTy call_tuple_of (by rfl) T.n_tuple (by decide +kernel) (pa_cons (pv 8) pa_nil)) (nomark _)))))
      (pss_one (ps_ret pe_bl))
      pss_nil)
      (pss_cons (ps_set (i := 11) sc_law.nd rfl (Or.inl rfl) (pe_call G_accuse (hr.mono (by decide)) rfl T.d_accuse.g T.d_accuse.kp b_accuse .nil (passes_call (E := fun _ _ _ => False) takes0 (fun _ _ _ _ h => h)) (pa_cons (pv 10) (pa_cons (pv 6) (pa_cons (pe_tup (pa_cons (pe_ix ix_list (pv 4) (pv 6) (fun _ _ => rfl)) (pa_cons (pe_ix ix_list (pe_ix ix_tup (pv 2) pe_int (fun _ _ => rfl)) (pv 6) (fun _ _ => rfl)) pa_nil))) (pa_cons (pe_tup (pa_cons (pe_ix ix_list (pv 5) (pv 6) (fun _ _ => rfl)) (pa_cons (pe_ix ix_list (pe_ix ix_tup (pv 3) pe_int (fun _ _ => rfl)) (pv 6) (fun _ _ => rfl)) pa_nil))) pa_nil))))))
      (pss_cons (ps_set (i := 12) sc_law.nd rfl (Or.inl rfl) (pe_lst pa_nil))
      (pss_cons (ps_for PassesOwn.never rfl (pi_list (pv 11)) (pg_name (i := 13) sc_law.nd rfl (Or.inl rfl))
      (pss_cons (ps_if (PW.pt (pw_or (pt_cmpR (op_notInD (hu65 hr)) (pe_fld (pv 13) rfl) (pe_op op_cat (pe_ix ix_list (pe_ix ix_tup (pv 2) pe_int (fun _ _ => rfl)) (pv 6) (fun _ _ => rfl)) (pe_ix ix_list (pe_ix ix_tup (pv 3) pe_int (fun _ _ => rfl)) (pv 6) (fun _ _ => rfl))) (by rfl)) (pw_or1 (pt_cmpR op_ne (pe_ix ix_tup (pe_fld (pv 13) rfl) pe_int (fun _ _ => rfl)) (pe_fld (pv 13) rfl) (nomark _)))))
        (pss_one (ps_ret pe_bl))
        pss_nil)
        (pss_cons (ps_if (PW.pt (pw_or (pt_cmpR (op_notInD (hu65 hr)) (pe_fld (pv 13) rfl) (pe_op op_cat (pe_ix ix_list (pe_ix ix_tup (pv 2) pe_int (fun _ _ => rfl)) (pv 6) (fun _ _ => rfl)) (pe_ix ix_list (pe_ix ix_tup (pv 3) pe_int (fun _ _ => rfl)) (pv 6) (fun _ _ => rfl))) (by rfl)) (pw_or1 (pt_cmpR op_ne (pe_ix ix_tup (pe_fld (pv 13) rfl) pe_int (fun _ _ => rfl)) (pe_fld (pv 13) rfl) (nomark _)))))
        (pss_one (ps_ret pe_bl))
        pss_nil)
        (pss_cons (ps_if (PW.pt (pw_or (pt_not (pt_val (pe_call G_law_clash (hr.mono (by decide)) rfl T.d_law_clash.g T.d_law_clash.kp b_law_clash .nil pass0 (pa_cons (pe_ix ix_tup (pe_fld (pv 13) rfl) pe_int (fun _ _ => rfl)) (pa_cons (pe_ix ix_tup (pe_fld (pv 13) rfl) pe_int (fun _ _ => rfl)) pa_nil))))) (pw_or1 (pt_cmpR op_in_seq (pe_fld (pv 13) rfl) (pv 12) (by rfl)))))
        (pss_one (ps_ret pe_bl))
        pss_nil)
        (pss_one (ps_expr (pe_bm PySem.F.plainAttrs_list PySem.F.slot_list_append PySem.F.type_list_append mt_append (pv 12) (pa_cons (pe_fld (pv 13) rfl) pa_nil))))))))
      (pss_one (ps_ret (pe_cmpR op_gt (pe_op op_mul pe_int (pe_call G_law_weight (hr.mono (by decide)) rfl T.d_law_weight.g T.d_law_weight.kp b_law_weight .nil pass0 (pa_cons (pv 8) (pa_cons (pv 12) pa_nil)))) (pe_callB (cr_sum rfl) (by rfl) T.n_sum (by decide +kernel) (pa_cons (pv 8) pa_nil)) (nomark _)))))))))))))))))))), ?_⟩
    walk_at "rs"
    refine ⟨l, ns, _, rfl, hS, hl, by decide, ?_⟩
    walk_at "rs"
    refine ⟨_, _, rfl, by decide, by decide, fun pw ws H1 s1 hpw gw lw => ?_⟩
    have hS1 := s1.seq hS
    walk_at "rs"
    refine ⟨pw, l, ws, ns, 0, rfl, SqL.of hpw, gw, hS1, hl, by decide, by decide, fun TA k1 p1 pl1 q1 v1 es1 H2 s2 hTA f1 le1 => ?_⟩
    walk_at "rs"
    refine ⟨pw, l, ws, ns, 1, rfl, SqL.of (s2 _ _ hpw), gw, s2.seq hS1, hl, by decide, by decide, fun TB' k2 p2 pl2 q2 v2 es2 H3 s3 hTB f2 le2 => ?_⟩
    have hpw3 := s3 _ _ (s2 _ _ hpw)
    have hTA := s3 _ _ hTA
    have f1 := f1.same s3
    have lz1 : v1.zs.length = es1.length := by rw [f1.ez, List.length_map]
    have lz2 : v2.zs.length = es2.length := by rw [f2.ez, List.length_map]
    clear s1 s2 s3 hS hS1 hpw
    obtain ⟨dk1, hk1⟩ := id f1.k
    obtain ⟨dp1, hp1⟩ := id f1.c.ins
    obtain ⟨dk2, hk2⟩ := id f2.k
    obtain ⟨dp2, hp2⟩ := id f2.c.ins
    walk_at "rs"
    refine ⟨TA, _, _, .ref k1, rfl, rfl, SqT.of hTA, rfl, ?_⟩
    walk_at "rs"
    refine ⟨k1, _, dk1, _, .ref p1, rfl, hk1, T.cl_Client, T.a_Client_chain, rfl, ?_⟩
    walk_at "rs"
    refine ⟨p1, _, dp1, _, .ref q1.B, rfl, hp1, T.cl_Chain, T.a_Chain_blocks, rfl, ?_⟩
    walk_at "rs"
    refine ⟨q1.B, _, rfl, .inl (SqL.of f1.c.hB), fun b1 hb1 => ?_⟩
    have s4 := same_new (o := .lst (v1.zs.map V.str)) hb1
    have hb1' : (upd H3 b1 (.lst (v1.zs.map V.str))) b1 = some (.lst (v1.zs.map V.str)) := upd_same
    generalize upd H3 b1 (.lst (v1.zs.map V.str)) = H4 at s4 hb1' ⊢
    walk_at "rs"
    refine ⟨TB', _, _, .ref k2, rfl, rfl, SqT.of (s4 _ _ hTB), rfl, ?_⟩
    walk_at "rs"
    refine ⟨k2, _, dk2, _, .ref p2, rfl, s4 _ _ hk2, T.cl_Client, T.a_Client_chain, rfl, ?_⟩
    walk_at "rs"
    refine ⟨p2, _, dp2, _, .ref q2.B, rfl, s4 _ _ hp2, T.cl_Chain, T.a_Chain_blocks, rfl, ?_⟩
    walk_at "rs"
    refine ⟨q2.B, _, rfl, .inl (SqL.of (s4 _ _ f2.c.hB)), fun b2 hb2 => ?_⟩
    have s5 := s4.trans (same_new (o := .lst (v2.zs.map V.str)) hb2)
    have hb15 := (same_new (o := .lst (v2.zs.map V.str)) hb2) _ _ hb1'
    have hb25 : (upd H4 b2 (.lst (v2.zs.map V.str))) b2 = some (.lst (v2.zs.map V.str)) := upd_same
    generalize upd H4 b2 (.lst (v2.zs.map V.str)) = H5 at s5 hb15 hb25 ⊢
    clear s4 hb1' hb1 hb2
    walk_at "rs"
    refine ⟨b1, b2, v1.zs, v2.zs, rfl, hb15, hb25, by omega, by omega, fun o H6 s6 od => ?_⟩
    have f1 := (f1.same s5).same s6
    have f2 := (f2.same s5).same s6
    have hTA := s6 _ _ (s5 _ _ hTA)
    have hTB := s6 _ _ (s5 _ _ hTB)
    have hpw := s6 _ _ (s5 _ _ hpw3)
    have hb1 := s6 _ _ hb15
    have hb2 := s6 _ _ hb25
    have hk1 := s6 _ _ (s5 _ _ hk1)
    have hp1 := s6 _ _ (s5 _ _ hp1)
    have hk2 := s6 _ _ (s5 _ _ hk2)
    have hp2 := s6 _ _ (s5 _ _ hp2)
    clear s5 s6 hb15 hb25 hpw3
    walk_at "rs"
    refine ⟨TA, _, _, .ref k1, rfl, rfl, SqT.of hTA, rfl, ?_⟩
    walk_at "rs"
    refine ⟨TB', _, _, .ref k2, rfl, rfl, SqT.of hTB, rfl, ?_⟩
    walk_at "rs"
    refine ⟨k1, p1, k2, p2, q1, q2, v1, v2, 0, 0, rfl, f1.k, f2.k, f1.c, f2.c, fun o' H7 s7 od' => ?_⟩
    have eo := od'.one od
    subst eo
    clear od'
    have f1 := f1.same s7
    have f2 := f2.same s7
    have hTA := s7 _ _ hTA
    have hTB := s7 _ _ hTB
    have hpw := s7 _ _ hpw
    have hb1 := s7 _ _ hb1
    have hb2 := s7 _ _ hb2
    have hk1 := s7 _ _ hk1
    have hp1 := s7 _ _ hp1
    have hk2 := s7 _ _ hk2
    have hp2 := s7 _ _ hp2
    clear s7
    cases o' with
    | none =>
      walk_at "rs"
      exact k _
    | some i =>
      obtain ⟨hi, nz, eqz⟩ := od
      walk_at "rs"
      refine ite2 (fun c => ?_) (fun c => ?_)
      · exfalso
        simp at c
      walk_at "rs"
      refine ⟨pw, _, rfl, .inl (SqL.of hpw), fun nw hnw => ?_⟩
      have s8 := same_new (o := .lst (ws.map V.int)) hnw
      have hnw8 : (upd H7 nw (.lst (ws.map V.int))) nw = some (.lst (ws.map V.int)) := upd_same
      generalize upd H7 nw (.lst (ws.map V.int)) = H8 at s8 hnw8 ⊢
      walk_at "rs"
      have li : i < es1.length ∧ i < es2.length := by omega
      refine ⟨b1, _, rfl, SqL.of (s8 _ _ hb1), fun bb hbb => ?_⟩
      have ecut : cutV (v1.zs.map V.str) none (some (i : Int)) = (v1.zs.take i).map V.str := by
        unfold cutV
        rw [HT.sIx_nat, HT.sIx_none, List.length_map, Nat.min_eq_left (by omega), Nat.sub_zero, List.drop_zero, List.map_take]
      rw [ecut]
      have s9 := s8.trans (same_new (o := .lst ((v1.zs.take i).map V.str)) hbb)
      have hnw9 := (same_new (o := .lst ((v1.zs.take i).map V.str)) hbb) _ _ hnw8
      have hbb9 : (upd H8 bb (.lst ((v1.zs.take i).map V.str))) bb = some (.lst ((v1.zs.take i).map V.str)) := upd_same
      generalize upd H8 bb (.lst ((v1.zs.take i).map V.str)) = H9 at s9 hnw9 hbb9 ⊢
      clear s8 hnw8 hnw hbb ecut
      have f1 := f1.same s9
      have f2 := f2.same s9
      have hTA := s9 _ _ hTA
      have hTB := s9 _ _ hTB
      have hb1 := s9 _ _ hb1
      have hb2 := s9 _ _ hb2
      have hk1 := s9 _ _ hk1
      have hp1 := s9 _ _ hp1
      have hk2 := s9 _ _ hk2
      have hp2 := s9 _ _ hp2
      clear s9 hpw
      refine ⟨bb, rfl, ⟨_, SqL.of hbb9⟩, for_list (K := K) (a := bb) (xs := (v1.zs.take i).map V.str) (fun j σ Hx => ∃ (nw : Addr) (v9 : Option V), σ = [some (.ref l), some (.ref pw), some (.ref TA), some (.ref TB'), some (.ref b1), some (.ref b2), some (.int (i : Int)), some (.int (i : Int)), some (.ref nw), v9, none, none, none, none] ∧ Same H9 Hx ∧ Hx nw = some (.lst ((rwZ ws (v1.zs.take j)).map V.int)))
        ⟨nw, _, rfl, Same.refl H9, hnw9⟩ (fun j σ Hx _ ⟨_, _, _, sj, _⟩ => SqL.of (sj _ _ hbb9)) ?_ ?_⟩
      · clear hnw9 nw
        rintro j y σ Hx hy ⟨nw, v9, rfl, sj, hnw⟩
        have hj : j < i := by
          have := (List.getElem?_eq_some_iff.mp hy).1
          rw [List.length_map, List.length_take] at this
          omega
        have hjz : j < v1.zs.length := by omega
        have ey : y = .str (zAt v1.zs j) := by
          rw [List.getElem?_map, List.getElem?_take_of_lt hj, ← List.getElem?_map, str_at hjz] at hy
          exact (Option.some.inj hy).symm
        subst ey
        have gj : GoodW (rwZ ws (v1.zs.take j)) := by
          rw [← f1.wz j (by omega)]
          exact (f1.c.cm j (by have := f1.c.nw; omega)).2
        have bj : BlkW (zAt v1.zs j) := by
          have := (f1.ok j (by omega)).1.bo
          have e : zAt v1.zs j = (es1.getD j default).z := by
            unfold zAt
            rw [f1.ez, List.getD_eq_getElem?_getD, List.getD_eq_getElem?_getD, List.getElem?_map, List.getElem?_eq_getElem (by omega)]
            rfl
          rw [e]
          exact this
        walk_at "rs"
        refine ⟨nw, _, _, rfl, SqL.of hnw, gj, bj, fun nw' H' s' fn hn' => ?_⟩
        refine ⟨nw', _, rfl, sj.trans s', ?_⟩
        have et : v1.zs.take (j + 1) = v1.zs.take j ++ [zAt v1.zs j] := take_succ_getD hjz
        rw [et, rwZ_snoc]
        exact hn'
      · rintro σ Hx ⟨nw, v9, rfl, sx, hnw⟩
        have el : (v1.zs.take ((v1.zs.take i).map V.str).length) = v1.zs.take i := by
          rw [List.length_map, List.length_take, Nat.min_eq_left (by omega)]
        rw [el] at hnw
        clear hnw9 hbb9 el
        have f1 := f1.same sx
        have f2 := f2.same sx
        have hTA := sx _ _ hTA
        have hTB := sx _ _ hTB
        have hb1 := sx _ _ hb1
        have hb2 := sx _ _ hb2
        have hk1 := sx _ _ hk1
        have hp1 := sx _ _ hp1
        have hk2 := sx _ _ hk2
        have hp2 := sx _ _ hp2
        clear sx
        have w1 := f1.wz i (by omega)
        have w2 := f2.wz i (by omega)
        have e12 : v2.zs.take i = v1.zs.take i := by
          refine List.ext_getElem? fun j => ?_
          rcases Nat.lt_or_ge j i with h | h
          · have := eqz j h
            unfold zAt at this
            rw [List.getD_eq_getElem?_getD, List.getD_eq_getElem?_getD, List.getElem?_eq_getElem (show j < v1.zs.length by omega), List.getElem?_eq_getElem (show j < v2.zs.length by omega)] at this
            rw [List.getElem?_take_of_lt h, List.getElem?_take_of_lt h, List.getElem?_eq_getElem (show j < v1.zs.length by omega), List.getElem?_eq_getElem (show j < v2.zs.length by omega)]
            exact congrArg some this.symm
          · rw [List.getElem?_eq_none (by rw [List.length_take]; omega), List.getElem?_eq_none (by rw [List.length_take]; omega)]
        rw [e12] at w2
        generalize rwZ ws (v1.zs.take i) = wn at w1 w2 hnw
        obtain ⟨cm1, gn⟩ := f1.c.cm i (by have := f1.c.nw; omega)
        obtain ⟨cm2, _⟩ := f2.c.cm i (by have := f2.c.nw; omega)
        rw [w1] at cm1 gn
        rw [w2] at cm2
        walk_at "rs"
        refine ⟨TA, _, _, .ref k1, rfl, rfl, SqT.of hTA, rfl, ?_⟩
        walk_at "rs"
        refine ⟨k1, _, dk1, _, .ref p1, rfl, hk1, T.cl_Client, T.a_Client_chain, rfl, ?_⟩
        walk_at "rs"
        refine ⟨p1, _, dp1, _, .ref q1.D, rfl, hp1, T.cl_Chain, T.a_Chain_committees, rfl, ?_⟩
        walk_at "rs"
        have at1 : (v1.ps.map V.ref)[i]? = some (.ref (v1.ps.getD i 0)) := at_refs (by have := f1.c.np; omega)
        have at2 : (v2.ps.map V.ref)[i]? = some (.ref (v2.ps.getD i 0)) := at_refs (by have := f2.c.np; omega)
        refine ⟨q1.D, _, _, _, rfl, rfl, SqL.of f1.c.hD, at_of (j := i) rfl at1, ?_⟩
        obtain ⟨dc, tc, hc1, hc2⟩ := id cm1
        obtain ⟨de, te, he1, he2⟩ := id cm2
        walk_at "rs"
        refine ⟨_, _, dc, _, .ref tc, rfl, hc1, T.cl_Committee, T.a_Committee_weights, cfs_w _ _, ?_⟩
        walk_at "rs"
        refine ⟨nw, _, rfl, .inl ⟨SqL.of hnw, fun u hu => ?_⟩⟩
        have s4 := same_new (o := .tup (wn.map V.int)) hu
        refine ⟨.tuple (wn.map PyData.int), .tuple (wn.map PyData.int), .tup (SqT.of (s4 _ _ hc2)) (dp_ints wn), .tup (SqT.of (xs := wn.map V.int) upd_same) (dp_ints wn), shaped_ints wn, shaped_ints wn, ?_⟩
        rw [ints_refl wn]
        generalize upd Hx u (.tup (wn.map V.int)) = Hy at s4 ⊢
        clear hu
        walk_at "rs"
        refine ⟨TB', _, _, .ref k2, rfl, rfl, SqT.of (s4 _ _ hTB), rfl, ?_⟩
        walk_at "rs"
        refine ⟨k2, _, dk2, _, .ref p2, rfl, s4 _ _ hk2, T.cl_Client, T.a_Client_chain, rfl, ?_⟩
        walk_at "rs"
        refine ⟨p2, _, dp2, _, .ref q2.D, rfl, s4 _ _ hp2, T.cl_Chain, T.a_Chain_committees, rfl, ?_⟩
        walk_at "rs"
        refine ⟨q2.D, _, _, _, rfl, rfl, SqL.of (s4 _ _ f2.c.hD), at_of (j := i) rfl at2, ?_⟩
        walk_at "rs"
        refine ⟨_, _, de, _, .ref te, rfl, s4 _ _ he1, T.cl_Committee, T.a_Committee_weights, cfs_w _ _, ?_⟩
        walk_at "rs"
        refine ⟨nw, _, rfl, .inl ⟨SqL.of (s4 _ _ hnw), fun u hu => ?_⟩⟩
        have s5 := same_new (o := .tup (wn.map V.int)) hu
        refine ⟨.tuple (wn.map PyData.int), .tuple (wn.map PyData.int), .tup (SqT.of (s5 _ _ (s4 _ _ he2))) (dp_ints wn), .tup (SqT.of (xs := wn.map V.int) upd_same) (dp_ints wn), shaped_ints wn, shaped_ints wn, ?_⟩
        rw [ints_refl wn]
        have s6 := s4.trans s5
        generalize upd Hy u (.tup (wn.map V.int)) = Hz at s6 ⊢
        clear s4 s5 hu he1 he2 cm2 at2 at1 hk1 hk2 hp1 hp2 hc1 hc2
        obtain ⟨P1, sh1⟩ := f1.ok i (by omega)
        obtain ⟨P2, sh2⟩ := f2.ok i (by omega)
        have zz1 : zAt v1.zs i = (es1.getD i default).z := by
          unfold zAt
          rw [f1.ez, List.getD_eq_getElem?_getD, List.getD_eq_getElem?_getD, List.getElem?_map, List.getElem?_eq_getElem (by omega)]
          rfl
        have zz2 : zAt v2.zs i = (es2.getD i default).z := by
          unfold zAt
          rw [f2.ez, List.getD_eq_getElem?_getD, List.getD_eq_getElem?_getD, List.getElem?_map, List.getElem?_eq_getElem (by omega)]
          rfl
        have al1 : ((es1.map (·.l)).map V.ref)[i]? = some (.ref (es1.getD i default).l) := by
          rw [List.getElem?_map, List.getElem?_map, List.getD_eq_getElem?_getD, List.getElem?_eq_getElem (by omega)]
          rfl
        have al2 : ((es2.map (·.l)).map V.ref)[i]? = some (.ref (es2.getD i default).l) := by
          rw [List.getElem?_map, List.getElem?_map, List.getD_eq_getElem?_getD, List.getElem?_eq_getElem (by omega)]
          rfl
        rw [w1] at sh1
        rw [w2] at sh2
        have as1 : (v1.zs.map V.str)[i]? = some (.str (es1.getD i default).z) := by rw [← zz1]; exact str_at (by omega)
        have as2 : (v2.zs.map V.str)[i]? = some (.str (es2.getD i default).z) := by rw [← zz2]; exact str_at (by omega)
        rw [zz1, zz2] at nz
        have P1 := P1.same s6
        have P2 := P2.same s6
        have hTA := s6 _ _ hTA
        have hTB := s6 _ _ hTB
        have hb1 := s6 _ _ hb1
        have hb2 := s6 _ _ hb2
        have hpl1 := s6 _ _ f1.hp
        have hpl2 := s6 _ _ f2.hp
        have hnw := s6 _ _ hnw
        have cm1 := cm1.same s6
        clear s6 f1 f2 w1 w2
        generalize es1.getD i default = E1 at P1 sh1 al1 as1 nz
        generalize es2.getD i default = E2 at P2 sh2 al2 as2 nz
        obtain ⟨hq1, hx1, few1, pap1, bo1⟩ := P1
        obtain ⟨hq2, hx2, few2, pap2, bo2⟩ := P2
        have tb1 : TB E1.xs := fun x hx => by
          have := (pap1 x hx).2.2
          omega
        have tb2 : TB E2.xs := fun x hx => by
          have := (pap2 x hx).2.2
          omega
        have okl1 : OkL E1.xs := fun x hx x' e => by
          have := (pap1 x hx).1
          rw [this] at e
          cases e
          exact bo1.2.1
        have okl2 : OkL E2.xs := fun x hx x' e => by
          have := (pap2 x hx).1
          rw [this] at e
          cases e
          exact bo2.2.1
        walk_at "rs"
        refine ⟨b1, _, _, _, rfl, rfl, SqL.of hb1, at_of (j := i) rfl as1, ?_⟩
        walk_at "rs"
        refine ⟨TA, _, _, .ref pl1, rfl, rfl, SqT.of hTA, rfl, ?_⟩
        walk_at "rs"
        refine ⟨pl1, _, _, _, rfl, rfl, SqL.of hpl1, at_of (j := i) rfl al1, ?_⟩
        walk_at "rs"
        refine ⟨(by show 2 ≤ sizeLine; decide), fun o1 ho1 => ?_⟩
        have t1 := same_new (o := .tup [V.str E1.z, V.ref E1.l]) ho1
        have ho1' : (upd Hz o1 (.tup [V.str E1.z, V.ref E1.l])) o1 = some (.tup [V.str E1.z, V.ref E1.l]) := upd_same
        generalize upd Hz o1 (.tup [V.str E1.z, V.ref E1.l]) = Ha at t1 ho1' ⊢
        walk_at "rs"
        refine ⟨b2, _, _, _, rfl, rfl, SqL.of (t1 _ _ hb2), at_of (j := i) rfl as2, ?_⟩
        walk_at "rs"
        refine ⟨TB', _, _, .ref pl2, rfl, rfl, SqT.of (t1 _ _ hTB), rfl, ?_⟩
        walk_at "rs"
        refine ⟨pl2, _, _, _, rfl, rfl, SqL.of (t1 _ _ hpl2), at_of (j := i) rfl al2, ?_⟩
        walk_at "rs"
        refine ⟨(by show 2 ≤ sizeLine; decide), fun o2 ho2 => ?_⟩
        have t2 := same_new (o := .tup [V.str E2.z, V.ref E2.l]) ho2
        have ho2' : (upd Ha o2 (.tup [V.str E2.z, V.ref E2.l])) o2 = some (.tup [V.str E2.z, V.ref E2.l]) := upd_same
        have ho1' := t2 _ _ ho1'
        have t := t1.trans t2
        generalize upd Ha o2 (.tup [V.str E2.z, V.ref E2.l]) = Hb at t ho1' ho2' ⊢
        clear t1 t2 ho1 ho2
        have hTA := t _ _ hTA
        have hTB := t _ _ hTB
        have hpl1 := t _ _ hpl1
        have hpl2 := t _ _ hpl2
        have hq1 := t _ _ hq1
        have hq2 := t _ _ hq2
        have hx1 := hx1.same t
        have hx2 := hx2.same t
        have hnw := t _ _ hnw
        have cm1 := cm1.same t
        clear t hb1 hb2
        refine ⟨_, o1, o2, E1.l, E2.l, wn, (i : Int), E1.z, E2.z, E1.ps, E2.ps, E1.xs, E2.xs, rfl, cm1, gn, ho1', ho2', hq1, hq2, hx1, hx2, by omega, by omega, tb1, tb2, fun d1 d2 d3 pt cs Hc s9 hp9 lc9 ch9 => ?_, fun dd => ?_⟩
        · walk_at "rs"
          refine ⟨(by show 0 ≤ sizeLine; decide), fun pm hpm => ?_⟩
          have sM : Same Hc (upd Hc pm (.lst [])) := same_new hpm
          have hX0 := hx1.app hx2
          have hTA := s9 _ _ hTA
          have hTB := s9 _ _ hTB
          have hpl1 := s9 _ _ hpl1
          have hpl2 := s9 _ _ hpl2
          have hq1 := s9 _ _ hq1
          have hq2 := s9 _ _ hq2
          have hnw := s9 _ _ hnw
          have hX := hX0.same s9
          have okX := okl1.app okl2
          have safe : wn.sum < 3 * wOf wn (fnd (E1.xs ++ E2.xs) wn.length) := by
            obtain ⟨t, _, h1⟩ := sh_some.mp d2
            obtain ⟨u, _, h2⟩ := sh_some.mp d3
            exact safety (good_pos gn) d1 (comm_mono (good_pos gn) (fun x hx => List.mem_append_left _ hx) h1) (comm_mono (good_pos gn) (fun x hx => List.mem_append_right _ hx) h2)
          have fdue := fnd_due (E1.xs ++ E2.xs) wn.length
          have fl := fnd_len (E1.xs ++ E2.xs) wn.length
          have nd := fnd_nodup (E1.xs ++ E2.xs) wn.length
          have l1 := hx1.1
          have l2 := hx2.1
          have gn2 := gn.2.1
          generalize E1.xs ++ E2.xs = X at hX okX safe lc9 ch9 fdue fl nd
          generalize fnd X wn.length = F at lc9 ch9 fdue fl nd safe
          clear hX0 s9 ho1' ho2'
          walk_at "rs"
          refine ⟨⟨_, SqL.of (sM _ _ hp9)⟩, for_list (K := K) (a := pt) (xs := cs.map V.ref) (fun j σ Hi => ∃ v13 : Option V, σ = [some (.ref l), some (.ref pw), some (.ref TA), some (.ref TB'), some (.ref b1), some (.ref b2), some (.int (i : Int)), some (.int (i : Int)), some (.ref nw), v9, some (.ref (v1.ps.getD i 0)), some (.ref pt), some (.ref pm), v13] ∧ Same Hc Hi ∧ Hi pm = some (.lst ((F.take j).map V.int)))
            ⟨_, rfl, sM, upd_same⟩ (fun j σ Hi _ ⟨_, _, si, _⟩ => SqL.of (si _ _ hp9)) ?_ ?_⟩
          · rintro j y σ Hi hy ⟨v13, rfl, si, hm⟩
            have hj : j < cs.length := by
              have e := (List.getElem?_eq_some_iff.mp hy).1
              rwa [List.length_map] at e
            rw [at_refs hj] at hy
            cases hy
            have hjF : j < F.length := by omega
            have hdu := (fdue _ (getD_mem hjF)).2.2
            have hch9 := (ch9 j hj).same si
            generalize ew : F.getD j 0 = who at hdu hch9
            obtain ⟨⟨f1, g1⟩, ed⟩ := Option.isSome_iff_exists.mp hdu
            obtain ⟨m1, m2, cl⟩ := due_ok ed
            obtain ⟨n1', w1⟩ := own_mem m1
            obtain ⟨n2', w2⟩ := own_mem m2
            rw [ed] at hch9
            obtain ⟨pc, dc, ac, bc, e1, hpc, hfc, hgc⟩ := hch9
            have e1 := V.ref.inj e1
            subst e1
            have n3 : who ∉ F.take j := by
              rw [← ew]
              exact nodup_take nd hjF
            walk_at "rs"
            refine ⟨_, _, dc, _, .ref ac, rfl, hpc, T.cl_Charge, T.a_Charge_first, chf_f _ _ _, ?_⟩
            walk_at "rs"
            refine ⟨TA, _, _, .ref pl1, rfl, rfl, SqT.of (si _ _ hTA), rfl, ?_⟩
            walk_at "rs"
            refine ⟨pl1, _, _, _, rfl, rfl, SqL.of (si _ _ hpl1), at_of (j := i) rfl al1, ?_⟩
            walk_at "rs"
            refine ⟨TB', _, _, .ref pl2, rfl, rfl, SqT.of (si _ _ hTB), rfl, ?_⟩
            walk_at "rs"
            refine ⟨pl2, _, _, _, rfl, rfl, SqL.of (si _ _ hpl2), at_of (j := i) rfl al2, ?_⟩
            refine ⟨E1.l, E2.l, _, _, rfl, rfl, si _ _ hq1, si _ _ hq2, by rw [List.length_map, List.length_map, hx1.1, hx2.1, sizeLine_eq]; omega, fun pX1 hpX1 => ?_⟩
            have sX1 := same_new (o := .lst (E1.ps.map V.ref ++ E2.ps.map V.ref)) hpX1
            have hX1 : (upd Hi pX1 (.lst (E1.ps.map V.ref ++ E2.ps.map V.ref))) pX1 = some (.lst ((E1.ps ++ E2.ps).map V.ref)) := by rw [upd_same]; simp
            refine ⟨_, _, dp_lt (hfc.same sX1), .lst (SqL.of hX1) (dp_lts ((hX.same si).same sX1)), shaped_lt (okX _ n1'), shaped_lts okX, ?_⟩
            rw [any_lt n1' (okX _ n1')]
            have hpc := sX1 _ _ hpc
            have hgc := hgc.same sX1
            have hfc := hfc.same sX1
            have si := si.trans sX1
            have hm := sX1 _ _ hm
            generalize upd Hi pX1 (.lst (E1.ps.map V.ref ++ E2.ps.map V.ref)) = Hj at hpc hgc hfc si hm ⊢
            obtain ⟨qf, hpf, hmf⟩ := id hfc
            obtain ⟨qg, hpg, hmg⟩ := id hgc
            walk_at "rs"
            refine ⟨_, _, dc, _, .ref ac, rfl, hpc, T.cl_Charge, T.a_Charge_first, chf_f _ _ _, ?_⟩
            walk_at "rs"
            refine ⟨_, _, _, _, rfl, rfl, SqT.of hpf, rfl, ?_⟩
            walk_at "rs"
            refine ⟨_, _, dc, _, .int who, rfl, hpc, T.cl_Charge, T.a_Charge_who, chf_w _ _ _, ?_⟩
            walk_at "rs"
            refine ite2 (fun c => ?_) (fun c => ?_)
            · exfalso
              simp [w1] at c
            walk_at "rs"
            refine ⟨_, _, dc, _, .ref bc, rfl, hpc, T.cl_Charge, T.a_Charge_second, chf_s _ _ _, ?_⟩
            walk_at "rs"
            refine ⟨TA, _, _, .ref pl1, rfl, rfl, SqT.of (si _ _ hTA), rfl, ?_⟩
            walk_at "rs"
            refine ⟨pl1, _, _, _, rfl, rfl, SqL.of (si _ _ hpl1), at_of (j := i) rfl al1, ?_⟩
            walk_at "rs"
            refine ⟨TB', _, _, .ref pl2, rfl, rfl, SqT.of (si _ _ hTB), rfl, ?_⟩
            walk_at "rs"
            refine ⟨pl2, _, _, _, rfl, rfl, SqL.of (si _ _ hpl2), at_of (j := i) rfl al2, ?_⟩
            refine ⟨E1.l, E2.l, _, _, rfl, rfl, si _ _ hq1, si _ _ hq2, by rw [List.length_map, List.length_map, hx1.1, hx2.1, sizeLine_eq]; omega, fun pX2 hpX2 => ?_⟩
            have sX2 := same_new (o := .lst (E1.ps.map V.ref ++ E2.ps.map V.ref)) hpX2
            have hX2 : (upd Hj pX2 (.lst (E1.ps.map V.ref ++ E2.ps.map V.ref))) pX2 = some (.lst ((E1.ps ++ E2.ps).map V.ref)) := by rw [upd_same]; simp
            refine ⟨_, _, dp_lt (hgc.same sX2), .lst (SqL.of hX2) (dp_lts ((hX.same si).same sX2)), shaped_lt (okX _ n2'), shaped_lts okX, ?_⟩
            rw [any_lt n2' (okX _ n2')]
            have hpc := sX2 _ _ hpc
            have hpf := sX2 _ _ hpf
            have hpg := sX2 _ _ hpg
            have hmf := sX2 _ _ hmf
            have hmg := sX2 _ _ hmg
            have si := si.trans sX2
            have hm := sX2 _ _ hm
            generalize upd Hj pX2 (.lst (E1.ps.map V.ref ++ E2.ps.map V.ref)) = Hk at hpc hpf hpg hmf hmg si hm ⊢
            walk_at "rs"
            refine ⟨_, _, dc, _, .ref bc, rfl, hpc, T.cl_Charge, T.a_Charge_second, chf_s _ _ _, ?_⟩
            walk_at "rs"
            refine ⟨_, _, _, _, rfl, rfl, SqT.of hpg, rfl, ?_⟩
            walk_at "rs"
            refine ⟨_, _, dc, _, .int who, rfl, hpc, T.cl_Charge, T.a_Charge_who, chf_w _ _ _, ?_⟩
            walk_at "rs"
            refine ite2 (fun c => ?_) (fun c => ?_)
            · exfalso
              simp [w2] at c
            walk_at "rs"
            refine ⟨_, _, dc, _, .ref ac, rfl, hpc, T.cl_Charge, T.a_Charge_first, chf_f _ _ _, ?_⟩
            walk_at "rs"
            refine ⟨_, _, _, _, rfl, rfl, SqT.of hpf, rfl, ?_⟩
            walk_at "rs"
            refine ⟨_, _, dc, _, .ref bc, rfl, hpc, T.cl_Charge, T.a_Charge_second, chf_s _ _ _, ?_⟩
            walk_at "rs"
            refine ⟨_, _, _, _, rfl, rfl, SqT.of hpg, rfl, ?_⟩
            walk_at "rs"
            refine ⟨qf, qg, _, _, rfl, hmf, hmg, fun HA sA => ?_⟩
            rw [cl]
            have hpc := sA _ _ hpc
            have hm := sA _ _ hm
            walk_at "rs"
            refine ⟨_, _, dc, _, .int who, rfl, hpc, T.cl_Charge, T.a_Charge_who, chf_w _ _ _, ?_⟩
            walk_at "rs"
            refine ⟨pm, _, rfl, .inl (SqL.of hm), rfl, flat_ints _, ?_⟩
            rw [inV_ints, decide_eq_false n3]
            walk_at "rs"
            refine ⟨.inl ⟨rfl, _, SqL.of hm⟩, ?_⟩
            walk_at "rs"
            refine ⟨_, _, dc, _, .int who, rfl, hpc, T.cl_Charge, T.a_Charge_who, chf_w _ _ _, ?_⟩
            walk_at "rs"
            refine ⟨pm, _, _, rfl, rfl, hm, by rw [List.length_map, List.length_take]; exact small1000 (by omega), ?_⟩
            refine ⟨_, rfl, same_upd (si.trans sA) hpm, ?_⟩
            rw [upd_same, take_succ_getD (d := 0) hjF, ew]
            simp
          · rintro σ Hi ⟨v13, rfl, si, hm⟩
            rw [List.length_map, lc9, List.take_length] at hm
            walk_at "rs"
            refine ⟨nw, pm, wn, F, rfl, SqL.of (si _ _ hnw), SqL.of hm, gn2, fun HA sA => ?_⟩
            walk_at "rs"
            refine ⟨nw, wn, rfl, SqL.of (sA _ _ (si _ _ hnw)), ?_⟩
            walk_at "rs"
            have k1 := k HA
            rw [← decide_eq_true safe] at k1
            exact k1
        · exfalso
          rcases dd with z | z | z
          · exact nz z
          · rw [sh1] at z
            cases z
          · rw [sh2] at z
            cases z

end

theorem all_mk {l : PySem.W.OpenLaw} {w : World} {K : PySem.W.Frag} {h : Heap} {mg : Str → Option Value} {fa : Addr} (X : K.In h) (G : h.Ns mainGlobals mg) (hfa : mg "law" = some (.ref fa))
    {t_SIGNS : Tok} {t_DIGITS : Tok} {t_MOST_DIGITS : Tok} {t_CODE_END : Tok} {t_KIND : Tok} {t_HEIGHT : Tok} {t_TURN : Tok} {t_BLOCK : Tok} {t_LEAN : Tok} {t_MOST_MEMBERS : Tok} {t_MOST_WEIGHT : Tok} {C_Reader : Addr} {C_Committee : Addr} {C_Charge : Addr} {C_Ledger : Addr} {C_Chain : Addr} {C_Client : Addr} {f_is_vote : Addr} {od_is_vote an_is_vote : Option Addr} {sl_is_vote : Array (Option Value)} {oc_is_vote kV_is_vote dc_is_vote pm_is_vote cd_is_vote ct_is_vote : Value} {f_clash : Addr} {od_clash an_clash : Option Addr} {sl_clash : Array (Option Value)} {oc_clash kV_clash dc_clash pm_clash cd_clash ct_clash : Value} {f_abandons : Addr} {od_abandons an_abandons : Option Addr} {sl_abandons : Array (Option Value)} {oc_abandons kV_abandons dc_abandons pm_abandons cd_abandons ct_abandons : Value} {f_Charge_init : Addr} {od_Charge_init an_Charge_init : Option Addr} {sl_Charge_init : Array (Option Value)} {oc_Charge_init kV_Charge_init dc_Charge_init pm_Charge_init cd_Charge_init ct_Charge_init : Value} {f_first_clash : Addr} {od_first_clash an_first_clash : Option Addr} {sl_first_clash : Array (Option Value)} {oc_first_clash kV_first_clash dc_first_clash pm_first_clash cd_first_clash ct_first_clash : Value} {f_charge_of : Addr} {od_charge_of an_charge_of : Option Addr} {sl_charge_of : Array (Option Value)} {oc_charge_of kV_charge_of dc_charge_of pm_charge_of cd_charge_of ct_charge_of : Value} {f_charges : Addr} {od_charges an_charges : Option Addr} {sl_charges : Array (Option Value)} {oc_charges kV_charges dc_charges pm_charges cd_charges ct_charges : Value} {f_first_wrong : Addr} {od_first_wrong an_first_wrong : Option Addr} {sl_first_wrong : Array (Option Value)} {oc_first_wrong kV_first_wrong dc_first_wrong pm_first_wrong cd_first_wrong ct_first_wrong : Value} {f_Committee_init : Addr} {od_Committee_init an_Committee_init : Option Addr} {sl_Committee_init : Array (Option Value)} {oc_Committee_init kV_Committee_init dc_Committee_init pm_Committee_init cd_Committee_init ct_Committee_init : Value} {f_Committee_weight_of : Addr} {od_Committee_weight_of an_Committee_weight_of : Option Addr} {sl_Committee_weight_of : Array (Option Value)} {oc_Committee_weight_of kV_Committee_weight_of dc_Committee_weight_of pm_Committee_weight_of cd_Committee_weight_of ct_Committee_weight_of : Value} {f_Committee_is_quorum : Addr} {od_Committee_is_quorum an_Committee_is_quorum : Option Addr} {sl_Committee_is_quorum : Array (Option Value)} {oc_Committee_is_quorum kV_Committee_is_quorum dc_Committee_is_quorum pm_Committee_is_quorum cd_Committee_is_quorum ct_Committee_is_quorum : Value} {f_votes_by_turn : Addr} {od_votes_by_turn an_votes_by_turn : Option Addr} {sl_votes_by_turn : Array (Option Value)} {oc_votes_by_turn kV_votes_by_turn dc_votes_by_turn pm_votes_by_turn cd_votes_by_turn ct_votes_by_turn : Value} {f_counts : Addr} {od_counts an_counts : Option Addr} {sl_counts : Array (Option Value)} {oc_counts kV_counts dc_counts pm_counts cd_counts ct_counts : Value} {f_certified_turns : Addr} {od_certified_turns an_certified_turns : Option Addr} {sl_certified_turns : Array (Option Value)} {oc_certified_turns kV_certified_turns dc_certified_turns pm_certified_turns cd_certified_turns ct_certified_turns : Value} {f_committed_turns : Addr} {od_committed_turns an_committed_turns : Option Addr} {sl_committed_turns : Array (Option Value)} {oc_committed_turns kV_committed_turns dc_committed_turns pm_committed_turns cd_committed_turns ct_committed_turns : Value} {f_shown_turn : Addr} {od_shown_turn an_shown_turn : Option Addr} {sl_shown_turn : Array (Option Value)} {oc_shown_turn kV_shown_turn dc_shown_turn pm_shown_turn cd_shown_turn ct_shown_turn : Value} {f_shows : Addr} {od_shows an_shows : Option Addr} {sl_shows : Array (Option Value)} {oc_shows kV_shows dc_shows pm_shows cd_shows ct_shows : Value} {f_accuse : Addr} {od_accuse an_accuse : Option Addr} {sl_accuse : Array (Option Value)} {oc_accuse kV_accuse dc_accuse pm_accuse cd_accuse ct_accuse : Value} {f_law_cell : Addr} {od_law_cell an_law_cell : Option Addr} {sl_law_cell : Array (Option Value)} {oc_law_cell kV_law_cell dc_law_cell pm_law_cell cd_law_cell ct_law_cell : Value} {f_law_row : Addr} {od_law_row an_law_row : Option Addr} {sl_law_row : Array (Option Value)} {oc_law_row kV_law_row dc_law_row pm_law_row cd_law_row ct_law_row : Value} {f_law_weights : Addr} {od_law_weights an_law_weights : Option Addr} {sl_law_weights : Array (Option Value)} {oc_law_weights kV_law_weights dc_law_weights pm_law_weights cd_law_weights ct_law_weights : Value} {f_law_weight : Addr} {od_law_weight an_law_weight : Option Addr} {sl_law_weight : Array (Option Value)} {oc_law_weight kV_law_weight dc_law_weight pm_law_weight cd_law_weight ct_law_weight : Value} {f_law_clash : Addr} {od_law_clash an_law_clash : Option Addr} {sl_law_clash : Array (Option Value)} {oc_law_clash kV_law_clash dc_law_clash pm_law_clash cd_law_clash ct_law_clash : Value} {f_Reader_init : Addr} {od_Reader_init an_Reader_init : Option Addr} {sl_Reader_init : Array (Option Value)} {oc_Reader_init kV_Reader_init dc_Reader_init pm_Reader_init cd_Reader_init ct_Reader_init : Value} {f_Reader_read_signs : Addr} {od_Reader_read_signs an_Reader_read_signs : Option Addr} {sl_Reader_read_signs : Array (Option Value)} {oc_Reader_read_signs kV_Reader_read_signs dc_Reader_read_signs pm_Reader_read_signs cd_Reader_read_signs ct_Reader_read_signs : Value} {f_Reader_skip : Addr} {od_Reader_skip an_Reader_skip : Option Addr} {sl_Reader_skip : Array (Option Value)} {oc_Reader_skip kV_Reader_skip dc_Reader_skip pm_Reader_skip cd_Reader_skip ct_Reader_skip : Value} {f_Reader_read_number : Addr} {od_Reader_read_number an_Reader_read_number : Option Addr} {sl_Reader_read_number : Array (Option Value)} {oc_Reader_read_number kV_Reader_read_number dc_Reader_read_number pm_Reader_read_number cd_Reader_read_number ct_Reader_read_number : Value} {f_Reader_read_code : Addr} {od_Reader_read_code an_Reader_read_code : Option Addr} {sl_Reader_read_code : Array (Option Value)} {oc_Reader_read_code kV_Reader_read_code dc_Reader_read_code pm_Reader_read_code cd_Reader_read_code ct_Reader_read_code : Value} {f_Reader_read_command : Addr} {od_Reader_read_command an_Reader_read_command : Option Addr} {sl_Reader_read_command : Array (Option Value)} {oc_Reader_read_command kV_Reader_read_command dc_Reader_read_command pm_Reader_read_command cd_Reader_read_command ct_Reader_read_command : Value} {f_commands_of : Addr} {od_commands_of an_commands_of : Option Addr} {sl_commands_of : Array (Option Value)} {oc_commands_of kV_commands_of dc_commands_of pm_commands_of cd_commands_of ct_commands_of : Value} {f_Ledger_init : Addr} {od_Ledger_init an_Ledger_init : Option Addr} {sl_Ledger_init : Array (Option Value)} {oc_Ledger_init kV_Ledger_init dc_Ledger_init pm_Ledger_init cd_Ledger_init ct_Ledger_init : Value} {f_first_ledger : Addr} {od_first_ledger an_first_ledger : Option Addr} {sl_first_ledger : Array (Option Value)} {oc_first_ledger kV_first_ledger dc_first_ledger pm_first_ledger cd_first_ledger ct_first_ledger : Value} {f_Chain_init : Addr} {od_Chain_init an_Chain_init : Option Addr} {sl_Chain_init : Array (Option Value)} {oc_Chain_init kV_Chain_init dc_Chain_init pm_Chain_init cd_Chain_init ct_Chain_init : Value} {f_Chain_height : Addr} {od_Chain_height an_Chain_height : Option Addr} {sl_Chain_height : Array (Option Value)} {oc_Chain_height kV_Chain_height dc_Chain_height pm_Chain_height cd_Chain_height ct_Chain_height : Value} {f_Chain_committee : Addr} {od_Chain_committee an_Chain_committee : Option Addr} {sl_Chain_committee : Array (Option Value)} {oc_Chain_committee kV_Chain_committee dc_Chain_committee pm_Chain_committee cd_Chain_committee ct_Chain_committee : Value} {f_Chain_extend : Addr} {od_Chain_extend an_Chain_extend : Option Addr} {sl_Chain_extend : Array (Option Value)} {oc_Chain_extend kV_Chain_extend dc_Chain_extend pm_Chain_extend cd_Chain_extend ct_Chain_extend : Value} {f_after_weight : Addr} {od_after_weight an_after_weight : Option Addr} {sl_after_weight : Array (Option Value)} {oc_after_weight kV_after_weight dc_after_weight pm_after_weight cd_after_weight ct_after_weight : Value} {f_Client_init : Addr} {od_Client_init an_Client_init : Option Addr} {sl_Client_init : Array (Option Value)} {oc_Client_init kV_Client_init dc_Client_init pm_Client_init cd_Client_init ct_Client_init : Value} {f_Client_follow : Addr} {od_Client_follow an_Client_follow : Option Addr} {sl_Client_follow : Array (Option Value)} {oc_Client_follow kV_Client_follow dc_Client_follow pm_Client_follow cd_Client_follow ct_Client_follow : Value} {f_dispute : Addr} {od_dispute an_dispute : Option Addr} {sl_dispute : Array (Option Value)} {oc_dispute kV_dispute dc_dispute pm_dispute cd_dispute ct_dispute : Value} {f_law_paper : Addr} {od_law_paper an_law_paper : Option Addr} {sl_law_paper : Array (Option Value)} {oc_law_paper kV_law_paper dc_law_paper pm_law_paper cd_law_paper ct_law_paper : Value} {f_law_block : Addr} {od_law_block an_law_block : Option Addr} {sl_law_block : Array (Option Value)} {oc_law_block kV_law_block dc_law_block pm_law_block cd_law_block ct_law_block : Value} {f_law_reweighted : Addr} {od_law_reweighted an_law_reweighted : Option Addr} {sl_law_reweighted : Array (Option Value)} {oc_law_reweighted kV_law_reweighted dc_law_reweighted pm_law_reweighted cd_law_reweighted ct_law_reweighted : Value} {f_law_is_integer : Addr} {od_law_is_integer an_law_is_integer : Option Addr} {sl_law_is_integer : Array (Option Value)} {oc_law_is_integer kV_law_is_integer dc_law_is_integer pm_law_is_integer cd_law_is_integer ct_law_is_integer : Value} {f_law_followed : Addr} {od_law_followed an_law_followed : Option Addr} {sl_law_followed : Array (Option Value)} {oc_law_followed kV_law_followed dc_law_followed pm_law_followed cd_law_followed ct_law_followed : Value} {f_law_least : Addr} {od_law_least an_law_least : Option Addr} {sl_law_least : Array (Option Value)} {oc_law_least kV_law_least dc_law_least pm_law_least cd_law_least ct_law_least : Value} {f_law : Addr} {od_law an_law : Option Addr} {sl_law : Array (Option Value)} {oc_law kV_law dc_law pm_law cd_law ct_law : Value} {P_MARKS M_MARKS_p M_MARKS_w M_MARKS_d M_MARKS_k : Addr} {n_MARKS : Nat} {h_MARKS_p h_MARKS_w h_MARKS_d h_MARKS_k : Int} {t_MARKS_p t_MARKS_w t_MARKS_d t_MARKS_k : Tok} {od_MARKS_p : Option Addr} {sl_MARKS_p : Array (Option Value)} {n_MARKS_p : Nat} {t0_MARKS_p t1_MARKS_p t2_MARKS_p : Tok} {od_MARKS_w : Option Addr} {sl_MARKS_w : Array (Option Value)} {n_MARKS_w : Nat} {t0_MARKS_w t1_MARKS_w : Tok} {od_MARKS_d : Option Addr} {sl_MARKS_d : Array (Option Value)} {n_MARKS_d : Nat} {t0_MARKS_d t1_MARKS_d : Tok} {od_MARKS_k : Option Addr} {sl_MARKS_k : Array (Option Value)} {n_MARKS_k : Nat} {t0_MARKS_k t1_MARKS_k t2_MARKS_k : Tok} {C_BadCommand : Addr} {C_BadPaper : Addr}
    (c_SIGNS : PySem.W.nsIn K mainGlobals "SIGNS" = some (some (.str "0123456789ginasmtcehlujfyo" t_SIGNS)))
    (c_DIGITS : PySem.W.nsIn K mainGlobals "DIGITS" = some (some (.str "0123456789" t_DIGITS)))
    (c_MOST_DIGITS : PySem.W.nsIn K mainGlobals "MOST_DIGITS" = some (some (.int 6 t_MOST_DIGITS)))
    (c_CODE_END : PySem.W.nsIn K mainGlobals "CODE_END" = some (some (.str "z" t_CODE_END)))
    (c_KIND : PySem.W.nsIn K mainGlobals "KIND" = some (some (.int 0 t_KIND)))
    (c_HEIGHT : PySem.W.nsIn K mainGlobals "HEIGHT" = some (some (.int 1 t_HEIGHT)))
    (c_TURN : PySem.W.nsIn K mainGlobals "TURN" = some (some (.int 2 t_TURN)))
    (c_BLOCK : PySem.W.nsIn K mainGlobals "BLOCK" = some (some (.int 3 t_BLOCK)))
    (c_LEAN : PySem.W.nsIn K mainGlobals "LEAN" = some (some (.int 4 t_LEAN)))
    (c_MOST_MEMBERS : PySem.W.nsIn K mainGlobals "MOST_MEMBERS" = some (some (.int 16 t_MOST_MEMBERS)))
    (c_MOST_WEIGHT : PySem.W.nsIn K mainGlobals "MOST_WEIGHT" = some (some (.int 1000000000000 t_MOST_WEIGHT)))
    (n_len : PySem.W.nsIn K mainGlobals "len" = some none)
    (n_range : PySem.W.nsIn K mainGlobals "range" = some none)
    (n_isinstance : PySem.W.nsIn K mainGlobals "isinstance" = some none)
    (n_int : PySem.W.nsIn K mainGlobals "int" = some none)
    (n_bool : PySem.W.nsIn K mainGlobals "bool" = some none)
    (n_list : PySem.W.nsIn K mainGlobals "list" = some none)
    (n_tuple : PySem.W.nsIn K mainGlobals "tuple" = some none)
    (n_str : PySem.W.nsIn K mainGlobals "str" = some none)
    (n_zip : PySem.W.nsIn K mainGlobals "zip" = some none)
    (n_enumerate : PySem.W.nsIn K mainGlobals "enumerate" = some none)
    (n_max : PySem.W.nsIn K mainGlobals "max" = some none)
    (n_abs : PySem.W.nsIn K mainGlobals "abs" = some none)
    (n_sum : PySem.W.nsIn K mainGlobals "sum" = some none)
    (n_set : PySem.W.nsIn K mainGlobals "set" = some none)
    (n_sorted : PySem.W.nsIn K mainGlobals "sorted" = some none)
    (n_min : PySem.W.nsIn K mainGlobals "min" = some none)
    (g_Reader : PySem.W.nsIn K mainGlobals "Reader" = some (some (.ref C_Reader)))
    (g_Committee : PySem.W.nsIn K mainGlobals "Committee" = some (some (.ref C_Committee)))
    (g_Charge : PySem.W.nsIn K mainGlobals "Charge" = some (some (.ref C_Charge)))
    (g_Ledger : PySem.W.nsIn K mainGlobals "Ledger" = some (some (.ref C_Ledger)))
    (g_Chain : PySem.W.nsIn K mainGlobals "Chain" = some (some (.ref C_Chain)))
    (g_Client : PySem.W.nsIn K mainGlobals "Client" = some (some (.ref C_Client)))
    (a_is_vote : PySem.W.nsIn K mainGlobals "is_vote" = some (some (.ref f_is_vote)))
    (l_is_vote : K.lookup f_is_vote = some ⟨oc_is_vote, od_is_vote, .func (PySem.W.fnOf "is_vote" "is_vote" (defArgs s_is_vote) (defBody s_is_vote) (defScope s_is_vote) .none kV_is_vote dc_is_vote pm_is_vote an_is_vote cd_is_vote ct_is_vote), sl_is_vote⟩)
    (q_is_vote : PySem.W.codeIn K cd_is_vote "is_vote" = true)
    (k_is_vote : PySem.W.keepIn K (.ref f_is_vote) = true)
    (a_clash : PySem.W.nsIn K mainGlobals "clash" = some (some (.ref f_clash)))
    (l_clash : K.lookup f_clash = some ⟨oc_clash, od_clash, .func (PySem.W.fnOf "clash" "clash" (defArgs s_clash) (defBody s_clash) (defScope s_clash) .none kV_clash dc_clash pm_clash an_clash cd_clash ct_clash), sl_clash⟩)
    (q_clash : PySem.W.codeIn K cd_clash "clash" = true)
    (k_clash : PySem.W.keepIn K (.ref f_clash) = true)
    (a_abandons : PySem.W.nsIn K mainGlobals "_abandons" = some (some (.ref f_abandons)))
    (l_abandons : K.lookup f_abandons = some ⟨oc_abandons, od_abandons, .func (PySem.W.fnOf "_abandons" "_abandons" (defArgs s_abandons) (defBody s_abandons) (defScope s_abandons) .none kV_abandons dc_abandons pm_abandons an_abandons cd_abandons ct_abandons), sl_abandons⟩)
    (q_abandons : PySem.W.codeIn K cd_abandons "_abandons" = true)
    (k_abandons : PySem.W.keepIn K (.ref f_abandons) = true)
    (a_Charge_init : PySem.W.findIn K (.ref C_Charge) "__init__" = some (some (.ref f_Charge_init)))
    (i_Charge_init : PySem.W.isFn K (.ref f_Charge_init) = true)
    (l_Charge_init : K.lookup f_Charge_init = some ⟨oc_Charge_init, od_Charge_init, .func (PySem.W.fnOf "__init__" "Charge.__init__" (defArgs s_Charge_init) (defBody s_Charge_init) (defScope s_Charge_init) .none kV_Charge_init dc_Charge_init pm_Charge_init an_Charge_init cd_Charge_init ct_Charge_init), sl_Charge_init⟩)
    (q_Charge_init : PySem.W.codeIn K cd_Charge_init "Charge.__init__" = true)
    (k_Charge_init : PySem.W.keepIn K (.ref f_Charge_init) = true)
    (a_first_clash : PySem.W.nsIn K mainGlobals "_first_clash" = some (some (.ref f_first_clash)))
    (l_first_clash : K.lookup f_first_clash = some ⟨oc_first_clash, od_first_clash, .func (PySem.W.fnOf "_first_clash" "_first_clash" (defArgs s_first_clash) (defBody s_first_clash) (defScope s_first_clash) .none kV_first_clash dc_first_clash pm_first_clash an_first_clash cd_first_clash ct_first_clash), sl_first_clash⟩)
    (q_first_clash : PySem.W.codeIn K cd_first_clash "_first_clash" = true)
    (k_first_clash : PySem.W.keepIn K (.ref f_first_clash) = true)
    (a_charge_of : PySem.W.nsIn K mainGlobals "charge_of" = some (some (.ref f_charge_of)))
    (l_charge_of : K.lookup f_charge_of = some ⟨oc_charge_of, od_charge_of, .func (PySem.W.fnOf "charge_of" "charge_of" (defArgs s_charge_of) (defBody s_charge_of) (defScope s_charge_of) .none kV_charge_of dc_charge_of pm_charge_of an_charge_of cd_charge_of ct_charge_of), sl_charge_of⟩)
    (q_charge_of : PySem.W.codeIn K cd_charge_of "charge_of" = true)
    (k_charge_of : PySem.W.keepIn K (.ref f_charge_of) = true)
    (a_charges : PySem.W.nsIn K mainGlobals "charges" = some (some (.ref f_charges)))
    (l_charges : K.lookup f_charges = some ⟨oc_charges, od_charges, .func (PySem.W.fnOf "charges" "charges" (defArgs s_charges) (defBody s_charges) (defScope s_charges) .none kV_charges dc_charges pm_charges an_charges cd_charges ct_charges), sl_charges⟩)
    (q_charges : PySem.W.codeIn K cd_charges "charges" = true)
    (k_charges : PySem.W.keepIn K (.ref f_charges) = true)
    (a_first_wrong : PySem.W.nsIn K mainGlobals "_first_wrong" = some (some (.ref f_first_wrong)))
    (l_first_wrong : K.lookup f_first_wrong = some ⟨oc_first_wrong, od_first_wrong, .func (PySem.W.fnOf "_first_wrong" "_first_wrong" (defArgs s_first_wrong) (defBody s_first_wrong) (defScope s_first_wrong) .none kV_first_wrong dc_first_wrong pm_first_wrong an_first_wrong cd_first_wrong ct_first_wrong), sl_first_wrong⟩)
    (q_first_wrong : PySem.W.codeIn K cd_first_wrong "_first_wrong" = true)
    (k_first_wrong : PySem.W.keepIn K (.ref f_first_wrong) = true)
    (a_Committee_init : PySem.W.findIn K (.ref C_Committee) "__init__" = some (some (.ref f_Committee_init)))
    (i_Committee_init : PySem.W.isFn K (.ref f_Committee_init) = true)
    (l_Committee_init : K.lookup f_Committee_init = some ⟨oc_Committee_init, od_Committee_init, .func (PySem.W.fnOf "__init__" "Committee.__init__" (defArgs s_Committee_init) (defBody s_Committee_init) (defScope s_Committee_init) .none kV_Committee_init dc_Committee_init pm_Committee_init an_Committee_init cd_Committee_init ct_Committee_init), sl_Committee_init⟩)
    (q_Committee_init : PySem.W.codeIn K cd_Committee_init "Committee.__init__" = true)
    (k_Committee_init : PySem.W.keepIn K (.ref f_Committee_init) = true)
    (a_Committee_weight_of : PySem.W.findIn K (.ref C_Committee) "weight_of" = some (some (.ref f_Committee_weight_of)))
    (i_Committee_weight_of : PySem.W.isFn K (.ref f_Committee_weight_of) = true)
    (l_Committee_weight_of : K.lookup f_Committee_weight_of = some ⟨oc_Committee_weight_of, od_Committee_weight_of, .func (PySem.W.fnOf "weight_of" "Committee.weight_of" (defArgs s_Committee_weight_of) (defBody s_Committee_weight_of) (defScope s_Committee_weight_of) .none kV_Committee_weight_of dc_Committee_weight_of pm_Committee_weight_of an_Committee_weight_of cd_Committee_weight_of ct_Committee_weight_of), sl_Committee_weight_of⟩)
    (q_Committee_weight_of : PySem.W.codeIn K cd_Committee_weight_of "Committee.weight_of" = true)
    (k_Committee_weight_of : PySem.W.keepIn K (.ref f_Committee_weight_of) = true)
    (a_Committee_is_quorum : PySem.W.findIn K (.ref C_Committee) "is_quorum" = some (some (.ref f_Committee_is_quorum)))
    (i_Committee_is_quorum : PySem.W.isFn K (.ref f_Committee_is_quorum) = true)
    (l_Committee_is_quorum : K.lookup f_Committee_is_quorum = some ⟨oc_Committee_is_quorum, od_Committee_is_quorum, .func (PySem.W.fnOf "is_quorum" "Committee.is_quorum" (defArgs s_Committee_is_quorum) (defBody s_Committee_is_quorum) (defScope s_Committee_is_quorum) .none kV_Committee_is_quorum dc_Committee_is_quorum pm_Committee_is_quorum an_Committee_is_quorum cd_Committee_is_quorum ct_Committee_is_quorum), sl_Committee_is_quorum⟩)
    (q_Committee_is_quorum : PySem.W.codeIn K cd_Committee_is_quorum "Committee.is_quorum" = true)
    (k_Committee_is_quorum : PySem.W.keepIn K (.ref f_Committee_is_quorum) = true)
    (a_votes_by_turn : PySem.W.nsIn K mainGlobals "votes_by_turn" = some (some (.ref f_votes_by_turn)))
    (l_votes_by_turn : K.lookup f_votes_by_turn = some ⟨oc_votes_by_turn, od_votes_by_turn, .func (PySem.W.fnOf "votes_by_turn" "votes_by_turn" (defArgs s_votes_by_turn) (defBody s_votes_by_turn) (defScope s_votes_by_turn) .none kV_votes_by_turn dc_votes_by_turn pm_votes_by_turn an_votes_by_turn cd_votes_by_turn ct_votes_by_turn), sl_votes_by_turn⟩)
    (q_votes_by_turn : PySem.W.codeIn K cd_votes_by_turn "votes_by_turn" = true)
    (k_votes_by_turn : PySem.W.keepIn K (.ref f_votes_by_turn) = true)
    (a_counts : PySem.W.nsIn K mainGlobals "counts" = some (some (.ref f_counts)))
    (l_counts : K.lookup f_counts = some ⟨oc_counts, od_counts, .func (PySem.W.fnOf "counts" "counts" (defArgs s_counts) (defBody s_counts) (defScope s_counts) .none kV_counts dc_counts pm_counts an_counts cd_counts ct_counts), sl_counts⟩)
    (q_counts : PySem.W.codeIn K cd_counts "counts" = true)
    (k_counts : PySem.W.keepIn K (.ref f_counts) = true)
    (a_certified_turns : PySem.W.nsIn K mainGlobals "certified_turns" = some (some (.ref f_certified_turns)))
    (l_certified_turns : K.lookup f_certified_turns = some ⟨oc_certified_turns, od_certified_turns, .func (PySem.W.fnOf "certified_turns" "certified_turns" (defArgs s_certified_turns) (defBody s_certified_turns) (defScope s_certified_turns) .none kV_certified_turns dc_certified_turns pm_certified_turns an_certified_turns cd_certified_turns ct_certified_turns), sl_certified_turns⟩)
    (q_certified_turns : PySem.W.codeIn K cd_certified_turns "certified_turns" = true)
    (k_certified_turns : PySem.W.keepIn K (.ref f_certified_turns) = true)
    (a_committed_turns : PySem.W.nsIn K mainGlobals "committed_turns" = some (some (.ref f_committed_turns)))
    (l_committed_turns : K.lookup f_committed_turns = some ⟨oc_committed_turns, od_committed_turns, .func (PySem.W.fnOf "committed_turns" "committed_turns" (defArgs s_committed_turns) (defBody s_committed_turns) (defScope s_committed_turns) .none kV_committed_turns dc_committed_turns pm_committed_turns an_committed_turns cd_committed_turns ct_committed_turns), sl_committed_turns⟩)
    (q_committed_turns : PySem.W.codeIn K cd_committed_turns "committed_turns" = true)
    (k_committed_turns : PySem.W.keepIn K (.ref f_committed_turns) = true)
    (a_shown_turn : PySem.W.nsIn K mainGlobals "shown_turn" = some (some (.ref f_shown_turn)))
    (l_shown_turn : K.lookup f_shown_turn = some ⟨oc_shown_turn, od_shown_turn, .func (PySem.W.fnOf "shown_turn" "shown_turn" (defArgs s_shown_turn) (defBody s_shown_turn) (defScope s_shown_turn) .none kV_shown_turn dc_shown_turn pm_shown_turn an_shown_turn cd_shown_turn ct_shown_turn), sl_shown_turn⟩)
    (q_shown_turn : PySem.W.codeIn K cd_shown_turn "shown_turn" = true)
    (k_shown_turn : PySem.W.keepIn K (.ref f_shown_turn) = true)
    (a_shows : PySem.W.nsIn K mainGlobals "shows" = some (some (.ref f_shows)))
    (l_shows : K.lookup f_shows = some ⟨oc_shows, od_shows, .func (PySem.W.fnOf "shows" "shows" (defArgs s_shows) (defBody s_shows) (defScope s_shows) .none kV_shows dc_shows pm_shows an_shows cd_shows ct_shows), sl_shows⟩)
    (q_shows : PySem.W.codeIn K cd_shows "shows" = true)
    (k_shows : PySem.W.keepIn K (.ref f_shows) = true)
    (a_accuse : PySem.W.nsIn K mainGlobals "accuse" = some (some (.ref f_accuse)))
    (l_accuse : K.lookup f_accuse = some ⟨oc_accuse, od_accuse, .func (PySem.W.fnOf "accuse" "accuse" (defArgs s_accuse) (defBody s_accuse) (defScope s_accuse) .none kV_accuse dc_accuse pm_accuse an_accuse cd_accuse ct_accuse), sl_accuse⟩)
    (q_accuse : PySem.W.codeIn K cd_accuse "accuse" = true)
    (k_accuse : PySem.W.keepIn K (.ref f_accuse) = true)
    (a_law_cell : PySem.W.nsIn K mainGlobals "_law_cell" = some (some (.ref f_law_cell)))
    (l_law_cell : K.lookup f_law_cell = some ⟨oc_law_cell, od_law_cell, .func (PySem.W.fnOf "_law_cell" "_law_cell" (defArgs s_law_cell) (defBody s_law_cell) (defScope s_law_cell) .none kV_law_cell dc_law_cell pm_law_cell an_law_cell cd_law_cell ct_law_cell), sl_law_cell⟩)
    (q_law_cell : PySem.W.codeIn K cd_law_cell "_law_cell" = true)
    (k_law_cell : PySem.W.keepIn K (.ref f_law_cell) = true)
    (a_law_row : PySem.W.nsIn K mainGlobals "_law_row" = some (some (.ref f_law_row)))
    (l_law_row : K.lookup f_law_row = some ⟨oc_law_row, od_law_row, .func (PySem.W.fnOf "_law_row" "_law_row" (defArgs s_law_row) (defBody s_law_row) (defScope s_law_row) .none kV_law_row dc_law_row pm_law_row an_law_row cd_law_row ct_law_row), sl_law_row⟩)
    (q_law_row : PySem.W.codeIn K cd_law_row "_law_row" = true)
    (k_law_row : PySem.W.keepIn K (.ref f_law_row) = true)
    (a_law_weights : PySem.W.nsIn K mainGlobals "_law_weights" = some (some (.ref f_law_weights)))
    (l_law_weights : K.lookup f_law_weights = some ⟨oc_law_weights, od_law_weights, .func (PySem.W.fnOf "_law_weights" "_law_weights" (defArgs s_law_weights) (defBody s_law_weights) (defScope s_law_weights) .none kV_law_weights dc_law_weights pm_law_weights an_law_weights cd_law_weights ct_law_weights), sl_law_weights⟩)
    (q_law_weights : PySem.W.codeIn K cd_law_weights "_law_weights" = true)
    (k_law_weights : PySem.W.keepIn K (.ref f_law_weights) = true)
    (a_law_weight : PySem.W.nsIn K mainGlobals "_law_weight" = some (some (.ref f_law_weight)))
    (l_law_weight : K.lookup f_law_weight = some ⟨oc_law_weight, od_law_weight, .func (PySem.W.fnOf "_law_weight" "_law_weight" (defArgs s_law_weight) (defBody s_law_weight) (defScope s_law_weight) .none kV_law_weight dc_law_weight pm_law_weight an_law_weight cd_law_weight ct_law_weight), sl_law_weight⟩)
    (q_law_weight : PySem.W.codeIn K cd_law_weight "_law_weight" = true)
    (k_law_weight : PySem.W.keepIn K (.ref f_law_weight) = true)
    (a_law_clash : PySem.W.nsIn K mainGlobals "_law_clash" = some (some (.ref f_law_clash)))
    (l_law_clash : K.lookup f_law_clash = some ⟨oc_law_clash, od_law_clash, .func (PySem.W.fnOf "_law_clash" "_law_clash" (defArgs s_law_clash) (defBody s_law_clash) (defScope s_law_clash) .none kV_law_clash dc_law_clash pm_law_clash an_law_clash cd_law_clash ct_law_clash), sl_law_clash⟩)
    (q_law_clash : PySem.W.codeIn K cd_law_clash "_law_clash" = true)
    (k_law_clash : PySem.W.keepIn K (.ref f_law_clash) = true)
    (a_Reader_init : PySem.W.findIn K (.ref C_Reader) "__init__" = some (some (.ref f_Reader_init)))
    (i_Reader_init : PySem.W.isFn K (.ref f_Reader_init) = true)
    (l_Reader_init : K.lookup f_Reader_init = some ⟨oc_Reader_init, od_Reader_init, .func (PySem.W.fnOf "__init__" "Reader.__init__" (defArgs s_Reader_init) (defBody s_Reader_init) (defScope s_Reader_init) .none kV_Reader_init dc_Reader_init pm_Reader_init an_Reader_init cd_Reader_init ct_Reader_init), sl_Reader_init⟩)
    (q_Reader_init : PySem.W.codeIn K cd_Reader_init "Reader.__init__" = true)
    (k_Reader_init : PySem.W.keepIn K (.ref f_Reader_init) = true)
    (a_Reader_read_signs : PySem.W.findIn K (.ref C_Reader) "read_signs" = some (some (.ref f_Reader_read_signs)))
    (i_Reader_read_signs : PySem.W.isFn K (.ref f_Reader_read_signs) = true)
    (l_Reader_read_signs : K.lookup f_Reader_read_signs = some ⟨oc_Reader_read_signs, od_Reader_read_signs, .func (PySem.W.fnOf "read_signs" "Reader.read_signs" (defArgs s_Reader_read_signs) (defBody s_Reader_read_signs) (defScope s_Reader_read_signs) .none kV_Reader_read_signs dc_Reader_read_signs pm_Reader_read_signs an_Reader_read_signs cd_Reader_read_signs ct_Reader_read_signs), sl_Reader_read_signs⟩)
    (q_Reader_read_signs : PySem.W.codeIn K cd_Reader_read_signs "Reader.read_signs" = true)
    (k_Reader_read_signs : PySem.W.keepIn K (.ref f_Reader_read_signs) = true)
    (a_Reader_skip : PySem.W.findIn K (.ref C_Reader) "skip" = some (some (.ref f_Reader_skip)))
    (i_Reader_skip : PySem.W.isFn K (.ref f_Reader_skip) = true)
    (l_Reader_skip : K.lookup f_Reader_skip = some ⟨oc_Reader_skip, od_Reader_skip, .func (PySem.W.fnOf "skip" "Reader.skip" (defArgs s_Reader_skip) (defBody s_Reader_skip) (defScope s_Reader_skip) .none kV_Reader_skip dc_Reader_skip pm_Reader_skip an_Reader_skip cd_Reader_skip ct_Reader_skip), sl_Reader_skip⟩)
    (q_Reader_skip : PySem.W.codeIn K cd_Reader_skip "Reader.skip" = true)
    (k_Reader_skip : PySem.W.keepIn K (.ref f_Reader_skip) = true)
    (a_Reader_read_number : PySem.W.findIn K (.ref C_Reader) "read_number" = some (some (.ref f_Reader_read_number)))
    (i_Reader_read_number : PySem.W.isFn K (.ref f_Reader_read_number) = true)
    (l_Reader_read_number : K.lookup f_Reader_read_number = some ⟨oc_Reader_read_number, od_Reader_read_number, .func (PySem.W.fnOf "read_number" "Reader.read_number" (defArgs s_Reader_read_number) (defBody s_Reader_read_number) (defScope s_Reader_read_number) .none kV_Reader_read_number dc_Reader_read_number pm_Reader_read_number an_Reader_read_number cd_Reader_read_number ct_Reader_read_number), sl_Reader_read_number⟩)
    (q_Reader_read_number : PySem.W.codeIn K cd_Reader_read_number "Reader.read_number" = true)
    (k_Reader_read_number : PySem.W.keepIn K (.ref f_Reader_read_number) = true)
    (a_Reader_read_code : PySem.W.findIn K (.ref C_Reader) "read_code" = some (some (.ref f_Reader_read_code)))
    (i_Reader_read_code : PySem.W.isFn K (.ref f_Reader_read_code) = true)
    (l_Reader_read_code : K.lookup f_Reader_read_code = some ⟨oc_Reader_read_code, od_Reader_read_code, .func (PySem.W.fnOf "read_code" "Reader.read_code" (defArgs s_Reader_read_code) (defBody s_Reader_read_code) (defScope s_Reader_read_code) .none kV_Reader_read_code dc_Reader_read_code pm_Reader_read_code an_Reader_read_code cd_Reader_read_code ct_Reader_read_code), sl_Reader_read_code⟩)
    (q_Reader_read_code : PySem.W.codeIn K cd_Reader_read_code "Reader.read_code" = true)
    (k_Reader_read_code : PySem.W.keepIn K (.ref f_Reader_read_code) = true)
    (a_Reader_read_command : PySem.W.findIn K (.ref C_Reader) "read_command" = some (some (.ref f_Reader_read_command)))
    (i_Reader_read_command : PySem.W.isFn K (.ref f_Reader_read_command) = true)
    (l_Reader_read_command : K.lookup f_Reader_read_command = some ⟨oc_Reader_read_command, od_Reader_read_command, .func (PySem.W.fnOf "read_command" "Reader.read_command" (defArgs s_Reader_read_command) (defBody s_Reader_read_command) (defScope s_Reader_read_command) .none kV_Reader_read_command dc_Reader_read_command pm_Reader_read_command an_Reader_read_command cd_Reader_read_command ct_Reader_read_command), sl_Reader_read_command⟩)
    (q_Reader_read_command : PySem.W.codeIn K cd_Reader_read_command "Reader.read_command" = true)
    (k_Reader_read_command : PySem.W.keepIn K (.ref f_Reader_read_command) = true)
    (a_commands_of : PySem.W.nsIn K mainGlobals "commands_of" = some (some (.ref f_commands_of)))
    (l_commands_of : K.lookup f_commands_of = some ⟨oc_commands_of, od_commands_of, .func (PySem.W.fnOf "commands_of" "commands_of" (defArgs s_commands_of) (defBody s_commands_of) (defScope s_commands_of) .none kV_commands_of dc_commands_of pm_commands_of an_commands_of cd_commands_of ct_commands_of), sl_commands_of⟩)
    (q_commands_of : PySem.W.codeIn K cd_commands_of "commands_of" = true)
    (k_commands_of : PySem.W.keepIn K (.ref f_commands_of) = true)
    (a_Ledger_init : PySem.W.findIn K (.ref C_Ledger) "__init__" = some (some (.ref f_Ledger_init)))
    (i_Ledger_init : PySem.W.isFn K (.ref f_Ledger_init) = true)
    (l_Ledger_init : K.lookup f_Ledger_init = some ⟨oc_Ledger_init, od_Ledger_init, .func (PySem.W.fnOf "__init__" "Ledger.__init__" (defArgs s_Ledger_init) (defBody s_Ledger_init) (defScope s_Ledger_init) .none kV_Ledger_init dc_Ledger_init pm_Ledger_init an_Ledger_init cd_Ledger_init ct_Ledger_init), sl_Ledger_init⟩)
    (q_Ledger_init : PySem.W.codeIn K cd_Ledger_init "Ledger.__init__" = true)
    (k_Ledger_init : PySem.W.keepIn K (.ref f_Ledger_init) = true)
    (a_first_ledger : PySem.W.nsIn K mainGlobals "first_ledger" = some (some (.ref f_first_ledger)))
    (l_first_ledger : K.lookup f_first_ledger = some ⟨oc_first_ledger, od_first_ledger, .func (PySem.W.fnOf "first_ledger" "first_ledger" (defArgs s_first_ledger) (defBody s_first_ledger) (defScope s_first_ledger) .none kV_first_ledger dc_first_ledger pm_first_ledger an_first_ledger cd_first_ledger ct_first_ledger), sl_first_ledger⟩)
    (q_first_ledger : PySem.W.codeIn K cd_first_ledger "first_ledger" = true)
    (k_first_ledger : PySem.W.keepIn K (.ref f_first_ledger) = true)
    (a_Chain_init : PySem.W.findIn K (.ref C_Chain) "__init__" = some (some (.ref f_Chain_init)))
    (i_Chain_init : PySem.W.isFn K (.ref f_Chain_init) = true)
    (l_Chain_init : K.lookup f_Chain_init = some ⟨oc_Chain_init, od_Chain_init, .func (PySem.W.fnOf "__init__" "Chain.__init__" (defArgs s_Chain_init) (defBody s_Chain_init) (defScope s_Chain_init) .none kV_Chain_init dc_Chain_init pm_Chain_init an_Chain_init cd_Chain_init ct_Chain_init), sl_Chain_init⟩)
    (q_Chain_init : PySem.W.codeIn K cd_Chain_init "Chain.__init__" = true)
    (k_Chain_init : PySem.W.keepIn K (.ref f_Chain_init) = true)
    (a_Chain_height : PySem.W.findIn K (.ref C_Chain) "height" = some (some (.ref f_Chain_height)))
    (i_Chain_height : PySem.W.isFn K (.ref f_Chain_height) = true)
    (l_Chain_height : K.lookup f_Chain_height = some ⟨oc_Chain_height, od_Chain_height, .func (PySem.W.fnOf "height" "Chain.height" (defArgs s_Chain_height) (defBody s_Chain_height) (defScope s_Chain_height) .none kV_Chain_height dc_Chain_height pm_Chain_height an_Chain_height cd_Chain_height ct_Chain_height), sl_Chain_height⟩)
    (q_Chain_height : PySem.W.codeIn K cd_Chain_height "Chain.height" = true)
    (k_Chain_height : PySem.W.keepIn K (.ref f_Chain_height) = true)
    (a_Chain_committee : PySem.W.findIn K (.ref C_Chain) "committee" = some (some (.ref f_Chain_committee)))
    (i_Chain_committee : PySem.W.isFn K (.ref f_Chain_committee) = true)
    (l_Chain_committee : K.lookup f_Chain_committee = some ⟨oc_Chain_committee, od_Chain_committee, .func (PySem.W.fnOf "committee" "Chain.committee" (defArgs s_Chain_committee) (defBody s_Chain_committee) (defScope s_Chain_committee) .none kV_Chain_committee dc_Chain_committee pm_Chain_committee an_Chain_committee cd_Chain_committee ct_Chain_committee), sl_Chain_committee⟩)
    (q_Chain_committee : PySem.W.codeIn K cd_Chain_committee "Chain.committee" = true)
    (k_Chain_committee : PySem.W.keepIn K (.ref f_Chain_committee) = true)
    (a_Chain_extend : PySem.W.findIn K (.ref C_Chain) "extend" = some (some (.ref f_Chain_extend)))
    (i_Chain_extend : PySem.W.isFn K (.ref f_Chain_extend) = true)
    (l_Chain_extend : K.lookup f_Chain_extend = some ⟨oc_Chain_extend, od_Chain_extend, .func (PySem.W.fnOf "extend" "Chain.extend" (defArgs s_Chain_extend) (defBody s_Chain_extend) (defScope s_Chain_extend) .none kV_Chain_extend dc_Chain_extend pm_Chain_extend an_Chain_extend cd_Chain_extend ct_Chain_extend), sl_Chain_extend⟩)
    (q_Chain_extend : PySem.W.codeIn K cd_Chain_extend "Chain.extend" = true)
    (k_Chain_extend : PySem.W.keepIn K (.ref f_Chain_extend) = true)
    (a_after_weight : PySem.W.nsIn K mainGlobals "_after_weight" = some (some (.ref f_after_weight)))
    (l_after_weight : K.lookup f_after_weight = some ⟨oc_after_weight, od_after_weight, .func (PySem.W.fnOf "_after_weight" "_after_weight" (defArgs s_after_weight) (defBody s_after_weight) (defScope s_after_weight) .none kV_after_weight dc_after_weight pm_after_weight an_after_weight cd_after_weight ct_after_weight), sl_after_weight⟩)
    (q_after_weight : PySem.W.codeIn K cd_after_weight "_after_weight" = true)
    (k_after_weight : PySem.W.keepIn K (.ref f_after_weight) = true)
    (a_Client_init : PySem.W.findIn K (.ref C_Client) "__init__" = some (some (.ref f_Client_init)))
    (i_Client_init : PySem.W.isFn K (.ref f_Client_init) = true)
    (l_Client_init : K.lookup f_Client_init = some ⟨oc_Client_init, od_Client_init, .func (PySem.W.fnOf "__init__" "Client.__init__" (defArgs s_Client_init) (defBody s_Client_init) (defScope s_Client_init) .none kV_Client_init dc_Client_init pm_Client_init an_Client_init cd_Client_init ct_Client_init), sl_Client_init⟩)
    (q_Client_init : PySem.W.codeIn K cd_Client_init "Client.__init__" = true)
    (k_Client_init : PySem.W.keepIn K (.ref f_Client_init) = true)
    (a_Client_follow : PySem.W.findIn K (.ref C_Client) "follow" = some (some (.ref f_Client_follow)))
    (i_Client_follow : PySem.W.isFn K (.ref f_Client_follow) = true)
    (l_Client_follow : K.lookup f_Client_follow = some ⟨oc_Client_follow, od_Client_follow, .func (PySem.W.fnOf "follow" "Client.follow" (defArgs s_Client_follow) (defBody s_Client_follow) (defScope s_Client_follow) .none kV_Client_follow dc_Client_follow pm_Client_follow an_Client_follow cd_Client_follow ct_Client_follow), sl_Client_follow⟩)
    (q_Client_follow : PySem.W.codeIn K cd_Client_follow "Client.follow" = true)
    (k_Client_follow : PySem.W.keepIn K (.ref f_Client_follow) = true)
    (a_dispute : PySem.W.nsIn K mainGlobals "dispute" = some (some (.ref f_dispute)))
    (l_dispute : K.lookup f_dispute = some ⟨oc_dispute, od_dispute, .func (PySem.W.fnOf "dispute" "dispute" (defArgs s_dispute) (defBody s_dispute) (defScope s_dispute) .none kV_dispute dc_dispute pm_dispute an_dispute cd_dispute ct_dispute), sl_dispute⟩)
    (q_dispute : PySem.W.codeIn K cd_dispute "dispute" = true)
    (k_dispute : PySem.W.keepIn K (.ref f_dispute) = true)
    (a_law_paper : PySem.W.nsIn K mainGlobals "_law_paper" = some (some (.ref f_law_paper)))
    (l_law_paper : K.lookup f_law_paper = some ⟨oc_law_paper, od_law_paper, .func (PySem.W.fnOf "_law_paper" "_law_paper" (defArgs s_law_paper) (defBody s_law_paper) (defScope s_law_paper) .none kV_law_paper dc_law_paper pm_law_paper an_law_paper cd_law_paper ct_law_paper), sl_law_paper⟩)
    (q_law_paper : PySem.W.codeIn K cd_law_paper "_law_paper" = true)
    (k_law_paper : PySem.W.keepIn K (.ref f_law_paper) = true)
    (a_law_block : PySem.W.nsIn K mainGlobals "_law_block" = some (some (.ref f_law_block)))
    (l_law_block : K.lookup f_law_block = some ⟨oc_law_block, od_law_block, .func (PySem.W.fnOf "_law_block" "_law_block" (defArgs s_law_block) (defBody s_law_block) (defScope s_law_block) .none kV_law_block dc_law_block pm_law_block an_law_block cd_law_block ct_law_block), sl_law_block⟩)
    (q_law_block : PySem.W.codeIn K cd_law_block "_law_block" = true)
    (k_law_block : PySem.W.keepIn K (.ref f_law_block) = true)
    (a_law_reweighted : PySem.W.nsIn K mainGlobals "_law_reweighted" = some (some (.ref f_law_reweighted)))
    (l_law_reweighted : K.lookup f_law_reweighted = some ⟨oc_law_reweighted, od_law_reweighted, .func (PySem.W.fnOf "_law_reweighted" "_law_reweighted" (defArgs s_law_reweighted) (defBody s_law_reweighted) (defScope s_law_reweighted) .none kV_law_reweighted dc_law_reweighted pm_law_reweighted an_law_reweighted cd_law_reweighted ct_law_reweighted), sl_law_reweighted⟩)
    (q_law_reweighted : PySem.W.codeIn K cd_law_reweighted "_law_reweighted" = true)
    (k_law_reweighted : PySem.W.keepIn K (.ref f_law_reweighted) = true)
    (a_law_is_integer : PySem.W.nsIn K mainGlobals "_law_is_integer" = some (some (.ref f_law_is_integer)))
    (l_law_is_integer : K.lookup f_law_is_integer = some ⟨oc_law_is_integer, od_law_is_integer, .func (PySem.W.fnOf "_law_is_integer" "_law_is_integer" (defArgs s_law_is_integer) (defBody s_law_is_integer) (defScope s_law_is_integer) .none kV_law_is_integer dc_law_is_integer pm_law_is_integer an_law_is_integer cd_law_is_integer ct_law_is_integer), sl_law_is_integer⟩)
    (q_law_is_integer : PySem.W.codeIn K cd_law_is_integer "_law_is_integer" = true)
    (k_law_is_integer : PySem.W.keepIn K (.ref f_law_is_integer) = true)
    (a_law_followed : PySem.W.nsIn K mainGlobals "_law_followed" = some (some (.ref f_law_followed)))
    (l_law_followed : K.lookup f_law_followed = some ⟨oc_law_followed, od_law_followed, .func (PySem.W.fnOf "_law_followed" "_law_followed" (defArgs s_law_followed) (defBody s_law_followed) (defScope s_law_followed) .none kV_law_followed dc_law_followed pm_law_followed an_law_followed cd_law_followed ct_law_followed), sl_law_followed⟩)
    (q_law_followed : PySem.W.codeIn K cd_law_followed "_law_followed" = true)
    (k_law_followed : PySem.W.keepIn K (.ref f_law_followed) = true)
    (a_law_least : PySem.W.nsIn K mainGlobals "_law_least" = some (some (.ref f_law_least)))
    (l_law_least : K.lookup f_law_least = some ⟨oc_law_least, od_law_least, .func (PySem.W.fnOf "_law_least" "_law_least" (defArgs s_law_least) (defBody s_law_least) (defScope s_law_least) .none kV_law_least dc_law_least pm_law_least an_law_least cd_law_least ct_law_least), sl_law_least⟩)
    (q_law_least : PySem.W.codeIn K cd_law_least "_law_least" = true)
    (k_law_least : PySem.W.keepIn K (.ref f_law_least) = true)
    (a_law : PySem.W.nsIn K mainGlobals "law" = some (some (.ref f_law)))
    (l_law : K.lookup f_law = some ⟨oc_law, od_law, .func (PySem.W.fnOf "law" "law" (defArgs s_law) (defBody s_law) (defScope s_law) .none kV_law dc_law pm_law an_law cd_law ct_law), sl_law⟩)
    (q_law : PySem.W.codeIn K cd_law "law" = true)
    (k_law : PySem.W.keepIn K (.ref f_law) = true)
    (pg_Reader : PySem.W.plainGet K C_Reader Str.empty = true)
    (hd_Reader : PySem.W.hasDictIn K C_Reader = true)
    (po_Reader : PySem.W.plainOver K C_Reader = true)
    (sa_Reader : PySem.W.findIn K (.ref C_Reader) "__setattr__" = some (some (.builtin "object.__setattr__")))
    (mk_Reader : PySem.W.makesIn K C_Reader = true)
    (kc_Reader : PySem.W.keepIn K (.ref C_Reader) = true)
    (no_Reader_text : PySem.W.findIn K (.ref C_Reader) "text" = some none)
    (no_Reader_at : PySem.W.findIn K (.ref C_Reader) "at" = some none)
    (pg_Committee : PySem.W.plainGet K C_Committee Str.empty = true)
    (hd_Committee : PySem.W.hasDictIn K C_Committee = true)
    (po_Committee : PySem.W.plainOver K C_Committee = true)
    (sa_Committee : PySem.W.findIn K (.ref C_Committee) "__setattr__" = some (some (.builtin "object.__setattr__")))
    (mk_Committee : PySem.W.makesIn K C_Committee = true)
    (kc_Committee : PySem.W.keepIn K (.ref C_Committee) = true)
    (no_Committee_weights : PySem.W.findIn K (.ref C_Committee) "weights" = some none)
    (no_Committee_size : PySem.W.findIn K (.ref C_Committee) "size" = some none)
    (no_Committee_total : PySem.W.findIn K (.ref C_Committee) "total" = some none)
    (pg_Charge : PySem.W.plainGet K C_Charge Str.empty = true)
    (hd_Charge : PySem.W.hasDictIn K C_Charge = true)
    (po_Charge : PySem.W.plainOver K C_Charge = true)
    (sa_Charge : PySem.W.findIn K (.ref C_Charge) "__setattr__" = some (some (.builtin "object.__setattr__")))
    (mk_Charge : PySem.W.makesIn K C_Charge = true)
    (kc_Charge : PySem.W.keepIn K (.ref C_Charge) = true)
    (no_Charge_who : PySem.W.findIn K (.ref C_Charge) "who" = some none)
    (no_Charge_first : PySem.W.findIn K (.ref C_Charge) "first" = some none)
    (no_Charge_second : PySem.W.findIn K (.ref C_Charge) "second" = some none)
    (pg_Ledger : PySem.W.plainGet K C_Ledger Str.empty = true)
    (hd_Ledger : PySem.W.hasDictIn K C_Ledger = true)
    (po_Ledger : PySem.W.plainOver K C_Ledger = true)
    (sa_Ledger : PySem.W.findIn K (.ref C_Ledger) "__setattr__" = some (some (.builtin "object.__setattr__")))
    (mk_Ledger : PySem.W.makesIn K C_Ledger = true)
    (kc_Ledger : PySem.W.keepIn K (.ref C_Ledger) = true)
    (no_Ledger_balances : PySem.W.findIn K (.ref C_Ledger) "balances" = some none)
    (no_Ledger_codes : PySem.W.findIn K (.ref C_Ledger) "codes" = some none)
    (no_Ledger_stores : PySem.W.findIn K (.ref C_Ledger) "stores" = some none)
    (pg_Chain : PySem.W.plainGet K C_Chain Str.empty = true)
    (hd_Chain : PySem.W.hasDictIn K C_Chain = true)
    (po_Chain : PySem.W.plainOver K C_Chain = true)
    (sa_Chain : PySem.W.findIn K (.ref C_Chain) "__setattr__" = some (some (.builtin "object.__setattr__")))
    (mk_Chain : PySem.W.makesIn K C_Chain = true)
    (kc_Chain : PySem.W.keepIn K (.ref C_Chain) = true)
    (no_Chain_blocks : PySem.W.findIn K (.ref C_Chain) "blocks" = some none)
    (no_Chain_receipts : PySem.W.findIn K (.ref C_Chain) "receipts" = some none)
    (no_Chain_committees : PySem.W.findIn K (.ref C_Chain) "committees" = some none)
    (no_Chain_ledgers : PySem.W.findIn K (.ref C_Chain) "ledgers" = some none)
    (pg_Client : PySem.W.plainGet K C_Client Str.empty = true)
    (hd_Client : PySem.W.hasDictIn K C_Client = true)
    (po_Client : PySem.W.plainOver K C_Client = true)
    (sa_Client : PySem.W.findIn K (.ref C_Client) "__setattr__" = some (some (.builtin "object.__setattr__")))
    (mk_Client : PySem.W.makesIn K C_Client = true)
    (kc_Client : PySem.W.keepIn K (.ref C_Client) = true)
    (no_Client_chain : PySem.W.findIn K (.ref C_Client) "chain" = some none)
    (g_MARKS : PySem.W.nsIn K mainGlobals "MARKS" = some (some (.ref P_MARKS)))
    (l_MARKS : K.lookup P_MARKS = some ⟨.type "dict", none, .dict #[⟨h_MARKS_p, .str "p" t_MARKS_p, .ref M_MARKS_p⟩, ⟨h_MARKS_w, .str "w" t_MARKS_w, .ref M_MARKS_w⟩, ⟨h_MARKS_d, .str "d" t_MARKS_d, .ref M_MARKS_d⟩, ⟨h_MARKS_k, .str "k" t_MARKS_k, .ref M_MARKS_k⟩] n_MARKS, #[]⟩)
    (kl_MARKS : PySem.W.KeysLit w.params [⟨h_MARKS_p, .str "p" t_MARKS_p, .ref M_MARKS_p⟩, ⟨h_MARKS_w, .str "w" t_MARKS_w, .ref M_MARKS_w⟩, ⟨h_MARKS_d, .str "d" t_MARKS_d, .ref M_MARKS_d⟩, ⟨h_MARKS_k, .str "k" t_MARKS_k, .ref M_MARKS_k⟩])
    (lo_MARKS : (P_MARKS == sysModules) = false)
    (l_MARKS_p : K.lookup M_MARKS_p = some ⟨.type "tuple", od_MARKS_p, .seq #[.str "p" t0_MARKS_p, .str "q" t1_MARKS_p, .str "r" t2_MARKS_p] n_MARKS_p, sl_MARKS_p⟩)
    (l_MARKS_w : K.lookup M_MARKS_w = some ⟨.type "tuple", od_MARKS_w, .seq #[.str "w" t0_MARKS_w, .str "x" t1_MARKS_w] n_MARKS_w, sl_MARKS_w⟩)
    (l_MARKS_d : K.lookup M_MARKS_d = some ⟨.type "tuple", od_MARKS_d, .seq #[.str "d" t0_MARKS_d, .str "z" t1_MARKS_d] n_MARKS_d, sl_MARKS_d⟩)
    (l_MARKS_k : K.lookup M_MARKS_k = some ⟨.type "tuple", od_MARKS_k, .seq #[.str "k" t0_MARKS_k, .str "b" t1_MARKS_k, .str "v" t2_MARKS_k] n_MARKS_k, sl_MARKS_k⟩)
    (g_BadCommand : PySem.W.nsIn K mainGlobals "BadCommand" = some (some (.ref C_BadCommand)))
    (x_BadCommand : PySem.W.excIn K C_BadCommand [.type "ValueError", .type "Exception", .type "BaseException", .type "object"] "ValueError.__new__" = true)
    (kc_BadCommand : PySem.W.keepIn K (.ref C_BadCommand) = true)
    (b_BadCommand : PySem.W.subIn K (.ref C_BadCommand) (.type "BaseException") = some true)
    (t_BadCommand : PySem.W.typeIn K (.ref C_BadCommand) = some (.type "type"))
    (xga_BadCommand : PySem.W.findIn K (.ref C_BadCommand) "__getattribute__" = some (some (.builtin "BaseException.__getattribute__")))
    (xgt_BadCommand : PySem.W.findIn K (.ref C_BadCommand) "__getattr__" = some none)
    (xhd_BadCommand : PySem.W.hasDictIn K C_BadCommand = true)
    (xcc_BadCommand : PySem.W.findIn K (.ref C_BadCommand) "__class__" = some (some (.builtin "object.__class__")))
    (xsp_BadCommand : PySem.W.specialIn K (.builtin "object.__class__") "__get__" = some (some (.builtin "getset_descriptor.__get__")))
    (xtk_BadCommand : PySem.W.takesIn K (.builtin "object.__class__") = some true)
    (xmo_BadCommand : PySem.W.mroIn K C_BadCommand (.type "object") = some true)
    (te1_BadCommand : PySem.W.subIn K (.ref C_BadCommand) (.type "BaseException") = some true)
    (te2_BadCommand : PySem.W.hasDictIn K C_BadCommand = true)
    (te3_BadCommand : PySem.W.typeIn K (.ref C_BadCommand) = some (.type "type"))
    (te4_BadCommand_BadCommand : PySem.W.subIn K (.ref C_BadCommand) (.ref C_BadCommand) = some true)
    (g_BadPaper : PySem.W.nsIn K mainGlobals "BadPaper" = some (some (.ref C_BadPaper)))
    (x_BadPaper : PySem.W.excIn K C_BadPaper [.type "ValueError", .type "Exception", .type "BaseException", .type "object"] "ValueError.__new__" = true)
    (kc_BadPaper : PySem.W.keepIn K (.ref C_BadPaper) = true)
    (b_BadPaper : PySem.W.subIn K (.ref C_BadPaper) (.type "BaseException") = some true)
    (t_BadPaper : PySem.W.typeIn K (.ref C_BadPaper) = some (.type "type"))
    (xga_BadPaper : PySem.W.findIn K (.ref C_BadPaper) "__getattribute__" = some (some (.builtin "BaseException.__getattribute__")))
    (xgt_BadPaper : PySem.W.findIn K (.ref C_BadPaper) "__getattr__" = some none)
    (xhd_BadPaper : PySem.W.hasDictIn K C_BadPaper = true)
    (xcc_BadPaper : PySem.W.findIn K (.ref C_BadPaper) "__class__" = some (some (.builtin "object.__class__")))
    (xsp_BadPaper : PySem.W.specialIn K (.builtin "object.__class__") "__get__" = some (some (.builtin "getset_descriptor.__get__")))
    (xtk_BadPaper : PySem.W.takesIn K (.builtin "object.__class__") = some true)
    (xmo_BadPaper : PySem.W.mroIn K C_BadPaper (.type "object") = some true)
    (kt_BadPaper_BadPaper : PySem.W.kitOne K (.ref C_BadPaper) (.ref C_BadPaper) = some true)
    (te1_BadPaper : PySem.W.subIn K (.ref C_BadPaper) (.type "BaseException") = some true)
    (te2_BadPaper : PySem.W.hasDictIn K C_BadPaper = true)
    (te3_BadPaper : PySem.W.typeIn K (.ref C_BadPaper) = some (.type "type"))
    (te4_BadPaper_BadPaper : PySem.W.subIn K (.ref C_BadPaper) (.ref C_BadPaper) = some true) :
    ∃ fd : FuncData, (∀ (s : Shared) (v : Value), BindsTo s fd ⟨[v], []⟩ [("script", v)]) ∧ ∀ base : Heap, K.In base → base.Ns mainGlobals mg → FnOk l.prog w K mg base CX0 9 fa fd ["script"] (spLaw K) := by
  have e := hfa.symm.trans (PySem.W.mg_of X G a_law)
  cases e
  have T : Txt K mg ⟨C_Reader, C_Committee, C_Charge, C_Ledger, C_Chain, C_Client, f_is_vote, f_clash, f_abandons, f_Charge_init, f_first_clash, f_charge_of, f_charges, f_first_wrong, f_Committee_init, f_Committee_weight_of, f_Committee_is_quorum, f_votes_by_turn, f_counts, f_certified_turns, f_committed_turns, f_shown_turn, f_shows, f_accuse, f_law_cell, f_law_row, f_law_weights, f_law_weight, f_law_clash, f_Reader_init, f_Reader_read_signs, f_Reader_skip, f_Reader_read_number, f_Reader_read_code, f_Reader_read_command, f_commands_of, f_Ledger_init, f_first_ledger, f_Chain_init, f_Chain_height, f_Chain_committee, f_Chain_extend, f_after_weight, f_Client_init, f_Client_follow, f_dispute, f_law_paper, f_law_block, f_law_reweighted, f_law_is_integer, f_law_followed, f_law_least, P_MARKS, M_MARKS_p, M_MARKS_w, M_MARKS_d, M_MARKS_k, C_BadCommand, C_BadPaper⟩ := {
    n_len := mg_no X G n_len
    n_range := mg_no X G n_range
    n_isinstance := mg_no X G n_isinstance
    n_int := mg_no X G n_int
    n_bool := mg_no X G n_bool
    n_list := mg_no X G n_list
    n_tuple := mg_no X G n_tuple
    n_str := mg_no X G n_str
    n_zip := mg_no X G n_zip
    n_enumerate := mg_no X G n_enumerate
    n_max := mg_no X G n_max
    n_abs := mg_no X G n_abs
    n_sum := mg_no X G n_sum
    n_set := mg_no X G n_set
    n_sorted := mg_no X G n_sorted
    n_min := mg_no X G n_min
    c_SIGNS := ⟨_, PySem.W.mg_of X G c_SIGNS⟩
    c_DIGITS := ⟨_, PySem.W.mg_of X G c_DIGITS⟩
    c_MOST_DIGITS := ⟨_, PySem.W.mg_of X G c_MOST_DIGITS⟩
    c_CODE_END := ⟨_, PySem.W.mg_of X G c_CODE_END⟩
    c_KIND := ⟨_, PySem.W.mg_of X G c_KIND⟩
    c_HEIGHT := ⟨_, PySem.W.mg_of X G c_HEIGHT⟩
    c_TURN := ⟨_, PySem.W.mg_of X G c_TURN⟩
    c_BLOCK := ⟨_, PySem.W.mg_of X G c_BLOCK⟩
    c_LEAN := ⟨_, PySem.W.mg_of X G c_LEAN⟩
    c_MOST_MEMBERS := ⟨_, PySem.W.mg_of X G c_MOST_MEMBERS⟩
    c_MOST_WEIGHT := ⟨_, PySem.W.mg_of X G c_MOST_WEIGHT⟩
    g_Reader := PySem.W.mg_of X G g_Reader
    cl_Reader := ⟨pg_Reader, hd_Reader, po_Reader, sa_Reader⟩
    kc_Reader := kc_Reader
    mk_Reader := mk_Reader
    a_Reader_text := no_Reader_text
    a_Reader_at := no_Reader_at
    g_Committee := PySem.W.mg_of X G g_Committee
    cl_Committee := ⟨pg_Committee, hd_Committee, po_Committee, sa_Committee⟩
    kc_Committee := kc_Committee
    mk_Committee := mk_Committee
    a_Committee_weights := no_Committee_weights
    a_Committee_size := no_Committee_size
    a_Committee_total := no_Committee_total
    g_Charge := PySem.W.mg_of X G g_Charge
    cl_Charge := ⟨pg_Charge, hd_Charge, po_Charge, sa_Charge⟩
    kc_Charge := kc_Charge
    mk_Charge := mk_Charge
    a_Charge_who := no_Charge_who
    a_Charge_first := no_Charge_first
    a_Charge_second := no_Charge_second
    g_Ledger := PySem.W.mg_of X G g_Ledger
    cl_Ledger := ⟨pg_Ledger, hd_Ledger, po_Ledger, sa_Ledger⟩
    kc_Ledger := kc_Ledger
    mk_Ledger := mk_Ledger
    a_Ledger_balances := no_Ledger_balances
    a_Ledger_codes := no_Ledger_codes
    a_Ledger_stores := no_Ledger_stores
    g_Chain := PySem.W.mg_of X G g_Chain
    cl_Chain := ⟨pg_Chain, hd_Chain, po_Chain, sa_Chain⟩
    kc_Chain := kc_Chain
    mk_Chain := mk_Chain
    a_Chain_blocks := no_Chain_blocks
    a_Chain_receipts := no_Chain_receipts
    a_Chain_committees := no_Chain_committees
    a_Chain_ledgers := no_Chain_ledgers
    g_Client := PySem.W.mg_of X G g_Client
    cl_Client := ⟨pg_Client, hd_Client, po_Client, sa_Client⟩
    kc_Client := kc_Client
    mk_Client := mk_Client
    a_Client_chain := no_Client_chain
    d_is_vote := ⟨def_mk l_is_vote q_is_vote k_is_vote (fun _ _ _ _ _ _ us hl => match us, hl with | [_], _ => rfl), PySem.W.mg_of X G a_is_vote, k_is_vote⟩
    d_clash := ⟨def_mk l_clash q_clash k_clash (fun _ _ _ _ _ _ us hl => match us, hl with | [_, _], _ => rfl), PySem.W.mg_of X G a_clash, k_clash⟩
    d_abandons := ⟨def_mk l_abandons q_abandons k_abandons (fun _ _ _ _ _ _ us hl => match us, hl with | [_, _], _ => rfl), PySem.W.mg_of X G a_abandons, k_abandons⟩
    d_Charge_init := ⟨def_mk l_Charge_init q_Charge_init k_Charge_init (fun _ _ _ _ _ _ us hl => match us, hl with | [_, _, _, _], _ => rfl), a_Charge_init, i_Charge_init, k_Charge_init⟩
    d_first_clash := ⟨def_mk l_first_clash q_first_clash k_first_clash (fun _ _ _ _ _ _ us hl => match us, hl with | [_, _], _ => rfl), PySem.W.mg_of X G a_first_clash, k_first_clash⟩
    d_charge_of := ⟨def_mk l_charge_of q_charge_of k_charge_of (fun _ _ _ _ _ _ us hl => match us, hl with | [_, _], _ => rfl), PySem.W.mg_of X G a_charge_of, k_charge_of⟩
    d_charges := ⟨def_mk l_charges q_charges k_charges (fun _ _ _ _ _ _ us hl => match us, hl with | [_, _], _ => rfl), PySem.W.mg_of X G a_charges, k_charges⟩
    d_first_wrong := ⟨def_mk l_first_wrong q_first_wrong k_first_wrong (fun _ _ _ _ _ _ us hl => match us, hl with | [_], _ => rfl), PySem.W.mg_of X G a_first_wrong, k_first_wrong⟩
    d_Committee_init := ⟨def_mk l_Committee_init q_Committee_init k_Committee_init (fun _ _ _ _ _ _ us hl => match us, hl with | [_, _], _ => rfl), a_Committee_init, i_Committee_init, k_Committee_init⟩
    d_Committee_weight_of := ⟨def_mk l_Committee_weight_of q_Committee_weight_of k_Committee_weight_of (fun _ _ _ _ _ _ us hl => match us, hl with | [_, _], _ => rfl), a_Committee_weight_of, i_Committee_weight_of, k_Committee_weight_of⟩
    d_Committee_is_quorum := ⟨def_mk l_Committee_is_quorum q_Committee_is_quorum k_Committee_is_quorum (fun _ _ _ _ _ _ us hl => match us, hl with | [_, _], _ => rfl), a_Committee_is_quorum, i_Committee_is_quorum, k_Committee_is_quorum⟩
    d_votes_by_turn := ⟨def_mk l_votes_by_turn q_votes_by_turn k_votes_by_turn (fun _ _ _ _ _ _ us hl => match us, hl with | [_, _, _, _], _ => rfl), PySem.W.mg_of X G a_votes_by_turn, k_votes_by_turn⟩
    d_counts := ⟨def_mk l_counts q_counts k_counts (fun _ _ _ _ _ _ us hl => match us, hl with | [_, _], _ => rfl), PySem.W.mg_of X G a_counts, k_counts⟩
    d_certified_turns := ⟨def_mk l_certified_turns q_certified_turns k_certified_turns (fun _ _ _ _ _ _ us hl => match us, hl with | [_, _, _, _], _ => rfl), PySem.W.mg_of X G a_certified_turns, k_certified_turns⟩
    d_committed_turns := ⟨def_mk l_committed_turns q_committed_turns k_committed_turns (fun _ _ _ _ _ _ us hl => match us, hl with | [_, _, _, _], _ => rfl), PySem.W.mg_of X G a_committed_turns, k_committed_turns⟩
    d_shown_turn := ⟨def_mk l_shown_turn q_shown_turn k_shown_turn (fun _ _ _ _ _ _ us hl => match us, hl with | [_, _, _, _], _ => rfl), PySem.W.mg_of X G a_shown_turn, k_shown_turn⟩
    d_shows := ⟨def_mk l_shows q_shows k_shows (fun _ _ _ _ _ _ us hl => match us, hl with | [_, _, _, _], _ => rfl), PySem.W.mg_of X G a_shows, k_shows⟩
    d_accuse := ⟨def_mk l_accuse q_accuse k_accuse (fun _ _ _ _ _ _ us hl => match us, hl with | [_, _, _, _], _ => rfl), PySem.W.mg_of X G a_accuse, k_accuse⟩
    d_law_cell := ⟨def_mk l_law_cell q_law_cell k_law_cell (fun _ _ _ _ _ _ us hl => match us, hl with | [_, _], _ => rfl), PySem.W.mg_of X G a_law_cell, k_law_cell⟩
    d_law_row := ⟨def_mk l_law_row q_law_row k_law_row (fun _ _ _ _ _ _ us hl => match us, hl with | [_, _, _], _ => rfl), PySem.W.mg_of X G a_law_row, k_law_row⟩
    d_law_weights := ⟨def_mk l_law_weights q_law_weights k_law_weights (fun _ _ _ _ _ _ us hl => match us, hl with | [_, _], _ => rfl), PySem.W.mg_of X G a_law_weights, k_law_weights⟩
    d_law_weight := ⟨def_mk l_law_weight q_law_weight k_law_weight (fun _ _ _ _ _ _ us hl => match us, hl with | [_, _], _ => rfl), PySem.W.mg_of X G a_law_weight, k_law_weight⟩
    d_law_clash := ⟨def_mk l_law_clash q_law_clash k_law_clash (fun _ _ _ _ _ _ us hl => match us, hl with | [_, _], _ => rfl), PySem.W.mg_of X G a_law_clash, k_law_clash⟩
    d_Reader_init := ⟨def_mk l_Reader_init q_Reader_init k_Reader_init (fun _ _ _ _ _ _ us hl => match us, hl with | [_, _], _ => rfl), a_Reader_init, i_Reader_init, k_Reader_init⟩
    d_Reader_read_signs := ⟨def_mk l_Reader_read_signs q_Reader_read_signs k_Reader_read_signs (fun _ _ _ _ _ _ us hl => match us, hl with | [_, _], _ => rfl), a_Reader_read_signs, i_Reader_read_signs, k_Reader_read_signs⟩
    d_Reader_skip := ⟨def_mk l_Reader_skip q_Reader_skip k_Reader_skip (fun _ _ _ _ _ _ us hl => match us, hl with | [_, _], _ => rfl), a_Reader_skip, i_Reader_skip, k_Reader_skip⟩
    d_Reader_read_number := ⟨def_mk l_Reader_read_number q_Reader_read_number k_Reader_read_number (fun _ _ _ _ _ _ us hl => match us, hl with | [_], _ => rfl), a_Reader_read_number, i_Reader_read_number, k_Reader_read_number⟩
    d_Reader_read_code := ⟨def_mk l_Reader_read_code q_Reader_read_code k_Reader_read_code (fun _ _ _ _ _ _ us hl => match us, hl with | [_], _ => rfl), a_Reader_read_code, i_Reader_read_code, k_Reader_read_code⟩
    d_Reader_read_command := ⟨def_mk l_Reader_read_command q_Reader_read_command k_Reader_read_command (fun _ _ _ _ _ _ us hl => match us, hl with | [_], _ => rfl), a_Reader_read_command, i_Reader_read_command, k_Reader_read_command⟩
    d_commands_of := ⟨def_mk l_commands_of q_commands_of k_commands_of (fun _ _ _ _ _ _ us hl => match us, hl with | [_], _ => rfl), PySem.W.mg_of X G a_commands_of, k_commands_of⟩
    d_Ledger_init := ⟨def_mk l_Ledger_init q_Ledger_init k_Ledger_init (fun _ _ _ _ _ _ us hl => match us, hl with | [_, _, _, _], _ => rfl), a_Ledger_init, i_Ledger_init, k_Ledger_init⟩
    d_first_ledger := ⟨def_mk l_first_ledger q_first_ledger k_first_ledger (fun _ _ _ _ _ _ us hl => match us, hl with | [_], _ => rfl), PySem.W.mg_of X G a_first_ledger, k_first_ledger⟩
    d_Chain_init := ⟨def_mk l_Chain_init q_Chain_init k_Chain_init (fun _ _ _ _ _ _ us hl => match us, hl with | [_, _, _], _ => rfl), a_Chain_init, i_Chain_init, k_Chain_init⟩
    d_Chain_height := ⟨def_mk l_Chain_height q_Chain_height k_Chain_height (fun _ _ _ _ _ _ us hl => match us, hl with | [_], _ => rfl), a_Chain_height, i_Chain_height, k_Chain_height⟩
    d_Chain_committee := ⟨def_mk l_Chain_committee q_Chain_committee k_Chain_committee (fun _ _ _ _ _ _ us hl => match us, hl with | [_], _ => rfl), a_Chain_committee, i_Chain_committee, k_Chain_committee⟩
    d_Chain_extend := ⟨def_mk l_Chain_extend q_Chain_extend k_Chain_extend (fun _ _ _ _ _ _ us hl => match us, hl with | [_, _], _ => rfl), a_Chain_extend, i_Chain_extend, k_Chain_extend⟩
    d_after_weight := ⟨def_mk l_after_weight q_after_weight k_after_weight (fun _ _ _ _ _ _ us hl => match us, hl with | [_, _], _ => rfl), PySem.W.mg_of X G a_after_weight, k_after_weight⟩
    d_Client_init := ⟨def_mk l_Client_init q_Client_init k_Client_init (fun _ _ _ _ _ _ us hl => match us, hl with | [_, _, _], _ => rfl), a_Client_init, i_Client_init, k_Client_init⟩
    d_Client_follow := ⟨def_mk l_Client_follow q_Client_follow k_Client_follow (fun _ _ _ _ _ _ us hl => match us, hl with | [_, _, _], _ => rfl), a_Client_follow, i_Client_follow, k_Client_follow⟩
    d_dispute := ⟨def_mk l_dispute q_dispute k_dispute (fun _ _ _ _ _ _ us hl => match us, hl with | [_, _], _ => rfl), PySem.W.mg_of X G a_dispute, k_dispute⟩
    d_law_paper := ⟨def_mk l_law_paper q_law_paper k_law_paper (fun _ _ _ _ _ _ us hl => match us, hl with | [_, _, _, _], _ => rfl), PySem.W.mg_of X G a_law_paper, k_law_paper⟩
    d_law_block := ⟨def_mk l_law_block q_law_block k_law_block (fun _ _ _ _ _ _ us hl => match us, hl with | [_, _], _ => rfl), PySem.W.mg_of X G a_law_block, k_law_block⟩
    d_law_reweighted := ⟨def_mk l_law_reweighted q_law_reweighted k_law_reweighted (fun _ _ _ _ _ _ us hl => match us, hl with | [_, _], _ => rfl), PySem.W.mg_of X G a_law_reweighted, k_law_reweighted⟩
    d_law_is_integer := ⟨def_mk l_law_is_integer q_law_is_integer k_law_is_integer (fun _ _ _ _ _ _ us hl => match us, hl with | [_], _ => rfl), PySem.W.mg_of X G a_law_is_integer, k_law_is_integer⟩
    d_law_followed := ⟨def_mk l_law_followed q_law_followed k_law_followed (fun _ _ _ _ _ _ us hl => match us, hl with | [_, _, _], _ => rfl), PySem.W.mg_of X G a_law_followed, k_law_followed⟩
    d_law_least := ⟨def_mk l_law_least q_law_least k_law_least (fun _ _ _ _ _ _ us hl => match us, hl with | [_, _], _ => rfl), PySem.W.mg_of X G a_law_least, k_law_least⟩ }
  have TE : TxtE w K mg ⟨C_Reader, C_Committee, C_Charge, C_Ledger, C_Chain, C_Client, f_is_vote, f_clash, f_abandons, f_Charge_init, f_first_clash, f_charge_of, f_charges, f_first_wrong, f_Committee_init, f_Committee_weight_of, f_Committee_is_quorum, f_votes_by_turn, f_counts, f_certified_turns, f_committed_turns, f_shown_turn, f_shows, f_accuse, f_law_cell, f_law_row, f_law_weights, f_law_weight, f_law_clash, f_Reader_init, f_Reader_read_signs, f_Reader_skip, f_Reader_read_number, f_Reader_read_code, f_Reader_read_command, f_commands_of, f_Ledger_init, f_first_ledger, f_Chain_init, f_Chain_height, f_Chain_committee, f_Chain_extend, f_after_weight, f_Client_init, f_Client_follow, f_dispute, f_law_paper, f_law_block, f_law_reweighted, f_law_is_integer, f_law_followed, f_law_least, P_MARKS, M_MARKS_p, M_MARKS_w, M_MARKS_d, M_MARKS_k, C_BadCommand, C_BadPaper⟩ := {
    g_MARKS := PySem.W.mg_of X G g_MARKS
    tab_MARKS := ktab_mk l_MARKS kl_MARKS lo_MARKS ⟨⟨_, rfl, rfl⟩, ⟨_, rfl, rfl⟩, ⟨_, rfl, rfl⟩, ⟨_, rfl, rfl⟩, trivial⟩
    s_MARKS_p := fun H => .inr ⟨_, _, _, l_MARKS_p, rfl, rfl, (by show 3 ≤ sizeLine; decide), (.cons ⟨_, rfl⟩ (.cons ⟨_, rfl⟩ (.cons ⟨_, rfl⟩ .nil)))⟩
    s_MARKS_w := fun H => .inr ⟨_, _, _, l_MARKS_w, rfl, rfl, (by show 2 ≤ sizeLine; decide), (.cons ⟨_, rfl⟩ (.cons ⟨_, rfl⟩ .nil))⟩
    s_MARKS_d := fun H => .inr ⟨_, _, _, l_MARKS_d, rfl, rfl, (by show 2 ≤ sizeLine; decide), (.cons ⟨_, rfl⟩ (.cons ⟨_, rfl⟩ .nil))⟩
    s_MARKS_k := fun H => .inr ⟨_, _, _, l_MARKS_k, rfl, rfl, (by show 3 ≤ sizeLine; decide), (.cons ⟨_, rfl⟩ (.cons ⟨_, rfl⟩ (.cons ⟨_, rfl⟩ .nil)))⟩
    g_BadCommand := PySem.W.mg_of X G g_BadCommand
    x_BadCommand := x_BadCommand
    kc_BadCommand := kc_BadCommand
    b_BadCommand := b_BadCommand
    t_BadCommand := t_BadCommand
    xc_BadCommand := ⟨(PySem.W.any_some xhd_BadCommand).elim fun cd h => by rw [h.1]; rfl, xga_BadCommand, xgt_BadCommand, b_BadCommand, xhd_BadCommand, xcc_BadCommand, xsp_BadCommand, xtk_BadCommand, xmo_BadCommand⟩
    exm_BadCommand_BadCommand := PySem.W.exm_ref te1_BadCommand te2_BadCommand te3_BadCommand te4_BadCommand_BadCommand
    g_BadPaper := PySem.W.mg_of X G g_BadPaper
    x_BadPaper := x_BadPaper
    kc_BadPaper := kc_BadPaper
    b_BadPaper := b_BadPaper
    t_BadPaper := t_BadPaper
    xc_BadPaper := ⟨(PySem.W.any_some xhd_BadPaper).elim fun cd h => by rw [h.1]; rfl, xga_BadPaper, xgt_BadPaper, b_BadPaper, xhd_BadPaper, xcc_BadPaper, xsp_BadPaper, xtk_BadPaper, xmo_BadPaper⟩
    kt_BadPaper_BadPaper := kt_BadPaper_BadPaper
    exm_BadPaper_BadPaper := PySem.W.exm_ref te1_BadPaper te2_BadPaper te3_BadPaper te4_BadPaper_BadPaper }
  have F5 := fun_mk (st := s_law) l_law q_law k_law
  exact ⟨PySem.W.fnOf "law" "law" (defArgs s_law) (defBody s_law) (defScope s_law) .none kV_law dc_law pm_law an_law cd_law ct_law, fun s v => .of_eq rfl, fun base _ _ => ok_law F5 TE T⟩
theorem walk {l : PySem.W.OpenLaw} {q : Program} {loose : List Str} {XP : (Str → Option Value) → Heap → Prop} {YP : World → Heap → Prop} {d : DefRec} {K : Params → PySem.W.Frag} (hn : l.most = some 63) (hdf : d.params.defaults = [])
    (hY : ∀ (w : World) (h : Heap), YP w h → (K w.params).In h)
    (F : ∀ (w : World) (mg : Str → Option Value) (fa : Addr) (h : Heap), (K w.params).In h → h.Ns mainGlobals mg → mg d.name = some (.ref fa) →
      ∃ fd : FuncData, (∀ (s : Shared) (u : Value), BindsTo s fd ⟨[u], []⟩ [("script", u)]) ∧ ∀ base : Heap, (K w.params).In base → base.Ns mainGlobals mg → FnOk l.prog w (K w.params) mg base CX0 9 fa fd ["script"] (spLaw (K w.params))) :
    PySem.W.WalkO q loose XP YP l.row.toRowW d [] (fun f vs => PySem.call f vs) :=
  L2.walk_of (n := 63) (k := 9) (x := "script") (CX := fun _ => CX0) (sp := fun w => spLaw (K w.params)) hn (by decide) hdf ⟨rfl, by decide, by decide⟩ hY F (fun _ _ a ns hl _ hS => ⟨a, ns, rfl, hS, hl, fun _ => rfl⟩) fun _ _ _ _ _ z => z
end Toy
open PySem PySem.W PyProof.Rows
set_option maxRecDepth 100000 in
set_option maxHeartbeats 0 in
theorem PySem.Challenge.cw_tribunal_k28_whole_disputes_convict_a_th_holds : PySem.Challenge.rw_tribunal_k28_whole_disputes_convict_a_th.Holds := by
  w_on; o_law; k_head; (case hw => w_witness2)
  k_fill
  refine Toy.walk (l := PySem.Challenge.rw_tribunal_k28_whole_disputes_convict_a_th) rfl rfl (fun w h Y => PySem.W.kIn_of Y) ?F
  case F =>
    intro w mg fa h KX G hmg
    refine' Toy.all_mk KX G hmg ?c_SIGNS ?c_DIGITS ?c_MOST_DIGITS ?c_CODE_END ?c_KIND ?c_HEIGHT ?c_TURN ?c_BLOCK ?c_LEAN ?c_MOST_MEMBERS ?c_MOST_WEIGHT ?n_len ?n_range ?n_isinstance ?n_int ?n_bool ?n_list ?n_tuple ?n_str ?n_zip ?n_enumerate ?n_max ?n_abs ?n_sum ?n_set ?n_sorted ?n_min ?g_Reader ?g_Committee ?g_Charge ?g_Ledger ?g_Chain ?g_Client ?a_is_vote ?l_is_vote ?q_is_vote ?k_is_vote ?a_clash ?l_clash ?q_clash ?k_clash ?a_abandons ?l_abandons ?q_abandons ?k_abandons ?a_Charge_init ?i_Charge_init ?l_Charge_init ?q_Charge_init ?k_Charge_init ?a_first_clash ?l_first_clash ?q_first_clash ?k_first_clash ?a_charge_of ?l_charge_of ?q_charge_of ?k_charge_of ?a_charges ?l_charges ?q_charges ?k_charges ?a_first_wrong ?l_first_wrong ?q_first_wrong ?k_first_wrong ?a_Committee_init ?i_Committee_init ?l_Committee_init ?q_Committee_init ?k_Committee_init ?a_Committee_weight_of ?i_Committee_weight_of ?l_Committee_weight_of ?q_Committee_weight_of ?k_Committee_weight_of ?a_Committee_is_quorum ?i_Committee_is_quorum ?l_Committee_is_quorum ?q_Committee_is_quorum ?k_Committee_is_quorum ?a_votes_by_turn ?l_votes_by_turn ?q_votes_by_turn ?k_votes_by_turn ?a_counts ?l_counts ?q_counts ?k_counts ?a_certified_turns ?l_certified_turns ?q_certified_turns ?k_certified_turns ?a_committed_turns ?l_committed_turns ?q_committed_turns ?k_committed_turns ?a_shown_turn ?l_shown_turn ?q_shown_turn ?k_shown_turn ?a_shows ?l_shows ?q_shows ?k_shows ?a_accuse ?l_accuse ?q_accuse ?k_accuse ?a_law_cell ?l_law_cell ?q_law_cell ?k_law_cell ?a_law_row ?l_law_row ?q_law_row ?k_law_row ?a_law_weights ?l_law_weights ?q_law_weights ?k_law_weights ?a_law_weight ?l_law_weight ?q_law_weight ?k_law_weight ?a_law_clash ?l_law_clash ?q_law_clash ?k_law_clash ?a_Reader_init ?i_Reader_init ?l_Reader_init ?q_Reader_init ?k_Reader_init ?a_Reader_read_signs ?i_Reader_read_signs ?l_Reader_read_signs ?q_Reader_read_signs ?k_Reader_read_signs ?a_Reader_skip ?i_Reader_skip ?l_Reader_skip ?q_Reader_skip ?k_Reader_skip ?a_Reader_read_number ?i_Reader_read_number ?l_Reader_read_number ?q_Reader_read_number ?k_Reader_read_number ?a_Reader_read_code ?i_Reader_read_code ?l_Reader_read_code ?q_Reader_read_code ?k_Reader_read_code ?a_Reader_read_command ?i_Reader_read_command ?l_Reader_read_command ?q_Reader_read_command ?k_Reader_read_command ?a_commands_of ?l_commands_of ?q_commands_of ?k_commands_of ?a_Ledger_init ?i_Ledger_init ?l_Ledger_init ?q_Ledger_init ?k_Ledger_init ?a_first_ledger ?l_first_ledger ?q_first_ledger ?k_first_ledger ?a_Chain_init ?i_Chain_init ?l_Chain_init ?q_Chain_init ?k_Chain_init ?a_Chain_height ?i_Chain_height ?l_Chain_height ?q_Chain_height ?k_Chain_height ?a_Chain_committee ?i_Chain_committee ?l_Chain_committee ?q_Chain_committee ?k_Chain_committee ?a_Chain_extend ?i_Chain_extend ?l_Chain_extend ?q_Chain_extend ?k_Chain_extend ?a_after_weight ?l_after_weight ?q_after_weight ?k_after_weight ?a_Client_init ?i_Client_init ?l_Client_init ?q_Client_init ?k_Client_init ?a_Client_follow ?i_Client_follow ?l_Client_follow ?q_Client_follow ?k_Client_follow ?a_dispute ?l_dispute ?q_dispute ?k_dispute ?a_law_paper ?l_law_paper ?q_law_paper ?k_law_paper ?a_law_block ?l_law_block ?q_law_block ?k_law_block ?a_law_reweighted ?l_law_reweighted ?q_law_reweighted ?k_law_reweighted ?a_law_is_integer ?l_law_is_integer ?q_law_is_integer ?k_law_is_integer ?a_law_followed ?l_law_followed ?q_law_followed ?k_law_followed ?a_law_least ?l_law_least ?q_law_least ?k_law_least ?a_law ?l_law ?q_law ?k_law ?pg_Reader ?hd_Reader ?po_Reader ?sa_Reader ?mk_Reader ?kc_Reader ?no_Reader_text ?no_Reader_at ?pg_Committee ?hd_Committee ?po_Committee ?sa_Committee ?mk_Committee ?kc_Committee ?no_Committee_weights ?no_Committee_size ?no_Committee_total ?pg_Charge ?hd_Charge ?po_Charge ?sa_Charge ?mk_Charge ?kc_Charge ?no_Charge_who ?no_Charge_first ?no_Charge_second ?pg_Ledger ?hd_Ledger ?po_Ledger ?sa_Ledger ?mk_Ledger ?kc_Ledger ?no_Ledger_balances ?no_Ledger_codes ?no_Ledger_stores ?pg_Chain ?hd_Chain ?po_Chain ?sa_Chain ?mk_Chain ?kc_Chain ?no_Chain_blocks ?no_Chain_receipts ?no_Chain_committees ?no_Chain_ledgers ?pg_Client ?hd_Client ?po_Client ?sa_Client ?mk_Client ?kc_Client ?no_Client_chain ?g_MARKS ?l_MARKS ?kl_MARKS ?lo_MARKS ?l_MARKS_p ?l_MARKS_w ?l_MARKS_d ?l_MARKS_k ?g_BadCommand ?x_BadCommand ?kc_BadCommand ?b_BadCommand ?t_BadCommand ?xga_BadCommand ?xgt_BadCommand ?xhd_BadCommand ?xcc_BadCommand ?xsp_BadCommand ?xtk_BadCommand ?xmo_BadCommand ?te1_BadCommand ?te2_BadCommand ?te3_BadCommand ?te4_BadCommand_BadCommand ?g_BadPaper ?x_BadPaper ?kc_BadPaper ?b_BadPaper ?t_BadPaper ?xga_BadPaper ?xgt_BadPaper ?xhd_BadPaper ?xcc_BadPaper ?xsp_BadPaper ?xtk_BadPaper ?xmo_BadPaper ?kt_BadPaper_BadPaper ?te1_BadPaper ?te2_BadPaper ?te3_BadPaper ?te4_BadPaper_BadPaper
    (case c_SIGNS => k_is)
    (case c_DIGITS => k_is)
    (case c_MOST_DIGITS => k_is)
    (case c_CODE_END => k_is)
    (case c_KIND => k_is)
    (case c_HEIGHT => k_is)
    (case c_TURN => k_is)
    (case c_BLOCK => k_is)
    (case c_LEAN => k_is)
    (case c_MOST_MEMBERS => k_is)
    (case c_MOST_WEIGHT => k_is)
    (case n_len => k_is)
    (case n_range => k_is)
    (case n_isinstance => k_is)
    (case n_int => k_is)
    (case n_bool => k_is)
    (case n_list => k_is)
    (case n_tuple => k_is)
    (case n_str => k_is)
    (case n_zip => k_is)
    (case n_enumerate => k_is)
    (case n_max => k_is)
    (case n_abs => k_is)
    (case n_sum => k_is)
    (case n_set => k_is)
    (case n_sorted => k_is)
    (case n_min => k_is)
    (case g_Reader => k_is)
    (case g_Committee => k_is)
    (case g_Charge => k_is)
    (case g_Ledger => k_is)
    (case g_Chain => k_is)
    (case g_Client => k_is)
    (case a_is_vote => k_is)
    (case l_is_vote => k_is)
    (case q_is_vote => k_is)
    (case k_is_vote => k_is)
    (case a_clash => k_is)
    (case l_clash => k_is)
    (case q_clash => k_is)
    (case k_clash => k_is)
    (case a_abandons => k_is)
    (case l_abandons => k_is)
    (case q_abandons => k_is)
    (case k_abandons => k_is)
    (case a_Charge_init => k_is)
    (case i_Charge_init => k_is)
    (case l_Charge_init => k_is)
    (case q_Charge_init => k_is)
    (case k_Charge_init => k_is)
    (case a_first_clash => k_is)
    (case l_first_clash => k_is)
    (case q_first_clash => k_is)
    (case k_first_clash => k_is)
    (case a_charge_of => k_is)
    (case l_charge_of => k_is)
    (case q_charge_of => k_is)
    (case k_charge_of => k_is)
    (case a_charges => k_is)
    (case l_charges => k_is)
    (case q_charges => k_is)
    (case k_charges => k_is)
    (case a_first_wrong => k_is)
    (case l_first_wrong => k_is)
    (case q_first_wrong => k_is)
    (case k_first_wrong => k_is)
    (case a_Committee_init => k_is)
    (case i_Committee_init => k_is)
    (case l_Committee_init => k_is)
    (case q_Committee_init => k_is)
    (case k_Committee_init => k_is)
    (case a_Committee_weight_of => k_is)
    (case i_Committee_weight_of => k_is)
    (case l_Committee_weight_of => k_is)
    (case q_Committee_weight_of => k_is)
    (case k_Committee_weight_of => k_is)
    (case a_Committee_is_quorum => k_is)
    (case i_Committee_is_quorum => k_is)
    (case l_Committee_is_quorum => k_is)
    (case q_Committee_is_quorum => k_is)
    (case k_Committee_is_quorum => k_is)
    (case a_votes_by_turn => k_is)
    (case l_votes_by_turn => k_is)
    (case q_votes_by_turn => k_is)
    (case k_votes_by_turn => k_is)
    (case a_counts => k_is)
    (case l_counts => k_is)
    (case q_counts => k_is)
    (case k_counts => k_is)
    (case a_certified_turns => k_is)
    (case l_certified_turns => k_is)
    (case q_certified_turns => k_is)
    (case k_certified_turns => k_is)
    (case a_committed_turns => k_is)
    (case l_committed_turns => k_is)
    (case q_committed_turns => k_is)
    (case k_committed_turns => k_is)
    (case a_shown_turn => k_is)
    (case l_shown_turn => k_is)
    (case q_shown_turn => k_is)
    (case k_shown_turn => k_is)
    (case a_shows => k_is)
    (case l_shows => k_is)
    (case q_shows => k_is)
    (case k_shows => k_is)
    (case a_accuse => k_is)
    (case l_accuse => k_is)
    (case q_accuse => k_is)
    (case k_accuse => k_is)
    (case a_law_cell => k_is)
    (case l_law_cell => k_is)
    (case q_law_cell => k_is)
    (case k_law_cell => k_is)
    (case a_law_row => k_is)
    (case l_law_row => k_is)
    (case q_law_row => k_is)
    (case k_law_row => k_is)
    (case a_law_weights => k_is)
    (case l_law_weights => k_is)
    (case q_law_weights => k_is)
    (case k_law_weights => k_is)
    (case a_law_weight => k_is)
    (case l_law_weight => k_is)
    (case q_law_weight => k_is)
    (case k_law_weight => k_is)
    (case a_law_clash => k_is)
    (case l_law_clash => k_is)
    (case q_law_clash => k_is)
    (case k_law_clash => k_is)
    (case a_Reader_init => k_is)
    (case i_Reader_init => k_is)
    (case l_Reader_init => k_is)
    (case q_Reader_init => k_is)
    (case k_Reader_init => k_is)
    (case a_Reader_read_signs => k_is)
    (case i_Reader_read_signs => k_is)
    (case l_Reader_read_signs => k_is)
    (case q_Reader_read_signs => k_is)
    (case k_Reader_read_signs => k_is)
    (case a_Reader_skip => k_is)
    (case i_Reader_skip => k_is)
    (case l_Reader_skip => k_is)
    (case q_Reader_skip => k_is)
    (case k_Reader_skip => k_is)
    (case a_Reader_read_number => k_is)
    (case i_Reader_read_number => k_is)
    (case l_Reader_read_number => k_is)
    (case q_Reader_read_number => k_is)
    (case k_Reader_read_number => k_is)
    (case a_Reader_read_code => k_is)
    (case i_Reader_read_code => k_is)
    (case l_Reader_read_code => k_is)
    (case q_Reader_read_code => k_is)
    (case k_Reader_read_code => k_is)
    (case a_Reader_read_command => k_is)
    (case i_Reader_read_command => k_is)
    (case l_Reader_read_command => k_is)
    (case q_Reader_read_command => k_is)
    (case k_Reader_read_command => k_is)
    (case a_commands_of => k_is)
    (case l_commands_of => k_is)
    (case q_commands_of => k_is)
    (case k_commands_of => k_is)
    (case a_Ledger_init => k_is)
    (case i_Ledger_init => k_is)
    (case l_Ledger_init => k_is)
    (case q_Ledger_init => k_is)
    (case k_Ledger_init => k_is)
    (case a_first_ledger => k_is)
    (case l_first_ledger => k_is)
    (case q_first_ledger => k_is)
    (case k_first_ledger => k_is)
    (case a_Chain_init => k_is)
    (case i_Chain_init => k_is)
    (case l_Chain_init => k_is)
    (case q_Chain_init => k_is)
    (case k_Chain_init => k_is)
    (case a_Chain_height => k_is)
    (case i_Chain_height => k_is)
    (case l_Chain_height => k_is)
    (case q_Chain_height => k_is)
    (case k_Chain_height => k_is)
    (case a_Chain_committee => k_is)
    (case i_Chain_committee => k_is)
    (case l_Chain_committee => k_is)
    (case q_Chain_committee => k_is)
    (case k_Chain_committee => k_is)
    (case a_Chain_extend => k_is)
    (case i_Chain_extend => k_is)
    (case l_Chain_extend => k_is)
    (case q_Chain_extend => k_is)
    (case k_Chain_extend => k_is)
    (case a_after_weight => k_is)
    (case l_after_weight => k_is)
    (case q_after_weight => k_is)
    (case k_after_weight => k_is)
    (case a_Client_init => k_is)
    (case i_Client_init => k_is)
    (case l_Client_init => k_is)
    (case q_Client_init => k_is)
    (case k_Client_init => k_is)
    (case a_Client_follow => k_is)
    (case i_Client_follow => k_is)
    (case l_Client_follow => k_is)
    (case q_Client_follow => k_is)
    (case k_Client_follow => k_is)
    (case a_dispute => k_is)
    (case l_dispute => k_is)
    (case q_dispute => k_is)
    (case k_dispute => k_is)
    (case a_law_paper => k_is)
    (case l_law_paper => k_is)
    (case q_law_paper => k_is)
    (case k_law_paper => k_is)
    (case a_law_block => k_is)
    (case l_law_block => k_is)
    (case q_law_block => k_is)
    (case k_law_block => k_is)
    (case a_law_reweighted => k_is)
    (case l_law_reweighted => k_is)
    (case q_law_reweighted => k_is)
    (case k_law_reweighted => k_is)
    (case a_law_is_integer => k_is)
    (case l_law_is_integer => k_is)
    (case q_law_is_integer => k_is)
    (case k_law_is_integer => k_is)
    (case a_law_followed => k_is)
    (case l_law_followed => k_is)
    (case q_law_followed => k_is)
    (case k_law_followed => k_is)
    (case a_law_least => k_is)
    (case l_law_least => k_is)
    (case q_law_least => k_is)
    (case k_law_least => k_is)
    (case a_law => k_is)
    (case l_law => k_is)
    (case q_law => k_is)
    (case k_law => k_is)
    (case pg_Reader => k_is)
    (case hd_Reader => k_is)
    (case po_Reader => k_is)
    (case sa_Reader => k_is)
    (case mk_Reader => k_is)
    (case kc_Reader => k_is)
    (case no_Reader_text => k_is)
    (case no_Reader_at => k_is)
    (case pg_Committee => k_is)
    (case hd_Committee => k_is)
    (case po_Committee => k_is)
    (case sa_Committee => k_is)
    (case mk_Committee => k_is)
    (case kc_Committee => k_is)
    (case no_Committee_weights => k_is)
    (case no_Committee_size => k_is)
    (case no_Committee_total => k_is)
    (case pg_Charge => k_is)
    (case hd_Charge => k_is)
    (case po_Charge => k_is)
    (case sa_Charge => k_is)
    (case mk_Charge => k_is)
    (case kc_Charge => k_is)
    (case no_Charge_who => k_is)
    (case no_Charge_first => k_is)
    (case no_Charge_second => k_is)
    (case pg_Ledger => k_is)
    (case hd_Ledger => k_is)
    (case po_Ledger => k_is)
    (case sa_Ledger => k_is)
    (case mk_Ledger => k_is)
    (case kc_Ledger => k_is)
    (case no_Ledger_balances => k_is)
    (case no_Ledger_codes => k_is)
    (case no_Ledger_stores => k_is)
    (case pg_Chain => k_is)
    (case hd_Chain => k_is)
    (case po_Chain => k_is)
    (case sa_Chain => k_is)
    (case mk_Chain => k_is)
    (case kc_Chain => k_is)
    (case no_Chain_blocks => k_is)
    (case no_Chain_receipts => k_is)
    (case no_Chain_committees => k_is)
    (case no_Chain_ledgers => k_is)
    (case pg_Client => k_is)
    (case hd_Client => k_is)
    (case po_Client => k_is)
    (case sa_Client => k_is)
    (case mk_Client => k_is)
    (case kc_Client => k_is)
    (case no_Client_chain => k_is)
    (case g_MARKS => k_is)
    (case l_MARKS => k_is)
    (case kl_MARKS => exact ⟨⟨_, _, rfl, rfl⟩, ⟨_, _, rfl, rfl⟩, ⟨_, _, rfl, rfl⟩, ⟨_, _, rfl, rfl⟩, trivial⟩)
    (case lo_MARKS => exact rfl)
    (case l_MARKS_p => k_is)
    (case l_MARKS_w => k_is)
    (case l_MARKS_d => k_is)
    (case l_MARKS_k => k_is)
    (case g_BadCommand => k_is)
    (case x_BadCommand => k_exc)
    (case kc_BadCommand => k_is)
    (case b_BadCommand => k_is)
    (case t_BadCommand => k_is)
    (case xga_BadCommand => k_is)
    (case xgt_BadCommand => k_is)
    (case xhd_BadCommand => k_is)
    (case xcc_BadCommand => k_is)
    (case xsp_BadCommand => k_is)
    (case xtk_BadCommand => k_is)
    (case xmo_BadCommand => k_is)
    (case te1_BadCommand => k_is)
    (case te2_BadCommand => k_is)
    (case te3_BadCommand => k_is)
    (case te4_BadCommand_BadCommand => k_is)
    (case g_BadPaper => k_is)
    (case x_BadPaper => k_exc)
    (case kc_BadPaper => k_is)
    (case b_BadPaper => k_is)
    (case t_BadPaper => k_is)
    (case xga_BadPaper => k_is)
    (case xgt_BadPaper => k_is)
    (case xhd_BadPaper => k_is)
    (case xcc_BadPaper => k_is)
    (case xsp_BadPaper => k_is)
    (case xtk_BadPaper => k_is)
    (case xmo_BadPaper => k_is)
    (case kt_BadPaper_BadPaper => kit_is)
    (case te1_BadPaper => k_is)
    (case te2_BadPaper => k_is)
    (case te3_BadPaper => k_is)
    (case te4_BadPaper_BadPaper => k_is)
