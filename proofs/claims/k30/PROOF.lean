import PyProof.Rows.All
import Wide.All
import OpenK.AllK
import Wide.FinOn
import HandS.ForMost
import HandS.IsInst
import HandS.TupLe
import HandS.Codes
import HandS.More
import HandS.Exc
import HandS.ExcOwn
import HandS.WordsExc
import HandS.ExcIs
import KE.KExcIs
import HandS.FStr
import HandS.Zip
import HandS.Star
import HandS.StrMore
import HandS.Text
import HandS.Walk
import HandS.Deep
import HandS.TryOnly
import KE.IntTextText
import KE.KUnpackStar
import KE.IntTextLaws
import KE.GoesMore
import KE.GoesEnum
import HandS.TupAny
import HandS.SetKeys
import HandS.SortKw
import KE.KMinBuiltin
import KE.KTupSum
import HandS.TupMul
import HandS.ExcInit
import HandS.ExcSuper
import HandS.ExcCtx
import HandS.HotCalls
import HandS.ExcInitHot
import HandS.ExcField
import HandS.RaiseMore
import HandS.RaiseFrom
import HandS.SuiteRaise
import KE.KExcSuper
import PySem.Challenge.RW_tribunal_k30_whole_archives_cut_anywhere
set_option Elab.async false
set_option pp.maxSteps 300
set_option pp.deepTerms.threshold 6
set_option linter.all false
set_option maxRecDepth 100000
set_option maxHeartbeats 4000000
namespace Toy
open PySem L2
def top (i : Nat) : Stmt := PySem.Challenge.pw_tribunal_k30_whole_archives_cut_anywhere.main.body.getD i (.Pass ⟨0, 0, 0, 0⟩)
abbrev s_prevote : Stmt := (top 32)
abbrev s_precommit : Stmt := (top 33)
abbrev s_is_number : Stmt := (top 43)
abbrev s_is_block : Stmt := (top 44)
abbrev s_word_at : Stmt := (top 46)
abbrev s_number_at : Stmt := (top 47)
abbrev s_kind_at : Stmt := (top 48)
abbrev s_block_at : Stmt := (top 49)
abbrev s_lean_at : Stmt := (top 50)
abbrev s_end_at : Stmt := (top 51)
abbrev s_read_letter : Stmt := (top 42)
abbrev s_proposal : Stmt := (top 31)
abbrev s_word : Stmt := (top 45)
abbrev s_letter_line : Stmt := (top 41)
abbrev s_first_wrong : Stmt := (top 62)
abbrev s_Committee_init : Stmt := (inClass (top 61) 0)
abbrev s_Committee_weight_of : Stmt := (inClass (top 61) 1)
abbrev s_Committee_is_quorum : Stmt := (inClass (top 61) 2)
abbrev s_votes_by_turn : Stmt := (top 80)
abbrev s_counts : Stmt := (top 81)
abbrev s_certified_turns : Stmt := (top 78)
abbrev s_committed_turns : Stmt := (top 79)
abbrev s_shown_turn : Stmt := (top 84)
abbrev s_shows : Stmt := (top 83)
abbrev s_law_cell : Stmt := (top 95)
abbrev s_law_row : Stmt := (top 97)
abbrev s_law_weights : Stmt := (top 98)
abbrev s_law_entry : Stmt := (top 102)
abbrev s_Reader_init : Stmt := (inClass (top 57) 0)
abbrev s_Reader_read_signs : Stmt := (inClass (top 57) 5)
abbrev s_Reader_skip : Stmt := (inClass (top 57) 2)
abbrev s_Reader_read_number : Stmt := (inClass (top 57) 3)
abbrev s_Reader_read_code : Stmt := (inClass (top 57) 4)
abbrev s_Reader_read_command : Stmt := (inClass (top 57) 1)
abbrev s_commands_of : Stmt := (top 56)
abbrev s_Ledger_init : Stmt := (inClass (top 64) 0)
abbrev s_first_ledger : Stmt := (top 65)
abbrev s_Chain_init : Stmt := (inClass (top 75) 0)
abbrev s_Chain_height : Stmt := (inClass (top 75) 1)
abbrev s_Chain_committee : Stmt := (inClass (top 75) 2)
abbrev s_Chain_extend : Stmt := (inClass (top 75) 3)
abbrev s_after_weight : Stmt := (top 76)
abbrev s_Client_init : Stmt := (inClass (top 86) 0)
abbrev s_Client_follow : Stmt := (inClass (top 86) 1)
abbrev s_read_head : Stmt := (top 92)
abbrev s_archive_lines : Stmt := (top 89)
abbrev s_refuse_before_end : Stmt := (top 93)
abbrev s_entry_at : Stmt := (top 91)
abbrev s_read_archive : Stmt := (top 90)
abbrev s_law : Stmt := (top 103)
abbrev s_BadLine_init : Stmt := (inClass (top 4) 0)
abbrev s_BadArchive_init : Stmt := (inClass (top 5) 0)
abbrev sc_prevote_N : List Str := ["height", "turn", "block", "lean"]
theorem sc_prevote : FnScope sc_prevote_N ["height", "turn", "block", "lean"] (defScope s_prevote) := ⟨rfl, rfl, rfl, by decide +kernel, rfl, by decide +kernel, by decide +kernel⟩
abbrev sc_precommit_N : List Str := ["height", "turn", "block"]
theorem sc_precommit : FnScope sc_precommit_N ["height", "turn", "block"] (defScope s_precommit) := ⟨rfl, rfl, rfl, by decide +kernel, rfl, by decide +kernel, by decide +kernel⟩
abbrev sc_is_number_N : List Str := ["word"]
theorem sc_is_number : FnScope sc_is_number_N ["word"] (defScope s_is_number) := ⟨rfl, rfl, rfl, by decide +kernel, rfl, by decide +kernel, by decide +kernel⟩
abbrev sc_is_block_N : List Str := ["word", "sign"]
theorem sc_is_block : FnScope sc_is_block_N ["word"] (defScope s_is_block) := ⟨rfl, rfl, rfl, by decide +kernel, rfl, by decide +kernel, by decide +kernel⟩
abbrev sc_word_at_N : List Str := ["words", "at"]
theorem sc_word_at : FnScope sc_word_at_N ["words", "at"] (defScope s_word_at) := ⟨rfl, rfl, rfl, by decide +kernel, rfl, by decide +kernel, by decide +kernel⟩
abbrev sc_number_at_N : List Str := ["words", "at", "word"]
theorem sc_number_at : FnScope sc_number_at_N ["words", "at"] (defScope s_number_at) := ⟨rfl, rfl, rfl, by decide +kernel, rfl, by decide +kernel, by decide +kernel⟩
abbrev sc_kind_at_N : List Str := ["words", "at", "word"]
theorem sc_kind_at : FnScope sc_kind_at_N ["words", "at"] (defScope s_kind_at) := ⟨rfl, rfl, rfl, by decide +kernel, rfl, by decide +kernel, by decide +kernel⟩
abbrev sc_block_at_N : List Str := ["words", "at", "kind", "word"]
theorem sc_block_at : FnScope sc_block_at_N ["words", "at", "kind"] (defScope s_block_at) := ⟨rfl, rfl, rfl, by decide +kernel, rfl, by decide +kernel, by decide +kernel⟩
abbrev sc_lean_at_N : List Str := ["words", "at", "turn", "word", "lean"]
theorem sc_lean_at : FnScope sc_lean_at_N ["words", "at", "turn"] (defScope s_lean_at) := ⟨rfl, rfl, rfl, by decide +kernel, rfl, by decide +kernel, by decide +kernel⟩
abbrev sc_end_at_N : List Str := ["words", "at"]
theorem sc_end_at : FnScope sc_end_at_N ["words", "at"] (defScope s_end_at) := ⟨rfl, rfl, rfl, by decide +kernel, rfl, by decide +kernel, by decide +kernel⟩
abbrev sc_read_letter_N : List Str := ["line", "words", "sender", "kind", "height", "turn", "block", "lean"]
theorem sc_read_letter : FnScope sc_read_letter_N ["line"] (defScope s_read_letter) := ⟨rfl, rfl, rfl, by decide +kernel, rfl, by decide +kernel, by decide +kernel⟩
abbrev sc_proposal_N : List Str := ["height", "turn", "block"]
theorem sc_proposal : FnScope sc_proposal_N ["height", "turn", "block"] (defScope s_proposal) := ⟨rfl, rfl, rfl, by decide +kernel, rfl, by decide +kernel, by decide +kernel⟩
abbrev sc_word_N : List Str := ["part"]
theorem sc_word : FnScope sc_word_N ["part"] (defScope s_word) := ⟨rfl, rfl, rfl, by decide +kernel, rfl, by decide +kernel, by decide +kernel⟩
abbrev sc_letter_line_N : List Str := ["letter", "sender", "statement", "part"]
theorem sc_letter_line : FnScope sc_letter_line_N ["letter"] (defScope s_letter_line) := ⟨rfl, rfl, rfl, by decide +kernel, rfl, by decide +kernel, by decide +kernel⟩
abbrev sc_first_wrong_N : List Str := ["weights", "at", "weight"]
theorem sc_first_wrong : FnScope sc_first_wrong_N ["weights"] (defScope s_first_wrong) := ⟨rfl, rfl, rfl, by decide +kernel, rfl, by decide +kernel, by decide +kernel⟩
abbrev sc_Committee_init_N : List Str := ["self", "weights", "wrong"]
theorem sc_Committee_init : FnScope sc_Committee_init_N ["self", "weights"] (defScope s_Committee_init) := ⟨rfl, rfl, rfl, by decide +kernel, rfl, by decide +kernel, by decide +kernel⟩
abbrev sc_Committee_weight_of_N : List Str := ["self", "members", "listed", "member", "weight"]
theorem sc_Committee_weight_of : FnScope sc_Committee_weight_of_N ["self", "members"] (defScope s_Committee_weight_of) := ⟨rfl, rfl, rfl, by decide +kernel, rfl, by decide +kernel, by decide +kernel⟩
abbrev sc_Committee_is_quorum_N : List Str := ["self", "members"]
theorem sc_Committee_is_quorum : FnScope sc_Committee_is_quorum_N ["self", "members"] (defScope s_Committee_is_quorum) := ⟨rfl, rfl, rfl, by decide +kernel, rfl, by decide +kernel, by decide +kernel⟩
abbrev sc_votes_by_turn_N : List Str := ["letters", "kind", "height", "block", "found", "letter", "vote"]
theorem sc_votes_by_turn : FnScope sc_votes_by_turn_N ["letters", "kind", "height", "block"] (defScope s_votes_by_turn) := ⟨rfl, rfl, rfl, by decide +kernel, rfl, by decide +kernel, by decide +kernel⟩
abbrev sc_counts_N : List Str := ["prevote", "turns", "lean"]
theorem sc_counts : FnScope sc_counts_N ["prevote", "turns"] (defScope s_counts) := ⟨rfl, rfl, rfl, by decide +kernel, rfl, by decide +kernel, by decide +kernel⟩
abbrev sc_certified_turns_N : List Str := ["committee", "letters", "height", "block", "prevotes", "found", "turn", "members", "letter"]
theorem sc_certified_turns : FnScope sc_certified_turns_N ["committee", "letters", "height", "block"] (defScope s_certified_turns) := ⟨rfl, rfl, rfl, by decide +kernel, rfl, by decide +kernel, by decide +kernel⟩
abbrev sc_committed_turns_N : List Str := ["committee", "letters", "height", "block", "precommits", "found", "turn", "members", "letter"]
theorem sc_committed_turns : FnScope sc_committed_turns_N ["committee", "letters", "height", "block"] (defScope s_committed_turns) := ⟨rfl, rfl, rfl, by decide +kernel, rfl, by decide +kernel, by decide +kernel⟩
abbrev sc_shown_turn_N : List Str := ["committee", "height", "block", "letters"]
theorem sc_shown_turn : FnScope sc_shown_turn_N ["committee", "height", "block", "letters"] (defScope s_shown_turn) := ⟨rfl, rfl, rfl, by decide +kernel, rfl, by decide +kernel, by decide +kernel⟩
abbrev sc_shows_N : List Str := ["committee", "height", "block", "letters"]
theorem sc_shows : FnScope sc_shows_N ["committee", "height", "block", "letters"] (defScope s_shows) := ⟨rfl, rfl, rfl, by decide +kernel, rfl, by decide +kernel, by decide +kernel⟩
abbrev sc_law_cell_N : List Str := ["script", "k"]
theorem sc_law_cell : FnScope sc_law_cell_N ["script", "k"] (defScope s_law_cell) := ⟨rfl, rfl, rfl, by decide +kernel, rfl, by decide +kernel, by decide +kernel⟩
abbrev sc_law_row_N : List Str := ["cell", "count", "size", "state", "row", "k"]
theorem sc_law_row : FnScope sc_law_row_N ["cell", "count", "size"] (defScope s_law_row) := ⟨rfl, rfl, rfl, by decide +kernel, rfl, by decide +kernel, by decide +kernel⟩
abbrev sc_law_weights_N : List Str := ["cell", "most", "count", "value"]
theorem sc_law_weights : FnScope sc_law_weights_N ["cell", "most"] (defScope s_law_weights) := ⟨rfl, rfl, rfl, by decide +kernel, rfl, by decide +kernel, by decide +kernel⟩
abbrev sc_law_entry_N : List Str := ["weights", "cell", "height", "block", "turn", "letters", "who"]
theorem sc_law_entry : FnScope sc_law_entry_N ["weights", "cell", "height"] (defScope s_law_entry) := ⟨rfl, rfl, rfl, by decide +kernel, rfl, by decide +kernel, by decide +kernel⟩
abbrev sc_Reader_init_N : List Str := ["self", "text"]
theorem sc_Reader_init : FnScope sc_Reader_init_N ["self", "text"] (defScope s_Reader_init) := ⟨rfl, rfl, rfl, by decide +kernel, rfl, by decide +kernel, by decide +kernel⟩
abbrev sc_Reader_read_signs_N : List Str := ["self", "allowed", "begin"]
theorem sc_Reader_read_signs : FnScope sc_Reader_read_signs_N ["self", "allowed"] (defScope s_Reader_read_signs) := ⟨rfl, rfl, rfl, by decide +kernel, rfl, by decide +kernel, by decide +kernel⟩
abbrev sc_Reader_skip_N : List Str := ["self", "mark"]
theorem sc_Reader_skip : FnScope sc_Reader_skip_N ["self", "mark"] (defScope s_Reader_skip) := ⟨rfl, rfl, rfl, by decide +kernel, rfl, by decide +kernel, by decide +kernel⟩
abbrev sc_Reader_read_number_N : List Str := ["self", "digits"]
theorem sc_Reader_read_number : FnScope sc_Reader_read_number_N ["self"] (defScope s_Reader_read_number) := ⟨rfl, rfl, rfl, by decide +kernel, rfl, by decide +kernel, by decide +kernel⟩
abbrev sc_Reader_read_code_N : List Str := ["self", "code"]
theorem sc_Reader_read_code : FnScope sc_Reader_read_code_N ["self"] (defScope s_Reader_read_code) := ⟨rfl, rfl, rfl, by decide +kernel, rfl, by decide +kernel, by decide +kernel⟩
abbrev sc_Reader_read_command_N : List Str := ["self", "kind", "parts", "mark", "part"]
theorem sc_Reader_read_command : FnScope sc_Reader_read_command_N ["self"] (defScope s_Reader_read_command) := ⟨rfl, rfl, rfl, by decide +kernel, rfl, by decide +kernel, by decide +kernel⟩
abbrev sc_commands_of_N : List Str := ["block", "reader", "found"]
theorem sc_commands_of : FnScope sc_commands_of_N ["block"] (defScope s_commands_of) := ⟨rfl, rfl, rfl, by decide +kernel, rfl, by decide +kernel, by decide +kernel⟩
abbrev sc_Ledger_init_N : List Str := ["self", "balances", "codes", "stores"]
theorem sc_Ledger_init : FnScope sc_Ledger_init_N ["self", "balances", "codes", "stores"] (defScope s_Ledger_init) := ⟨rfl, rfl, rfl, by decide +kernel, rfl, by decide +kernel, by decide +kernel⟩
abbrev sc_first_ledger_N : List Str := ["grants", "balances"]
theorem sc_first_ledger : FnScope sc_first_ledger_N ["grants"] (defScope s_first_ledger) := ⟨rfl, rfl, rfl, by decide +kernel, rfl, by decide +kernel, by decide +kernel⟩
abbrev sc_Chain_init_N : List Str := ["self", "weights", "grants"]
theorem sc_Chain_init : FnScope sc_Chain_init_N ["self", "weights", "grants"] (defScope s_Chain_init) := ⟨rfl, rfl, rfl, by decide +kernel, rfl, by decide +kernel, by decide +kernel⟩
abbrev sc_Chain_height_N : List Str := ["self"]
theorem sc_Chain_height : FnScope sc_Chain_height_N ["self"] (defScope s_Chain_height) := ⟨rfl, rfl, rfl, by decide +kernel, rfl, by decide +kernel, by decide +kernel⟩
abbrev sc_Chain_committee_N : List Str := ["self"]
theorem sc_Chain_committee : FnScope sc_Chain_committee_N ["self"] (defScope s_Chain_committee) := ⟨rfl, rfl, rfl, by decide +kernel, rfl, by decide +kernel, by decide +kernel⟩
abbrev sc_Chain_extend_N : List Str := ["self", "block", "weights", "ledger", "receipts", "command", "done"]
theorem sc_Chain_extend : FnScope sc_Chain_extend_N ["self", "block"] (defScope s_Chain_extend) := ⟨rfl, rfl, rfl, by decide +kernel, rfl, by decide +kernel, by decide +kernel⟩
abbrev sc_after_weight_N : List Str := ["weights", "command", "_", "member", "weight"]
theorem sc_after_weight : FnScope sc_after_weight_N ["weights", "command"] (defScope s_after_weight) := ⟨rfl, rfl, rfl, by decide +kernel, rfl, by decide +kernel, by decide +kernel⟩
abbrev sc_Client_init_N : List Str := ["self", "weights", "grants"]
theorem sc_Client_init : FnScope sc_Client_init_N ["self", "weights", "grants"] (defScope s_Client_init) := ⟨rfl, rfl, rfl, by decide +kernel, rfl, by decide +kernel, by decide +kernel⟩
abbrev sc_Client_follow_N : List Str := ["self", "block", "paper"]
theorem sc_Client_follow : FnScope sc_Client_follow_N ["self", "block", "paper"] (defScope s_Client_follow) := ⟨rfl, rfl, rfl, by decide +kernel, rfl, by decide +kernel, by decide +kernel⟩
abbrev sc_read_head_N : List Str := ["line", "words"]
theorem sc_read_head : FnScope sc_read_head_N ["line"] (defScope s_read_head) := ⟨rfl, rfl, rfl, by decide +kernel, rfl, by decide +kernel, by decide +kernel⟩
abbrev sc_archive_lines_N : List Str := ["blocks", "papers", "lines", "block", "paper", "letter"]
theorem sc_archive_lines : FnScope sc_archive_lines_N ["blocks", "papers"] (defScope s_archive_lines) := ⟨rfl, rfl, rfl, by decide +kernel, rfl, by decide +kernel, by decide +kernel⟩
abbrev sc_refuse_before_end_N : List Str := ["lines", "at"]
theorem sc_refuse_before_end : FnScope sc_refuse_before_end_N ["lines", "at"] (defScope s_refuse_before_end) := ⟨rfl, rfl, rfl, by decide +kernel, rfl, by decide +kernel, by decide +kernel⟩
abbrev sc_entry_at_N : List Str := ["lines", "at", "head", "block", "many", "last", "paper", "place"]
theorem sc_entry_at : FnScope sc_entry_at_N ["lines", "at"] (defScope s_entry_at) := ⟨rfl, rfl, rfl, by decide +kernel, rfl, by decide +kernel, by decide +kernel⟩
abbrev sc_read_archive_N : List Str := ["weights", "grants", "lines", "client", "entries", "at", "entry", "block", "paper", "last"]
theorem sc_read_archive : FnScope sc_read_archive_N ["weights", "grants", "lines"] (defScope s_read_archive) := ⟨rfl, rfl, rfl, by decide +kernel, rfl, by decide +kernel, by decide +kernel⟩
abbrev sc_law_N : List Str := ["script", "weights", "entries", "height", "lines", "text", "cut", "left", "whole", "used", "entry", "actual"]
theorem sc_law : FnScope sc_law_N ["script"] (defScope s_law) := ⟨rfl, rfl, rfl, by decide +kernel, rfl, by decide +kernel, by decide +kernel⟩
/-! ### what stands where -/
structure DefAt (K : PySem.W.Frag) (mg : Str → Option Value) (x : Str) (st : Stmt) (ps : List Str) (f : Addr) : Prop where
  F : ∃ fd, Fun K x x st f fd ∧ Binds K fd ps []
  g : mg x = some (.ref f)
  kp : PySem.W.keepIn K (.ref f) = true
structure MethAt (K : PySem.W.Frag) (C : Addr) (x qual : Str) (st : Stmt) (ps : List Str) (f : Addr) : Prop where
  F : ∃ fd, Fun K x qual st f fd ∧ Binds K fd ps []
  fi : PySem.W.findIn K (.ref C) x = some (some (.ref f))
  isf : PySem.W.isFn K (.ref f) = true
  kp : PySem.W.keepIn K (.ref f) = true
theorem def_mk {K : PySem.W.Frag} {x qual : Str} {st : Stmt} {f : Addr} {ps : List Str} {oc : Value} {od an : Option Addr} {osl : Array (Option Value)} {kV doc pm cdv ct : Value}
    (l : K.lookup f = some ⟨oc, od, .func (PySem.W.fnOf x qual (defArgs st) (defBody st) (defScope st) .none kV doc pm an cdv ct), osl⟩)
    (c : PySem.W.codeIn K cdv qual = true) (k : PySem.W.keepIn K (.ref f) = true)
    (h : ∀ (kV doc pm : Value) (an : Option Addr) (cdv ct : Value) (us : List Value), us.length = ps.length → bindArgs (PySem.W.fnOf x qual (defArgs st) (defBody st) (defScope st) .none kV doc pm an cdv ct) ⟨us, []⟩ = pure (ps.zip us)) :
    ∃ fd, Fun K x qual st f fd ∧ Binds K fd ps [] := by
  have F := fun_mk (st := st) l c k
  exact ⟨_, F, F.binds h⟩
theorem mg_no {K : PySem.W.Frag} {h : Heap} {mg : Str → Option Value} {n : Str} (X : K.In h) (G : h.Ns mainGlobals mg) (e : PySem.W.nsIn K mainGlobals n = some none) : mg n = none := PySem.W.mg_none_of X G e
theorem same_new {H : Hp} {p : Addr} {o : HO} (n : H p = Option.none) : Same H (upd H p o) := fun b u e => by
  rw [upd_ne (ne_of_none e n)]
  exact e
theorem same_upd {H H2 : Hp} {p : Addr} {o : HO} (s : Same H H2) (n : H p = Option.none) : Same H (upd H2 p o) := fun b u e => by
  rw [upd_ne (ne_of_none e n)]
  exact s b u e
structure Ads where
  C_Reader : Addr
  C_Committee : Addr
  C_Ledger : Addr
  C_Chain : Addr
  C_Client : Addr
  d_prevote : Addr
  d_precommit : Addr
  d_is_number : Addr
  d_is_block : Addr
  d_word_at : Addr
  d_number_at : Addr
  d_kind_at : Addr
  d_block_at : Addr
  d_lean_at : Addr
  d_end_at : Addr
  d_read_letter : Addr
  d_proposal : Addr
  d_word : Addr
  d_letter_line : Addr
  d_first_wrong : Addr
  d_Committee_init : Addr
  d_Committee_weight_of : Addr
  d_Committee_is_quorum : Addr
  d_votes_by_turn : Addr
  d_counts : Addr
  d_certified_turns : Addr
  d_committed_turns : Addr
  d_shown_turn : Addr
  d_shows : Addr
  d_law_cell : Addr
  d_law_row : Addr
  d_law_weights : Addr
  d_law_entry : Addr
  d_Reader_init : Addr
  d_Reader_read_signs : Addr
  d_Reader_skip : Addr
  d_Reader_read_number : Addr
  d_Reader_read_code : Addr
  d_Reader_read_command : Addr
  d_commands_of : Addr
  d_Ledger_init : Addr
  d_first_ledger : Addr
  d_Chain_init : Addr
  d_Chain_height : Addr
  d_Chain_committee : Addr
  d_Chain_extend : Addr
  d_after_weight : Addr
  d_Client_init : Addr
  d_Client_follow : Addr
  d_read_head : Addr
  d_archive_lines : Addr
  d_refuse_before_end : Addr
  d_entry_at : Addr
  d_read_archive : Addr
  P_MARKS : Addr
  M_MARKS_p : Addr
  M_MARKS_w : Addr
  M_MARKS_d : Addr
  M_MARKS_k : Addr
  C_BadCommand : Addr
  C_BadPaper : Addr
  C_TribunalError : Addr
  C_BadLine : Addr
  d_BadLine_init : Addr
  C_BadArchive : Addr
  d_BadArchive_init : Addr
  P_KINDS : Addr
structure Txt (K : PySem.W.Frag) (mg : Str → Option Value) (a : Ads) : Prop where
  n_len : mg "len" = none
  n_range : mg "range" = none
  n_isinstance : mg "isinstance" = none
  n_int : mg "int" = none
  n_bool : mg "bool" = none
  n_list : mg "list" = none
  n_tuple : mg "tuple" = none
  n_str : mg "str" = none
  n_zip : mg "zip" = none
  n_enumerate : mg "enumerate" = none
  n_max : mg "max" = none
  n_abs : mg "abs" = none
  n_sum : mg "sum" = none
  n_set : mg "set" = none
  n_sorted : mg "sorted" = none
  n_min : mg "min" = none
  n_super : mg "super" = none
  n_ValueError : mg "ValueError" = none
  n_all : mg "all" = none
  c_SIGNS : ∃ t, mg "SIGNS" = some (.str "0123456789ginasmtcehlujfyo" t)
  c_DIGITS : ∃ t, mg "DIGITS" = some (.str "0123456789" t)
  c_CODE_END : ∃ t, mg "CODE_END" = some (.str "z" t)
  c_MOST_DIGITS_wire : ∃ t, mg "MOST_DIGITS_wire" = some (.int 9 t)
  c_MOST_DIGITS_commands : ∃ t, mg "MOST_DIGITS_commands" = some (.int 6 t)
  c_MOST_SIGNS : ∃ t, mg "MOST_SIGNS" = some (.int 60 t)
  c_LETTERS : ∃ t, mg "LETTERS" = some (.str "abcdefghijklmnopqrstuvwxyz" t)
  c_BLOCK_SIGNS : ∃ t, mg "BLOCK_SIGNS" = some (.str "abcdefghijklmnopqrstuvwxyz0123456789" t)
  c_NONE : ∃ t, mg "NONE" = some (.str "-" t)
  c_HEAD : ∃ t, mg "HEAD" = some (.str "block" t)
  c_KIND : ∃ t, mg "KIND" = some (.int 0 t)
  c_HEIGHT : ∃ t, mg "HEIGHT" = some (.int 1 t)
  c_TURN : ∃ t, mg "TURN" = some (.int 2 t)
  c_BLOCK : ∃ t, mg "BLOCK" = some (.int 3 t)
  c_LEAN : ∃ t, mg "LEAN" = some (.int 4 t)
  c_MOST_MEMBERS : ∃ t, mg "MOST_MEMBERS" = some (.int 16 t)
  c_MOST_WEIGHT : ∃ t, mg "MOST_WEIGHT" = some (.int 1000000000000 t)
  g_Reader : mg "Reader" = some (.ref a.C_Reader)
  cl_Reader : Cls K a.C_Reader
  kc_Reader : PySem.W.keepIn K (.ref a.C_Reader) = true
  mk_Reader : PySem.W.makesIn K a.C_Reader = true
  a_Reader_text : NoAttr K a.C_Reader "text"
  a_Reader_at : NoAttr K a.C_Reader "at"
  g_Committee : mg "Committee" = some (.ref a.C_Committee)
  cl_Committee : Cls K a.C_Committee
  kc_Committee : PySem.W.keepIn K (.ref a.C_Committee) = true
  mk_Committee : PySem.W.makesIn K a.C_Committee = true
  a_Committee_weights : NoAttr K a.C_Committee "weights"
  a_Committee_size : NoAttr K a.C_Committee "size"
  a_Committee_total : NoAttr K a.C_Committee "total"
  g_Ledger : mg "Ledger" = some (.ref a.C_Ledger)
  cl_Ledger : Cls K a.C_Ledger
  kc_Ledger : PySem.W.keepIn K (.ref a.C_Ledger) = true
  mk_Ledger : PySem.W.makesIn K a.C_Ledger = true
  a_Ledger_balances : NoAttr K a.C_Ledger "balances"
  a_Ledger_codes : NoAttr K a.C_Ledger "codes"
  a_Ledger_stores : NoAttr K a.C_Ledger "stores"
  g_Chain : mg "Chain" = some (.ref a.C_Chain)
  cl_Chain : Cls K a.C_Chain
  kc_Chain : PySem.W.keepIn K (.ref a.C_Chain) = true
  mk_Chain : PySem.W.makesIn K a.C_Chain = true
  a_Chain_blocks : NoAttr K a.C_Chain "blocks"
  a_Chain_receipts : NoAttr K a.C_Chain "receipts"
  a_Chain_committees : NoAttr K a.C_Chain "committees"
  a_Chain_ledgers : NoAttr K a.C_Chain "ledgers"
  g_Client : mg "Client" = some (.ref a.C_Client)
  cl_Client : Cls K a.C_Client
  kc_Client : PySem.W.keepIn K (.ref a.C_Client) = true
  mk_Client : PySem.W.makesIn K a.C_Client = true
  a_Client_chain : NoAttr K a.C_Client "chain"
  d_prevote : DefAt K mg "prevote" s_prevote ["height", "turn", "block", "lean"] a.d_prevote
  d_precommit : DefAt K mg "precommit" s_precommit ["height", "turn", "block"] a.d_precommit
  d_is_number : DefAt K mg "is_number" s_is_number ["word"] a.d_is_number
  d_is_block : DefAt K mg "is_block" s_is_block ["word"] a.d_is_block
  d_word_at : DefAt K mg "_word_at" s_word_at ["words", "at"] a.d_word_at
  d_number_at : DefAt K mg "_number_at" s_number_at ["words", "at"] a.d_number_at
  d_kind_at : DefAt K mg "_kind_at" s_kind_at ["words", "at"] a.d_kind_at
  d_block_at : DefAt K mg "_block_at" s_block_at ["words", "at", "kind"] a.d_block_at
  d_lean_at : DefAt K mg "_lean_at" s_lean_at ["words", "at", "turn"] a.d_lean_at
  d_end_at : DefAt K mg "_end_at" s_end_at ["words", "at"] a.d_end_at
  d_read_letter : DefAt K mg "read_letter" s_read_letter ["line"] a.d_read_letter
  d_proposal : DefAt K mg "proposal" s_proposal ["height", "turn", "block"] a.d_proposal
  d_word : DefAt K mg "_word" s_word ["part"] a.d_word
  d_letter_line : DefAt K mg "letter_line" s_letter_line ["letter"] a.d_letter_line
  d_first_wrong : DefAt K mg "_first_wrong" s_first_wrong ["weights"] a.d_first_wrong
  d_Committee_init : MethAt K a.C_Committee "__init__" "Committee.__init__" s_Committee_init ["self", "weights"] a.d_Committee_init
  d_Committee_weight_of : MethAt K a.C_Committee "weight_of" "Committee.weight_of" s_Committee_weight_of ["self", "members"] a.d_Committee_weight_of
  d_Committee_is_quorum : MethAt K a.C_Committee "is_quorum" "Committee.is_quorum" s_Committee_is_quorum ["self", "members"] a.d_Committee_is_quorum
  d_votes_by_turn : DefAt K mg "votes_by_turn" s_votes_by_turn ["letters", "kind", "height", "block"] a.d_votes_by_turn
  d_counts : DefAt K mg "counts" s_counts ["prevote", "turns"] a.d_counts
  d_certified_turns : DefAt K mg "certified_turns" s_certified_turns ["committee", "letters", "height", "block"] a.d_certified_turns
  d_committed_turns : DefAt K mg "committed_turns" s_committed_turns ["committee", "letters", "height", "block"] a.d_committed_turns
  d_shown_turn : DefAt K mg "shown_turn" s_shown_turn ["committee", "height", "block", "letters"] a.d_shown_turn
  d_shows : DefAt K mg "shows" s_shows ["committee", "height", "block", "letters"] a.d_shows
  d_law_cell : DefAt K mg "_law_cell" s_law_cell ["script", "k"] a.d_law_cell
  d_law_row : DefAt K mg "_law_row" s_law_row ["cell", "count", "size"] a.d_law_row
  d_law_weights : DefAt K mg "_law_weights" s_law_weights ["cell", "most"] a.d_law_weights
  d_law_entry : DefAt K mg "_law_entry" s_law_entry ["weights", "cell", "height"] a.d_law_entry
  d_Reader_init : MethAt K a.C_Reader "__init__" "Reader.__init__" s_Reader_init ["self", "text"] a.d_Reader_init
  d_Reader_read_signs : MethAt K a.C_Reader "read_signs" "Reader.read_signs" s_Reader_read_signs ["self", "allowed"] a.d_Reader_read_signs
  d_Reader_skip : MethAt K a.C_Reader "skip" "Reader.skip" s_Reader_skip ["self", "mark"] a.d_Reader_skip
  d_Reader_read_number : MethAt K a.C_Reader "read_number" "Reader.read_number" s_Reader_read_number ["self"] a.d_Reader_read_number
  d_Reader_read_code : MethAt K a.C_Reader "read_code" "Reader.read_code" s_Reader_read_code ["self"] a.d_Reader_read_code
  d_Reader_read_command : MethAt K a.C_Reader "read_command" "Reader.read_command" s_Reader_read_command ["self"] a.d_Reader_read_command
  d_commands_of : DefAt K mg "commands_of" s_commands_of ["block"] a.d_commands_of
  d_Ledger_init : MethAt K a.C_Ledger "__init__" "Ledger.__init__" s_Ledger_init ["self", "balances", "codes", "stores"] a.d_Ledger_init
  d_first_ledger : DefAt K mg "first_ledger" s_first_ledger ["grants"] a.d_first_ledger
  d_Chain_init : MethAt K a.C_Chain "__init__" "Chain.__init__" s_Chain_init ["self", "weights", "grants"] a.d_Chain_init
  d_Chain_height : MethAt K a.C_Chain "height" "Chain.height" s_Chain_height ["self"] a.d_Chain_height
  d_Chain_committee : MethAt K a.C_Chain "committee" "Chain.committee" s_Chain_committee ["self"] a.d_Chain_committee
  d_Chain_extend : MethAt K a.C_Chain "extend" "Chain.extend" s_Chain_extend ["self", "block"] a.d_Chain_extend
  d_after_weight : DefAt K mg "_after_weight" s_after_weight ["weights", "command"] a.d_after_weight
  d_Client_init : MethAt K a.C_Client "__init__" "Client.__init__" s_Client_init ["self", "weights", "grants"] a.d_Client_init
  d_Client_follow : MethAt K a.C_Client "follow" "Client.follow" s_Client_follow ["self", "block", "paper"] a.d_Client_follow
  d_read_head : DefAt K mg "_read_head" s_read_head ["line"] a.d_read_head
  d_archive_lines : DefAt K mg "archive_lines" s_archive_lines ["blocks", "papers"] a.d_archive_lines
  d_refuse_before_end : DefAt K mg "_refuse_before_end" s_refuse_before_end ["lines", "at"] a.d_refuse_before_end
  d_entry_at : DefAt K mg "_entry_at" s_entry_at ["lines", "at"] a.d_entry_at
  d_read_archive : DefAt K mg "read_archive" s_read_archive ["weights", "grants", "lines"] a.d_read_archive
theorem Txt.m_Committee {K : PySem.W.Frag} {mg : Str → Option Value} {a : Ads} (T : Txt K mg a) : Mk K a.C_Committee a.d_Committee_init := ⟨T.mk_Committee, T.d_Committee_init.fi, T.d_Committee_init.isf, T.kc_Committee⟩
theorem Txt.me_Committee_weight_of {K : PySem.W.Frag} {mg : Str → Option Value} {a : Ads} (T : Txt K mg a) : Meth K a.C_Committee "weight_of" a.d_Committee_weight_of := ⟨T.d_Committee_weight_of.fi, T.d_Committee_weight_of.isf, T.d_Committee_weight_of.kp⟩
theorem Txt.me_Committee_is_quorum {K : PySem.W.Frag} {mg : Str → Option Value} {a : Ads} (T : Txt K mg a) : Meth K a.C_Committee "is_quorum" a.d_Committee_is_quorum := ⟨T.d_Committee_is_quorum.fi, T.d_Committee_is_quorum.isf, T.d_Committee_is_quorum.kp⟩
theorem Txt.m_Reader {K : PySem.W.Frag} {mg : Str → Option Value} {a : Ads} (T : Txt K mg a) : Mk K a.C_Reader a.d_Reader_init := ⟨T.mk_Reader, T.d_Reader_init.fi, T.d_Reader_init.isf, T.kc_Reader⟩
theorem Txt.me_Reader_read_signs {K : PySem.W.Frag} {mg : Str → Option Value} {a : Ads} (T : Txt K mg a) : Meth K a.C_Reader "read_signs" a.d_Reader_read_signs := ⟨T.d_Reader_read_signs.fi, T.d_Reader_read_signs.isf, T.d_Reader_read_signs.kp⟩
theorem Txt.me_Reader_skip {K : PySem.W.Frag} {mg : Str → Option Value} {a : Ads} (T : Txt K mg a) : Meth K a.C_Reader "skip" a.d_Reader_skip := ⟨T.d_Reader_skip.fi, T.d_Reader_skip.isf, T.d_Reader_skip.kp⟩
theorem Txt.me_Reader_read_number {K : PySem.W.Frag} {mg : Str → Option Value} {a : Ads} (T : Txt K mg a) : Meth K a.C_Reader "read_number" a.d_Reader_read_number := ⟨T.d_Reader_read_number.fi, T.d_Reader_read_number.isf, T.d_Reader_read_number.kp⟩
theorem Txt.me_Reader_read_code {K : PySem.W.Frag} {mg : Str → Option Value} {a : Ads} (T : Txt K mg a) : Meth K a.C_Reader "read_code" a.d_Reader_read_code := ⟨T.d_Reader_read_code.fi, T.d_Reader_read_code.isf, T.d_Reader_read_code.kp⟩
theorem Txt.me_Reader_read_command {K : PySem.W.Frag} {mg : Str → Option Value} {a : Ads} (T : Txt K mg a) : Meth K a.C_Reader "read_command" a.d_Reader_read_command := ⟨T.d_Reader_read_command.fi, T.d_Reader_read_command.isf, T.d_Reader_read_command.kp⟩
theorem Txt.m_Ledger {K : PySem.W.Frag} {mg : Str → Option Value} {a : Ads} (T : Txt K mg a) : Mk K a.C_Ledger a.d_Ledger_init := ⟨T.mk_Ledger, T.d_Ledger_init.fi, T.d_Ledger_init.isf, T.kc_Ledger⟩
theorem Txt.m_Chain {K : PySem.W.Frag} {mg : Str → Option Value} {a : Ads} (T : Txt K mg a) : Mk K a.C_Chain a.d_Chain_init := ⟨T.mk_Chain, T.d_Chain_init.fi, T.d_Chain_init.isf, T.kc_Chain⟩
theorem Txt.me_Chain_height {K : PySem.W.Frag} {mg : Str → Option Value} {a : Ads} (T : Txt K mg a) : Meth K a.C_Chain "height" a.d_Chain_height := ⟨T.d_Chain_height.fi, T.d_Chain_height.isf, T.d_Chain_height.kp⟩
theorem Txt.me_Chain_committee {K : PySem.W.Frag} {mg : Str → Option Value} {a : Ads} (T : Txt K mg a) : Meth K a.C_Chain "committee" a.d_Chain_committee := ⟨T.d_Chain_committee.fi, T.d_Chain_committee.isf, T.d_Chain_committee.kp⟩
theorem Txt.me_Chain_extend {K : PySem.W.Frag} {mg : Str → Option Value} {a : Ads} (T : Txt K mg a) : Meth K a.C_Chain "extend" a.d_Chain_extend := ⟨T.d_Chain_extend.fi, T.d_Chain_extend.isf, T.d_Chain_extend.kp⟩
theorem Txt.m_Client {K : PySem.W.Frag} {mg : Str → Option Value} {a : Ads} (T : Txt K mg a) : Mk K a.C_Client a.d_Client_init := ⟨T.mk_Client, T.d_Client_init.fi, T.d_Client_init.isf, T.kc_Client⟩
theorem Txt.me_Client_follow {K : PySem.W.Frag} {mg : Str → Option Value} {a : Ads} (T : Txt K mg a) : Meth K a.C_Client "follow" a.d_Client_follow := ⟨T.d_Client_follow.fi, T.d_Client_follow.isf, T.d_Client_follow.kp⟩
/-! ### max and min with default=None -/
end Toy
namespace Toy0
open PySem

section
variable {prog : Program} {w : World} {A : Around} {R : Result → Shared → Prop} {I : Addr} {fp wr : List Addr} {n : Nat} {P : Nat → Value → Prop} {St : Nat → Heap → Prop}
/-- the turns of max with keywords, from the place behind j on -/
theorem maxd_run (W : Walks prog w A.in1 I fp wr n P St) (up : Nat → Nat → Bool) (cm : CmpOf prog w A.in1 .Gt P up) (Z : Addr) (nZ : Z ∉ fp) (kw : List (Str × Value)) : ∀ (k j : Nat) (s : Shared) (b0 : Value) (c : Nat), n = j + 1 + k → St (j + 1) s.heap → P (argBest up j) b0 →
    s.heap.get? Z = some { cls := .type "list", dict := none, data := .seq #[b0, b0] c, slots := #[] } → (∀ v h2 t2, P (argBest up (n - 1)) v → (∀ x o, x ∉ wr → x ≠ Z → s.heap.get? x = some o → h2.get? x = some o) → R (.ok (.ret v)) { s with heap := h2, toks := t2 }) →
    codeAny (model prog w) A (.builtin "max.loop" ⟨[.ref I, .none, .ref Z], kw⟩) R s
  | 0, j, s, b0, c, hn, st, hP, hZ, q => by
    have nw : Z ∉ wr := fun z => nZ (W.sub _ z)
    have hin : j + 1 = n := hn.symm
    refine codeAny_builtin PySem.F.entry_max_loop (by
      rw [Around.under_plainId PySem.F.plain_max_loop _]
      show wpAny _ A.in1 (seqItems? (.ref Z) >>= _) _ _ s
      refine wpAny_bind (wpAny_seqItems hZ rfl ?_)
      show wpAny _ A.in1 (tryCatch (pyNext (.ref I)) _ >>= _) _ _ s
      refine wpAny_bind (wpAny_tryCatch (W.done s _ _ (by rw [← hin]; exact st) fun h2 t2 kp => ?_))
      have hZ2 := kp Z _ nw hZ
      show wpAny _ A.in1 (updateSeq Z (fun _ => #[]) >>= _) _ _ _
      refine wpAny_bind (wpAny_updateSeq hZ2 rfl (wpAny_bind (wpAny_letGo (wpAny_pure ?_))))
      exact q b0 _ t2 (by rw [show n - 1 = j by omega]; exact hP) fun x o xw xz e => (Heap.get?_update_other _ _ (fun z => xz z.symm)).trans (kp x o xw e))
  | k + 1, j, s, b0, c, hn, st, hP, hZ, q => by
    have nw : Z ∉ wr := fun z => nZ (W.sub _ z)
    have nm : (toString "max" ++ toString ".loop" : String) = "max.loop" := by decide
    refine codeAny_builtin PySem.F.entry_max_loop (by
      rw [Around.under_plainId PySem.F.plain_max_loop _]
      show wpAny _ A.in1 (seqItems? (.ref Z) >>= _) _ _ s
      refine wpAny_bind (wpAny_seqItems hZ rfl ?_)
      show wpAny _ A.in1 (tryCatch (pyNext (.ref I)) _ >>= _) _ _ s
      refine wpAny_bind (wpAny_tryCatch (W.item (j + 1) s _ _ (by omega) st fun v h2 t2 pv st2 kp => ?_))
      have hZ2 := kp Z _ nw hZ
      show wpAny _ A.in1 (tryCatch (holding [v, v] (richCompare .Gt v b0 >>= _)) _ >>= _) _ _ _
      refine wpAny_bind (wpAny_tryCatch (wpAny_holding (wpAny_bind (cm (j + 1) (argBest up j) v b0 _ _ _ pv hP ?_))))
      refine wpAny_bind (wpAny_holding (wpAny_truthy_bool (wpAny_bind (wpAny_letGo (wpAny_pure ?_)))))
      cases eb : up (j + 1) (argBest up j) with
      | true =>
        simp only [if_true]
        refine wpAny_bind (wpAny_updateSeq hZ2 rfl (wpAny_bind (wpAny_letGo ?_)))
        rw [nm]
        refine wpAny_pure ⟨plainId_quiet PySem.F.plain_max_loop _, maxd_run W up cm Z nZ kw k (j + 1) _ v _ (by omega) (W.frame _ _ _ st2 fun x hx o e => ?_) (by simp only [argBest, eb, if_true]; exact pv) (Heap.get?_update_self _ hZ2 rfl) fun v3 h3 t3 p3 kp3 => ?_⟩
        · exact (Heap.get?_update_other _ _ (fun z : Z = x => nZ (by rw [z]; exact hx))).trans e
        · exact q v3 h3 t3 p3 fun x o xw xz e => kp3 x o xw xz ((Heap.get?_update_other _ _ (fun z => xz z.symm)).trans (kp x o xw e))
      | false =>
        simp only [Bool.false_eq_true, if_false]
        refine wpAny_bind (wpAny_letGo ?_)
        rw [nm]
        refine wpAny_pure ⟨plainId_quiet PySem.F.plain_max_loop _, maxd_run W up cm Z nZ kw k (j + 1) _ b0 c (by omega) st2 (by simp only [argBest, eb, Bool.false_eq_true, if_false]; exact hP) hZ2 fun v3 h3 t3 p3 kp3 => ?_⟩
        exact q v3 h3 t3 p3 fun x o xw xz e => kp3 x o xw xz (kp x o xw e))
/-- its first turn -/
theorem maxd_start (W : Walks prog w A.in1 I fp wr n P St) (up : Nat → Nat → Bool) (cm : CmpOf prog w A.in1 .Gt P up) (Z : Addr) (nZ : Z ∉ fp) (d : Value) {s : Shared} {c : Nat} (st : St 0 s.heap) (hZ : s.heap.get? Z = some { cls := .type "list", dict := none, data := .seq #[] c, slots := #[] })
    (q0 : n = 0 → ∀ h2 t2, (∀ x o, x ∉ wr → x ≠ Z → s.heap.get? x = some o → h2.get? x = some o) → R (.ok (.ret d)) { s with heap := h2, toks := t2 })
    (q : 0 < n → ∀ v h2 t2, P (argBest up (n - 1)) v → (∀ x o, x ∉ wr → x ≠ Z → s.heap.get? x = some o → h2.get? x = some o) → R (.ok (.ret v)) { s with heap := h2, toks := t2 }) :
    codeAny (model prog w) A (.builtin "max.loop" ⟨[.ref I, .none, .ref Z], [(Str.ofString "default", d)]⟩) R s := by
  have nw : Z ∉ wr := fun z => nZ (W.sub _ z)
  have nm : (toString "max" ++ toString ".loop" : String) = "max.loop" := by decide
  refine codeAny_builtin PySem.F.entry_max_loop (by
    rw [Around.under_plainId PySem.F.plain_max_loop _]
    show wpAny _ A.in1 (seqItems? (.ref Z) >>= _) _ _ s
    refine wpAny_bind (wpAny_seqItems hZ rfl ?_)
    show wpAny _ A.in1 (tryCatch (pyNext (.ref I)) _ >>= _) _ _ s
    rcases Nat.eq_zero_or_pos n with n0 | n0
    · refine wpAny_bind (wpAny_tryCatch (W.done s _ _ (by rw [n0]; exact st) fun h2 t2 kp => ?_))
      show wpAny _ A.in1 (rule _ >>= _) _ _ _
      exact wpAny_bind (wpAny_rule (wpAny_pure (q0 n0 h2 t2 fun x o xw _ e => kp x o xw e)))
    · refine wpAny_bind (wpAny_tryCatch (W.item 0 s _ _ n0 st fun v h2 t2 pv st2 kp => ?_))
      have hZ2 := kp Z _ nw hZ
      show wpAny _ A.in1 (updateSeq Z (fun _ => #[v, v]) >>= _) _ _ _
      refine wpAny_bind (wpAny_updateSeq hZ2 rfl ?_)
      rw [nm]
      refine wpAny_pure ⟨plainId_quiet PySem.F.plain_max_loop _, maxd_run W up cm Z nZ _ (n - 1) 0 _ v _ (by omega) (W.frame _ _ _ st2 fun x hx o e => ?_) pv (Heap.get?_update_self _ hZ2 rfl) fun v3 h3 t3 p3 kp3 => ?_⟩
      · exact (Heap.get?_update_other _ _ (fun z : Z = x => nZ (by rw [z]; exact hx))).trans e
      · exact q n0 v3 h3 t3 p3 fun x o xw xz e => kp3 x o xw xz ((Heap.get?_update_other _ _ (fun z => xz z.symm)).trans (kp x o xw e)))
end
section
variable {prog : Program} {w : World} {A : Around} {E : Value → Shared → Prop} {s : Shared} {l : Addr} {xs : Array (Int × Tok)}
theorem maxd_args (a d : Value) : argsOk "max" ⟨[a], [(Str.ofString "default", d)]⟩ := by
  unfold argsOk
  kernel_rfl
theorem maxd_call {d : Value} {Q : Value → Shared → Prop} (hh : A.handled = none) (hl : s.heap.IsList l (intItems xs)) (q0 : xs.size = 0 → ∀ h2 t2, (∀ b o, s.heap.get? b = some o → h2.get? b = some o) → Q d { s with heap := h2, toks := t2 })
    (q : 0 < xs.size → ∀ v h2 t2, (intItems xs)[argBest (fun i j => decide (numAt xs i > numAt xs j)) (xs.size - 1)]? = some v → (∀ b o, s.heap.get? b = some o → h2.get? b = some o) → Q v { s with heap := h2, toks := t2 }) :
    wpAny (model prog w) A (call (.builtin "max") [.ref l] [(Str.ofString "default", d)]) Q E s := by
  have nm : (toString "max" ++ toString ".loop" : String) = "max.loop" := by decide
  refine PyProof.Rows.kmb_tree PySem.F.kind_max PySem.F.plain_max PySem.F.entry_max (maxd_args _ _) ?_
  show wpAny _ A.in1 (Builtin.Builtins.bindParams "max" ["key", "default"] 0 ⟨[], [(Str.ofString "default", d)]⟩ >>= _) _ _ s
  refine wpAny_bind (wpAny_of_eq (show Builtin.Builtins.bindParams "max" ["key", "default"] 0 ⟨[], [(Str.ofString "default", d)]⟩ = pure [none, some d] from rfl) ?_)
  refine wpAny_bind (wpAny_pure (wpAny_bind (iter_intList hl fun s2 e st hfp ne => ?_)))
  subst e
  refine wpAny_bind (wpAny_newObj_type ?_)
  have W := Walks.list (prog := prog) (w := w) (A := A.in1) hh s.heap.objs.size l ne (intItems xs)
  have hsz : (intItems xs).size = xs.size := by simp [intItems]
  rw [nm]
  have nS := fun hm => Nat.lt_irrefl _ (hfp _ hm)
  refine wpAny_pure ⟨plainId_quiet PySem.F.plain_max_loop _, ?_⟩
  refine maxd_start (c := 0) W (fun i j => decide (numAt xs i > numAt xs j)) (CmpOf.ints_gt (numAt xs) (fun _ _ => intItems_at)) _ nS d ?_ ?_ (fun n0 h2 t2 kp => ?_) fun n0 v h2 t2 p kp => ?_
  · exact W.frame _ _ _ st fun b _ o e => Heap.get?_push_of_some _ e
  · exact Heap.get?_push_size _ rfl
  · exact q0 (hsz ▸ n0) h2 t2 (old_kept fun b o nb e => kp b o nb (Nat.ne_of_lt (Heap.lt_size e)) (Heap.get?_push_of_some _ e))
  · rw [hsz] at n0 p
    exact q n0 v h2 t2 p (old_kept fun b o nb e => kp b o nb (Nat.ne_of_lt (Heap.lt_size e)) (Heap.get?_push_of_some _ e))
end

section
variable {prog : Program} {w : World} {A : Around} {R : Result → Shared → Prop} {I : Addr} {fp wr : List Addr} {n : Nat} {P : Nat → Value → Prop} {St : Nat → Heap → Prop}
/-- the turns of min with keywords, from the place behind j on -/
theorem mind_run (W : Walks prog w A.in1 I fp wr n P St) (up : Nat → Nat → Bool) (cm : CmpOf prog w A.in1 .Lt P up) (Z : Addr) (nZ : Z ∉ fp) (kw : List (Str × Value)) : ∀ (k j : Nat) (s : Shared) (b0 : Value) (c : Nat), n = j + 1 + k → St (j + 1) s.heap → P (argBest up j) b0 →
    s.heap.get? Z = some { cls := .type "list", dict := none, data := .seq #[b0, b0] c, slots := #[] } → (∀ v h2 t2, P (argBest up (n - 1)) v → (∀ x o, x ∉ wr → x ≠ Z → s.heap.get? x = some o → h2.get? x = some o) → R (.ok (.ret v)) { s with heap := h2, toks := t2 }) →
    codeAny (model prog w) A (.builtin "min.loop" ⟨[.ref I, .none, .ref Z], kw⟩) R s
  | 0, j, s, b0, c, hn, st, hP, hZ, q => by
    have nw : Z ∉ wr := fun z => nZ (W.sub _ z)
    have hin : j + 1 = n := hn.symm
    refine codeAny_builtin PySem.F.entry_min_loop (by
      rw [Around.under_plainId PySem.F.plain_min_loop _]
      show wpAny _ A.in1 (seqItems? (.ref Z) >>= _) _ _ s
      refine wpAny_bind (wpAny_seqItems hZ rfl ?_)
      show wpAny _ A.in1 (tryCatch (pyNext (.ref I)) _ >>= _) _ _ s
      refine wpAny_bind (wpAny_tryCatch (W.done s _ _ (by rw [← hin]; exact st) fun h2 t2 kp => ?_))
      have hZ2 := kp Z _ nw hZ
      show wpAny _ A.in1 (updateSeq Z (fun _ => #[]) >>= _) _ _ _
      refine wpAny_bind (wpAny_updateSeq hZ2 rfl (wpAny_bind (wpAny_letGo (wpAny_pure ?_))))
      exact q b0 _ t2 (by rw [show n - 1 = j by omega]; exact hP) fun x o xw xz e => (Heap.get?_update_other _ _ (fun z => xz z.symm)).trans (kp x o xw e))
  | k + 1, j, s, b0, c, hn, st, hP, hZ, q => by
    have nw : Z ∉ wr := fun z => nZ (W.sub _ z)
    have nm : (toString "min" ++ toString ".loop" : String) = "min.loop" := by decide
    refine codeAny_builtin PySem.F.entry_min_loop (by
      rw [Around.under_plainId PySem.F.plain_min_loop _]
      show wpAny _ A.in1 (seqItems? (.ref Z) >>= _) _ _ s
      refine wpAny_bind (wpAny_seqItems hZ rfl ?_)
      show wpAny _ A.in1 (tryCatch (pyNext (.ref I)) _ >>= _) _ _ s
      refine wpAny_bind (wpAny_tryCatch (W.item (j + 1) s _ _ (by omega) st fun v h2 t2 pv st2 kp => ?_))
      have hZ2 := kp Z _ nw hZ
      show wpAny _ A.in1 (tryCatch (holding [v, v] (richCompare .Lt v b0 >>= _)) _ >>= _) _ _ _
      refine wpAny_bind (wpAny_tryCatch (wpAny_holding (wpAny_bind (cm (j + 1) (argBest up j) v b0 _ _ _ pv hP ?_))))
      refine wpAny_bind (wpAny_holding (wpAny_truthy_bool (wpAny_bind (wpAny_letGo (wpAny_pure ?_)))))
      cases eb : up (j + 1) (argBest up j) with
      | true =>
        simp only [if_true]
        refine wpAny_bind (wpAny_updateSeq hZ2 rfl (wpAny_bind (wpAny_letGo ?_)))
        rw [nm]
        refine wpAny_pure ⟨plainId_quiet PySem.F.plain_min_loop _, mind_run W up cm Z nZ kw k (j + 1) _ v _ (by omega) (W.frame _ _ _ st2 fun x hx o e => ?_) (by simp only [argBest, eb, if_true]; exact pv) (Heap.get?_update_self _ hZ2 rfl) fun v3 h3 t3 p3 kp3 => ?_⟩
        · exact (Heap.get?_update_other _ _ (fun z : Z = x => nZ (by rw [z]; exact hx))).trans e
        · exact q v3 h3 t3 p3 fun x o xw xz e => kp3 x o xw xz ((Heap.get?_update_other _ _ (fun z => xz z.symm)).trans (kp x o xw e))
      | false =>
        simp only [Bool.false_eq_true, if_false]
        refine wpAny_bind (wpAny_letGo ?_)
        rw [nm]
        refine wpAny_pure ⟨plainId_quiet PySem.F.plain_min_loop _, mind_run W up cm Z nZ kw k (j + 1) _ b0 c (by omega) st2 (by simp only [argBest, eb, Bool.false_eq_true, if_false]; exact hP) hZ2 fun v3 h3 t3 p3 kp3 => ?_⟩
        exact q v3 h3 t3 p3 fun x o xw xz e => kp3 x o xw xz (kp x o xw e))
/-- its first turn -/
theorem mind_start (W : Walks prog w A.in1 I fp wr n P St) (up : Nat → Nat → Bool) (cm : CmpOf prog w A.in1 .Lt P up) (Z : Addr) (nZ : Z ∉ fp) (d : Value) {s : Shared} {c : Nat} (st : St 0 s.heap) (hZ : s.heap.get? Z = some { cls := .type "list", dict := none, data := .seq #[] c, slots := #[] })
    (q0 : n = 0 → ∀ h2 t2, (∀ x o, x ∉ wr → x ≠ Z → s.heap.get? x = some o → h2.get? x = some o) → R (.ok (.ret d)) { s with heap := h2, toks := t2 })
    (q : 0 < n → ∀ v h2 t2, P (argBest up (n - 1)) v → (∀ x o, x ∉ wr → x ≠ Z → s.heap.get? x = some o → h2.get? x = some o) → R (.ok (.ret v)) { s with heap := h2, toks := t2 }) :
    codeAny (model prog w) A (.builtin "min.loop" ⟨[.ref I, .none, .ref Z], [(Str.ofString "default", d)]⟩) R s := by
  have nw : Z ∉ wr := fun z => nZ (W.sub _ z)
  have nm : (toString "min" ++ toString ".loop" : String) = "min.loop" := by decide
  refine codeAny_builtin PySem.F.entry_min_loop (by
    rw [Around.under_plainId PySem.F.plain_min_loop _]
    show wpAny _ A.in1 (seqItems? (.ref Z) >>= _) _ _ s
    refine wpAny_bind (wpAny_seqItems hZ rfl ?_)
    show wpAny _ A.in1 (tryCatch (pyNext (.ref I)) _ >>= _) _ _ s
    rcases Nat.eq_zero_or_pos n with n0 | n0
    · refine wpAny_bind (wpAny_tryCatch (W.done s _ _ (by rw [n0]; exact st) fun h2 t2 kp => ?_))
      show wpAny _ A.in1 (rule _ >>= _) _ _ _
      exact wpAny_bind (wpAny_rule (wpAny_pure (q0 n0 h2 t2 fun x o xw _ e => kp x o xw e)))
    · refine wpAny_bind (wpAny_tryCatch (W.item 0 s _ _ n0 st fun v h2 t2 pv st2 kp => ?_))
      have hZ2 := kp Z _ nw hZ
      show wpAny _ A.in1 (updateSeq Z (fun _ => #[v, v]) >>= _) _ _ _
      refine wpAny_bind (wpAny_updateSeq hZ2 rfl ?_)
      rw [nm]
      refine wpAny_pure ⟨plainId_quiet PySem.F.plain_min_loop _, mind_run W up cm Z nZ _ (n - 1) 0 _ v _ (by omega) (W.frame _ _ _ st2 fun x hx o e => ?_) pv (Heap.get?_update_self _ hZ2 rfl) fun v3 h3 t3 p3 kp3 => ?_⟩
      · exact (Heap.get?_update_other _ _ (fun z : Z = x => nZ (by rw [z]; exact hx))).trans e
      · exact q n0 v3 h3 t3 p3 fun x o xw xz e => kp3 x o xw xz ((Heap.get?_update_other _ _ (fun z => xz z.symm)).trans (kp x o xw e)))
end
section
variable {prog : Program} {w : World} {A : Around} {E : Value → Shared → Prop} {s : Shared} {l : Addr} {xs : Array (Int × Tok)}
theorem mind_args (a d : Value) : argsOk "min" ⟨[a], [(Str.ofString "default", d)]⟩ := by
  unfold argsOk
  kernel_rfl
theorem mind_call {d : Value} {Q : Value → Shared → Prop} (hh : A.handled = none) (hl : s.heap.IsList l (intItems xs)) (q0 : xs.size = 0 → ∀ h2 t2, (∀ b o, s.heap.get? b = some o → h2.get? b = some o) → Q d { s with heap := h2, toks := t2 })
    (q : 0 < xs.size → ∀ v h2 t2, (intItems xs)[argBest (fun i j => decide (numAt xs i < numAt xs j)) (xs.size - 1)]? = some v → (∀ b o, s.heap.get? b = some o → h2.get? b = some o) → Q v { s with heap := h2, toks := t2 }) :
    wpAny (model prog w) A (call (.builtin "min") [.ref l] [(Str.ofString "default", d)]) Q E s := by
  have nm : (toString "min" ++ toString ".loop" : String) = "min.loop" := by decide
  refine PyProof.Rows.kmb_tree PySem.F.kind_min PySem.F.plain_min PySem.F.entry_min (mind_args _ _) ?_
  show wpAny _ A.in1 (Builtin.Builtins.bindParams "min" ["key", "default"] 0 ⟨[], [(Str.ofString "default", d)]⟩ >>= _) _ _ s
  refine wpAny_bind (wpAny_of_eq (show Builtin.Builtins.bindParams "min" ["key", "default"] 0 ⟨[], [(Str.ofString "default", d)]⟩ = pure [none, some d] from rfl) ?_)
  refine wpAny_bind (wpAny_pure (wpAny_bind (iter_intList hl fun s2 e st hfp ne => ?_)))
  subst e
  refine wpAny_bind (wpAny_newObj_type ?_)
  have W := Walks.list (prog := prog) (w := w) (A := A.in1) hh s.heap.objs.size l ne (intItems xs)
  have hsz : (intItems xs).size = xs.size := by simp [intItems]
  rw [nm]
  have nS := fun hm => Nat.lt_irrefl _ (hfp _ hm)
  refine wpAny_pure ⟨plainId_quiet PySem.F.plain_min_loop _, ?_⟩
  refine mind_start (c := 0) W (fun i j => decide (numAt xs i < numAt xs j)) (CmpOf.ints_lt (numAt xs) (fun _ _ => intItems_at)) _ nS d ?_ ?_ (fun n0 h2 t2 kp => ?_) fun n0 v h2 t2 p kp => ?_
  · exact W.frame _ _ _ st fun b _ o e => Heap.get?_push_of_some _ e
  · exact Heap.get?_push_size _ rfl
  · exact q0 (hsz ▸ n0) h2 t2 (old_kept fun b o nb e => kp b o nb (Nat.ne_of_lt (Heap.lt_size e)) (Heap.get?_push_of_some _ e))
  · rw [hsz] at n0 p
    exact q n0 v h2 t2 p (old_kept fun b o nb e => kp b o nb (Nat.ne_of_lt (Heap.lt_size e)) (Heap.get?_push_of_some _ e))
end
end Toy0
namespace Toy
open PySem L2
section
open PyProof.Rows

/-- max(xs, default=d) of a list of ints -/
def rmaxd (K : PySem.W.Frag) : List V → List V → Hp → VK → Prop := fun vs zs H Q => ∃ (a : Addr) (ns : List Int) (d : V), vs = [V.ref a] ∧ zs = [d] ∧ SqL K H a (ns.map V.int) ∧ (ns = [] → Q d H) ∧ ∀ m, m ∈ ns → (∀ y, y ∈ ns → y ≤ m) → Q (.int m) H
theorem cr_maxd {X : Cx} (hc : X.calm = true) : CallRK X (.builtin "max") [Str.ofString "default"] (rmaxd X.K) := by
  intro pins s σ H vs zs us wz Q I r rz h
  obtain ⟨a, ns, d, rfl, rfl, hs, q0, q⟩ := h
  obtain ⟨its, rv, hl, _⟩ := I.list hs
  obtain rfl := Vals.ref1 r
  obtain ⟨w1, rfl, e1⟩ := vals1 rz
  obtain ⟨xs, e⟩ := rv.ints.allInts.items
  have hn : numsOf (intItems xs).toList = ns := by rw [← e]; exact rv.ints.numsOf
  rw [nums_intItems] at hn
  have hl2 := hl.isList
  rw [e] at hl2
  have hlen : ns.length = xs.size := by rw [← hn, List.length_map, Array.length_toList]
  refine Toy0.maxd_call (I.ok.hd hc) hl2 (fun n0 h2 t2 kp => ?_) fun n0 v h2 t2 hv kp => ?_
  · exact ⟨d, H, I.kept kp, e1, q0 (List.eq_nil_of_length_eq_zero (by omega))⟩
  · obtain ⟨t, rfl⟩ := intItems_at hv
    obtain ⟨h1, h3⟩ := argBest_gt (numAt xs) (xs.size - 1)
    refine ⟨.int _, H, I.kept kp, ⟨_, rfl⟩, q _ ?_ fun y hy => ?_⟩
    · rw [← hn, numAt_eq]
      exact PySem.getD_mem (by rw [List.length_map, Array.length_toList]; omega)
    · rw [← hn] at hy
      obtain ⟨j, hj, rfl⟩ := mem_getD hy
      rw [List.length_map, Array.length_toList] at hj
      have := h3 j (by omega)
      rwa [← numAt_eq]

/-- min(xs, default=d) of a list of ints -/
def rmind (K : PySem.W.Frag) : List V → List V → Hp → VK → Prop := fun vs zs H Q => ∃ (a : Addr) (ns : List Int) (d : V), vs = [V.ref a] ∧ zs = [d] ∧ SqL K H a (ns.map V.int) ∧ (ns = [] → Q d H) ∧ ∀ m, m ∈ ns → (∀ y, y ∈ ns → m ≤ y) → Q (.int m) H
theorem cr_mind {X : Cx} (hc : X.calm = true) : CallRK X (.builtin "min") [Str.ofString "default"] (rmind X.K) := by
  intro pins s σ H vs zs us wz Q I r rz h
  obtain ⟨a, ns, d, rfl, rfl, hs, q0, q⟩ := h
  obtain ⟨its, rv, hl, _⟩ := I.list hs
  obtain rfl := Vals.ref1 r
  obtain ⟨w1, rfl, e1⟩ := vals1 rz
  obtain ⟨xs, e⟩ := rv.ints.allInts.items
  have hn : numsOf (intItems xs).toList = ns := by rw [← e]; exact rv.ints.numsOf
  rw [nums_intItems] at hn
  have hl2 := hl.isList
  rw [e] at hl2
  have hlen : ns.length = xs.size := by rw [← hn, List.length_map, Array.length_toList]
  refine Toy0.mind_call (I.ok.hd hc) hl2 (fun n0 h2 t2 kp => ?_) fun n0 v h2 t2 hv kp => ?_
  · exact ⟨d, H, I.kept kp, e1, q0 (List.eq_nil_of_length_eq_zero (by omega))⟩
  · obtain ⟨t, rfl⟩ := intItems_at hv
    obtain ⟨h1, h3⟩ := argBest_lt (numAt xs) (xs.size - 1)
    refine ⟨.int _, H, I.kept kp, ⟨_, rfl⟩, q _ ?_ fun y hy => ?_⟩
    · rw [← hn, numAt_eq]
      exact PySem.getD_mem (by rw [List.length_map, Array.length_toList]; omega)
    · rw [← hn] at hy
      obtain ⟨j, hj, rfl⟩ := mem_getD hy
      rw [List.length_map, Array.length_toList] at hj
      have := h3 j (by omega)
      rwa [← numAt_eq]
end

section
open PyProof.Rows
/-! ### own rules: set(list of ints), k in that set; enumerate(a tuple) -/
theorem any_firstMet (zs : List Int) (k : Int) : (PyProof.Rows.firstMet (fun i => zs.getD i 0) zs.length).any (· == k) = decide (k ∈ zs) := by
  rw [PyProof.Rows.firstMet_any, Bool.eq_iff_iff, List.any_eq_true, decide_eq_true_iff]
  constructor
  · rintro ⟨y, hy, e⟩
    obtain ⟨i, hi, rfl⟩ := List.mem_map.mp hy
    have hi' : i < zs.length := List.mem_range.mp hi
    have e' : zs.getD i 0 = k := by simpa using e
    rw [← e', List.getD_eq_getElem?_getD, List.getElem?_eq_getElem hi']
    exact List.getElem_mem hi'
  · intro hk
    obtain ⟨i, hi, e⟩ := List.getElem_of_mem hk
    refine ⟨k, List.mem_map.mpr ⟨i, List.mem_range.mpr hi, ?_⟩, by simp⟩
    show zs.getD i 0 = k
    rw [List.getD_eq_getElem?_getD, List.getElem?_eq_getElem hi]
    exact e
/-- set(xs), xs a list of ints -/
def rSetOfL (K : PySem.W.Frag) : List V → Hp → VK → Prop := fun vs H Q => ∃ (l : Addr) (zs : List Int), vs = [V.ref l] ∧ SqL K H l (zs.map V.int) ∧ zs.length ≤ 1000 ∧
  ∀ (p : Addr) (n : Nat), H p = Option.none → Q (.ref p) (upd H p (.set (fun k => decide (k ∈ zs)) n))
theorem cr_set {X : Cx} (calm : X.calm = true) : CallR X (.type "set") (rSetOfL X.K) := by
  intro pins sh σ H vs us Q I rel hyp
  obtain ⟨l, zs, rfl, hl, few, q⟩ := hyp
  rw [Vals.ref1 rel]
  obtain ⟨its, rv, pl, _⟩ := I.list hl
  have isI := ints_of_vals rv
  have same : its.toArray.size = zs.length := by
    have e := rv.length
    rw [List.length_map] at e
    rw [List.size_toArray]
    exact e.symm
  refine PySem.call_set_list (items := its.toArray) (ns := zs) (I.ok.hd calm) pl.isList (by simpa using isI) (by rw [same]; unfold scanBound; omega) fun h' tk S kp => ?_
  have fresh : H sh.heap.objs.size = Option.none := I.hok.fresh (Nat.le_refl _)
  have e : (fun k => (PyProof.Rows.firstMet (fun i => zs.getD i 0) its.toArray.size).any (· == k)) = fun k => decide (k ∈ zs) := by
    funext k
    rw [same]
    exact any_firstMet zs k
  rw [e] at S
  exact ⟨.ref sh.heap.objs.size, upd H sh.heap.objs.size (.set (fun k => decide (k ∈ zs)) _), I.laid (t' := tk) (fun b o ho => kp b o (Heap.lt_size ho) ho) (Nat.le_refl _) S, rfl, q _ _ fresh⟩
/-- k in such a set -/
def rInSt (neg : Bool) : R2 := fun x y H Q => ∃ (k : Int) (b : Addr) (S : Int → Bool) (n : Nat), x = V.int k ∧ y = V.ref b ∧ H b = some (.set S n) ∧ Q (.bl (if neg then !S k else S k)) H
theorem op_in_set {X : Cx} : OpR X (compareOp .In) (rInSt false) := by
  intro pins sh σ H x y v u Q I r1 r2 hyp
  obtain ⟨k, b, S, n, rfl, rfl, hb, q⟩ := hyp
  obtain ⟨tk, rfl⟩ := r1
  cases r2
  have hS : sh.heap.SetOf (intKind X.prog X.w) b S n := I.hok b _ hb
  exact PySem.wpAny_inSet_of (PySem.intKind_is _ _ _ _) rfl hS ⟨.bl (S k), H, I.tok _, rfl, q⟩
/-- the pairs of enumerate over the tuple at a -/
def Itu (K : PySem.W.Frag) (a : Addr) : It where
  go i H := ∃ (ys : List V) (y : V), SqT K H a ys ∧ ys[i]? = some y
  yld i H v H' := ∃ (p : Addr) (y : V), v = .ref p ∧ H p = Option.none ∧ H' = upd H p (.tup [.int (i : Nat), y]) ∧ ∀ ys, SqT K H a ys → ys[i]? = some y
  stop i H := ∃ ys : List V, SqT K H a ys ∧ ys.length = i
theorem turn_enumT {P : Program} {w : World} {K : PySem.W.Frag} {elts : List Expr} {kk : Nat} {tpos : Pos} (a en it : Addr) (na : a ≠ it) (ne : en ≠ it) (nea : en ≠ a) :
    Turn P w K (.Tuple elts kk tpos) (Itu K a) [en, it] en (fun i h => (∃ old, IsEnum h en it ((i : Nat) : Int) old) ∧ h.IsTupleIter it a i) where
  mem := List.mem_cons_self
  obj := by
    rintro i h ⟨⟨old, he⟩, ⟨o, ho, hc, hd⟩⟩ b hb
    rcases List.mem_cons.mp hb with rfl | hb
    · exact ⟨_, he, fun v z => nomatch z⟩
    · rw [List.mem_singleton.mp hb]
      exact ⟨o, ho, fun v z => by rw [hd] at z; cases z⟩
  keep := by
    rintro i h h' ⟨⟨old, he⟩, hi⟩ kp
    exact ⟨⟨old, kp en List.mem_cons_self _ he⟩, hi.at fun o z => kp it (List.mem_cons_of_mem _ List.mem_cons_self) o z⟩
  item := by
    intro X hP hw hK calm i pins sh σ H E I fp st hg
    subst hP hw hK
    obtain ⟨⟨old, he⟩, hit⟩ := st
    obtain ⟨ys, y, hy, hix⟩ := hg
    obtain ⟨its, rv, tp, _⟩ := I.tuple hy
    obtain ⟨u, hu, ru⟩ := rv.get hix
    have hT : sh.heap.IsTuple a its.toArray := tp
    have hlen : i < its.toArray.size := by
      rw [List.size_toArray]
      exact (List.getElem?_eq_some_iff.mp hu).1
    have len : en < sh.heap.objs.size := Heap.lt_size he
    have lit : it < sh.heap.objs.size := by
      obtain ⟨_, z, _⟩ := hit
      exact Heap.lt_size z
    refine wpAny_pyNext_enum_itemD (Draws.tuple (by simp [I.ok.hd calm]) it a na its.toArray) he ⟨hit, hT⟩ hlen ne (by simp [ne, nea]) fun x h' tk hx ho hst hnew hsz kp => ?_
    have ex : x = u := by
      rw [List.getElem?_toArray, hu] at hx
      exact (Option.some.inj hx).symm
    subst ex
    refine ⟨_, rfl, wpAny_letOwnedTupleGo_enum (s := { sh with heap := h', toks := tk + 1 }) ho fun h2 he2 sb => ?_⟩
    have new2 : h2.get? sh.heap.objs.size = some { cls := .type "tuple", data := .seq #[.int i tk, x] } := (sb.2 _ (Nat.ne_of_gt len)).trans hnew
    have okN : ObjOk X.prog X.w (upd H sh.heap.objs.size (.tup [.int (i : Nat), y])) h2 sh.heap.objs.size (.tup [.int (i : Nat), y]) := by
      refine ⟨(by show 2 ≤ sizeLine; decide), [.int i tk, x], .cons ⟨_, rfl⟩ (.cons ru .nil), ?_⟩
      exact ⟨_, new2, rfl, _, rfl⟩
    have I2 : Inv X pins σ (upd H sh.heap.objs.size (.tup [.int (i : Nat), y])) { sh with heap := h2, toks := tk + 1 } := by
      refine I.turnedNew (ch := [en, it]) (fun b ob hb z => ?_) fp (Nat.le_refl _) okN
      have b1 : b ≠ en := fun q => hb (by rw [q]; exact List.mem_cons_self)
      have b2 : b ≠ it := fun q => hb (by rw [q]; exact List.mem_cons_of_mem _ List.mem_cons_self)
      exact (sb.2 b b1).trans (kp b ob b1 b2 z)
    refine ⟨.ref sh.heap.objs.size, _, I2, rfl, ⟨_, y, rfl, I.hok.fresh (Nat.le_refl _), rfl, fun zs hz => ?_⟩, ⟨⟨x, ?_⟩, hst.1.at fun o z => (sb.2 it (Ne.symm ne)).trans z⟩, fun b hb => ?_⟩
    · rw [I.tuple_inj hz hy]
      exact hix
    · have e1 : ((i + 1 : Nat) : Int) = (i : Int) + 1 := by omega
      rw [e1]
      exact he2
    · have lb : b < sh.heap.objs.size := by
        rcases List.mem_cons.mp hb with rfl | hb
        · exact len
        · rw [List.mem_singleton.mp hb]
          exact lit
      rw [upd_ne (Nat.ne_of_lt lb)]
      exact (fp b hb).1
  done := by
    intro X hP hw hK calm i pins sh σ H E I fp st hg
    subst hP hw hK
    obtain ⟨⟨old, he⟩, hit⟩ := st
    obtain ⟨ys, hy, rfl⟩ := hg
    obtain ⟨its, rv, tp, _⟩ := I.tuple hy
    have hT : sh.heap.IsTuple a its.toArray := tp
    have e : ys.length = its.toArray.size := by
      rw [List.size_toArray]
      exact rv.length
    rw [e] at hit
    obtain ⟨g0, g1, g2, g3, g4, g5⟩ := fp it (List.mem_cons_of_mem _ List.mem_cons_self)
    exact wpAny_pyNext_enum_endD (Draws.tuple (by simp [I.ok.hd calm]) it a na its.toArray) he ⟨hit, hT⟩ fun h' eb => ⟨rfl, I.turned (t' := sh.toks) (fun b o hb z => eb b o hb z) g0 g1 g3 g4 g5⟩
  self := by
    rintro A i s Q E ⟨⟨_, he⟩, _⟩ h
    exact wpAny_pyIter_enum he h
theorem meets_enum1 {v : Value} {o : Obj} {Z : Heap → Prop} (B : Begins v o Z) :
    Meets (Builtin.«enumerate.__new__» ⟨[.type "enumerate", v], []⟩) (fun _ R s => Z s.heap ∧
      R (.ok (.ret (.ref (s.heap.push o).objs.size))) { s with heap := (s.heap.push o).push { cls := .type "enumerate", data := .fields #[.none, .bool false, .ref s.heap.objs.size, rawInt 0, .none, .none] } }) :=
  .of_wp fun prog w A R s hyp => by
    obtain ⟨hp, g, d, tk, os⟩ := s
    obtain ⟨hz, hyp⟩ := hyp
    have sube := sub_enumerate
    have step : ∀ {A' : Around} {E' : Value → Shared → Prop} {Q' : Value → Shared → Prop}, Q' (.ref hp.objs.size) ⟨hp.push o, g, d, tk, os⟩ → wpAny (model prog w) A' (pyIter v) Q' E' ⟨hp, g, d, tk, os⟩ :=
      fun z => B.iter prog w _ _ ⟨hp, g, d, tk, os⟩ _ hz z
    wp_walk using step
    refine wpAny_stack_any fun st => wpAny_pure ?_
    split
    · rename_i c _ _ _ _ _
      cases (c == Value.type "enumerate") <;> (wp_walk using step; exact ⟨_, rfl, hyp⟩)
    · wp_walk using step
      exact ⟨_, rfl, hyp⟩
theorem call_enum1 {prog : Program} {w : World} {A : Around} {E : Value → Shared → Prop} {s : Shared} {v : Value} {o : Obj} {Z : Heap → Prop} {Q : Value → Shared → Prop} (B : Begins v o Z) (hz : Z s.heap)
    (fin : ∀ h', IsEnum h' (s.heap.objs.size + 1) s.heap.objs.size 0 .none → h'.get? s.heap.objs.size = some o → (∀ b u, s.heap.get? b = some u → h'.get? b = some u) → Q (.ref (s.heap.objs.size + 1)) { s with heap := h' }) :
    wpAny (model prog w) A (call (.type "enumerate") [v]) Q E s := by
  have size1 : (s.heap.push o).objs.size = s.heap.objs.size + 1 := Heap.size_push ..
  refine callType_new F.called_enumerate (by decide) (F.typeCall_enumerate_1 _) (F.newCall_enumerate_1 _) (fun obj => F.args_object_init_2 obj _) F.entry_enumerate_new (meets_enum1 B) ⟨hz, ?_⟩
  rw [size1]
  have isE : IsEnum ((s.heap.push o).push { cls := .type "enumerate", data := .fields #[.none, .bool false, .ref s.heap.objs.size, rawInt 0, .none, .none] }) (s.heap.objs.size + 1) s.heap.objs.size 0 .none := by
    have z := Heap.get?_push_size (s.heap.push o) (o := { cls := .type "enumerate", data := .fields #[.none, .bool false, .ref s.heap.objs.size, rawInt 0, .none, .none] }) rfl
    rwa [size1] at z
  exact ⟨⟨_, isE, rfl⟩, fin _ isE (Heap.get?_push_of_some _ (Heap.get?_push_size _ B.free)) fun b u z => Heap.get?_push_of_some _ (Heap.get?_push_of_some _ z)⟩
def iEnumT (K : PySem.W.Frag) (ta : TA) : TI := fun σ H R => ta σ H fun vs H1 => ∃ (a : Addr) (ys : List V), vs = [.ref a] ∧ SqT K H1 a ys ∧ R (Itu K a) H1
theorem pi_enumT {X : Cx} {e : Expr} {ta : TA} {p pos tpos : Pos} {elts : List Expr} {kk : Nat} (gl : Gl X "enumerate") (no : X.mg "enumerate" = none) (pa : PA X [e] ta) (plain : starEach [e] X.env = [(false, eval e X.env)] := by rfl) :
    PI X (.Tuple elts kk tpos) (.Call (.Name "enumerate" p) [e] [] pos) (iEnumT X.K ta) := by
  constructor
  intro pins s σ H R I hyp
  refine PyProof.Rows.Call_ (ld_blt I gl no boot_enumerate (PyProof.Rows.callWith_type1 (thn (pa.run pos pins s σ H _ I hyp) fun us s1 got => ?_) plain rfl))
  obtain ⟨vs, H1, I1, rel, a, ys, rfl, hy, q⟩ := got
  rw [Vals.ref1 rel]
  obtain ⟨its, rv, tp, _⟩ := I1.tuple hy
  have hT : s1.heap.IsTuple a its.toArray := tp
  have la : a < s1.heap.objs.size := by
    obtain ⟨_, z, _⟩ := hT
    exact Heap.lt_size z
  refine call_enum1 (begins_tuple a its.toArray) hT fun h' isE hit kp => wpAny_pyIter_enum isE ?_
  have I2 : Inv X pins σ H1 { s1 with heap := h' } := I1.kept (t' := s1.toks) kp
  refine ⟨s1.heap.objs.size + 1, [s1.heap.objs.size + 1, s1.heap.objs.size], _, _, H1, rfl, I2, turn_enumT a (s1.heap.objs.size + 1) s1.heap.objs.size (Nat.ne_of_lt la) (Nat.succ_ne_self _) (Nat.ne_of_gt (Nat.lt_succ_of_lt la)), ⟨⟨.none, isE⟩, _, hit, rfl, rfl⟩, fun b hb => ?_, q⟩
  have le : s1.heap.objs.size ≤ b := by
    rcases List.mem_cons.mp hb with rfl | hb
    · exact Nat.le_succ _
    · rw [List.mem_singleton.mp hb]
      exact Nat.le_refl _
  exact I1.fpOk le (I1.hok.fresh le)
/-- the forms that one uses: a word by the turn -/
theorem for_enumT {K : PySem.W.Frag} {a : Addr} {ys : List V} {g : TG} {tb : TS} {D : Ends} {σ : L2.St} {H : Hp} (Pv : Nat → L2.St → Hp → Prop) (h0 : Pv 0 σ H) (src : ∀ i σ H, i ≤ ys.length → Pv i σ H → SqT K H a ys)
    (turn : ∀ i y σ H p, ys[i]? = some y → Pv i σ H → H p = Option.none → g (.ref p) σ (upd H p (.tup [.int (i : Nat), y])) fun σ2 H2 => tb { D with nx := Pv (i + 1), ct := Pv (i + 1), bk := D.nx } σ2 H2) (fin : ∀ σ H, Pv ys.length σ H → D.nx σ H) :
    ∃ W : Nat → Nat → L2.St → Hp → Prop, (∃ m, W 0 m σ H) ∧ ∀ i m σ H, W i m σ H →
      ((Itu K a).stop i H ∧ D.nx σ H) ∨ ((Itu K a).go i H ∧ ∃ N : L2.St → Hp → Prop, (∀ σ' H', N σ' H' → ∃ m', m' < m ∧ W (i + 1) m' σ' H') ∧ ∀ x H', (Itu K a).yld i H x H' → g x σ H' fun σ2 H2 => tb { D with nx := N, ct := N, bk := D.nx } σ2 H2) := by
  refine ⟨fun i m σ H => m + i = ys.length ∧ Pv i σ H, ⟨ys.length, Nat.add_zero _, h0⟩, ?_⟩
  rintro i m σ H ⟨em, pv⟩
  have s := src i σ H (by omega) pv
  rcases Nat.lt_or_ge i ys.length with lt | ge
  · refine .inr ⟨⟨ys, ys[i], s, List.getElem?_eq_getElem lt⟩, Pv (i + 1), fun σ' H' z => ⟨m - 1, by omega, by omega, z⟩, ?_⟩
    rintro x H' ⟨p, y, rfl, hp, rfl, hy⟩
    exact turn i y σ H p (hy ys s) pv hp
  · have e : i = ys.length := by omega
    subst e
    exact .inl ⟨⟨ys, s, rfl⟩, fin σ H pv⟩
theorem lc_enumT {K : PySem.W.Frag} {a : Addr} {ys : List V} {g : TG} {tt : TT} {te : TE} {vs : List Nat} {σ : L2.St} {H1 : Hp} {D : Addr} {Qd : Hp → Prop} (Pv : Nat → Hp → Prop) (h0 : Pv 0 (upd H1 D (.lst []))) (src : ∀ i H, i ≤ ys.length → Pv i H → SqT K H a ys)
    (turn : ∀ i y H p, ys[i]? = some y → Pv i H → H p = Option.none → g (.ref p) (wipe σ vs) (upd H p (.tup [.int (i : Nat), y])) fun σ2 H2 => wipe σ2 vs = wipe σ vs ∧ tt σ2 H2 fun b H3 =>
      if b = true then te σ2 H3 fun y H4 => ∃ acc, H4 D = some (.lst acc) ∧ acc.length < sizeLine ∧ Pv (i + 1) (upd H4 D (.lst (acc ++ [y]))) else Pv (i + 1) H3) (fin : ∀ H, Pv ys.length H → Qd H) :
    ∃ W : Nat → Nat → Hp → Prop, (∃ m, W 0 m (upd H1 D (.lst []))) ∧ ∀ i m H, W i m H →
      ((Itu K a).stop i H ∧ Qd H) ∨ ((Itu K a).go i H ∧ ∃ Nx : Hp → Prop, (∀ H', Nx H' → ∃ m', m' < m ∧ W (i + 1) m' H') ∧ ∀ x H', (Itu K a).yld i H x H' → g x (wipe σ vs) H' fun σ2 H2 => wipe σ2 vs = wipe σ vs ∧ tt σ2 H2 fun b H3 =>
        if b = true then te σ2 H3 fun y H4 => ∃ acc, H4 D = some (.lst acc) ∧ acc.length < sizeLine ∧ Nx (upd H4 D (.lst (acc ++ [y]))) else Nx H3) := by
  refine ⟨fun i m H => m + i = ys.length ∧ Pv i H, ⟨ys.length, Nat.add_zero _, h0⟩, ?_⟩
  rintro i m H ⟨em, pv⟩
  have s := src i H (by omega) pv
  rcases Nat.lt_or_ge i ys.length with lt | ge
  · refine .inr ⟨⟨ys, ys[i], s, List.getElem?_eq_getElem lt⟩, Pv (i + 1), fun H' z => ⟨m - 1, by omega, by omega, z⟩, ?_⟩
    rintro x H' ⟨p, y, rfl, hp, rfl, hy⟩
    exact turn i y H p (hy ys s) pv hp
  · have e : i = ys.length := by omega
    subst e
    exact .inl ⟨⟨ys, s, rfl⟩, fin H pv⟩
/-- sum(t), t a tuple of ints -/
def rSumT (K : PySem.W.Frag) : List V → Hp → VK → Prop := fun vs H Q => ∃ (a : Addr) (zs : List Int), vs = [V.ref a] ∧ SqT K H a (zs.map V.int) ∧ Q (.int zs.sum) H
theorem cr_sumT {X : Cx} (calm : X.calm = true) : CallR X (.builtin "sum") (rSumT X.K) := by
  intro pins sh σ H vs us Q I rel hyp
  obtain ⟨a, zs, rfl, hz, q⟩ := hyp
  rw [Vals.ref1 rel]
  obtain ⟨its, rv, tp, _⟩ := I.tuple hz
  have hT : sh.heap.IsTuple a its.toArray := tp
  have isI : IntsAre its zs := Vals.ints rv
  obtain ⟨xs, ex⟩ := isI.allInts.items
  have en : numsOf (intItems xs).toList = zs := by
    rw [← ex]
    exact isI.numsOf
  rw [nums_intItems] at en
  rw [ex] at hT
  refine PySem.W.ktm_sumG (I.ok.hd calm) hT fun h' tk t' kp => ?_
  rw [preSum_eq, List.take_of_length_le (by simp), en]
  exact ⟨.int zs.sum, H, I.kept kp, ⟨_, rfl⟩, q⟩
/-- enumerate over a list, by a word -/
theorem for_enumL {K : PySem.W.Frag} {a : Addr} {ys : List V} {g : TG} {tb : TS} {D : Ends} {σ : L2.St} {H : Hp} (Pv : Nat → L2.St → Hp → Prop) (h0 : Pv 0 σ H) (src : ∀ i σ H, i ≤ ys.length → Pv i σ H → SqL K H a ys)
    (turn : ∀ i y σ H p, ys[i]? = some y → Pv i σ H → H p = Option.none → g (.ref p) σ (upd H p (.tup [.int (i : Nat), y])) fun σ2 H2 => tb { D with nx := Pv (i + 1), ct := Pv (i + 1), bk := D.nx } σ2 H2) (fin : ∀ σ H, Pv ys.length σ H → D.nx σ H) :
    ∃ W : Nat → Nat → L2.St → Hp → Prop, (∃ m, W 0 m σ H) ∧ ∀ i m σ H, W i m σ H →
      ((Ite K a).stop i H ∧ D.nx σ H) ∨ ((Ite K a).go i H ∧ ∃ N : L2.St → Hp → Prop, (∀ σ' H', N σ' H' → ∃ m', m' < m ∧ W (i + 1) m' σ' H') ∧ ∀ x H', (Ite K a).yld i H x H' → g x σ H' fun σ2 H2 => tb { D with nx := N, ct := N, bk := D.nx } σ2 H2) := by
  refine ⟨fun i m σ H => m + i = ys.length ∧ Pv i σ H, ⟨ys.length, Nat.add_zero _, h0⟩, ?_⟩
  rintro i m σ H ⟨em, pv⟩
  have s := src i σ H (by omega) pv
  rcases Nat.lt_or_ge i ys.length with lt | ge
  · refine .inr ⟨⟨ys, ys[i], s, List.getElem?_eq_getElem lt⟩, Pv (i + 1), fun σ' H' z => ⟨m - 1, by omega, by omega, z⟩, ?_⟩
    rintro x H' ⟨p, y, rfl, hp, rfl, hy⟩
    exact turn i y σ H p (hy ys s) pv hp
  · have e : i = ys.length := by omega
    subst e
    exact .inl ⟨⟨ys, s, Nat.le_refl _⟩, fin σ H pv⟩
/-- k in xs, xs a list of ints -/
theorem inV_ints (zs : List Int) (k : Int) : inV (V.int k) (zs.map V.int) = decide (k ∈ zs) := by
  induction zs with
  | nil => rfl
  | cons a r ih =>
    have e : inV (V.int k) ((a :: r).map V.int) = (eqV (V.int a) (V.int k) || inV (V.int k) (r.map V.int)) := rfl
    rw [e, ih]
    by_cases h : a = k
    · subst h
      simp [eqV]
    · have h' : ¬ k = a := fun z => h z.symm
      simp [eqV, h, h']
theorem flat_ints (zs : List Int) : (zs.map V.int).all flatV = true := by
  rw [List.all_eq_true]
  intro x hx
  obtain ⟨z, _, rfl⟩ := List.mem_map.mp hx
  rfl
end

/-! ### the mathematics of weights -/
/-- the weights at the places below n that f lists, in order -/
def pick (ws : List Int) (f : Int → Bool) : Nat → List Int
  | 0 => []
  | n + 1 => if f (n : Int) then pick ws f n ++ [ws.getD n 0] else pick ws f n
def wt (ws : List Int) (f : Int → Bool) (n : Nat) : Int := (pick ws f n).sum
theorem wt_succ (ws : List Int) (f : Int → Bool) (n : Nat) : wt ws f (n + 1) = wt ws f n + (if f (n : Int) then ws.getD n 0 else 0) := by
  unfold wt
  rw [pick]
  split
  · rw [List.sum_append, List.sum_cons, List.sum_nil, Int.add_zero]
  · rw [Int.add_zero]
theorem pick_len (ws : List Int) (f : Int → Bool) : ∀ n, (pick ws f n).length ≤ n
  | 0 => Nat.le_refl _
  | n + 1 => by
    have ih := pick_len ws f n
    rw [pick]
    split
    · rw [List.length_append, List.length_singleton]
      omega
    · omega
theorem wt_congr (ws : List Int) (f g : Int → Bool) : ∀ n, (∀ k : Nat, k < n → f k = g k) → wt ws f n = wt ws g n
  | 0, _ => rfl
  | n + 1, h => by
    rw [wt_succ, wt_succ, wt_congr ws f g n fun k hk => h k (Nat.lt_succ_of_lt hk), h n (Nat.lt_succ_self n)]
theorem wt_take (ws : List Int) : ∀ n, n ≤ ws.length → wt ws (fun _ => true) n = (ws.take n).sum
  | 0, _ => by simp [wt, pick]
  | n + 1, h => by
    have hn : n < ws.length := h
    rw [wt_succ, wt_take ws n (Nat.le_of_lt hn), if_pos rfl, sum_take (List.getElem?_eq_getElem hn), List.getD_eq_getElem?_getD, List.getElem?_eq_getElem hn]
    rfl
theorem wt_all (ws : List Int) : wt ws (fun _ => true) ws.length = ws.sum := by
  rw [wt_take ws _ (Nat.le_refl _), List.take_length]
theorem wt_not (ws : List Int) (f : Int → Bool) : ∀ n, wt ws f n + wt ws (fun k => !f k) n = wt ws (fun _ => true) n
  | 0 => rfl
  | n + 1 => by
    have ih := wt_not ws f n
    rw [wt_succ, wt_succ, wt_succ, if_pos rfl]
    cases f (n : Int)
    · simp
      omega
    · simp
      omega
theorem wt_both (ws : List Int) (f g : Int → Bool) (pos : ∀ k : Nat, 0 ≤ ws.getD k 0) : ∀ n, wt ws f n + wt ws g n ≤ wt ws (fun k => f k && g k) n + wt ws (fun _ => true) n
  | 0 => Int.le_refl _
  | n + 1 => by
    have ih := wt_both ws f g pos n
    have p := pos n
    rw [wt_succ, wt_succ, wt_succ, wt_succ, if_pos rfl]
    cases f (n : Int) <;> cases g (n : Int) <;> simp only [Bool.and_self, Bool.and_true, Bool.and_false, Bool.true_and, Bool.false_and, if_true, Bool.false_eq_true, if_false] <;> omega
/-- the weight of some listed members -/
def wOf (ws ms : List Int) : Int := wt ws (fun k => decide (k ∈ ms)) ws.length
/-- the places below n that f lists -/
def sel (f : Int → Bool) : Nat → List Int
  | 0 => []
  | n + 1 => if f (n : Int) then sel f n ++ [(n : Int)] else sel f n
theorem sel_len (f : Int → Bool) : ∀ n, (sel f n).length ≤ n
  | 0 => Nat.le_refl _
  | n + 1 => by
    have ih := sel_len f n
    rw [sel]
    split
    · rw [List.length_append, List.length_singleton]
      omega
    · omega
theorem mem_sel (f : Int → Bool) (k : Nat) : ∀ n, (k : Int) ∈ sel f n ↔ k < n ∧ f k = true
  | 0 => by simp [sel]
  | n + 1 => by
    have ih := mem_sel f k n
    rw [sel]
    split
    · rename_i h
      rw [List.mem_append, ih, List.mem_singleton]
      constructor
      · rintro (⟨h1, h2⟩ | h1)
        · exact ⟨by omega, h2⟩
        · have e : k = n := by omega
          subst e
          exact ⟨Nat.lt_succ_self _, h⟩
      · rintro ⟨h1, h2⟩
        rcases Nat.lt_or_ge k n with h3 | h3
        · exact .inl ⟨h3, h2⟩
        · exact .inr (by omega)
    · rename_i h
      rw [ih]
      constructor
      · rintro ⟨h1, h2⟩
        exact ⟨by omega, h2⟩
      · rintro ⟨h1, h2⟩
        refine ⟨?_, h2⟩
        rcases Nat.lt_or_ge k n with h3 | h3
        · exact h3
        · have e : k = n := by omega
          subst e
          exact absurd h2 h
/-- who is not listed weighs what is left -/
theorem wOf_rest (ws ms : List Int) : wOf ws ms + wOf ws (sel (fun k => !decide (k ∈ ms)) ws.length) = ws.sum := by
  unfold wOf
  rw [wt_congr ws (fun k => decide (k ∈ sel (fun k => !decide (k ∈ ms)) ws.length)) (fun k => !decide (k ∈ ms)) ws.length fun k hk => ?_]
  · rw [wt_not, wt_all]
  · rw [Bool.eq_iff_iff, decide_eq_true_iff, mem_sel]
    exact ⟨fun z => z.2, fun z => ⟨hk, z⟩⟩
theorem wOf_common (ws ms ns : List Int) (pos : ∀ k : Nat, 0 ≤ ws.getD k 0) : wOf ws ms + wOf ws ns ≤ wOf ws (ms.filter fun k => decide (k ∈ ns)) + ws.sum := by
  unfold wOf
  have h := wt_both ws (fun k => decide (k ∈ ms)) (fun k => decide (k ∈ ns)) pos ws.length
  rw [wt_all] at h
  rw [wt_congr ws (fun k => decide (k ∈ ms.filter fun k => decide (k ∈ ns))) (fun k => decide (k ∈ ms) && decide (k ∈ ns)) ws.length fun k _ => ?_]
  · exact h
  · rw [Bool.eq_iff_iff]
    simp [List.mem_filter]

/-! ### a committee as it stands -/
theorem ne_ws : ¬ (("weights" : Str) = "size") := by decide +kernel
theorem ne_wt : ¬ (("weights" : Str) = "total") := by decide +kernel
theorem ne_st : ¬ (("size" : Str) = "total") := by decide +kernel
def cfs (t : Addr) (ws : List Int) : List (Str × V) := putF "total" (.int ws.sum) (putF "size" (.int ws.length) (putF "weights" (.ref t) []))
theorem cfs_w (t : Addr) (ws : List Int) : (cfs t ws).lookup ("weights" : Str) = some (.ref t) := by
  unfold cfs
  rw [lookup_putF, if_neg ne_wt, lookup_putF, if_neg ne_ws, lookup_putF, if_pos rfl]
theorem cfs_s (t : Addr) (ws : List Int) : (cfs t ws).lookup ("size" : Str) = some (.int ws.length) := by
  unfold cfs
  rw [lookup_putF, if_neg ne_st, lookup_putF, if_pos rfl]
theorem cfs_t (t : Addr) (ws : List Int) : (cfs t ws).lookup ("total" : Str) = some (.int ws.sum) := by
  unfold cfs
  rw [lookup_putF, if_pos rfl]
theorem cfs_no (t : Addr) (ws : List Int) {m : Str} (h1 : ¬ m = "weights") (h2 : ¬ m = "size") (h3 : ¬ m = "total") : (cfs t ws).lookup m = none := by
  unfold cfs
  rw [lookup_putF, if_neg h3, lookup_putF, if_neg h2, lookup_putF, if_neg h1]
  all_goals rfl
def CommAt (C : Addr) (H : Hp) (p : Addr) (ws : List Int) : Prop := ∃ dx t, H p = some (.ins C dx (cfs t ws)) ∧ H t = some (.tup (ws.map V.int))
theorem CommAt.same {C : Addr} {H H' : Hp} {p : Addr} {ws : List Int} (h : CommAt C H p ws) (s : Same H H') : CommAt C H' p ws := by
  obtain ⟨dx, t, h1, h2⟩ := h
  exact ⟨dx, t, s _ _ h1, s _ _ h2⟩
/-- weights that a committee takes -/
def GoodW (ws : List Int) : Prop := 0 < ws.length ∧ ws.length ≤ 16 ∧ ∀ w ∈ ws, 1 ≤ w ∧ w ≤ 1000000000000

/-! ### the data: a statement as the tuple that it is -/
inductive Kd where
  | prop | pre | com
  deriving DecidableEq
def Kd.s : Kd → Str
  | .prop => "proposal"
  | .pre => "prevote"
  | .com => "precommit"
structure Sm where
  k : Kd
  h : Int
  t : Int
  b : Option Str
  l : Option Int
def oS : Option Str → V
  | none => .non
  | some x => .str x
def oI : Option Int → V
  | none => .non
  | some x => .int x
def Sm.vals (m : Sm) : List V := match m.k with
  | .pre => [.str m.k.s, .int m.h, .int m.t, oS m.b, oI m.l]
  | _ => [.str m.k.s, .int m.h, .int m.t, oS m.b]
def SmAt (H : Hp) (p : Addr) (m : Sm) : Prop := H p = some (.tup m.vals)
theorem at0 (m : Sm) : atI m.vals 0 = some (.str m.k.s) := by
  cases m with | mk k h t b l => cases k <;> rfl
theorem at1 (m : Sm) : atI m.vals 1 = some (.int m.h) := by
  cases m with | mk k h t b l => cases k <;> rfl
theorem at2 (m : Sm) : atI m.vals 2 = some (.int m.t) := by
  cases m with | mk k h t b l => cases k <;> rfl
theorem at3 (m : Sm) : atI m.vals 3 = some (oS m.b) := by
  cases m with | mk k h t b l => cases k <;> rfl
theorem at4 (m : Sm) (e : m.k = .pre) : atI m.vals 4 = some (oI m.l) := by
  cases m with | mk k h t b l => cases k <;> first | rfl | cases e
theorem ks_pp : ¬ (("proposal" : Str) = "prevote") := by decide +kernel
theorem ks_pc : ¬ (("proposal" : Str) = "precommit") := by decide +kernel
theorem ks_vc : ¬ (("prevote" : Str) = "precommit") := by decide +kernel
theorem ks_vp : ¬ (("prevote" : Str) = "proposal") := fun e => ks_pp e.symm
theorem ks_cp : ¬ (("precommit" : Str) = "proposal") := fun e => ks_pc e.symm
theorem ks_cv : ¬ (("precommit" : Str) = "prevote") := fun e => ks_vc e.symm
theorem kd_inj (a b : Kd) : a.s = b.s ↔ a = b := by
  cases a <;> cases b <;> simp [Kd.s, ks_pp, ks_pc, ks_vc, ks_vp, ks_cp, ks_cv]
theorem dec_kd (a b : Kd) : decide (V.str a.s = V.str b.s) = decide (a = b) := by
  rw [Bool.eq_iff_iff, decide_eq_true_iff, decide_eq_true_iff]
  constructor
  · intro e
    injection e with e
    exact (kd_inj a b).mp e
  · intro e
    rw [e]
theorem kprop (a : Kd) : (V.str a.s = V.str "proposal") = (a = .prop) := propext (by simpa [Kd.s] using decide_eq_decide.mp (dec_kd a .prop))
theorem kpre (a : Kd) : (V.str a.s = V.str "prevote") = (a = .pre) := propext (by simpa [Kd.s] using decide_eq_decide.mp (dec_kd a .pre))
theorem kcom (a : Kd) : (V.str a.s = V.str "precommit") = (a = .com) := propext (by simpa [Kd.s] using decide_eq_decide.mp (dec_kd a .com))
theorem koS (a b : Option Str) : (oS a = oS b) = (a = b) := propext (by
  cases a <;> cases b <;> simp [oS])
theorem koSn (a : Option Str) : (oS a = V.non) = (a = none) := koS a none
theorem koIn (a : Option Int) : (oI a = V.non) = (a = none) := by cases a <;> simp [oI]
theorem dec_oS (a b : Option Str) : decide (oS a = oS b) = decide (a = b) := by
  rw [Bool.eq_iff_iff, decide_eq_true_iff, decide_eq_true_iff]
  constructor
  · intro e
    cases a <;> cases b <;> first | rfl | cases e
    rfl
  · intro e
    rw [e]
theorem dec_oSn (a : Option Str) : decide (oS a = V.non) = decide (a = none) := dec_oS a none
theorem dec_oIn (a : Option Int) : decide (oI a = V.non) = decide (a = none) := by
  cases a <;> rfl
theorem scal_oS (a b : Option Str) : scal (oS a) (oS b) = true := by
  cases a <;> cases b <;> rfl
/-! ### the mirror -/
def abandM (x y : Sm) : Bool :=
  if x.k = .com ∧ y.k = .pre ∧ x.b ≠ none ∧ y.b ≠ none ∧ x.b ≠ y.b ∧ x.t < y.t then (match y.l with | none => true | some l => decide (l < x.t)) else false
def clashM (x y : Sm) : Bool :=
  if x.h ≠ y.h then false
  else if x.k = y.k then (decide (x.k ≠ .prop) && (decide (x.t = y.t) && decide (x.b ≠ y.b)))
  else (abandM x y || abandM y x)
theorem clashM_comm (x y : Sm) : clashM x y = clashM y x := by
  unfold clashM
  by_cases h1 : x.h = y.h
  · by_cases h2 : x.k = y.k
    · simp only [h1, h2, ne_eq, not_true_eq_false, if_false, if_true]
      congr 1
      congr 1
      · exact decide_eq_decide.mpr ⟨Eq.symm, Eq.symm⟩
      · exact decide_eq_decide.mpr ⟨Ne.symm, Ne.symm⟩
    · have h3 : ¬ y.k = x.k := fun e => h2 e.symm
      simp only [h1, h2, h3, ne_eq, not_true_eq_false, if_false, Bool.or_comm]
  · have h3 : ¬ y.h = x.h := fun e => h1 e.symm
    simp only [h1, h3, ne_eq, not_false_eq_true, if_true]
def OkS (b : Option Str) : Prop := ∀ x, b = some x → PyData.strOk x = true
theorem okA : OkS (some "a") := fun x e => by
  cases e
  decide +kernel
theorem okB : OkS (some "b") := fun x e => by
  cases e
  decide +kernel
theorem okN : OkS none := fun x e => nomatch e
theorem pick5 {i : Int} (h0 : 0 ≤ i) (h5 : i < 5) : ∃ b : Option Str, atI [V.str "a", V.str "b", V.str "a", V.str "b", V.non] i = some (oS b) ∧ OkS b := by
  have h : i = 0 ∨ i = 1 ∨ i = 2 ∨ i = 3 ∨ i = 4 := by omega
  rcases h with rfl | rfl | rfl | rfl | rfl
  · exact ⟨some "a", rfl, okA⟩
  · exact ⟨some "b", rfl, okB⟩
  · exact ⟨some "a", rfl, okA⟩
  · exact ⟨some "b", rfl, okB⟩
  · exact ⟨none, rfl, okN⟩
def Sm.dat (m : Sm) : List PyData := match m.k with
  | .pre => [.str m.k.s, .int m.h, .int m.t, (match m.b with | none => .none | some x => .str x), (match m.l with | none => .none | some x => .int x)]
  | _ => [.str m.k.s, .int m.h, .int m.t, (match m.b with | none => .none | some x => .str x)]
theorem dp_oS {K : PySem.W.Frag} {H : Hp} (b : Option Str) : Dp K H (oS b) (match b with | none => .none | some x => .str x) := by
  cases b with
  | none => exact .non
  | some x => exact .str x
theorem dp_oI {K : PySem.W.Frag} {H : Hp} (b : Option Int) : Dp K H (oI b) (match b with | none => .none | some x => .int x) := by
  cases b with
  | none => exact .non
  | some x => exact .int x
theorem dp_sm {K : PySem.W.Frag} {H : Hp} {p : Addr} {m : Sm} (h : H p = some (.tup m.vals)) : Dp K H (.ref p) (.tuple m.dat) := by
  refine .tup (SqT.of h) ?_
  obtain ⟨mk, mh, mt, mb, ml⟩ := m
  cases mk
  · exact .cons (.str _) (.cons (.int _) (.cons (.int _) (.cons (dp_oS _) .nil)))
  · exact .cons (.str _) (.cons (.int _) (.cons (.int _) (.cons (dp_oS _) (.cons (dp_oI _) .nil))))
  · exact .cons (.str _) (.cons (.int _) (.cons (.int _) (.cons (dp_oS _) .nil)))
theorem ks_ok (k : Kd) : PyData.strOk k.s = true := by
  cases k <;> decide +kernel
theorem shaped_sm (m : Sm) (o : OkS m.b) : SeqAt.shaped (.tuple m.dat) = true := by
  obtain ⟨mk, mh, mt, mb, ml⟩ := m
  cases mk <;> cases mb <;> cases ml <;> simp [Sm.dat, SeqAt.shaped, PyData.canLay0, PyData.canLayAll0, PyData.depth, PyData.depthAll, ks_ok] <;> exact o _ rfl
theorem eqv_sm (m : Sm) (o : OkS m.b) : PyData.eqv (.tuple m.dat) (.tuple m.dat) = true := SeqAt.eqv_refl _ (by
  obtain ⟨mk, mh, mt, mb, ml⟩ := m
  cases mk <;> cases mb <;> cases ml <;> simp [Sm.dat, PyData.canLay0, PyData.canLayAll0, ks_ok] <;> exact o _ rfl)
def spVote (K : PySem.W.Frag) : Sp := fun vs H Q _ => ∃ (p : Addr) (m : Sm), vs = [.ref p] ∧ SmAt H p m ∧ ∀ H', Same H H' → Q (.bl (decide (m.k ≠ .prop))) H'
def spAband (K : PySem.W.Frag) : Sp := fun vs H Q _ => ∃ (p q : Addr) (m n : Sm), vs = [.ref p, .ref q] ∧ SmAt H p m ∧ SmAt H q n ∧ ∀ H', Same H H' → Q (.bl (abandM m n)) H'
def spClash (K : PySem.W.Frag) : Sp := fun vs H Q _ => ∃ (p q : Addr) (m n : Sm), vs = [.ref p, .ref q] ∧ SmAt H p m ∧ SmAt H q n ∧ ∀ H', Same H H' → Q (.bl (clashM m n)) H'

/-! ### letters, lists of letters, what is due -/
structure Lt where
  w : Int
  m : Sm
instance : Inhabited Lt := ⟨⟨0, ⟨.prop, 0, 0, none, none⟩⟩⟩
def LtAt (H : Hp) (p : Addr) (x : Lt) : Prop := ∃ q, H p = some (.tup [.int x.w, .ref q]) ∧ SmAt H q x.m
theorem LtAt.same {H H' : Hp} {p : Addr} {x : Lt} (h : LtAt H p x) (s : Same H H') : LtAt H' p x := by
  obtain ⟨q, h1, h2⟩ := h
  exact ⟨q, s _ _ h1, s _ _ h2⟩
theorem ne_lst {H : Hp} {p l : Addr} {xs ys : List V} (h : H p = some (.tup xs)) (hl : H l = some (.lst ys)) : p ≠ l := fun e => by
  rw [e, hl] at h
  cases h
theorem LtAt.upd {H : Hp} {p l : Addr} {x : Lt} {ys : List V} {o : HO} (h : LtAt H p x) (hl : H l = some (.lst ys)) : LtAt (upd H l o) p x := by
  obtain ⟨q, h1, h2⟩ := h
  have h2' : H q = some (.tup x.m.vals) := h2
  refine ⟨q, ?_, ?_⟩
  · rw [upd_ne (ne_lst h1 hl)]
    exact h1
  · unfold SmAt
    rw [upd_ne (ne_lst h2' hl)]
    exact h2
def LsAt (H : Hp) (ps : List Addr) (xs : List Lt) : Prop := ps.length = xs.length ∧ ∀ i, i < xs.length → LtAt H (ps.getD i 0) (xs.getD i default)
theorem LsAt.nil {H : Hp} : LsAt H [] [] := ⟨rfl, fun i h => absurd h (Nat.not_lt_zero i)⟩
theorem LsAt.same {H H' : Hp} {ps : List Addr} {xs : List Lt} (h : LsAt H ps xs) (s : Same H H') : LsAt H' ps xs := ⟨h.1, fun i hi => (h.2 i hi).same s⟩
theorem LsAt.upd {H : Hp} {ps : List Addr} {xs : List Lt} {l : Addr} {ys : List V} {o : HO} (h : LsAt H ps xs) (hl : H l = some (.lst ys)) : LsAt (upd H l o) ps xs := ⟨h.1, fun i hi => (h.2 i hi).upd hl⟩
theorem getD_left {α : Type} {d : α} {xs ys : List α} {i : Nat} (h : i < xs.length) : (xs ++ ys).getD i d = xs.getD i d := by
  rw [List.getD_eq_getElem?_getD, List.getD_eq_getElem?_getD, List.getElem?_append_left h]
theorem getD_last {α : Type} {d : α} {xs : List α} {x : α} : (xs ++ [x]).getD xs.length d = x := by
  rw [List.getD_eq_getElem?_getD, List.getElem?_append_right (Nat.le_refl _), Nat.sub_self]
  rfl
theorem LsAt.snoc {H : Hp} {ps : List Addr} {xs : List Lt} {p : Addr} {x : Lt} (h : LsAt H ps xs) (e : LtAt H p x) : LsAt H (ps ++ [p]) (xs ++ [x]) := by
  refine ⟨by rw [List.length_append, List.length_append, h.1]; rfl, fun i hi => ?_⟩
  rw [List.length_append, List.length_singleton] at hi
  rcases Nat.lt_or_ge i xs.length with z | z
  · rw [getD_left (by rw [h.1]; exact z), getD_left z]
    exact h.2 i z
  · have ei : i = xs.length := by omega
    subst ei
    rw [getD_last]
    have : (ps ++ [p]).getD xs.length 0 = p := by rw [← h.1, getD_last]
    rw [this]
    exact e
theorem at_refs {ps : List Addr} {i : Nat} (h : i < ps.length) : (ps.map V.ref)[i]? = some (.ref (ps.getD i 0)) := by
  rw [List.getElem?_map, List.getD_eq_getElem?_getD, List.getElem?_eq_getElem h]
  rfl
def ownOf (xs : List Lt) (who : Int) : List Lt := xs.filter fun x => decide (x.w = who)
theorem take_succ_getD {α : Type} {d : α} {xs : List α} {i : Nat} (h : i < xs.length) : xs.take (i + 1) = xs.take i ++ [xs.getD i d] := by
  rw [List.take_add_one, List.getElem?_eq_getElem h, List.getD_eq_getElem?_getD, List.getElem?_eq_getElem h]
  rfl
theorem own_yes {xs : List Lt} {who : Int} {i : Nat} (h : i < xs.length) (e : (xs.getD i default).w = who) : ownOf (xs.take (i + 1)) who = ownOf (xs.take i) who ++ [xs.getD i default] := by
  unfold ownOf
  rw [take_succ_getD (d := default) h, List.filter_append, List.filter_cons_of_pos (by exact decide_eq_true e)]
  rfl
theorem own_no {xs : List Lt} {who : Int} {i : Nat} (h : i < xs.length) (e : ¬ (xs.getD i default).w = who) : ownOf (xs.take (i + 1)) who = ownOf (xs.take i) who := by
  unfold ownOf
  rw [take_succ_getD (d := default) h, List.filter_append, List.filter_cons_of_neg (by simpa using e), List.filter_nil, List.append_nil]
theorem own_len (xs : List Lt) (who : Int) : (ownOf xs who).length ≤ xs.length := List.length_filter_le _ _
theorem own_mem {xs : List Lt} {who : Int} {x : Lt} (h : x ∈ ownOf xs who) : x ∈ xs ∧ x.w = who := by
  unfold ownOf at h
  rw [List.mem_filter] at h
  exact ⟨h.1, of_decide_eq_true h.2⟩
theorem getD_mem2 {α : Type} {d : α} {xs : List α} {i : Nat} (h : i < xs.length) : xs.getD i d ∈ xs := by
  rw [List.getD_eq_getElem?_getD, List.getElem?_eq_getElem h]
  exact List.getElem_mem h
/-- the first letter before place n with which the one at place a clashes -/
def rowDue (own : List Lt) (a : Nat) : Nat → Option (Lt × Lt)
  | 0 => none
  | n + 1 => match rowDue own a n with
    | some r => some r
    | none => if clashM (own.getD n default).m (own.getD a default).m then some (own.getD n default, own.getD a default) else none
def colDue (own : List Lt) : Nat → Option (Lt × Lt)
  | 0 => none
  | n + 1 => match colDue own n with
    | some r => some r
    | none => rowDue own n n
def due (own : List Lt) : Option (Lt × Lt) := colDue own own.length
theorem row_mono {own : List Lt} {a i : Nat} {r : Lt × Lt} (h : rowDue own a i = some r) : ∀ d, rowDue own a (i + d) = some r
  | 0 => h
  | d + 1 => by
    show rowDue own a (i + d + 1) = some r
    rw [rowDue, row_mono h d]
theorem col_mono {own : List Lt} {i : Nat} {r : Lt × Lt} (h : colDue own i = some r) : ∀ d, colDue own (i + d) = some r
  | 0 => h
  | d + 1 => by
    show colDue own (i + d + 1) = some r
    rw [colDue, col_mono h d]
theorem row_no {own : List Lt} {a n : Nat} (h : rowDue own a n = none) (c : clashM (own.getD n default).m (own.getD a default).m = false) : rowDue own a (n + 1) = none := by
  rw [rowDue, h]
  show (if _ then _ else _) = _
  rw [c]
  rfl
theorem due_at {own : List Lt} {a n : Nat} (ha : a < own.length) (hn : n < a) (hc : colDue own a = none) (h : rowDue own a n = none) (c : clashM (own.getD n default).m (own.getD a default).m = true) :
    due own = some (own.getD n default, own.getD a default) := by
  have h1 : rowDue own a (n + 1) = some (own.getD n default, own.getD a default) := by
    rw [rowDue, h]
    show (if _ then _ else _) = _
    rw [c]
    rfl
  have h2 : rowDue own a a = some (own.getD n default, own.getD a default) := by
    have := row_mono h1 (a - (n + 1))
    rwa [Nat.add_sub_cancel' hn] at this
  have h3 : colDue own (a + 1) = some (own.getD n default, own.getD a default) := by
    rw [colDue, hc]
    exact h2
  have := col_mono h3 (own.length - (a + 1))
  rw [Nat.add_sub_cancel' ha] at this
  exact this
theorem col_no {own : List Lt} {a : Nat} (hc : colDue own a = none) (h : rowDue own a a = none) : colDue own (a + 1) = none := by
  rw [colDue, hc]
  exact h
theorem row_ok {own : List Lt} {a : Nat} (ha : a < own.length) : ∀ n, n ≤ own.length → ∀ f s, rowDue own a n = some (f, s) → f ∈ own ∧ s ∈ own ∧ clashM f.m s.m = true
  | 0, _, f, s, h => nomatch h
  | n + 1, hn, f, s, h => by
    rw [rowDue] at h
    split at h
    · rename_i r e
      cases h
      exact row_ok ha n (Nat.le_of_lt hn) f s e
    · split at h
      · rename_i c
        cases h
        exact ⟨getD_mem2 hn, getD_mem2 ha, c⟩
      · cases h
theorem col_ok {own : List Lt} : ∀ n, n ≤ own.length → ∀ f s, colDue own n = some (f, s) → f ∈ own ∧ s ∈ own ∧ clashM f.m s.m = true
  | 0, _, f, s, h => nomatch h
  | n + 1, hn, f, s, h => by
    rw [colDue] at h
    split at h
    · rename_i r e
      cases h
      exact col_ok n (Nat.le_of_lt hn) f s e
    · exact row_ok hn n (Nat.le_of_lt hn) f s h
theorem due_ok {own : List Lt} {f s : Lt} (h : due own = some (f, s)) : f ∈ own ∧ s ∈ own ∧ clashM f.m s.m = true := col_ok _ (Nat.le_refl _) f s h
def DueAt (H : Hp) (v : V) : Option (Lt × Lt) → Prop
  | none => v = .non
  | some r => ∃ p a b, v = .ref p ∧ H p = some (.tup [.ref a, .ref b]) ∧ LtAt H a r.1 ∧ LtAt H b r.2
def OkL (xs : List Lt) : Prop := ∀ x ∈ xs, OkS x.m.b
def Lt.dat (x : Lt) : PyData := .tuple [.int x.w, .tuple x.m.dat]
theorem dp_lt {K : PySem.W.Frag} {H : Hp} {p : Addr} {x : Lt} (h : LtAt H p x) : Dp K H (.ref p) x.dat := by
  obtain ⟨q, h1, h2⟩ := h
  exact .tup (SqT.of h1) (.cons (.int _) (.cons (dp_sm h2) .nil))
theorem lay_sm (m : Sm) (o : OkS m.b) : PyData.canLay0 (.tuple m.dat) = true := by
  have h := shaped_sm m o
  exact (Bool.and_eq_true_iff.mp h).1
theorem depth_sm (m : Sm) : PyData.depth (.tuple m.dat) = 1 := by
  obtain ⟨mk, mh, mt, mb, ml⟩ := m
  cases mk <;> cases mb <;> cases ml <;> simp [Sm.dat, PyData.depth, PyData.depthAll]
theorem lay_lt {x : Lt} (o : OkS x.m.b) : PyData.canLay0 x.dat = true := by
  simp only [Lt.dat, PyData.canLay0, PyData.canLayAll0, Bool.true_and, Bool.and_true]
  exact lay_sm x.m o
theorem depth_lt (x : Lt) : PyData.depth x.dat = 2 := by
  have h := depth_sm x.m
  simp only [Lt.dat, PyData.depth, PyData.depthAll] at h ⊢
  omega
theorem shaped_lt {x : Lt} (o : OkS x.m.b) : SeqAt.shaped x.dat = true := by
  unfold SeqAt.shaped
  rw [lay_lt o, depth_lt]
  rfl
theorem eqv_lt {x : Lt} (o : OkS x.m.b) : PyData.eqv x.dat x.dat = true := SeqAt.eqv_refl _ (lay_lt o)
theorem LsAt.cons {H : Hp} {p : Addr} {ps : List Addr} {x : Lt} {xs : List Lt} (h : LsAt H (p :: ps) (x :: xs)) : LtAt H p x ∧ LsAt H ps xs :=
  ⟨h.2 0 (Nat.succ_pos _), Nat.succ.inj h.1, fun i hi => h.2 (i + 1) (Nat.succ_lt_succ hi)⟩
theorem dp_lts {K : PySem.W.Frag} {H : Hp} : ∀ {ps : List Addr} {xs : List Lt}, LsAt H ps xs → DpAll K H (ps.map V.ref) (xs.map Lt.dat)
  | [], [], _ => .nil
  | p :: ps, x :: xs, h => .cons (dp_lt h.cons.1) (dp_lts h.cons.2)
  | [], x :: xs, h => nomatch h.1
  | p :: ps, [], h => nomatch h.1
theorem lay_lts : ∀ {xs : List Lt}, OkL xs → PyData.canLayAll0 (xs.map Lt.dat) = true
  | [], _ => by simp [PyData.canLayAll0]
  | x :: xs, o => by
    simp only [List.map_cons, PyData.canLayAll0]
    rw [lay_lt (o x List.mem_cons_self), lay_lts fun y hy => o y (List.mem_cons_of_mem _ hy)]
    rfl
theorem depth_lts : ∀ xs : List Lt, PyData.depthAll (xs.map Lt.dat) ≤ 2
  | [] => by simp [PyData.depthAll]
  | x :: xs => by
    have := depth_lts xs
    have := depth_lt x
    simp only [List.map_cons, PyData.depthAll]
    omega
theorem shaped_lts {xs : List Lt} (o : OkL xs) : SeqAt.shaped (.list (xs.map Lt.dat)) = true := by
  have h := depth_lts xs
  unfold SeqAt.shaped
  have e : PyData.depth (.list (xs.map Lt.dat)) = PyData.depthAll (xs.map Lt.dat) + 1 := by simp only [PyData.depth]
  have l : PyData.canLay0 (.list (xs.map Lt.dat)) = true := by simp only [PyData.canLay0, lay_lts o]
  rw [l, e, decide_eq_true (show PyData.depthAll (xs.map Lt.dat) + 1 ≤ 64 by omega)]
  rfl
theorem eqv_lts {xs : List Lt} (o : OkL xs) : PyData.eqv (.list (xs.map Lt.dat)) (.list (xs.map Lt.dat)) = true := SeqAt.eqv_refl _ (by
  simp only [PyData.canLay0, lay_lts o])

/-! ### certificates, turn by turn -/
def qrm (ws ms : List Int) : Bool := decide (2 * ws.sum < 3 * wOf ws ms)
def cnt (h t : Int) (b : Option Str) (L : List Int) (x : Lt) : Bool := decide (x.m.k = .pre ∧ x.m.h = h ∧ x.m.t = t ∧ x.m.b = b) && (match x.m.l with | none => true | some l => decide (l ∈ L) && decide (l < t))
def memM (xs : List Lt) (h t : Int) (b : Option Str) (L : List Int) : List Int := (xs.filter (cnt h t b L)).map Lt.w
/-- the turns below n with a certificate -/
def lns (ws : List Int) (xs : List Lt) (h : Int) (b : Option Str) : Nat → List Int
  | 0 => []
  | n + 1 => if qrm ws (memM xs h n b (lns ws xs h b n)) then lns ws xs h b n ++ [(n : Int)] else lns ws xs h b n
def certM (ws : List Int) (xs : List Lt) (h : Int) (b : Option Str) (n : Nat) : Bool := qrm ws (memM xs h n b (lns ws xs h b n))
def comS (xs : List Lt) (h t : Int) (b : Option Str) : List Int := (xs.filter fun x => decide (x.m.k = .com ∧ x.m.h = h ∧ x.m.t = t ∧ x.m.b = b)).map Lt.w
def commM (ws : List Int) (xs : List Lt) (h : Int) (b : Option Str) (n : Nat) : Bool := qrm ws (comS xs h n b) && certM ws xs h b n
theorem lns_len (ws : List Int) (xs : List Lt) (h : Int) (b : Option Str) : ∀ n, (lns ws xs h b n).length ≤ n
  | 0 => Nat.le_refl _
  | n + 1 => by
    have := lns_len ws xs h b n
    rw [lns]
    split
    · rw [List.length_append, List.length_singleton]
      omega
    · omega
theorem mem_yes {xs : List Lt} {h t : Int} {b : Option Str} {L : List Int} {i : Nat} (hi : i < xs.length) (c : cnt h t b L (xs.getD i default) = true) : memM (xs.take (i + 1)) h t b L = memM (xs.take i) h t b L ++ [(xs.getD i default).w] := by
  unfold memM
  rw [take_succ_getD (d := default) hi, List.filter_append, List.filter_cons_of_pos c, List.map_append]
  rfl
theorem mem_no {xs : List Lt} {h t : Int} {b : Option Str} {L : List Int} {i : Nat} (hi : i < xs.length) (c : cnt h t b L (xs.getD i default) = false) : memM (xs.take (i + 1)) h t b L = memM (xs.take i) h t b L := by
  unfold memM
  rw [take_succ_getD (d := default) hi, List.filter_append, List.filter_cons_of_neg (by rw [c]; exact Bool.false_ne_true), List.filter_nil, List.append_nil]
theorem mem_len (xs : List Lt) (h t : Int) (b : Option Str) (L : List Int) : (memM xs h t b L).length ≤ xs.length := by
  unfold memM
  rw [List.length_map]
  exact List.length_filter_le _ _
theorem com_yes {xs : List Lt} {h t : Int} {b : Option Str} {i : Nat} (hi : i < xs.length) (c : (xs.getD i default).m.k = .com ∧ (xs.getD i default).m.h = h ∧ (xs.getD i default).m.t = t ∧ (xs.getD i default).m.b = b) : comS (xs.take (i + 1)) h t b = comS (xs.take i) h t b ++ [(xs.getD i default).w] := by
  unfold comS
  rw [take_succ_getD (d := default) hi, List.filter_append, List.filter_cons_of_pos (by exact decide_eq_true c), List.map_append]
  rfl
theorem com_no {xs : List Lt} {h t : Int} {b : Option Str} {i : Nat} (hi : i < xs.length) (c : ¬ ((xs.getD i default).m.k = .com ∧ (xs.getD i default).m.h = h ∧ (xs.getD i default).m.t = t ∧ (xs.getD i default).m.b = b)) : comS (xs.take (i + 1)) h t b = comS (xs.take i) h t b := by
  unfold comS
  rw [take_succ_getD (d := default) hi, List.filter_append, List.filter_cons_of_neg (by rw [decide_eq_false c]; exact Bool.false_ne_true), List.filter_nil, List.append_nil]
theorem com_len (xs : List Lt) (h t : Int) (b : Option Str) : (comS xs h t b).length ≤ xs.length := by
  unfold comS
  rw [List.length_map]
  exact List.length_filter_le _ _
/-- a list of turns behind None -/
def lnV (L : List Int) : List V := .non :: L.map V.int
theorem flat_lnV (L : List Int) : (lnV L).all flatV = true := by
  unfold lnV
  rw [List.all_cons, flat_ints]
  rfl
theorem inV_lnV (l : Option Int) (L : List Int) : inV (oI l) (lnV L) = (match l with | none => true | some i => decide (i ∈ L)) := by
  cases l with
  | none => rfl
  | some i =>
    show (eqV .non (.int i) || inV (.int i) (L.map V.int)) = _
    rw [inV_ints]
    rfl
theorem cnt_f {h t : Int} {b : Option Str} {L : List Int} {x : Lt} (c : ¬ (x.m.k = .pre ∧ x.m.h = h ∧ x.m.t = t ∧ x.m.b = b)) : cnt h t b L x = false := by
  unfold cnt
  rw [decide_eq_false c]
  rfl
theorem cnt_t {h t : Int} {b : Option Str} {L : List Int} {x : Lt} (c : x.m.k = .pre ∧ x.m.h = h ∧ x.m.t = t ∧ x.m.b = b) : cnt h t b L x = (match x.m.l with | none => true | some l => decide (l ∈ L) && decide (l < t)) := by
  unfold cnt
  rw [decide_eq_true c]
  rfl
theorem flat_oI (l : Option Int) : flatV (oI l) = true := by
  cases l <;> rfl
theorem lnV_snoc (L : List Int) (i : Int) : lnV (L ++ [i]) = lnV L ++ [.int i] := by simp [lnV]
theorem lns_yes {ws : List Int} {xs : List Lt} {h : Int} {b : Option Str} {n : Nat} (c : certM ws xs h b n = true) : lns ws xs h b (n + 1) = lns ws xs h b n ++ [(n : Int)] := by
  rw [lns]
  exact if_pos c
theorem lns_no {ws : List Int} {xs : List Lt} {h : Int} {b : Option Str} {n : Nat} (c : ¬ certM ws xs h b n = true) : lns ws xs h b (n + 1) = lns ws xs h b n := by
  rw [lns]
  exact if_neg c
/-- == with a precommit -/
theorem eqv_com (m : Sm) (h t : Int) (b : Option Str) : PyData.eqv (.tuple m.dat) (.tuple (Sm.dat ⟨.com, h, t, b, none⟩)) = decide (m.k = .com ∧ m.h = h ∧ m.t = t ∧ m.b = b) := by
  obtain ⟨mk, mh, mt, mb, ml⟩ := m
  rw [Bool.eq_iff_iff, decide_eq_true_iff]
  have ks : ∀ x y : Kd, (x.s == y.s) = decide (x = y) := fun x y => by
    rw [Bool.eq_iff_iff, beq_iff_eq, decide_eq_true_iff]
    exact kd_inj x y
  have kp : (Kd.prop.s == Kd.com.s) = false := by
    rw [ks]
    decide
  have kv : (Kd.pre.s == Kd.com.s) = false := by
    rw [ks]
    decide
  cases mk
  · simp only [Sm.dat, PyData.eqv, PyData.eqvAll, kp, Bool.false_and, Bool.false_eq_true, false_iff, not_and]
    intro z
    cases z
  · simp only [Sm.dat, PyData.eqv, PyData.eqvAll, kv, Bool.false_and, Bool.false_eq_true, false_iff, not_and]
    intro z
    cases z
  · cases mb <;> cases b <;> simp [Sm.dat, PyData.eqv, PyData.eqvAll]

/-! ### x in a dict of the module, x a text -/
section
open PyProof.Rows
/-- b: whether the dict has the key -/
def KHas (K : PySem.W.Frag) (w : World) (a : Addr) (x : Str) (b : Bool) : Prop := ∃ es n r, K.lookup a = some ⟨.type "dict", none, .dict es n, #[]⟩ ∧ PySem.W.KeysLit w.params es.toList ∧ (a == sysModules) = false ∧ PySem.W.nsIn K a x = some r ∧ b = r.isSome
theorem op_inKd {X : Cx} : OpR X (compareOp .In) (fun x y H Q => ∃ p z b, x = .str z ∧ y = .ref p ∧ KHas X.K X.w p z b ∧ Q (.bl b) H) := by
  intro pins s σ H x y v u Q I rx ry h
  obtain ⟨p, z, b, rfl, rfl, ⟨es, n, r, hl, hk, low, e, rfl⟩, q⟩ := h
  obtain ⟨t, rfl⟩ := rx
  obtain rfl : u = Value.ref p := ry
  refine wpAny_in_of (strKind_is X.prog X.w z t) low (PySem.W.mapOf_K (prog := X.prog) (w := X.w) I.kIn hl hk) ?_
  rw [PySem.W.find_K hl e]
  exact ⟨.bl _, H, I.tok _, rfl, q⟩
theorem op_notInKd {X : Cx} : OpR X (compareOp .NotIn) (fun x y H Q => ∃ p z b, x = .str z ∧ y = .ref p ∧ KHas X.K X.w p z b ∧ Q (.bl (!b)) H) := by
  intro pins s σ H x y v u Q I rx ry h
  obtain ⟨p, z, b, rfl, rfl, ⟨es, n, r, hl, hk, low, e, rfl⟩, q⟩ := h
  obtain ⟨t, rfl⟩ := rx
  obtain rfl : u = Value.ref p := ry
  refine wpAny_notIn_of (strKind_is X.prog X.w z t) low (PySem.W.mapOf_K (prog := X.prog) (w := X.w) I.kIn hl hk) ?_
  rw [PySem.W.find_K hl e]
  exact ⟨.bl _, H, I.tok _, rfl, q⟩
end
section
open PyProof.Rows
theorem nsIn_dict {K : PySem.W.Frag} {P : Params} {a : Addr} {es : Array DictEntry} {n : Nat} (hl : K.lookup a = some ⟨.type "dict", none, .dict es n, #[]⟩) (hk : PySem.W.KeysLit P es.toList) (x : Str) :
    PySem.W.nsIn K a x = some ((es.toList.find? fun d => d.key.isStr x).map (·.val)) := by
  unfold PySem.W.nsIn
  rw [hl]
  cases e : es.toList.find? fun d => d.key.isStr x with
  | some d => simp [e]
  | none =>
    have nr : (es.toList.any fun d => d.refKey) = false := by
      rw [List.any_eq_false]
      intro d hd
      obtain ⟨y, t, e1, _⟩ := hk.all d hd
      unfold DictEntry.refKey
      rw [e1]
      simp
    simp [e, nr]
/-- a dict of the module: its keys, texts, and what stands there -/
structure KTab (K : PySem.W.Frag) (w : World) (a : Addr) (kvs : List (Str × Addr)) : Prop where
  at_ : ∃ es n, K.lookup a = some ⟨.type "dict", none, .dict es n, #[]⟩ ∧ PySem.W.KeysLit w.params es.toList ∧ ∀ x : Str, (es.toList.find? fun d => d.key.isStr x).map (·.val) = (kvs.lookup x).map Value.ref
  low : (a == sysModules) = false
theorem KTab.has {K : PySem.W.Frag} {w : World} {a : Addr} {kvs : List (Str × Addr)} (h : KTab K w a kvs) (x : Str) : KHas K w a x (kvs.lookup x).isSome := by
  obtain ⟨es, n, hl, hk, e⟩ := h.at_
  refine ⟨es, n, _, hl, hk, h.low, nsIn_dict hl hk x, ?_⟩
  rw [e]
  cases kvs.lookup x <;> rfl
theorem KTab.get {K : PySem.W.Frag} {w : World} {a : Addr} {kvs : List (Str × Addr)} (h : KTab K w a kvs) {x : Str} {b : Addr} (hx : kvs.lookup x = some b) : KDct K w a x (.ref b) := by
  obtain ⟨es, n, hl, hk, e⟩ := h.at_
  have q := nsIn_dict hl hk x
  rw [e, hx] at q
  exact ⟨es, n, _, hl, hk, q, rfl⟩
theorem isStr_eq {x y : Str} {t : Tok} : (Value.str y t).isStr x = decide (x = y) := by
  show (y == x) = _
  by_cases h : x = y
  · rw [h, decide_eq_true rfl, beq_self_eq_true]
  · rw [decide_eq_false h, beq_eq_false_iff_ne.mpr fun e => h e.symm]
def TabEs : List DictEntry → List (Str × Addr) → Prop
  | [], [] => True
  | d :: l, kv :: r => (∃ t, d.key = .str kv.1 t ∧ d.val = .ref kv.2) ∧ TabEs l r
  | _, _ => False
theorem find_tab (x : Str) : ∀ {l : List DictEntry} {kvs : List (Str × Addr)}, TabEs l kvs → (l.find? fun d => d.key.isStr x).map (·.val) = (kvs.lookup x).map Value.ref
  | [], [], _ => rfl
  | d :: l, (k, b) :: r, h => by
    obtain ⟨⟨t, e1, e2⟩, hr⟩ := h
    have ih := find_tab x hr
    by_cases c : x = k
    · have c1 : d.key.isStr x = true := by rw [e1, isStr_eq, decide_eq_true c]
      rw [List.find?_cons_of_pos (p := fun d : DictEntry => d.key.isStr x) c1, c]
      simp [List.lookup, e2]
    · have c1 : ¬ d.key.isStr x = true := by rw [e1, isStr_eq, decide_eq_false c]; exact Bool.false_ne_true
      rw [List.find?_cons_of_neg (p := fun d : DictEntry => d.key.isStr x) c1, ih]
      have c2 : (x == k) = false := beq_eq_false_iff_ne.mpr c
      simp [List.lookup, c2]
theorem ktab_mk {K : PySem.W.Frag} {w : World} {a : Addr} {es : Array DictEntry} {n : Nat} {kvs : List (Str × Addr)} (hl : K.lookup a = some ⟨.type "dict", none, .dict es n, #[]⟩) (hk : PySem.W.KeysLit w.params es.toList) (low : (a == sysModules) = false) (he : TabEs es.toList kvs) : KTab K w a kvs :=
  ⟨⟨es, n, hl, hk, fun x => find_tab x he⟩, low⟩
end

/-! ### an own error over ValueError whose __init__(self, x) says super().__init__(a message) and self.field = x -/
section
open PySem.W (ksEnv ksFn ks_superIn kxs_mw)
/-- the context of such an __init__ -/
def cxSup (CX : CXT) (P : Program) (w : World) (K : PySem.W.Frag) (mg : Str → Option Value) (base : Heap) (N : List Str) (qual : Str) (scope : Scope) (f : Addr) (cd : Value) (cc : Addr) (A : Around) (outer : List Env) (s : Shared) (H : Hp) (E : XK) : Cx where
  prog := P
  w := w
  K := K
  mg := mg
  base := base
  A := A.deeper (ksEnv qual scope s.heap.objs.size f cd cc)
  N := N
  s_0 := s
  H_0 := H
  env := ksEnv qual scope s.heap.objs.size f cd cc
  outer := outer
  stack := ksEnv qual scope s.heap.objs.size f cd cc :: outer
  ex := []
  fn := fun _ => false
  calm := true
  pn := []
  xe := fun e s' => wpAny (model P w) (A.deeper (ksEnv qual scope s.heap.objs.size f cd cc)) (leaving (ksEnv qual scope s.heap.objs.size f cd cc) e) (fun _ s2 => CX outer H s E e s2) (fun e2 s2 => CX outer H s E e2 s2) s'
/-- what the written part says of the class at C and of its __init__ at f -/
structure SupCls (P : Program) (K : PySem.W.Frag) (C : Addr) (qual par fld : Str) (st : Stmt) (f : Addr) (fd : FuncData) : Prop where
  fn : ∃ (oc od : _) (kV doc pm : Value) (an : Option Addr) (cda : Addr) (ct : Value) (osl : Array (Option Value)) (cc : Addr) (cl : Value) (cld : Option Addr) (csl : Array (Option Value)) (ccl : Value) (cdd : Option Addr) (vs : Array Value) (ccs : Array (Option Value)) (file : Str) (tf : Tok),
    fd = ksFn "__init__" qual (defArgs st) (defBody st) (defScope st) .none kV doc pm an (.ref cda) ct cc ∧ K.lookup f = some ⟨oc, od, .func fd, osl⟩ ∧ PySem.W.codeIn K (.ref cda) qual = true ∧
    K.lookup cc = some ⟨cl, cld, .cell (some (.ref C)), csl⟩ ∧ K.lookup cda = some ⟨ccl, cdd, .fields vs, ccs⟩ ∧ vs[2]? = some (.str file tf) ∧ ((P.main.file : Str) == file) = true
  oex : OexC K C
  sup : ks_superIn K C C "__init__" = some (some (.builtin "ValueError.__init__"))
  opq : PySem.W.nsIn K cStatics "thirdparty.any" = some none
  subV : PySem.W.subIn K (.ref C) (.type "ValueError") = some true
  mroC : PySem.W.mroIn K C (.ref C) = some true
  nof : PySem.W.findIn K (.ref C) fld = some none
  topS : (P.main.scope.names.lookup ("super" : Str)).isSome = false
/-- the shape of the text -/
structure SupTxt (par fld : Str) (st : Stmt) (msg : Expr) (p0 p1 p2 p3 p4 p5 p6 p7 p8 : Pos) : Prop where
  body : defBody st = [.Expr (.Call (.Attribute (.Call (.Name "super" p0) [] [] p1) "__init__" p2) [msg] [] p3) p4, .Assign [.Attribute (.Name "self" p5) fld p6] (.Name par p7) p8]
  kind : (defScope st).kind = .function
  co : (defScope st).isCoroutine = false
  gen : (defScope st).isGenerator = false
  s1 : (defScope st).names.lookup ("self" : Str) = some .local
  s2 : (defScope st).names.lookup par = some .local
  s3 : (defScope st).names.lookup ("__class__" : Str) = some .free
  s4 : (defScope st).names.lookup ("super" : Str) = some .globalImplicit
  only : ∀ y ∈ (defScope st).names, y.2 ≠ .cell ∧ (y.2 = .free → y.1 = "__class__")
  ps : ∃ ar, ((defArgs st).posonlyargs ++ (defArgs st).args).head? = some ar ∧ ar.arg = "self"
theorem inv_sup {CX : CXT} {P : Program} {w : World} {K : PySem.W.Frag} {mg : Str → Option Value} {base : Heap} {par qual : Str} {scope : Scope} {f cc : Addr} {cd : Value} {A : Around} {outer : List Env} {s : Shared} {h1 : Heap} {H : Hp} {E : XK} {u0 u1 : Value} {v0 v1 : V} {tk : Nat} {D : Value}
    (kind : scope.kind = .function) (only : ∀ y ∈ scope.names, y.2 ≠ .cell ∧ (y.2 = .free → y.1 = ("__class__" : Str))) (l1 : scope.names.lookup ("self" : Str) = some .local) (l2 : scope.names.lookup par = some .local) (np : ¬ ("self" : Str) = par)
    (hd : A.handled = none) (e0 : Env0 P w K mg base A outer s H) (r0 : RelV v0 u0) (r1 : RelV v1 u1)
    (cell : s.heap.IsCell cc (some D)) (free : H cc = Option.none) (small : cc < s.heap.objs.size)
    (ns : h1.Ns s.heap.objs.size (fun x => [(par, u1), (("self" : Str), u0)].lookup x)) (kp : ∀ b o, s.heap.get? b = some o → h1.get? b = some o) :
    L2.Inv (cxSup CX P w K mg base ["self", par] qual scope f cd cc A outer s H E) [] (start ["self", par] [v0, v1]) H { s with heap := h1, toks := tk } := by
  have one : ∀ (x : Str) (c : Addr), (ksEnv qual scope s.heap.objs.size f cd cc).cells.lookup x = some c → x = "__class__" ∧ c = cc := fun x c e => by
    have e' : [(("__class__" : Str), cc)].lookup x = some c := e
    by_cases z : x = "__class__"
    · subst z
      exact ⟨rfl, (Option.some.inj ((show some cc = some c from by simpa [List.lookup] using e'))).symm⟩
    · have b : (x == ("__class__" : Str)) = false := by simpa using z
      simp [List.lookup, b] at e'
  have noA : ∀ b : Addr, b ∉ (cxSup CX P w K mg base ["self", par] qual scope f cd cc A outer s H E).ex := fun b z => absurd (show b ∈ ([] : List Addr) from z) (by simp)
  have ok : (cxSup CX P w K mg base ["self", par] qual scope f cd cc A outer s H E).Ok := {
    mod := e0.mod
    kind := kind
    glob := rfl
    blt := rfl
    above := Nat.le_refl _
    inj := fun x y c h1 h2 => (one x c h1).1.trans (one y c h2).1.symm
    has := fun x hx => by
      have hx' : scope.names.lookup x = some .cell ∨ scope.names.lookup x = some .free := hx
      rcases hx' with hx' | hx'
      · exact absurd rfl (only _ (PySem.mem_of_lookup hx')).1
      · have e : x = "__class__" := (only _ (PySem.mem_of_lookup hx')).2 rfl
        subst e
        exact ⟨cc, rfl⟩
    cab := fun x c h => Bool.noConfusion h
    hd := fun _ => hd
    frames := Around.frames_deeper e0.frames
    stk := .inr ⟨rfl, rfl⟩
    exf := fun b z => absurd z (noA b)
    bs := e0.bs
    bsz := e0.bsz
    noex := fun b _ _ => noA b
    exfs := fun b z => absurd z (noA b)
    funs := e0.funs
    frf := e0.frf }
  exact {
    ok := ok
    os := rfl
    bare := e0.bare
    base := Un.kept kp
    loc := ⟨_, ns, fun i x v h1 h2 h3 => by
      match i, h1, h2 with
      | 0, h1, h2 =>
        cases h1
        cases h2
        refine ⟨u0, r0, .inl ⟨l1, ?_⟩⟩
        show [(par, u1), (("self" : Str), u0)].lookup ("self" : Str) = some u0
        have b : (("self" : Str) == par) = false := by simpa using np
        simp [List.lookup, b]
      | 1, h1, h2 =>
        cases h1
        cases h2
        refine ⟨u1, r1, .inl ⟨l2, ?_⟩⟩
        show (match par == par with | true => some u1 | false => [(("self" : Str), u0)].lookup par) = some u1
        rw [beq_self_eq_true]
      | i + 2, h1, h2 =>
        have h3 : (["self", par] : List Str)[i + 2]? = some x := h1
        simp at h3⟩
    cell := fun x c e => by
      obtain ⟨_, rfl⟩ := one x c e
      obtain ⟨o, ho, hc⟩ := cell
      exact ⟨_, o, kp _ _ ho, hc⟩
    free := e0.hok.fresh (Nat.le_refl _)
    freeC := fun x c e => by
      obtain ⟨_, rfl⟩ := one x c e
      exact free
    pin := fun p hp => absurd (show p ∈ ([] : List (Addr × Obj)) from hp) (by simp)
    hok := e0.hok.kept kp
    len := rfl }
/-- what such an __init__ promises -/
def spSup (C : Addr) (fld : Str) (good : V → Prop) : Sp := fun vs H Q _ => ∃ (e : Addr) (v : V), vs = [.ref e, v] ∧ H e = some (exo e C Option.none) ∧ good v ∧
  ∀ dx, H dx = Option.none → dx ≠ e → Q .non (upd (upd H dx (exd dx [(fld, v)])) e (exo e C (some dx)))
theorem exo_again {X : Cx} {pins : List (Addr × Obj)} {σ : L2.St} {H : Hp} {a C t1 : Addr} {hp h' : Heap} {g : Array GenState} {d : Drawn} {t t' : Nat} {os : OsState} (I : L2.Inv X pins σ H ⟨hp, g, d, t, os⟩) (e : H a = some (exo a C Option.none))
    (kp : ∀ b o, b ≠ a → hp.get? b = some o → h'.get? b = some o) (hx : h'.get? a = some ({ cls := .ref C, dict := Option.none, data := .fields #[.ref t1, .none, .none, .none, .bool false, .none] } : Obj)) : L2.Inv X pins σ H ⟨h', g, d, t', os⟩ := by
  have same : upd H a (exo a C Option.none) = H := by
    funext b
    unfold upd
    split
    · rename_i z
      rw [z, e]
    · rfl
  have J := I.write (t' := t') (x := a) (e := a) (o := exo a C Option.none) (by rw [e]; exact True.intro) (.inl rfl) kp ⟨_, hx⟩ (exo_ok hx)
  rwa [same] at J
/-- the bound ValueError.__init__, called: the error's arguments are laid anew, nothing of it is told -/
theorem call_mw {X : Cx} {pins : List (Addr × Obj)} {σ : L2.St} {H : Hp} {s : Shared} {e C u : Addr} {rest : List Value} {Q : Value → Shared → Prop} {E : Value → Shared → Prop} (T : OexC X.K C) (I : L2.Inv X pins σ H s) (he : H e = some (exo e C Option.none)) (hu : s.heap.get? u = some (kxs_mw "ValueError.__init__" e))
    (few : rest.length ≤ sizeLine) (fin : ∀ s', L2.Inv X pins σ H s' → Q .none s') : wpAny (model X.prog X.w) X.A (call (.ref u) rest) Q E s := by
  obtain ⟨nm, qn, N, bs, bm, sn, sub, ab, col, dd, k0, k1, k2, k3, k5, hC, hbm⟩ := T.cls
  obtain ⟨t1, ho⟩ := exo_at I.hok he
  have hC' := I.kIn _ _ hC
  obtain ⟨hp, g, d, tk, os⟩ := s
  refine wpAny_call (codeAny_of_tree ?_)
  show wpAny _ X.A.in1 (callAny (.ref u) ⟨rest, []⟩) _ _ _
  unfold callAny
  refine wpAny_bind (wpAny_load hu ?_)
  have b : (Value.type "method-wrapper" == Value.type "method" || Value.type "method-wrapper" == Value.type "builtin_function_or_method" ||
      Value.type "method-wrapper" == Value.type "method-wrapper") = true := by decide
  simp only [b, if_true]
  refine PySem.W.KFB.if_so (by decide) (wpAny_bind ?_)
  refine PySem.W.check_bound_init F.excBase_ValueError.toExcCallFacts hC' ho rfl (wpAny_bind (wpAny_pure (wpAny_pure ⟨plainId_quiet F.excBase_ValueError.init.plain _, ?_⟩)))
  refine codeAny_builtin F.excBase_ValueError.initEntry ?_
  exact PySem.W.exc_init_tree (cls := .ref C) (t0 := t1) (dv := Option.none) (c2 := .none) (c3 := .none) (b4 := .bool false) ho few fun h' kp hx _ => fin _ (exo_again I he kp hx)
/-- THE RULE: such an __init__ keeps its promise -/
theorem ok_sup {CX : CXT} {P : Program} {w : World} {K : PySem.W.Frag} {mg : Str → Option Value} {base : Heap} {C f : Addr} {fd : FuncData} {qual par fld : Str} {st : Stmt} {msg : Expr} {p0 p1 p2 p3 p4 p5 p6 p7 p8 : Pos} {good : V → Prop}
    (S : SupCls P K C qual par fld st f fd) (T : SupTxt par fld st msg p0 p1 p2 p3 p4 p5 p6 p7 p8) (np : ¬ ("self" : Str) = par) (nd : (par == ("__debug__" : Str)) = false) (nc : (par == ("__classdict__" : Str)) = false) (noS : mg "super" = Option.none)
    (hmsg : ∀ (cd : Value) (cc : Addr) (A : Around) (outer : List Env) (s : Shared) (H : Hp) (E : XK) (e : Addr) (v : V), good v →
      ∃ ta, PA (cxSup CX P w K mg base ["self", par] qual (defScope st) f cd cc A outer s H E) [msg] ta ∧ ∀ H1 Q, (∀ x, Q [x] H1) → ta (start ["self", par] [.ref e, v]) H1 Q)
    (star : ∀ env, starEach [msg] env = [(false, eval msg env)]) (inter : ∀ L g cd cc, interactive (ksEnv qual (defScope st) L g cd cc) = false) (swap : ∀ L g cd cc, swapsWith (.Call (.Attribute (.Call (.Name "super" p0) [] [] p1) "__init__" p2) [msg] [] p3) Option.none p4.line (ksEnv qual (defScope st) L g cd cc) = pure false)
    (swap2 : ∀ L g cd cc, swapsWith (.Name par p7) (some (.Attribute (.Name "self" p5) fld p6)) p8.line (ksEnv qual (defScope st) L g cd cc) = pure false)
    (pl : Sem Bool) (he : ∀ (env : Env), eval (.Call (.Attribute (.Call (.Name "super" p0) [] [] p1) "__init__" p2) [msg] [] p3) env = (do
      let ov ← attributeBase (.Call (.Name "super" p0) [] [] p1) "__init__" env (eval (.Call (.Name "super" p0) [] [] p1) env)
      standAt p2.atName
      let (f, first) ← holding [ov] (getMethod ov "__init__" pl)
      callWith p3 f first (backTo p3 (starEach [msg] env)) [])) :
    FnOk P w K mg base CX 1 f fd ["self", par] (spSup C fld good) := by
  obtain ⟨oc, od, kV, doc, pm, an, cda, ct, osl, cc, cl, cld, csl, ccl, cdd, vs, ccs, file, tf, rfl, lk, hcd, hcell, hcode, hvs, hfile⟩ := S.fn
  refine ⟨fun vs H Q E h => ?_, fun A outer s H args us vs0 Q E hr e0 hb rel hsp => ?_⟩
  · obtain ⟨e, v, rfl, _⟩ := h
    rfl
  obtain ⟨e, v, rfl, hexo, hgood, fin⟩ := hsp
  have KX : K.In s.heap := e0.mod.kin.keeps fun b o z => (e0.bs b o z).1
  have lim : s.heap.NoLimit := e0.mod.nolimit.keeps fun b o z => (e0.bs b o z).1
  obtain ⟨u0, u1, rfl, r0, r1⟩ := vals2 rel
  have isCell : s.heap.IsCell cc (some (.ref C)) := ⟨_, KX _ _ hcell, rfl⟩
  have freeC : H cc = Option.none := (e0.bs _ _ (e0.mod.kin _ _ hcell)).2
  refine ks_codeAny_call_defAt (fd := ksFn "__init__" qual (defArgs st) (defBody st) (defScope st) .none kV doc pm an (.ref cda) ct cc) (body := defBody st) (binds := [(("self" : Str), u0), (par, u1)]) hr.depth (KX _ _ lk) rfl lim (PySem.W.codeRec_of KX hcd) rfl hb (fun x hx => (T.only x hx).1) ?_ (fun h1 ns kp => ?_) T.co T.gen T.kind
  · intro y hy
    rcases List.mem_cons.mp hy with rfl | hy
    · exact T.s1
    · rw [List.mem_singleton.mp hy]
      exact T.s2
  have I : L2.Inv (cxSup CX P w K mg base ["self", par] qual (defScope st) f (.ref cda) cc A outer s H E) [] (start ["self", par] [.ref e, v]) H { s with heap := h1, toks := s.toks + 2 } :=
    inv_sup T.kind T.only T.s1 T.s2 np hr.hd e0 r0 r1 isCell freeC (Heap.lt_size (KX _ _ hcell)) ns kp
  show wpAt (model P w) (A.deeper (ksEnv qual (defScope st) s.heap.objs.size f (.ref cda) cc)) (.func (defBody st) (ksEnv qual (defScope st) s.heap.objs.size f (.ref cda) cc)) (execs (defBody st) (ksEnv qual (defScope st) s.heap.objs.size f (.ref cda) cc)) _ _ _
  rw [T.body]
  obtain ⟨hp, g, d, tk, os⟩ := s
  have up : ∀ b o, base.get? b = some o → h1.get? b = some o := fun b o z => kp b o (e0.bs b o z).1
  have K1 : K.In h1 := e0.mod.kin.keeps up
  obtain ⟨mb, hmb, hbb⟩ := e0.mod.blt
  obtain ⟨ar, har, earg⟩ := T.ps
  cases (show u0 = Value.ref e from r0)
  obtain ⟨t1, hx⟩ := exo_at I.hok hexo
  obtain ⟨nm, qn, N, bs, bm, sn, sub, ab, col, dd, k0, k1, k2, k3, k5, hC, hbm⟩ := S.oex.cls
  have hcl : PySem.W.clsIn K C = some { name := nm, bases := bs, mro := .ref C :: bm, ns := N, qualname := qn, hasDict := true, slotNames := sn, subclasses := sub, abstract := ab, collection := col, hasDel := false } := by
    unfold PySem.W.clsIn
    rw [hC]
  refine ks_wpAt_execs_cons (ks_wpAt_Expr_any (ks_wpAt_MethodCall (pl := pl) ?_ (he _)) (inter _ _ _ _) (swap _ _ _ _))
  refine ks_wpAt_super_base (env := ksEnv qual (defScope st) hp.objs.size f (.ref cda) cc) T.s4 T.s3 (by decide) rfl (kp _ _ (KX _ _ lk)) rfl har rfl (K1 _ _ hcode) rfl hvs hfile S.topS ?_
  refine PySem.W.ks_loadName_global T.kind T.s4 (PySem.Calls.loadGlobal_builtin (env := ksEnv qual (defScope st) hp.objs.size f (.ref cda) cc) (e0.mod.glob.keeps up) noS (hmb.keeps up) ((hbb "super" (by decide)).trans (by decide +kernel)) ⟨rfl, ?_⟩)
  refine wpAny_loadName_free T.kind T.s3 rfl ⟨_, K1 _ _ hcell, rfl⟩ ?_
  rw [earg]
  refine wpAny_loadName_local T.kind T.s1 ns (v := .ref e) ?_ ?_
  · show [(par, u1), (("self" : Str), Value.ref e)].lookup ("self" : Str) = some (.ref e)
    have b : (("self" : Str) == par) = false := by simpa using np
    simp [List.lookup, b]
  refine ks_wpAny_isType_cls (K1 _ _ hC) rfl ⟨rfl, ?_⟩
  refine ks_wpAny_call_super (K1 _ _ hC) rfl hx rfl (fun c z => by cases z) (PySem.W.looks_mroIn K1 S.mroC) (fun h2 hso kp2 => ?_)
  have K2 : K.In h2 := K1.keeps kp2
  have hx2 := kp2 _ _ hx
  have inst : PySem.W.InstAt h2 e { cls := .ref C, dict := Option.none, data := .fields #[.ref t1, .none, .none, .none, .bool false, .none] } C Option.none := ⟨hx2, rfl, rfl, trivial⟩
  have hf := S.sup
  unfold ks_superIn at hf
  rw [hcl] at hf
  have neC : e ≠ C := fun z => by
    have q := (e0.bs _ _ (e0.mod.kin _ _ hC)).2
    rw [← z, hexo] at q
    cases q
  refine PySem.W.kxs_getMethod PySem.W.kxs_ValueError hso (PySem.W.looks_opaque K2 S.opq) (l₀ := .ref C :: bm) ((PySem.W.looks_clsIn K2 hcl).andThen .now) rfl K2 hf (inst.type.andThen (PySem.W.looks_subIn K2 S.subV)) neC (by decide) ?_
  have hmw : (h2.push (kxs_mw "ValueError.__init__" e)).get? h2.objs.size = some (kxs_mw "ValueError.__init__" e) := Heap.get?_push_size _ rfl
  have kp3 : ∀ b o, h1.get? b = some o → (h2.push (kxs_mw "ValueError.__init__" e)).get? b = some o := fun b o z => Heap.get?_push_of_some _ (kp2 b o z)
  have Ih := I.kept (h' := h2) (t' := tk + 2) kp2
  have I2 := I.kept (h' := h2.push (kxs_mw "ValueError.__init__" e)) (t' := tk + 2 + 1) kp3
  have I3 : L2.Inv (cxSup CX P w K mg base ["self", par] qual (defScope st) f (.ref cda) cc A outer ⟨hp, g, d, tk, os⟩ H E) [(h2.objs.size, kxs_mw "ValueError.__init__" e)] (start ["self", par] [.ref e, v]) H ⟨h2.push (kxs_mw "ValueError.__init__" e), g, d, tk + 2 + 1, os⟩ := { I2 with
    pin := fun p hp' => by
      cases List.mem_singleton.mp hp'
      refine ⟨hmw, Ih.hok.fresh (Nat.le_refl _), Nat.ne_of_gt Ih.lt, Ih.nofs (Nat.le_refl _), fun c z => by cases z⟩ }
  obtain ⟨ta, pa, rd⟩ := hmsg (.ref cda) cc A outer ⟨hp, g, d, tk, os⟩ H E e v hgood
  have st1 := star (ksEnv qual (defScope st) hp.objs.size f (.ref cda) cc)
  have ran : wpAny (model P w) (A.deeper (ksEnv qual (defScope st) hp.objs.size f (.ref cda) cc)) (spliced (backTo p3 (starEach [msg] (ksEnv qual (defScope st) hp.objs.size f (.ref cda) cc)))) _ _ _ :=
    pa.run p3 _ _ _ _ (fun vs H1 => H1 = H ∧ vs.length = 1) I3 (rd H _ fun x => ⟨rfl, rfl⟩)
  show wpAny _ _ (callWith p3 (.ref h2.objs.size) [] (backTo p3 (starEach [msg] (ksEnv qual (defScope st) hp.objs.size f (.ref cda) cc))) []) _ _ _
  rw [st1] at ran ⊢
  refine PySem.W.kxs_callWith (i := "ValueError.__init__") (x := e) (u := h2.objs.size) rfl (PySem.Calls.evalArgs_plain (thn ran fun us s3 got => ?_))
  obtain ⟨vs1, H1, I4, rel1, rfl, len1⟩ := got
  have hu := (I4.pin _ List.mem_cons_self).1
  refine ⟨hu, call_mw S.oex I4 hexo hu (by show us.length ≤ sizeLine; rw [← Vals.length rel1, len1, sizeLine_eq]; decide) fun s4 I5 => ?_⟩
  have last : PSs (cxSup CX P w K mg base ["self", par] qual (defScope st) f (.ref cda) cc A outer ⟨hp, g, d, tk, os⟩ H1 E) [.Assign [.Attribute (.Name "self" p5) fld p6] (.Name par p7) p8] _ :=
    pss_one (ps_ost (pv 0 rfl (.inl T.s1)) (pv 1 rfl (.inl T.s2) nd nc) (swap2 _ _ _ _))
  refine wpAt_of_wpAny (thn (last.run _ s4 _ H1 { nx := fun _ H2 => Q .non H2, rt := Q } I5 ⟨v, rfl, .ref e, rfl, e, C, rfl, S.oex, S.nof, .inl ⟨hexo, fin⟩⟩) fun fl s5 got => ?_)
  cases fl with
  | next =>
    obtain ⟨σ', H', J, q⟩ := got
    exact ⟨V.non, H', J.os, J.bare, J.base, J.hok, rfl, q⟩
  | ret u =>
    obtain ⟨y, σ', H', J, ry, q⟩ := got
    exact ⟨y, H', J.os, J.bare, J.base, J.hok, ry, q⟩
  | brk =>
    obtain ⟨_, _, _, q⟩ := got
    exact q.elim
  | cont =>
    obtain ⟨_, _, _, q⟩ := got
    exact q.elim
end

/-! ### raising such an error where nothing is handled; a new object whose __init__ may raise; isinstance of a caught error -/
theorem fun_okN {P : Program} {w : World} {K : PySem.W.Frag} {mg : Str → Option Value} {base : Heap} {x qual : Str} {st : Stmt} {f : Addr} {fd : FuncData} {N ps : List Str} {k : Nat} {sp : Sp} (F : Fun K x qual st f fd) (S : FnScope N ps (defScope st))
    (len : ∀ vs H Q E, sp vs H Q E → vs.length = ps.length)
    (body : ∀ (cdv : Value) (A : Around) (outer : List Env) (s : Shared) (H : Hp) (vs : List V) (Q : VK) (E : XK), Room k (A.deeper (PyProof.Rows.envOfC qual (defScope st) s.heap.objs.size f cdv)) → sp vs H Q E →
      ∃ t, PSs (cxOf (L2N.CX P w) P w K mg base N qual (defScope st) f cdv A outer s H E) (defBody st) t ∧ t { nx := fun _ H' => Q .non H', rt := Q } (start N vs) H) : FnOk P w K mg base (L2N.CX P w) (k + 1) f fd ps sp := by
  obtain ⟨oc, od, kV, doc, pm, an, cdv, ct, osl, rfl, lk, hcd⟩ := F.ex
  exact fn_of lk hcd S len fun A outer s H vs Q E hr h => body cdv A outer s H vs Q E hr h
/-- a def that lets nothing out lets nothing out -/
theorem weak_cx {P : Program} {w : World} {K : PySem.W.Frag} {mg : Str → Option Value} {base : Heap} {CX : CXT} {k : Nat} {f : Addr} {fd : FuncData} {ps : List Str} {sp : Sp} (F : FnOk P w K mg base CX0 k f fd ps sp) : FnOk P w K mg base CX k f fd ps sp :=
  ⟨F.len, fun A outer s H args us vs Q E hr e0 hb r h => codeAny_mono (F.run A outer s H args us vs Q E hr e0 hb r h) fun res s' q => by
    cases res with
    | error e => exact False.elim q
    | ok fl => cases fl <;> exact q⟩
def tSup (C : Addr) (fld : Str) (good : V → Prop) (ta : TA) : L2.St → Hp → XK → Prop := fun σ H Q => ta σ H fun vs H1 => ∃ v, vs = [v] ∧ good v ∧ ∀ d, H1 d = Option.none → Q (.ref C) (some d) (upd H1 d (.xd [(fld, v)]))
theorem sup_heap {H : Hp} {a d C : Addr} {fs : List (Str × V)} (ha : H a = Option.none) (ne : d ≠ a) : upd (del (upd (upd (upd H a (exo a C Option.none)) d (exd d fs)) a (exo a C (some d))) a) d (.xd fs) = upd H d (.xd fs) := by
  funext b
  by_cases hd : b = d
  · subst hd
    rw [upd_same, upd_same]
  · rw [upd_ne hd, upd_ne hd]
    by_cases hb : b = a
    · subst hb
      rw [del_same, ha]
    · rw [del_ne hb, upd_ne hb, upd_ne hd, upd_ne hb]
theorem pmk_sup {X : Cx} {x fld par : Str} {e : Expr} {ta : TA} {p pos : Pos} {C fI : Addr} {fd : FuncData} {good : V → Prop} (T : OexC X.K C) (iC : PySem.W.findIn X.K (.ref C) "__init__" = some (some (.ref fI))) (tI : PySem.W.typeIn X.K (.ref fI) = some (.type "function"))
    (F1 : FnOk X.prog X.w X.K X.mg X.base CX0 1 fI fd ["self", par] (spSup C fld good)) (hr : Room 2 X.A) (hb : Binds X.K fd ["self", par] []) (hg : Gl X x) (hm : X.mg x = some (.ref C)) (ha : PA X [e] ta)
    (hdb : (x == ("__debug__" : Str)) = false := by decide) (he : starEach (e :: []) X.env = (false, eval e X.env) :: starEach [] X.env := by rfl) (hpl : (backTo pos (starEach [] X.env)).any (·.1) = false := by rfl) :
    L2N.PMk X (.Call (.Name x p) [e] [] pos) (tSup C fld good ta) := by
  intro pins s σ H Q I hyp
  obtain ⟨nm, qn, N, bs, bm, sn, sub, ab, col, dd, k0, k1, k2, k3, k5, hC, hbm⟩ := T.cls
  refine wpAny_Call_Name_kw (ld_glob I hg hm ?_ hdb)
  refine PySem.W.callWith_K (h₀ := X.base) I.ok.mod.kin T.kC (thn (ha.run pos pins s σ H _ I hyp) fun us s1 got => ?_) he hpl
  obtain ⟨vs, H1, I1, rel, v, rfl, gv, q⟩ := got
  refine ⟨I1.kIn, ?_⟩
  show wpAny _ _ (call (.ref C) us) _ _ _
  obtain ⟨hp, g, dr, tk, os⟩ := s1
  have above : hp.objs.size ≤ hp.objs.size + 1 := Nat.le_succ _
  have free : H1 (hp.objs.size + 1) = Option.none := I1.hok.fresh above
  have grown : ∀ b o, hp.get? b = some o → ((hp.push (PySem.W.kdv_tup us)).push (PySem.HandSPX.excO C hp.objs.size)).get? b = some o := fun b o z => Heap.get?_push_of_some _ (Heap.get?_push_of_some _ z)
  have there : ((hp.push (PySem.W.kdv_tup us)).push (PySem.HandSPX.excO C hp.objs.size)).get? (hp.objs.size + 1) = some (PySem.HandSPX.excO C hp.objs.size) := by heap_get
  have I2 := I1.laid (t' := tk) (a := hp.objs.size + 1) (o := exo (hp.objs.size + 1) C Option.none) (h' := (hp.push (PySem.W.kdv_tup us)).push (PySem.HandSPX.excO C hp.objs.size)) grown above (exo_ok there)
  have rel2 : Vals [V.ref (hp.objs.size + 1), v] (Value.ref (hp.objs.size + 1) :: us) := .cons rfl rel
  have two : (Value.ref (hp.objs.size + 1) :: us).length = 2 := rel2.length.symm
  have bind := hb ⟨(hp.push (PySem.W.kdv_tup us)).push (PySem.HandSPX.excO C hp.objs.size), g, dr, tk, os⟩ (Value.ref (hp.objs.size + 1) :: us) I2.kIn (by rw [List.append_nil]; exact two)
  rw [List.append_nil] at bind
  have few : us.length ≤ sizeLine := by
    rw [← Vals.length rel, sizeLine_eq]
    show 1 ≤ 16777216
    decide
  refine wpAny_call (PySem.HandSPX.call_own F.excBase_ValueError (fun Y => PySem.HandSPX.refsVE_contains Y bm hbm) (I1.kIn _ _ hC) (PySem.W.looks_findIn I1.kIn iC) (fun self => PySem.W.bind_fn I1.kIn self tI) few ?_)
  refine codeAny_mono (F1.run _ X.stack _ _ ⟨Value.ref (hp.objs.size + 1) :: us, []⟩ _ _ (fun y H2 => y = .non ∧ ∃ d, H1 d = Option.none ∧ d ≠ hp.objs.size + 1 ∧ H2 = upd (upd (upd H1 (hp.objs.size + 1) (exo (hp.objs.size + 1) C Option.none)) d (exd d [(fld, v)])) (hp.objs.size + 1) (exo (hp.objs.size + 1) C (some d)))
    (fun _ _ _ => False) ((hr.make (k := 1) C us [])) (I2.env0.make C us []) bind rel2 ⟨_, v, rfl, upd_same, gv, fun d hd nd => ⟨rfl, d, (by rwa [upd_ne nd] at hd), nd, rfl⟩⟩) fun res s2 fin => ?_
  cases res with
  | error z => exact False.elim fin
  | ok fl =>
    cases fl with
    | ret u =>
      obtain ⟨y, H2, os2, bare2, un2, hok2, ry, rfl, d, hd, nd, rfl⟩ := fin
      obtain ⟨h2, g2, d2, t2, os'⟩ := s2
      have ea : upd (upd (upd H1 (hp.objs.size + 1) (exo (hp.objs.size + 1) C Option.none)) d (exd d [(fld, v)])) (hp.objs.size + 1) (exo (hp.objs.size + 1) C (some d)) (hp.objs.size + 1) = some (exo (hp.objs.size + 1) C (some d)) := upd_same
      have ed : upd (upd (upd H1 (hp.objs.size + 1) (exo (hp.objs.size + 1) C Option.none)) d (exd d [(fld, v)])) (hp.objs.size + 1) (exo (hp.objs.size + 1) C (some d)) d = some (exd d [(fld, v)]) := by rw [upd_ne nd, upd_same]
      obtain ⟨t0, G, J, kG, ge, hoe, na⟩ := mk_end0 (d2 := d2) (t2 := t2) I1 above grown un2 hok2 os2 bare2 ea ed hd
      rw [sup_heap free nd] at J na
      refine ⟨ry, hp.objs.size + 1, _, _, ⟨G, g2, d2, t2, os'⟩, _, .ref C, some d, rfl, J, kG, ge, hoe, ⟨rfl, rfl, fun fv z => ?_⟩, rfl, rfl, na, rfl, bare2, raises_own T.exC T.tyC, q d hd⟩
      cases z
      rfl
    | next => exact False.elim fin
    | brk => exact False.elim fin
    | cont => exact False.elim fin
/-- C(e, ..) within a try: what __init__ lets out is wished for at the slots -/
def tMakeS (C : Addr) (sp : Sp) (E : L2.St → XK) (t : TA) : TE := fun σ H Q => t σ H fun vs H1 => ∀ x dx, H1 x = Option.none → H1 dx = Option.none → dx ≠ x → sp (.ref x :: vs) (upd (upd H1 dx (.own x)) x (.ins C dx [])) (fun v H2 => v = .non ∧ Q (.ref x) H2) (E σ)
theorem pe_makeS {X : Cx} {CX : CXT} {k : Nat} {f C : Addr} {fd : FuncData} {ps : List Str} {sp : Sp} {E : L2.St → XK} {x : Str} {p pos : Pos} {e : Expr} {es : List Expr} {t : TA} (M : Mk X.K C f) (F : FnOk X.prog X.w X.K X.mg X.base CX k f fd ps sp) (hr : Room (k + 1) X.A) (hg : Gl X x) (hm : X.mg x = some (.ref C))
    (hb : Binds X.K fd ps []) (hx : ∀ (pins : List (Addr × Obj)) (σ : L2.St) (H : Hp) (s : Shared) (u : Value) (s' : Shared), L2.Inv X pins σ H s → CX X.stack H s (E σ) u s' → X.xe u s')
    (ha : PA X (e :: es) t) (hdb : (x == ("__debug__" : Str)) = false := by decide) (he : starEach (e :: es) X.env = (false, eval e X.env) :: starEach es X.env := by rfl) (hpl : (backTo pos (starEach es X.env)).any (·.1) = false := by rfl) :
    PE X (.Call (.Name x p) (e :: es) [] pos) (tMakeS C sp E t) := by
  constructor
  intro pins s σ H Q I hyp
  refine wpAny_Call_Name_kw (ld_glob I hg hm ?_ hdb)
  refine PySem.W.callWith_K (h₀ := X.base) I.ok.mod.kin M.kp (thn (ha.run pos pins s σ H _ I hyp) fun us s1 got => ?_) he hpl
  obtain ⟨vs, H1, I1, rel, q⟩ := got
  refine ⟨I1.kIn, ?_⟩
  have I2 := Inv.made (C := C) I1
  have prom := q (s1.heap.objs.size + 1) s1.heap.objs.size (I1.hok.fresh (Nat.le_succ _)) (I1.hok.fresh (Nat.le_refl _)) (Nat.ne_of_lt (Nat.lt_succ_self _))
  have rel2 : Vals (V.ref (s1.heap.objs.size + 1) :: vs) (Value.ref (s1.heap.objs.size + 1) :: us) := .cons rfl rel
  have len : (Value.ref (s1.heap.objs.size + 1) :: us ++ []).length = ps.length := by
    rw [List.append_nil, ← F.len _ _ _ _ prom]
    exact rel2.length.symm
  have bind := hb _ (Value.ref (s1.heap.objs.size + 1) :: us) I2.kIn len
  rw [List.append_nil] at bind
  refine wpAny_call (make_map (f := f) I1.kIn M.makes M.init (beq_iff_eq.mp M.fn) (codeAny_mono (F.run _ X.stack _ _ ⟨Value.ref (s1.heap.objs.size + 1) :: us, []⟩ _ _ _ (E σ) (hr.make C us []) (I2.env0.make C us []) bind rel2 prom) fun res s2 fin => ?_))
  cases res with
  | error z => exact hx pins σ _ _ z s2 I2 fin
  | ok fl =>
    cases fl with
    | ret u =>
      obtain ⟨v, H', I3, rv, rfl, q3⟩ := I2.after fin
      exact ⟨rv, V.ref (s1.heap.objs.size + 1), H', I3, rfl, q3⟩
    | next => exact False.elim fin
    | brk => exact False.elim fin
    | cont => exact False.elim fin
/-- isinstance(e, a class), e the caught error of the class at D with its dict -/
structure XcC (K : PySem.W.Frag) (D : Addr) : Prop where
  cl : (PySem.W.clsIn K D).isSome = true
  ga : PySem.W.findIn K (.ref D) "__getattribute__" = some (some (.builtin "BaseException.__getattribute__"))
  gt : PySem.W.findIn K (.ref D) "__getattr__" = some Option.none
  sub : PySem.W.subIn K (.ref D) (.type "BaseException") = some true
  has : PySem.W.hasDictIn K D = true
  cls : PySem.W.findIn K (.ref D) "__class__" = some (some (.builtin "object.__class__"))
  get : PySem.W.specialIn K (.builtin "object.__class__") "__get__" = some (some (.builtin "getset_descriptor.__get__"))
  tk : PySem.W.takesIn K (.builtin "object.__class__") = some true
  obj : PySem.W.mroIn K D (.type "object") = some true
theorem xc_at {X : Cx} {pins : List (Addr × Obj)} {σ : L2.St} {H : Hp} {s : Shared} {a D dd : Addr} {oe : Obj} {pn : List (Addr × Obj)} {fs : List (Str × V)} (I : L2.Inv (X.suite a ((a, oe) :: pn)) pins σ H s) (hz : Zc (.ref D) (some dd) oe) (hf : ∃ vs, oe.data = .fields vs) (hd : H dd = some (.xd fs)) :
    ∃ od, PySem.W.InstAt s.heap a oe D (some od) := by
  obtain ⟨got, _⟩ := I.pin (a, oe) (List.mem_append_left _ List.mem_cons_self)
  obtain ⟨vs, hv⟩ := hf
  have x : ObjOk X.prog X.w H s.heap dd (.xd fs) := I.hok dd _ hd
  obtain ⟨mA, ⟨od, _, _, ho, _⟩, _⟩ := x
  obtain ⟨oc, odd, oda, osl⟩ := oe
  obtain ⟨h1, h2⟩ := hz
  dsimp only at h1 h2 hv
  subst h1 h2 hv
  exact ⟨od, got, rfl, rfl, ho⟩
def rIsX (K : PySem.W.Frag) (a : Addr) (cls : Value) (d : Option Addr) : List V → Hp → VK → Prop := fun xs H Q => ∃ (D dd : Addr) (c : V) (cv : Value) (b : Bool) (fs : List (Str × V)), xs = [.ref a, c] ∧ cls = .ref D ∧ d = some dd ∧ XcC K D ∧ ClsV c cv ∧ H dd = some (.xd fs) ∧
  PySem.W.kitOne K (.ref D) cv = some b ∧ Q (.bl b) H
theorem call_isX {X : Cx} {a : Addr} {cls : Value} {d : Option Addr} {oe : Obj} {pn : List (Addr × Obj)} (hz : Zc cls d oe) (hf : ∃ vs, oe.data = .fields vs) : CallR (X.suite a ((a, oe) :: pn)) (.builtin "isinstance") (rIsX X.K a cls d) := by
  intro pins sh σ H xs us Q I rel hyp
  obtain ⟨D, dd, c, cv, b, fs, rfl, rfl, rfl, C, hcv, hd, e, q⟩ := hyp
  obtain ⟨u1, u2, rfl, r1, r2⟩ := vals2 rel
  have e2 := hcv.eq r2
  subst e2
  cases r1
  obtain ⟨od, J⟩ := xc_at I hz hf hd
  exact PySem.W.kia_one (PySem.W.kitx_exc C.cl C.ga C.gt C.sub C.cls C.get C.tk C.obj) I.kIn J e (fun z => nomatch z) fun tk => ⟨.bl b, H, I.kept (t' := tk) fun _ _ z => z, rfl, q⟩
def rIsXT (K : PySem.W.Frag) (a : Addr) (cls : Value) (d : Option Addr) : List V → Hp → VK → Prop := fun xs H Q => ∃ (D dd tp : Addr) (cs : List V) (cvs : List Value) (b : Bool) (fs : List (Str × V)), xs = [.ref a, .ref tp] ∧ cls = .ref D ∧ d = some dd ∧ XcC K D ∧
  H tp = some (.tup cs) ∧ Paired ClsV cs cvs ∧ H dd = some (.xd fs) ∧ PySem.W.kitAny K (.ref D) cvs = some b ∧ Q (.bl b) H
theorem call_isXT {X : Cx} {a : Addr} {cls : Value} {d : Option Addr} {oe : Obj} {pn : List (Addr × Obj)} (hz : Zc cls d oe) (hf : ∃ vs, oe.data = .fields vs) : CallR (X.suite a ((a, oe) :: pn)) (.builtin "isinstance") (rIsXT X.K a cls d) := by
  intro pins sh σ H xs us Q I rel hyp
  obtain ⟨D, dd, tp, cs, cvs, b, fs, rfl, rfl, rfl, C, ht, hcs, hd, e, q⟩ := hyp
  obtain ⟨u1, u2, rfl, r1, r2⟩ := vals2 rel
  cases r1
  cases (show u2 = Value.ref tp from r2)
  obtain ⟨od, J⟩ := xc_at I hz hf hd
  have x : ObjOk X.prog X.w H sh.heap tp (.tup cs) := I.hok tp _ ht
  obtain ⟨_, its, rv, ⟨oc, odd, oda, osl⟩, h1, h2, n, h3⟩ := x
  have e3 := ClsV.all hcs rv
  subst e3
  simp only at h2 h3
  subst h2 h3
  exact PySem.W.kia_tup (PySem.W.kitx_exc C.cl C.ga C.gt C.sub C.cls C.get C.tk C.obj) I.kIn J h1 e (fun z => nomatch z) fun tk => ⟨.bl b, H, I.kept (t' := tk) fun _ _ z => z, rfl, q⟩
theorem takes0N {X : Cx} : L2N.Takes X (fun _ _ _ _ => False) := fun _ _ x => by
  obtain ⟨_, _, _, _, _, _, _, _, _, _, _, _, _, _, _, _, z⟩ := x
  exact z.elim
theorem hot_of {X : Cx} {a : Addr} {cls : Value} {d : Option Addr} {oe : Obj} {pn : List (Addr × Obj)} (hz : L2N.Zn cls d oe) (hf : ∃ vs, oe.data = .fields vs) : L2H.HotC (X.suite a ((a, oe) :: pn)) := by
  obtain ⟨vs, hv⟩ := hf
  exact ⟨(a, oe), ⟨rfl, vs, hv, hz.2.2 vs hv⟩, List.mem_cons_self⟩
theorem fun_okH {P : Program} {w : World} {K : PySem.W.Frag} {mg : Str → Option Value} {base : Heap} {x qual : Str} {st : Stmt} {f : Addr} {fd : FuncData} {N ps : List Str} {k : Nat} {sp : Sp} (F : Fun K x qual st f fd) (S : FnScope N ps (defScope st))
    (len : ∀ vs H Q E, sp vs H Q E → vs.length = ps.length)
    (body : ∀ (cdv : Value) (A : Around) (outer : List Env) (s : Shared) (H : Hp) (vs : List V) (Q : VK) (E : XK) (p : Addr × Obj), L2H.RoomH k (A.deeper (PyProof.Rows.envOfC qual (defScope st) s.heap.objs.size f cdv)) → sp vs H Q E →
      ∃ t, PSs (L2H.cxH CX0 P w K mg base N qual (defScope st) f cdv A outer s H E p) (defBody st) t ∧ t { nx := fun _ H' => Q .non H', rt := Q } (start N vs) H) : L2H.FnH P w K mg base CX0 (k + 1) f fd ps sp := by
  obtain ⟨oc, od, kV, doc, pm, an, cdv, ct, osl, rfl, lk, hcd⟩ := F.ex
  exact L2H.fn_ofH lk hcd S len fun A outer s H vs Q E p _ hr h => body cdv A outer s H vs Q E p hr h

/-- e.f where the written part is told -/
theorem pe_fldK {X : Cx} {K : PySem.W.Frag} {e : Expr} {f : Str} {ta : TE} {pos : Pos} (hK : X.K = K) (he : PE X e ta) (hb : attributeBase e f X.env (eval e X.env) = eval e X.env) : PE X (.Attribute e f pos) (tFld K ta f) := by
  subst hK
  exact pe_fld he hb
/-- list(xs) where the written part is told -/
def rListOf (K : PySem.W.Frag) : List V → Hp → VK → Prop := fun zs H Q => ∃ (p : Addr) (ys : List V), zs = [V.ref p] ∧ (SqL K H p ys ∨ SqT K H p ys) ∧ (∀ l : Addr, H l = none → Q (.ref l) (upd H l (.lst ys)))
theorem cr_listK {X : Cx} {K : PySem.W.Frag} (hK : X.K = K) : CallR X (.type "list") (rListOf K) := by
  subst hK
  exact call_list_of
/-- len of a list or tuple where the written part is told -/
def rLenOf (K : PySem.W.Frag) : List V → Hp → VK → Prop := fun zs H Q => ∃ (p : Addr) (ys : List V), zs = [V.ref p] ∧ (SqL K H p ys ∨ SqT K H p ys) ∧ Q (.int (ys.length : Int)) H
theorem cr_lenK {X : Cx} {K : PySem.W.Frag} (hK : X.K = K) : CallR X (.builtin "len") (rLenOf K) := by
  subst hK
  exact call_len_seq
/-- o.m(e, ..), m of a built-in type, where the written part is told -/
theorem pe_bmK {X : Cx} {K : PySem.W.Frag} {T id : String} {name : Str} {r : V → List V → Hp → VK → Prop} {o e : Expr} {es : List Expr} {to : TE} {t : TA} {apos cpos : Pos} (hK : X.K = K) (pa : PySem.PlainAttrs T) (slot : PySem.Slot T name id) (hty : typeOf (.builtin id) = pure (.type "method_descriptor")) (hm : MtR X id r) (ho : PE X o to) (ha : PA X (e :: es) t)
    (hbase : attributeBase o name X.env (eval o X.env) = eval o X.env := by rfl)
    (hfew : ((backTo cpos (starEach (e :: es) X.env)).all (fun x => !x.1) && (backToKw cpos (keywordEach [] X.env)).all (fun x => x.1.isSome)
      && decide ((e :: es).length + ([] : List Keyword).length + (if ([] : List Keyword).isEmpty then 0 else 1) < 30)) = true := by rfl)
    (hline : (apos.endLine == cpos.line) = true := by rfl) (hs : starEach (e :: es) X.env = (false, eval e X.env) :: starEach es X.env := by rfl) (hplain : (backTo cpos (starEach es X.env)).any (·.1) = false := by rfl) :
    PE X (.Call (.Attribute o name apos) (e :: es) [] cpos) (tBM K T r to t) := by
  subst hK
  exact pe_bm pa slot hty hm ho ha hbase hfew hline hs hplain

/-- o.m(e, ..) within a try: what the method lets out is wished for at the slots -/
def tMethT (C : Addr) (m : Str) (sp : Sp) (E : L2.St → XK) (ta : TE) (t : TA) : TE := fun σ H Q => ta σ H fun x H1 => ∃ (j dx : Addr) (fs : List (Str × V)), x = V.ref j ∧ H1 j = some (HO.ins C dx fs) ∧ fs.lookup m = Option.none ∧ (t σ H1 fun vs H2 => sp (x :: vs) H2 Q (E σ))
theorem pe_methT {X : Cx} {CX : CXT} {k : Nat} {f C : Addr} {fd : FuncData} {ps : List Str} {sp : Sp} {E : L2.St → XK} {m : Str} {apos pos : Pos} {o e : Expr} {es : List Expr} {ta : TE} {t : TA} {pl : Sem Bool} (he : PE X o ta) (c : L2.Cls X.K C) (hm : L2.Meth X.K C m f) (F : FnOk X.prog X.w X.K X.mg X.base CX k f fd ps sp)
    (hr : Room k X.A) (hb : Binds X.K fd ps []) (hx : ∀ σ, PassesAt CX X σ (E σ)) (ha : PA X (e :: es) t) (one : starEach (e :: es) X.env = (false, eval e X.env) :: starEach es X.env := by rfl) (nost : (backTo pos (starEach es X.env)).any (·.1) = false := by rfl)
    (text : eval (.Call (.Attribute o m apos) (e :: es) [] pos) X.env = (do let ov ← eval o X.env; standAt apos.atName; let (f, first) ← holding [ov] (getMethod ov m pl); callWith pos f first (backTo pos (starEach (e :: es) X.env)) (backToKw pos (keywordEach [] X.env))) := by rfl) :
    PE X (.Call (.Attribute o m apos) (e :: es) [] pos) (tMethT C m sp E ta t) := by
  constructor
  intro pins s σ H Q I hyp
  refine PySem.W.methodCall_KW (pl := pl) (thn (he.run pins s σ H _ I hyp) fun u s1 got => ?_) text
  obtain ⟨x, H1, I1, rx, j, dx, fs, ex, ej, nf, q⟩ := got
  subst ex
  have eu : u = Value.ref j := rx
  subst eu
  refine getmeth_ok I1 ej c hm nf (PySem.W.callWith_K (first := [Value.ref j]) (h₀ := X.base) I.ok.mod.kin hm.kp (thn (ha.run pos pins s1 σ H1 _ I1 q) fun us s2 got2 => ?_) one nost)
  obtain ⟨vs, H2, I2, rel, q2⟩ := got2
  exact ⟨I2.kIn, run_fnS (us := Value.ref j :: us) (vs := V.ref j :: vs) F hr hb (hx σ) I2 (.cons rfl rel) q2⟩
/-- str of a text or of an int -/
def rStrA : List V → Hp → VK → Prop := fun vs H Q => (∃ i : Int, vs = [V.int i] ∧ i.natAbs.log2 < 1920 ∧ Q (.str (toString i)) H) ∨ ∃ x : Str, vs = [V.str x] ∧ Q (.str x) H
theorem cr_strA {X : Cx} : CallR X (.type "str") rStrA := by
  intro pins sh σ H vs us Q I rel hyp
  rcases hyp with ⟨i, rfl, small, q⟩ | ⟨x, rfl, q⟩
  · exact call_str_int pins sh σ H _ us Q I rel ⟨i, rfl, small, q⟩
  · exact SkE.call_str_str pins sh σ H _ us Q I rel ⟨x, rfl, q⟩

/-! ### the same where an exception is handled -/
section
open PySem.W (ksEnv ksFn ks_superIn kxs_mw)
/-- the context of such an __init__, called while an exception is handled -/
def cxSupH (CX : CXT) (P : Program) (w : World) (K : PySem.W.Frag) (mg : Str → Option Value) (base : Heap) (N : List Str) (qual : Str) (scope : Scope) (f : Addr) (cd : Value) (cc : Addr) (A : Around) (outer : List Env) (s : Shared) (H : Hp) (E : XK) (p : Addr × Obj) : Cx where
  prog := P
  w := w
  K := K
  mg := mg
  base := base
  A := A.deeper (ksEnv qual scope s.heap.objs.size f cd cc)
  N := N
  s_0 := s
  H_0 := H
  env := ksEnv qual scope s.heap.objs.size f cd cc
  outer := outer
  stack := ksEnv qual scope s.heap.objs.size f cd cc :: outer
  ex := []
  fn := fun _ => false
  calm := false
  pn := [p]
  xe := fun e s' => wpAny (model P w) (A.deeper (ksEnv qual scope s.heap.objs.size f cd cc)) (leaving (ksEnv qual scope s.heap.objs.size f cd cc) e) (fun _ s2 => CX outer H s E e s2) (fun e2 s2 => CX outer H s E e2 s2) s'
theorem inv_supH {CX : CXT} {P : Program} {w : World} {K : PySem.W.Frag} {mg : Str → Option Value} {base : Heap} {par qual : Str} {scope : Scope} {f cc : Addr} {cd : Value} {A : Around} {outer : List Env} {s : Shared} {h1 : Heap} {H : Hp} {E : XK} {u0 u1 : Value} {v0 v1 : V} {tk : Nat} {D : Value}
    (kind : scope.kind = .function) (only : ∀ y ∈ scope.names, y.2 ≠ .cell ∧ (y.2 = .free → y.1 = ("__class__" : Str))) (l1 : scope.names.lookup ("self" : Str) = some .local) (l2 : scope.names.lookup par = some .local) (np : ¬ ("self" : Str) = par)
    {p : Addr × Obj} (hpin : L2H.PinOk outer H s p) (e0 : Env0 P w K mg base A outer s H) (r0 : RelV v0 u0) (r1 : RelV v1 u1)
    (cell : s.heap.IsCell cc (some D)) (free : H cc = Option.none) (small : cc < s.heap.objs.size)
    (ns : h1.Ns s.heap.objs.size (fun x => [(par, u1), (("self" : Str), u0)].lookup x)) (kp : ∀ b o, s.heap.get? b = some o → h1.get? b = some o) :
    L2.Inv (cxSupH CX P w K mg base ["self", par] qual scope f cd cc A outer s H E p) [] (start ["self", par] [v0, v1]) H { s with heap := h1, toks := tk } := by
  have one : ∀ (x : Str) (c : Addr), (ksEnv qual scope s.heap.objs.size f cd cc).cells.lookup x = some c → x = "__class__" ∧ c = cc := fun x c e => by
    have e' : [(("__class__" : Str), cc)].lookup x = some c := e
    by_cases z : x = "__class__"
    · subst z
      exact ⟨rfl, (Option.some.inj ((show some cc = some c from by simpa [List.lookup] using e'))).symm⟩
    · have b : (x == ("__class__" : Str)) = false := by simpa using z
      simp [List.lookup, b] at e'
  have noA : ∀ b : Addr, b ∉ (cxSupH CX P w K mg base ["self", par] qual scope f cd cc A outer s H E p).ex := fun b z => absurd (show b ∈ ([] : List Addr) from z) (by simp)
  have ok : (cxSupH CX P w K mg base ["self", par] qual scope f cd cc A outer s H E p).Ok := {
    mod := e0.mod
    kind := kind
    glob := rfl
    blt := rfl
    above := Nat.le_refl _
    inj := fun x y c h1 h2 => (one x c h1).1.trans (one y c h2).1.symm
    has := fun x hx => by
      have hx' : scope.names.lookup x = some .cell ∨ scope.names.lookup x = some .free := hx
      rcases hx' with hx' | hx'
      · exact absurd rfl (only _ (PySem.mem_of_lookup hx')).1
      · have e : x = "__class__" := (only _ (PySem.mem_of_lookup hx')).2 rfl
        subst e
        exact ⟨cc, rfl⟩
    cab := fun x c h => Bool.noConfusion h
    hd := fun z => Bool.noConfusion (show false = true from z)
    frames := Around.frames_deeper e0.frames
    stk := .inr ⟨rfl, rfl⟩
    exf := fun b z => absurd z (noA b)
    bs := e0.bs
    bsz := e0.bsz
    noex := fun b _ _ => noA b
    exfs := fun b z => absurd z (noA b)
    funs := e0.funs
    frf := e0.frf }
  exact {
    ok := ok
    os := rfl
    bare := e0.bare
    base := Un.kept kp
    loc := ⟨_, ns, fun i x v h1 h2 h3 => by
      match i, h1, h2 with
      | 0, h1, h2 =>
        cases h1
        cases h2
        refine ⟨u0, r0, .inl ⟨l1, ?_⟩⟩
        show [(par, u1), (("self" : Str), u0)].lookup ("self" : Str) = some u0
        have b : (("self" : Str) == par) = false := by simpa using np
        simp [List.lookup, b]
      | 1, h1, h2 =>
        cases h1
        cases h2
        refine ⟨u1, r1, .inl ⟨l2, ?_⟩⟩
        show (match par == par with | true => some u1 | false => [(("self" : Str), u0)].lookup par) = some u1
        rw [beq_self_eq_true]
      | i + 2, h1, h2 =>
        have h3 : (["self", par] : List Str)[i + 2]? = some x := h1
        simp at h3⟩
    cell := fun x c e => by
      obtain ⟨_, rfl⟩ := one x c e
      obtain ⟨o, ho, hc⟩ := cell
      exact ⟨_, o, kp _ _ ho, hc⟩
    free := e0.hok.fresh (Nat.le_refl _)
    freeC := fun x c e => by
      obtain ⟨_, rfl⟩ := one x c e
      exact free
    pin := fun q hq => by
      have eq : q = p := by simpa using (show q ∈ [p] ++ ([] : List (Addr × Obj)) from hq)
      rw [eq]
      exact ⟨kp _ _ hpin.get, hpin.free, Nat.ne_of_lt (Heap.lt_size hpin.get), hpin.nofs, hpin.nocell⟩
    hok := e0.hok.kept kp
    len := rfl }
/-- THE RULE, where an exception is handled: such an __init__ keeps its promise -/
theorem ok_supH {CX : CXT} {P : Program} {w : World} {K : PySem.W.Frag} {mg : Str → Option Value} {base : Heap} {C f : Addr} {fd : FuncData} {qual par fld : Str} {st : Stmt} {msg : Expr} {p0 p1 p2 p3 p4 p5 p6 p7 p8 : Pos} {good : V → Prop}
    (S : SupCls P K C qual par fld st f fd) (T : SupTxt par fld st msg p0 p1 p2 p3 p4 p5 p6 p7 p8) (np : ¬ ("self" : Str) = par) (nd : (par == ("__debug__" : Str)) = false) (nc : (par == ("__classdict__" : Str)) = false) (noS : mg "super" = Option.none)
    (hmsg : ∀ (cd : Value) (cc : Addr) (A : Around) (outer : List Env) (s : Shared) (H : Hp) (E : XK) (p : Addr × Obj) (e : Addr) (v : V), good v →
      ∃ ta, PA (cxSupH CX P w K mg base ["self", par] qual (defScope st) f cd cc A outer s H E p) [msg] ta ∧ ∀ H1 Q, (∀ x, Q [x] H1) → ta (start ["self", par] [.ref e, v]) H1 Q)
    (star : ∀ env, starEach [msg] env = [(false, eval msg env)]) (inter : ∀ L g cd cc, interactive (ksEnv qual (defScope st) L g cd cc) = false) (swap : ∀ L g cd cc, swapsWith (.Call (.Attribute (.Call (.Name "super" p0) [] [] p1) "__init__" p2) [msg] [] p3) Option.none p4.line (ksEnv qual (defScope st) L g cd cc) = pure false)
    (swap2 : ∀ L g cd cc, swapsWith (.Name par p7) (some (.Attribute (.Name "self" p5) fld p6)) p8.line (ksEnv qual (defScope st) L g cd cc) = pure false)
    (pl : Sem Bool) (he : ∀ (env : Env), eval (.Call (.Attribute (.Call (.Name "super" p0) [] [] p1) "__init__" p2) [msg] [] p3) env = (do
      let ov ← attributeBase (.Call (.Name "super" p0) [] [] p1) "__init__" env (eval (.Call (.Name "super" p0) [] [] p1) env)
      standAt p2.atName
      let (f, first) ← holding [ov] (getMethod ov "__init__" pl)
      callWith p3 f first (backTo p3 (starEach [msg] env)) [])) :
    L2H.FnH P w K mg base CX 1 f fd ["self", par] (spSup C fld good) := by
  obtain ⟨oc, od, kV, doc, pm, an, cda, ct, osl, cc, cl, cld, csl, ccl, cdd, vs, ccs, file, tf, rfl, lk, hcd, hcell, hcode, hvs, hfile⟩ := S.fn
  refine ⟨fun vs H Q E h => ?_, fun A outer s H args us vs0 Q E p hr hot hpin e0 hb rel hsp => ?_⟩
  · obtain ⟨e, v, rfl, _⟩ := h
    rfl
  obtain ⟨e, v, rfl, hexo, hgood, fin⟩ := hsp
  have KX : K.In s.heap := e0.mod.kin.keeps fun b o z => (e0.bs b o z).1
  have lim : s.heap.NoLimit := e0.mod.nolimit.keeps fun b o z => (e0.bs b o z).1
  obtain ⟨u0, u1, rfl, r0, r1⟩ := vals2 rel
  have isCell : s.heap.IsCell cc (some (.ref C)) := ⟨_, KX _ _ hcell, rfl⟩
  have freeC : H cc = Option.none := (e0.bs _ _ (e0.mod.kin _ _ hcell)).2
  refine ks_codeAny_call_defAt (fd := ksFn "__init__" qual (defArgs st) (defBody st) (defScope st) .none kV doc pm an (.ref cda) ct cc) (body := defBody st) (binds := [(("self" : Str), u0), (par, u1)]) hr.depth (KX _ _ lk) rfl lim (PySem.W.codeRec_of KX hcd) rfl hb (fun x hx => (T.only x hx).1) ?_ (fun h1 ns kp => ?_) T.co T.gen T.kind
  · intro y hy
    rcases List.mem_cons.mp hy with rfl | hy
    · exact T.s1
    · rw [List.mem_singleton.mp hy]
      exact T.s2
  have I : L2.Inv (cxSupH CX P w K mg base ["self", par] qual (defScope st) f (.ref cda) cc A outer s H E p) [] (start ["self", par] [.ref e, v]) H { s with heap := h1, toks := s.toks + 2 } :=
    inv_supH T.kind T.only T.s1 T.s2 np hpin e0 r0 r1 isCell freeC (Heap.lt_size (KX _ _ hcell)) ns kp
  show wpAt (model P w) (A.deeper (ksEnv qual (defScope st) s.heap.objs.size f (.ref cda) cc)) (.func (defBody st) (ksEnv qual (defScope st) s.heap.objs.size f (.ref cda) cc)) (execs (defBody st) (ksEnv qual (defScope st) s.heap.objs.size f (.ref cda) cc)) _ _ _
  rw [T.body]
  obtain ⟨hp, g, d, tk, os⟩ := s
  have up : ∀ b o, base.get? b = some o → h1.get? b = some o := fun b o z => kp b o (e0.bs b o z).1
  have K1 : K.In h1 := e0.mod.kin.keeps up
  obtain ⟨mb, hmb, hbb⟩ := e0.mod.blt
  obtain ⟨ar, har, earg⟩ := T.ps
  cases (show u0 = Value.ref e from r0)
  obtain ⟨t1, hx⟩ := exo_at I.hok hexo
  obtain ⟨nm, qn, N, bs, bm, sn, sub, ab, col, dd, k0, k1, k2, k3, k5, hC, hbm⟩ := S.oex.cls
  have hcl : PySem.W.clsIn K C = some { name := nm, bases := bs, mro := .ref C :: bm, ns := N, qualname := qn, hasDict := true, slotNames := sn, subclasses := sub, abstract := ab, collection := col, hasDel := false } := by
    unfold PySem.W.clsIn
    rw [hC]
  refine ks_wpAt_execs_cons (ks_wpAt_Expr_any (ks_wpAt_MethodCall (pl := pl) ?_ (he _)) (inter _ _ _ _) (swap _ _ _ _))
  refine ks_wpAt_super_base (env := ksEnv qual (defScope st) hp.objs.size f (.ref cda) cc) T.s4 T.s3 (by decide) rfl (kp _ _ (KX _ _ lk)) rfl har rfl (K1 _ _ hcode) rfl hvs hfile S.topS ?_
  refine PySem.W.ks_loadName_global T.kind T.s4 (PySem.Calls.loadGlobal_builtin (env := ksEnv qual (defScope st) hp.objs.size f (.ref cda) cc) (e0.mod.glob.keeps up) noS (hmb.keeps up) ((hbb "super" (by decide)).trans (by decide +kernel)) ⟨rfl, ?_⟩)
  refine wpAny_loadName_free T.kind T.s3 rfl ⟨_, K1 _ _ hcell, rfl⟩ ?_
  rw [earg]
  refine wpAny_loadName_local T.kind T.s1 ns (v := .ref e) ?_ ?_
  · show [(par, u1), (("self" : Str), Value.ref e)].lookup ("self" : Str) = some (.ref e)
    have b : (("self" : Str) == par) = false := by simpa using np
    simp [List.lookup, b]
  refine ks_wpAny_isType_cls (K1 _ _ hC) rfl ⟨rfl, ?_⟩
  refine ks_wpAny_call_super (K1 _ _ hC) rfl hx rfl (fun c z => by cases z) (PySem.W.looks_mroIn K1 S.mroC) (fun h2 hso kp2 => ?_)
  have K2 : K.In h2 := K1.keeps kp2
  have hx2 := kp2 _ _ hx
  have inst : PySem.W.InstAt h2 e { cls := .ref C, dict := Option.none, data := .fields #[.ref t1, .none, .none, .none, .bool false, .none] } C Option.none := ⟨hx2, rfl, rfl, trivial⟩
  have hf := S.sup
  unfold ks_superIn at hf
  rw [hcl] at hf
  have neC : e ≠ C := fun z => by
    have q := (e0.bs _ _ (e0.mod.kin _ _ hC)).2
    rw [← z, hexo] at q
    cases q
  refine PySem.W.kxs_getMethod PySem.W.kxs_ValueError hso (PySem.W.looks_opaque K2 S.opq) (l₀ := .ref C :: bm) ((PySem.W.looks_clsIn K2 hcl).andThen .now) rfl K2 hf (inst.type.andThen (PySem.W.looks_subIn K2 S.subV)) neC (by decide) ?_
  have hmw : (h2.push (kxs_mw "ValueError.__init__" e)).get? h2.objs.size = some (kxs_mw "ValueError.__init__" e) := Heap.get?_push_size _ rfl
  have kp3 : ∀ b o, h1.get? b = some o → (h2.push (kxs_mw "ValueError.__init__" e)).get? b = some o := fun b o z => Heap.get?_push_of_some _ (kp2 b o z)
  have Ih := I.kept (h' := h2) (t' := tk + 2) kp2
  have I2 := I.kept (h' := h2.push (kxs_mw "ValueError.__init__" e)) (t' := tk + 2 + 1) kp3
  have I3 : L2.Inv (cxSupH CX P w K mg base ["self", par] qual (defScope st) f (.ref cda) cc A outer ⟨hp, g, d, tk, os⟩ H E p) [(h2.objs.size, kxs_mw "ValueError.__init__" e)] (start ["self", par] [.ref e, v]) H ⟨h2.push (kxs_mw "ValueError.__init__" e), g, d, tk + 2 + 1, os⟩ := { I2 with
    pin := fun q hq => by
      rcases List.mem_append.mp (show q ∈ [p] ++ [(h2.objs.size, kxs_mw "ValueError.__init__" e)] from hq) with hq | hq
      · exact I2.pin q (List.mem_append_left _ hq)
      cases List.mem_singleton.mp hq
      refine ⟨hmw, Ih.hok.fresh (Nat.le_refl _), Nat.ne_of_gt Ih.lt, Ih.nofs (Nat.le_refl _), fun c z => by cases z⟩ }
  obtain ⟨ta, pa, rd⟩ := hmsg (.ref cda) cc A outer ⟨hp, g, d, tk, os⟩ H E p e v hgood
  have st1 := star (ksEnv qual (defScope st) hp.objs.size f (.ref cda) cc)
  have ran : wpAny (model P w) (A.deeper (ksEnv qual (defScope st) hp.objs.size f (.ref cda) cc)) (spliced (backTo p3 (starEach [msg] (ksEnv qual (defScope st) hp.objs.size f (.ref cda) cc)))) _ _ _ :=
    pa.run p3 _ _ _ _ (fun vs H1 => H1 = H ∧ vs.length = 1) I3 (rd H _ fun x => ⟨rfl, rfl⟩)
  show wpAny _ _ (callWith p3 (.ref h2.objs.size) [] (backTo p3 (starEach [msg] (ksEnv qual (defScope st) hp.objs.size f (.ref cda) cc))) []) _ _ _
  rw [st1] at ran ⊢
  refine PySem.W.kxs_callWith (i := "ValueError.__init__") (x := e) (u := h2.objs.size) rfl (PySem.Calls.evalArgs_plain (thn ran fun us s3 got => ?_))
  obtain ⟨vs1, H1, I4, rel1, rfl, len1⟩ := got
  have hu := (I4.pin _ (List.mem_append_right [p] List.mem_cons_self)).1
  refine ⟨hu, call_mw S.oex I4 hexo hu (by show us.length ≤ sizeLine; rw [← Vals.length rel1, len1, sizeLine_eq]; decide) fun s4 I5 => ?_⟩
  have last : PSs (cxSupH CX P w K mg base ["self", par] qual (defScope st) f (.ref cda) cc A outer ⟨hp, g, d, tk, os⟩ H1 E p) [.Assign [.Attribute (.Name "self" p5) fld p6] (.Name par p7) p8] _ :=
    pss_one (ps_ost (pv 0 rfl (.inl T.s1)) (pv 1 rfl (.inl T.s2) nd nc) (swap2 _ _ _ _))
  refine wpAt_of_wpAny (thn (last.run _ s4 _ H1 { nx := fun _ H2 => Q .non H2, rt := Q } I5 ⟨v, rfl, .ref e, rfl, e, C, rfl, S.oex, S.nof, .inl ⟨hexo, fin⟩⟩) fun fl s5 got => ?_)
  cases fl with
  | next =>
    obtain ⟨σ', H', J, q⟩ := got
    exact ⟨V.non, H', J.os, J.bare, J.base, J.hok, rfl, q⟩
  | ret u =>
    obtain ⟨y, σ', H', J, ry, q⟩ := got
    exact ⟨y, H', J.os, J.bare, J.base, J.hok, ry, q⟩
  | brk =>
    obtain ⟨_, _, _, q⟩ := got
    exact q.elim
  | cont =>
    obtain ⟨_, _, _, q⟩ := got
    exact q.elim
end
theorem pmk_weak {X : Cx} {e : Expr} {t : L2.St → Hp → XK → Prop} (h : L2N.PMk X e t) : PMk X e t := fun pins s σ H Q I q => thn (h pins s σ H Q I q) fun _ _ ⟨a, oe, vs, sI, H1, cls, d, e1, J, k, e2, e3, z, x⟩ => ⟨a, oe, vs, sI, H1, cls, d, e1, J, k, e2, e3, z.zc, x⟩
theorem sky_imp {B : Heap} {l : List Env} {a L : Addr} {Z Z' : Obj → Prop} {h : Heap} (z : ∀ o, Z o → Z' o) (x : Sky B l a Z L h) : Sky B l a Z' L h := by
  rcases x with ⟨h1, h2, h3, oe, vs, e1, e2, e3⟩ | x | ⟨h1, h2, h3, x⟩
  · exact .inl ⟨h1, h2, h3, oe, vs, e1, z _ e2, e3⟩
  · exact .inr (.inl (L2H.flyingZ_imp z x))
  · exact .inr (.inr ⟨h1, h2, h3, L2H.tracedZ_imp z x⟩)
theorem takesN_of {X : Cx} {W : WX} (tk : Takes X W) : L2N.Takes X W := fun u s' ⟨a, B, sI, pins, σ, H, cls, d, e, I, nb, up, sky, x⟩ => tk u s' ⟨a, B, sI, pins, σ, H, cls, d, e, I, nb, up, sky_imp (fun _ z => z.zc) sky, x⟩
/-- a statement whose reading is kept whole -/
def tWhole (t : TS) : TS := t
theorem ps_whole {X : Cx} {st : Stmt} {t : TS} (h : PS X st t) : PS X st (tWhole t) := h

/-! ### a def called while any exception is handled -/
structure FnW (P : Program) (w : World) (K : PySem.W.Frag) (mg : Str → Option Value) (base : Heap) (k : Nat) (f : Addr) (fd : FuncData) (ps : List Str) (sp : Sp) : Prop where
  len : ∀ vs H Q E, sp vs H Q E → vs.length = ps.length
  run : ∀ (A : Around) (out : List Env) (s : Shared) (H : Hp) (ar : Args) (us : List Value) (vs : List V) (Q : VK) (E : XK) (p : Addr × Obj), L2H.RoomH k A → L2H.PinOk out H s p → Env0 P w K mg base A out s H →
    BindsTo s fd ar (ps.zip us) → Vals vs us → sp vs H Q E → codeAny (model P w) A (.call (.ref f) ar) (CR CX0 out P w H s Q E) s
theorem fun_okW {P : Program} {w : World} {K : PySem.W.Frag} {mg : Str → Option Value} {base : Heap} {x qual : Str} {st : Stmt} {f : Addr} {fd : FuncData} {N ps : List Str} {k : Nat} {sp : Sp} (F : Fun K x qual st f fd) (S : FnScope N ps (defScope st))
    (len : ∀ vs H Q E, sp vs H Q E → vs.length = ps.length)
    (body : ∀ (cdv : Value) (A : Around) (out : List Env) (s : Shared) (H : Hp) (vs : List V) (Q : VK) (E : XK) (p : Addr × Obj), L2H.RoomH k (A.deeper (PyProof.Rows.envOfC qual (defScope st) s.heap.objs.size f cdv)) → sp vs H Q E →
      ∃ t, PSs (L2H.cxH CX0 P w K mg base N qual (defScope st) f cdv A out s H E p) (defBody st) t ∧ t { nx := fun _ H' => Q .non H', rt := Q } (start N vs) H) : FnW P w K mg base (k + 1) f fd ps sp := by
  obtain ⟨oc, od, kV, doc, pm, an, cdv, ct, osl, rfl, lk, hcd⟩ := F.ex
  constructor
  · exact len
  intro A out s H ar us vs Q E p room pin env bind vals want
  have up : ∀ b o, base.get? b = some o → s.heap.get? b = some o := fun b o z => (env.bs b o z).1
  have KX : K.In s.heap := env.mod.kin.keeps up
  have places : ∀ y ∈ ps.zip us, (defScope st).names.lookup y.1 = some .local ∨ ((defScope st).names.lookup y.1 = some .cell ∧ ((cellsFrom (s.heap.objs.size + 1) (defScope st).names []).lookup y.1).isSome = true) := by
    rintro ⟨n, v⟩ hy
    exact (S.par n (List.of_mem_zip hy).1).imp id fun q => ⟨q, PySem.W.cellsFrom_some _ _ _ (.inl q)⟩
  refine codeAny_call_function room.depth (KX _ _ lk) rfl S.co S.gen rfl (PySem.W.codeRec_of KX hcd) (bind _ _ _ _ ?_)
  refine wpAny_newFunctionEnv_cells S.kind places fun e he s1 x => ?_
  cases he
  refine ⟨(env.mod.nolimit.keeps up).keeps x.toInCall.keep, codeAny_func ?_⟩
  obtain ⟨t, ht, hq⟩ := body cdv A out s H vs Q E p (room.deeper _) want
  refine wpAny_mono (ht.run [] s1 _ H _ (L2H.inv_startH S pin env (len _ _ _ _ want) vals x) hq) (fun fl s' got => ?_) fun _ _ z => z
  cases fl with
  | next =>
    obtain ⟨_, H2, J, q⟩ := got
    exact ⟨V.non, H2, J.os, J.bare, J.base, J.hok, rfl, q⟩
  | ret u =>
    obtain ⟨v, _, H2, J, rv, q⟩ := got
    exact ⟨v, H2, J.os, J.bare, J.base, J.hok, rv, q⟩
  | brk => exact got.elim fun _ z => z.elim fun _ z => z.2.elim
  | cont => exact got.elim fun _ z => z.elim fun _ z => z.2.elim
theorem pe_callW {X : Cx} {k : Nat} {f : Addr} {fd : FuncData} {ps : List Str} {sp : Sp} {x : Str} {q pos : Pos} {e : Expr} {es : List Expr} {t : TA} {p : Addr × Obj} (F : FnW X.prog X.w X.K X.mg X.base k f fd ps sp) (room : L2H.RoomH k X.A) (hp : p ∈ X.pn) (hg : Gl X x) (hm : X.mg x = some (.ref f)) (hk : PySem.W.keepIn X.K (.ref f) = true)
    (hb : Binds X.K fd ps []) (ha : PA X (e :: es) t) (hdb : (x == ("__debug__" : Str)) = false := by decide) (he : starEach (e :: es) X.env = (false, eval e X.env) :: starEach es X.env := by rfl) (hpl : (backTo pos (starEach es X.env)).any (·.1) = false := by rfl) :
    PE X (.Call (.Name x q) (e :: es) [] pos) (tCallS sp (fun _ => E0) t) := by
  constructor
  intro pins s σ H Q I want
  refine wpAny_Call_Name_kw (ld_glob I hg hm ?_ hdb)
  refine PySem.W.callWith_K (h₀ := X.base) I.ok.mod.kin hk (thn (ha.run pos pins s σ H _ I want) fun us s1 got => ?_) he hpl
  obtain ⟨vs, H1, I1, vals, ask⟩ := got
  refine ⟨I1.kIn, ?_⟩
  have same : us.length = ps.length := vals.length.symm.trans (F.len _ _ _ _ ask)
  have bind := hb s1 us I1.kIn ((congrArg List.length (List.append_nil us)).trans same)
  rw [List.append_nil] at bind
  have at1 := I1.pin p (List.mem_append_left _ hp)
  have pin : L2H.PinOk X.stack H1 s1 p := by
    refine ⟨at1.1, at1.2.1, fun hmm => ?_, at1.2.2.2.2⟩
    rcases List.mem_cons.mp (I1.stkSub p.1 hmm) with z | z
    · exact at1.2.2.1 z
    · exact at1.2.2.2.1 z
  refine wpAny_call (codeAny_mono (F.run X.A X.stack s1 H1 ⟨us, []⟩ us vs Q E0 p room pin I1.env0 bind vals ask) fun r s2 fin => ?_)
  cases r with
  | error z => exact (fin : False).elim
  | ok fl =>
    cases fl with
    | ret u => exact I1.after fin
    | next => exact (fin : False).elim
    | brk => exact (fin : False).elim
    | cont => exact (fin : False).elim

/-! ### a tuple times nought -/
section
open PyProof.Rows
theorem tuple_mul0 (l : Addr) (items : Array Value) (n : Nat) (dd : Option Addr) (sl : Array (Option Value)) (u : Tok) (c1 : (items.isEmpty || (0 : Int) == 1) = false) :
    Meets (Builtin.«tuple.__mul__» ⟨[.ref l, .int 0 u], []⟩) (fun _ R s => s.heap.get? l = some { cls := .type "tuple", dict := dd, data := .seq items n, slots := sl } ∧
      R (.ok (.ret (Value.ref s.heap.objs.size))) { s with heap := s.heap.push { cls := Value.type "tuple", data := Data.seq #[] }, toks := s.toks }) :=
  .of_wp fun prog w A R s h => by
    obtain ⟨hp, g, d, tk, os⟩ := s
    obtain ⟨hl, h⟩ := h
    have f1 := AutoSeq1.idx_int
    have c0 : (decide ((0 : Int) < -(2 ^ 63)) || decide ((0 : Int) ≥ 2 ^ 63)) = false := by decide
    have c2 : (decide ((0 : Int) ≤ 0) || items.isEmpty) = true := rfl
    wp_walk using wpAny_loadPart' hl
    repeat (first
      | (refine wpAny_ite_false (decide_eq_false (by rw [c0]; exact Bool.false_ne_true)) ?_; wp_walk using wpAny_loadPart' hl)
      | (refine wpAny_ite_false (decide_eq_false (by rw [c1]; exact Bool.false_ne_true)) ?_; wp_walk using wpAny_loadPart' hl)
      | (refine wpAny_ite_true (decide_eq_true (by rw [c2])) ?_; wp_walk using wpAny_loadPart' hl))
    exact ⟨_, rfl, h⟩
def rRepT0 (K : PySem.W.Frag) : R2 := fun x y H Q => ∃ l xs, x = .ref l ∧ y = .int 0 ∧ SqT K H l xs ∧ xs ≠ [] ∧ ∀ p, H p = none → Q (.ref p) (_root_.L2.upd H p (.tup []))
theorem op_repT0 {X : Cx} : OpR X (binaryOp .Mult) (rRepT0 X.K) := by
  intro pins s σ H x y v u Q I rx ry h
  obtain ⟨l, xs, rfl, rfl, hT, hne, q⟩ := h
  cases rx
  obtain ⟨t, rfl⟩ := ry
  obtain ⟨its, r, ⟨⟨cls, dd, data, sl⟩, ho, hc, n, hd⟩, hs⟩ := I.tuple hT
  simp only at hc hd
  subst hc hd
  have hle : its.length = xs.length := r.length.symm
  have hn : its ≠ [] := fun e => hne (by
    rw [e] at hle
    exact List.eq_nil_of_length_eq_zero hle.symm)
  have hi : its.toArray.isEmpty = false := by
    cases its with
    | nil => exact absurd rfl hn
    | cons a b => rfl
  have c1 : (its.toArray.isEmpty || (0 : Int) == 1) = false := by
    rw [hi, Bool.false_or]
    rfl
  refine wpAny_binaryOp_repeat_ref (T := "tuple") (U := "int") (by decide) ⟨_, ho, rfl⟩ (fun s' => typeIs_int s' 0 t) noFill_tuple_mul F.fills_int_mul F.slot_int_rmul repeat_tuple F.slot_int_index.lookup
    (call_meets F.slot_int_rmul (typeIs_int s 0 t) F.entry_int_rmul (F.args_int_rmul_2 _ _) (int_rmul_tuple 0 t l its.toArray n dd sl)
      ⟨ho, rfl, ⟨_, ho, rfl⟩, call_meets F.slot_tuple_mul ⟨_, ho, rfl⟩ F.entry_tuple_mul (F.args_tuple_mul_2 _ _) (tuple_mul0 l its.toArray n dd sl t c1) ⟨ho, ?_⟩⟩)
  refine ⟨.ref s.heap.objs.size, _, I.laid (t' := s.toks) (o := .tup []) (fun b ob q => Heap.get?_push_of_some _ q) (Nat.le_refl _) ?_, rfl, q _ (I.hok.fresh (Nat.le_refl _))⟩
  exact ⟨(by show 0 ≤ sizeLine; decide), [], .nil, IsTup.new _ _⟩
end

structure TxtE (P : Program) (w : World) (K : PySem.W.Frag) (mg : Str → Option Value) (a : Ads) : Prop where
  g_MARKS : mg "MARKS" = some (.ref a.P_MARKS)
  tab_MARKS : KTab K w a.P_MARKS [("p", a.M_MARKS_p), ("w", a.M_MARKS_w), ("d", a.M_MARKS_d), ("k", a.M_MARKS_k)]
  s_MARKS_p : ∀ H, SqT K H a.M_MARKS_p [V.str "p", V.str "q", V.str "r"]
  s_MARKS_w : ∀ H, SqT K H a.M_MARKS_w [V.str "w", V.str "x"]
  s_MARKS_d : ∀ H, SqT K H a.M_MARKS_d [V.str "d", V.str "z"]
  s_MARKS_k : ∀ H, SqT K H a.M_MARKS_k [V.str "k", V.str "b", V.str "v"]
  g_BadCommand : mg "BadCommand" = some (.ref a.C_BadCommand)
  x_BadCommand : PySem.W.excIn K a.C_BadCommand [.type "ValueError", .type "Exception", .type "BaseException", .type "object"] "ValueError.__new__" = true
  kc_BadCommand : PySem.W.keepIn K (.ref a.C_BadCommand) = true
  b_BadCommand : PySem.W.subIn K (.ref a.C_BadCommand) (.type "BaseException") = some true
  t_BadCommand : PySem.W.typeIn K (.ref a.C_BadCommand) = some (.type "type")
  xc_BadCommand : XcC K a.C_BadCommand
  exm_BadCommand_BadCommand : PySem.W.exmOne K (.ref a.C_BadCommand) (.ref a.C_BadCommand) = some true
  g_BadPaper : mg "BadPaper" = some (.ref a.C_BadPaper)
  x_BadPaper : PySem.W.excIn K a.C_BadPaper [.type "ValueError", .type "Exception", .type "BaseException", .type "object"] "ValueError.__new__" = true
  kc_BadPaper : PySem.W.keepIn K (.ref a.C_BadPaper) = true
  b_BadPaper : PySem.W.subIn K (.ref a.C_BadPaper) (.type "BaseException") = some true
  t_BadPaper : PySem.W.typeIn K (.ref a.C_BadPaper) = some (.type "type")
  xc_BadPaper : XcC K a.C_BadPaper
  kt_BadPaper_BadPaper : PySem.W.kitOne K (.ref a.C_BadPaper) (.ref a.C_BadPaper) = some true
  exm_BadPaper_BadPaper : PySem.W.exmOne K (.ref a.C_BadPaper) (.ref a.C_BadPaper) = some true
  g_BadLine : mg "BadLine" = some (.ref a.C_BadLine)
  sup_BadLine : ∃ fd, SupCls P K a.C_BadLine "BadLine.__init__" "at" "at" s_BadLine_init a.d_BadLine_init fd ∧ Binds K fd ["self", "at"] []
  iC_BadLine : PySem.W.findIn K (.ref a.C_BadLine) "__init__" = some (some (.ref a.d_BadLine_init))
  tI_BadLine : PySem.W.typeIn K (.ref a.d_BadLine_init) = some (.type "function")
  oex_BadLine : OexC K a.C_BadLine
  xc_BadLine : XcC K a.C_BadLine
  g_BadArchive : mg "BadArchive" = some (.ref a.C_BadArchive)
  sup_BadArchive : ∃ fd, SupCls P K a.C_BadArchive "BadArchive.__init__" "at" "at" s_BadArchive_init a.d_BadArchive_init fd ∧ Binds K fd ["self", "at"] []
  iC_BadArchive : PySem.W.findIn K (.ref a.C_BadArchive) "__init__" = some (some (.ref a.d_BadArchive_init))
  tI_BadArchive : PySem.W.typeIn K (.ref a.d_BadArchive_init) = some (.type "function")
  oex_BadArchive : OexC K a.C_BadArchive
  xc_BadArchive : XcC K a.C_BadArchive
  g_KINDS : mg "KINDS" = some (.ref a.P_KINDS)
  s_KINDS : ∀ H, SqT K H a.P_KINDS [V.str "proposal", V.str "prevote", V.str "precommit"]
  exm_BadLine_BadLine : PySem.W.exmOne K (.ref a.C_BadLine) (.ref a.C_BadLine) = some true
  g_TribunalError : mg "TribunalError" = some (.ref a.C_TribunalError)

def spFirst (K : PySem.W.Frag) : Sp := fun vs H Q _ => ∃ (p : Addr) (ws : List Int), vs = [.ref p] ∧ SqL K H p (ws.map V.int) ∧ GoodW ws ∧ ∀ H', Same H H' → Q .non H'
def spInit (K : PySem.W.Frag) (C : Addr) : Sp := fun vs H Q _ => ∃ (p dx l : Addr) (ws : List Int), vs = [.ref p, .ref l] ∧ H p = some (.ins C dx []) ∧ SqL K H l (ws.map V.int) ∧ GoodW ws ∧
  ∀ H' : Hp, CommAt C H' p ws → (∀ b o, H b = some o → b ≠ p → H' b = some o) → Q .non H'

def spWof (K : PySem.W.Frag) (C : Addr) : Sp := fun vs H Q _ => ∃ (p l : Addr) (ws ms : List Int), vs = [.ref p, .ref l] ∧ CommAt C H p ws ∧ ws.length ≤ 16 ∧ SqL K H l (ms.map V.int) ∧ ms.length ≤ 1000 ∧ ∀ H', Same H H' → Q (.int (wOf ws ms)) H'
def spQuorum (K : PySem.W.Frag) (C : Addr) : Sp := fun vs H Q _ => ∃ (p l : Addr) (ws ms : List Int), vs = [.ref p, .ref l] ∧ CommAt C H p ws ∧ ws.length ≤ 16 ∧ SqL K H l (ms.map V.int) ∧ ms.length ≤ 1000 ∧ ∀ H', Same H H' → Q (.bl (decide (2 * ws.sum < 3 * wOf ws ms))) H'

/-! ### votes by turn, and the turns that they certify -/
def selV (kd : Kd) (h : Int) (b : Option Str) (x : Lt) : Bool := decide (b ≠ none ∧ x.m.k = kd ∧ x.m.h = h ∧ x.m.b = b)
def inT (kd : Kd) (h : Int) (b : Option Str) (t : Int) (x : Lt) : Bool := selV kd h b x && decide (x.m.t = t)
def vbK (ks : List (Int × Addr)) : List (Key × V) := ks.map fun e => (Sum.inl e.1, V.ref e.2)
structure VbAt (H : Hp) (D : Addr) (xs : List Lt) (kd : Kd) (h : Int) (b : Option Str) (ks : List (Int × Addr)) : Prop where
  here : H D = some (.dK (vbK ks))
  nd : (ks.map (·.1)).Nodup
  nl : (ks.map (·.2)).Nodup
  ls : ∀ e ∈ ks, ∃ qs, H e.2 = some (.lst (qs.map V.ref)) ∧ LsAt H qs (xs.filter (inT kd h b e.1))
  ky : ∀ t : Int, t ∈ ks.map (·.1) ↔ ∃ x ∈ xs, inT kd h b t x = true
  few : ks.length ≤ xs.length
theorem VbAt.same {H H' : Hp} {D : Addr} {xs : List Lt} {kd : Kd} {h : Int} {b : Option Str} {ks : List (Int × Addr)} (v : VbAt H D xs kd h b ks) (s : Same H H') : VbAt H' D xs kd h b ks :=
  ⟨s _ _ v.here, v.nd, v.nl, fun e he => let ⟨qs, h1, h2⟩ := v.ls e he; ⟨qs, s _ _ h1, h2.same s⟩, v.ky, v.few⟩
theorem val_vb {t : Int} : ∀ {ks : List (Int × Addr)}, t ∈ ks.map (·.1) → ∃ l, (t, l) ∈ ks ∧ valV (vbK ks) (Sum.inl t) = some (.ref l)
  | [], h => nomatch h
  | e :: ks, h => by
    by_cases c : e.1 = t
    · exact ⟨e.2, by rw [← c]; exact List.mem_cons_self, valV_pos (p := (Sum.inl e.1, V.ref e.2)) (by rw [c])⟩
    · obtain ⟨l, h1, h2⟩ := val_vb (ks := ks) ((List.mem_cons.mp h).resolve_left fun z => c z.symm)
      exact ⟨l, List.mem_cons_of_mem _ h1, (valV_neg (p := (Sum.inl e.1, V.ref e.2)) (fun z => c (Sum.inl.inj z))).trans h2⟩
theorem val_vbn {t : Int} : ∀ {ks : List (Int × Addr)}, t ∉ ks.map (·.1) → valV (vbK ks) (Sum.inl t) = none
  | [], _ => rfl
  | e :: ks, h => by
    have c : ¬ e.1 = t := fun z => h (by rw [← z]; exact List.mem_cons_self)
    exact (valV_neg (p := (Sum.inl e.1, V.ref e.2)) (fun z => c (Sum.inl.inj z))).trans (val_vbn fun z => h (List.mem_cons_of_mem _ z))
theorem putK_new {kvs : List (Key × V)} {k : Key} {v : V} (h : valV kvs k = none) : putK kvs k v = kvs ++ [(k, v)] := by
  unfold putK
  rw [valV_any, h]
  rfl
theorem filt_no {xs : List Lt} {x : Lt} {p : Lt → Bool} (h : p x = false) : (xs ++ [x]).filter p = xs.filter p := by
  rw [List.filter_append, List.filter_cons_of_neg (by rw [h]; exact Bool.false_ne_true), List.filter_nil, List.append_nil]
theorem filt_yes {xs : List Lt} {x : Lt} {p : Lt → Bool} (h : p x = true) : (xs ++ [x]).filter p = xs.filter p ++ [x] := by
  rw [List.filter_append, List.filter_cons_of_pos h, List.filter_nil]
theorem inT_t {kd : Kd} {h : Int} {b : Option Str} {t : Int} {x : Lt} (c : inT kd h b t x = true) : t = x.m.t := by
  unfold inT at c
  exact (of_decide_eq_true (Bool.and_eq_true_iff.mp c).2).symm
theorem inT_self {kd : Kd} {h : Int} {b : Option Str} {x : Lt} (c : selV kd h b x = true) : inT kd h b x.m.t x = true := by
  unfold inT
  rw [c]
  simp
theorem inT_no {kd : Kd} {h : Int} {b : Option Str} {t : Int} {x : Lt} (c : selV kd h b x = false) : inT kd h b t x = false := by
  unfold inT
  rw [c]
  rfl
theorem VbAt.skip {H : Hp} {D : Addr} {xs : List Lt} {x : Lt} {kd : Kd} {h : Int} {b : Option Str} {ks : List (Int × Addr)} (v : VbAt H D xs kd h b ks) (c : selV kd h b x = false) : VbAt H D (xs ++ [x]) kd h b ks := by
  refine ⟨v.here, v.nd, v.nl, fun e he => ?_, fun t => ?_, ?_⟩
  · rw [filt_no (inT_no c)]
    exact v.ls e he
  · rw [v.ky t]
    constructor
    · rintro ⟨y, hy, z⟩
      exact ⟨y, List.mem_append_left _ hy, z⟩
    · rintro ⟨y, hy, z⟩
      rcases List.mem_append.mp hy with hy | hy
      · exact ⟨y, hy, z⟩
      · rw [List.mem_singleton.mp hy, inT_no c] at z
        cases z
  · have := v.few
    rw [List.length_append]
    omega
theorem ne_dk {H : Hp} {D l : Addr} {kvs : List (Key × V)} {ys : List V} (h : H D = some (.dK kvs)) (hl : H l = some (.lst ys)) : D ≠ l := fun e => by
  rw [e, hl] at h
  cases h
theorem nodup_snd {ks : List (Int × Addr)} {e f : Int × Addr} (nl : (ks.map (·.2)).Nodup) (he : e ∈ ks) (hf : f ∈ ks) (ne : e ≠ f) : e.2 ≠ f.2 := by
  intro z
  induction ks with
  | nil => cases he
  | cons g ks ih =>
    rw [List.map_cons, List.nodup_cons] at nl
    rcases List.mem_cons.mp he with rfl | he' <;> rcases List.mem_cons.mp hf with rfl | hf'
    · exact ne rfl
    · exact nl.1 (by rw [z]; exact List.mem_map.mpr ⟨f, hf', rfl⟩)
    · exact nl.1 (by rw [← z]; exact List.mem_map.mpr ⟨e, he', rfl⟩)
    · exact ih nl.2 he' hf'
theorem nodup_fst {ks : List (Int × Addr)} {e f : Int × Addr} (nd : (ks.map (·.1)).Nodup) (he : e ∈ ks) (hf : f ∈ ks) (q : e.1 = f.1) : e = f := by
  induction ks with
  | nil => cases he
  | cons g ks ih =>
    rw [List.map_cons, List.nodup_cons] at nd
    rcases List.mem_cons.mp he with rfl | he' <;> rcases List.mem_cons.mp hf with rfl | hf'
    · rfl
    · exact (nd.1 (by rw [q]; exact List.mem_map.mpr ⟨f, hf', rfl⟩)).elim
    · exact (nd.1 (by rw [← q]; exact List.mem_map.mpr ⟨e, he', rfl⟩)).elim
    · exact ih nd.2 he' hf'
/-- one more letter in the list that its turn has -/
theorem VbAt.more {H : Hp} {D l p : Addr} {xs : List Lt} {x : Lt} {kd : Kd} {h : Int} {b : Option Str} {ks : List (Int × Addr)} {qs : List Addr} (v : VbAt H D xs kd h b ks) (c : selV kd h b x = true) (hm : (x.m.t, l) ∈ ks)
    (hl : H l = some (.lst (qs.map V.ref))) (hx : LtAt H p x) : VbAt (upd H l (.lst (qs.map V.ref ++ [.ref p]))) D (xs ++ [x]) kd h b ks := by
  refine ⟨by rw [upd_ne (ne_dk v.here hl)]; exact v.here, v.nd, v.nl, fun e he => ?_, fun t => ?_, ?_⟩
  · obtain ⟨rs, h1, h2⟩ := v.ls e he
    by_cases z : e = (x.m.t, l)
    · subst z
      have er : rs.map V.ref = qs.map V.ref := by
        rw [hl] at h1
        injection h1 with h1
        injection h1 with h1
        exact h1.symm
      have er2 : rs = qs := by
        have := congrArg (List.map fun v : V => match v with | .ref a => a | _ => 0) er
        simpa [List.map_map, Function.comp_def] using this
      subst er2
      refine ⟨rs ++ [p], by rw [upd_same]; simp, ?_⟩
      rw [filt_yes (inT_self c)]
      exact (h2.snoc hx).upd hl
    · have n2 := nodup_snd v.nl he hm z
      refine ⟨rs, by rw [upd_ne n2]; exact h1, ?_⟩
      rw [filt_no]
      · exact h2.upd hl
      · cases q : inT kd h b e.1 x with
        | false => rfl
        | true => exact absurd (nodup_fst v.nd he hm (inT_t q)) z
  · rw [v.ky t]
    constructor
    · rintro ⟨y, hy, z⟩
      exact ⟨y, List.mem_append_left _ hy, z⟩
    · rintro ⟨y, hy, z⟩
      rcases List.mem_append.mp hy with hy | hy
      · exact ⟨y, hy, z⟩
      · rw [List.mem_singleton.mp hy] at z
        rw [inT_t z]
        exact (v.ky _).mp (List.mem_map.mpr ⟨_, hm, rfl⟩)
  · have := v.few
    rw [List.length_append]
    omega
/-- the first letter of its turn -/
theorem VbAt.first {H : Hp} {D l p : Addr} {xs : List Lt} {x : Lt} {kd : Kd} {h : Int} {b : Option Str} {ks : List (Int × Addr)} (v : VbAt H D xs kd h b ks) (c : selV kd h b x = true) (hn : x.m.t ∉ ks.map (·.1))
    (hl : H l = some (.lst [])) (nl : l ∉ ks.map (·.2)) (hx : LtAt H p x) : VbAt (upd (upd H D (.dK (vbK (ks ++ [(x.m.t, l)])))) l (.lst [.ref p])) D (xs ++ [x]) kd h b (ks ++ [(x.m.t, l)]) := by
  have nDl : D ≠ l := ne_dk v.here hl
  have hD2 : (upd H D (.dK (vbK (ks ++ [(x.m.t, l)])))) l = some (.lst []) := by rw [upd_ne nDl.symm]; exact hl
  have lk : ∀ {q : Addr} {y : Lt}, LtAt H q y → LtAt (upd (upd H D (.dK (vbK (ks ++ [(x.m.t, l)])))) l (.lst [.ref p])) q y := fun {q y} hy => by
    refine LtAt.upd ?_ hD2
    obtain ⟨r, h1, h2⟩ := hy
    have h2' : H r = some (.tup y.m.vals) := h2
    refine ⟨r, by rw [upd_ne (fun z => by rw [z, v.here] at h1; cases h1)]; exact h1, ?_⟩
    unfold SmAt
    rw [upd_ne (fun z => by rw [z, v.here] at h2'; cases h2')]
    exact h2
  refine ⟨by rw [upd_ne nDl, upd_same], ?_, ?_, fun e he => ?_, fun t => ?_, ?_⟩
  · rw [List.map_append, List.nodup_append]
    refine ⟨v.nd, by simp, fun a ha y hy e => ?_⟩
    rw [List.map_cons, List.map_nil, List.mem_singleton] at hy
    rw [e, hy] at ha
    exact hn ha
  · rw [List.map_append, List.nodup_append]
    refine ⟨v.nl, by simp, fun a ha y hy e => ?_⟩
    rw [List.map_cons, List.map_nil, List.mem_singleton] at hy
    rw [e, hy] at ha
    exact nl ha
  · rcases List.mem_append.mp he with he | he
    · obtain ⟨rs, h1, h2⟩ := v.ls e he
      have n2 : e.2 ≠ l := fun z => nl (by rw [← z]; exact List.mem_map.mpr ⟨e, he, rfl⟩)
      refine ⟨rs, by rw [upd_ne n2, upd_ne (ne_dk v.here h1).symm]; exact h1, ?_⟩
      rw [filt_no]
      · exact ⟨h2.1, fun i hi => lk (h2.2 i hi)⟩
      · cases q : inT kd h b e.1 x with
        | false => rfl
        | true => exact absurd (by rw [← inT_t q]; exact List.mem_map.mpr ⟨e, he, rfl⟩) hn
    · rw [List.mem_singleton.mp he]
      refine ⟨[p], by rw [upd_same]; rfl, ?_⟩
      rw [filt_yes (inT_self c)]
      have e0 : xs.filter (inT kd h b x.m.t) = [] := by
        rw [List.filter_eq_nil_iff]
        intro y hy z
        exact hn ((v.ky _).mpr ⟨y, hy, z⟩)
      rw [e0]
      exact LsAt.nil.snoc (lk hx)
  · rw [List.map_append, List.mem_append, v.ky t]
    constructor
    · rintro (⟨y, hy, z⟩ | z)
      · exact ⟨y, List.mem_append_left _ hy, z⟩
      · rw [List.map_cons, List.map_nil, List.mem_singleton] at z
        exact ⟨x, List.mem_append_right _ (List.mem_singleton.mpr rfl), by rw [z]; exact inT_self c⟩
    · rintro ⟨y, hy, z⟩
      rcases List.mem_append.mp hy with hy | hy
      · exact .inl ⟨y, hy, z⟩
      · rw [List.mem_singleton.mp hy] at z
        exact .inr (by rw [inT_t z]; exact List.mem_singleton.mpr rfl)
  · have := v.few
    rw [List.length_append, List.length_append]
    simp
    omega
def spVbt (K : PySem.W.Frag) : Sp := fun vs H Q _ => ∃ (l : Addr) (ps : List Addr) (xs : List Lt) (kd : Kd) (h : Int) (b : Option Str), vs = [.ref l, .str kd.s, .int h, oS b] ∧ H l = some (.lst (ps.map V.ref)) ∧ LsAt H ps xs ∧ xs.length ≤ 900 ∧
  ∀ (D : Addr) (ks : List (Int × Addr)) H', Same H H' → VbAt H' D xs kd h b ks → Q (.ref D) H'
/-- a dict of turns -/
def tru (L : List Int) : List (Key × V) := L.map fun t => (Sum.inl t, V.bl true)
theorem val_tru {t : Int} : ∀ {L : List Int}, (valV (tru L) (Sum.inl t)).isSome = decide (t ∈ L)
  | [] => by simp [tru, valV]
  | e :: L => by
    have ih := val_tru (t := t) (L := L)
    by_cases c : e = t
    · rw [show valV (tru (e :: L)) (Sum.inl t) = some (.bl true) from valV_pos (p := (Sum.inl e, V.bl true)) (by rw [c])]
      simp [c]
    · rw [show valV (tru (e :: L)) (Sum.inl t) = valV (tru L) (Sum.inl t) from valV_neg (p := (Sum.inl e, V.bl true)) (fun z => c (Sum.inl.inj z)), ih]
      exact decide_eq_decide.mpr ⟨fun m => List.mem_cons_of_mem _ m, fun m => (List.mem_cons.mp m).resolve_left fun z => c z.symm⟩
def cntL (m : Sm) (L : List Int) : Bool := match m.l with | none => true | some l => decide (l < m.t) && decide (l ∈ L)
def spCounts (K : PySem.W.Frag) : Sp := fun vs H Q _ => ∃ (p D : Addr) (m : Sm) (L : List Int), vs = [.ref p, .ref D] ∧ SmAt H p m ∧ m.k = .pre ∧ H D = some (.dK (tru L)) ∧ ∀ H', Same H H' → Q (.bl (cntL m L)) H'
def TB (xs : List Lt) : Prop := ∀ x ∈ xs, 0 ≤ x.m.t ∧ x.m.t < 60
def ctL (ws : List Int) (xs : List Lt) (h : Int) (b : Option Str) : List Int := match b with | none => [] | some _ => lns ws xs h b 60
def spCts (K : PySem.W.Frag) (C : Addr) : Sp := fun vs H Q _ => ∃ (c l : Addr) (ws : List Int) (ps : List Addr) (xs : List Lt) (h : Int) (b : Option Str), vs = [.ref c, .ref l, .int h, oS b] ∧ CommAt C H c ws ∧ GoodW ws ∧ H l = some (.lst (ps.map V.ref)) ∧ LsAt H ps xs ∧ xs.length ≤ 900 ∧ TB xs ∧
  ∀ (R : Addr) H', Same H H' → H R = none → H' R = some (.lst ((ctL ws xs h b).map V.int)) → Q (.ref R) H'
def cmL (ws : List Int) (xs : List Lt) (h : Int) (b : Option Str) : List Int := (ctL ws xs h b).filter fun t => qrm ws (comS xs h t b)
def spCms (K : PySem.W.Frag) (C : Addr) : Sp := fun vs H Q _ => ∃ (c l : Addr) (ws : List Int) (ps : List Addr) (xs : List Lt) (h : Int) (b : Option Str), vs = [.ref c, .ref l, .int h, oS b] ∧ CommAt C H c ws ∧ GoodW ws ∧ H l = some (.lst (ps.map V.ref)) ∧ LsAt H ps xs ∧ xs.length ≤ 900 ∧ TB xs ∧
  ∀ (R : Addr) H', Same H H' → H R = none → H' R = some (.lst ((cmL ws xs h b).map V.int)) → Q (.ref R) H'
theorem mem_lnsI {ws : List Int} {xs : List Lt} {h : Int} {b : Option Str} (t : Int) : ∀ n, t ∈ lns ws xs h b n ↔ 0 ≤ t ∧ t < n ∧ certM ws xs h b t.toNat = true
  | 0 => by
    simp [lns]
    omega
  | n + 1 => by
    have ih := mem_lnsI (ws := ws) (xs := xs) (h := h) (b := b) t n
    by_cases c : certM ws xs h b n = true
    · rw [lns_yes c, List.mem_append, ih, List.mem_singleton]
      constructor
      · rintro (⟨h1, h2, h3⟩ | z)
        · exact ⟨h1, by omega, h3⟩
        · rw [z]
          exact ⟨by omega, by omega, by rw [Int.toNat_natCast]; exact c⟩
      · rintro ⟨h1, h2, h3⟩
        rcases Int.lt_or_le t n with z | z
        · exact .inl ⟨h1, z, h3⟩
        · exact .inr (by omega)
    · rw [lns_no c, ih]
      constructor
      · rintro ⟨h1, h2, h3⟩
        exact ⟨h1, by omega, h3⟩
      · rintro ⟨h1, h2, h3⟩
        refine ⟨h1, ?_, h3⟩
        rcases Int.lt_or_le t n with z | z
        · exact z
        · have e : t.toNat = n := by omega
          rw [e] at h3
          exact absurd h3 c
theorem lns_gap {ws : List Int} {xs : List Lt} {h : Int} {b : Option Str} {a : Nat} : ∀ d, (∀ n, a ≤ n → n < a + d → certM ws xs h b n = false) → lns ws xs h b (a + d) = lns ws xs h b a
  | 0, _ => rfl
  | d + 1, z => by
    have := lns_gap d fun n h1 h2 => z n h1 (by omega)
    rw [← this]
    exact lns_no (n := a + d) (fun y => Bool.false_ne_true ((z (a + d) (by omega) (by omega)).symm.trans y))
theorem wt_none (ws : List Int) : ∀ n, wt ws (fun k => decide (k ∈ ([] : List Int))) n = 0
  | 0 => rfl
  | n + 1 => by
    rw [wt_succ, wt_none ws n]
    simp
theorem good_sum : ∀ {ws : List Int}, (∀ w ∈ ws, 1 ≤ w) → 0 < ws.length → 0 < ws.sum
  | [], _, h => absurd h (Nat.lt_irrefl 0)
  | [w], g, _ => by
    have := g w List.mem_cons_self
    simp
    omega
  | w :: v :: ws, g, _ => by
    have h1 := g w List.mem_cons_self
    have h2 := good_sum (ws := v :: ws) (fun x hx => g x (List.mem_cons_of_mem _ hx)) (by simp)
    rw [List.sum_cons]
    omega
theorem GoodW.sum {ws : List Int} (g : GoodW ws) : 0 < ws.sum := good_sum (fun w hw => (g.2.2 w hw).1) g.1
theorem qrm_nil {ws : List Int} (g : GoodW ws) : qrm ws [] = false := by
  unfold qrm wOf
  rw [wt_none]
  have := g.sum
  exact decide_eq_false (by omega)
theorem cnt_inT {h t : Int} {b : Option Str} {L : List Int} {x : Lt} (nb : b ≠ none) : cnt h t b L x = (inT .pre h b t x && cntL x.m L) := by
  unfold cnt inT selV cntL
  by_cases c : x.m.k = .pre ∧ x.m.h = h ∧ x.m.t = t ∧ x.m.b = b
  · obtain ⟨c1, c2, c3, c4⟩ := c
    simp only [c1, c2, c3, c4, nb, ne_eq, not_false_eq_true, and_self, decide_true, Bool.true_and]
    cases x.m.l with
    | none => rfl
    | some l => exact Bool.and_comm _ _
  · rw [decide_eq_false c, Bool.false_and]
    symm
    rw [Bool.and_eq_false_iff]
    left
    rw [Bool.and_eq_false_iff]
    by_cases c3 : x.m.t = t
    · left
      exact decide_eq_false fun z => c ⟨z.2.1, z.2.2.1, c3, z.2.2.2⟩
    · right
      exact decide_eq_false c3
theorem mem_inT {xs : List Lt} {h t : Int} {b : Option Str} {L : List Int} (nb : b ≠ none) : memM xs h t b L = ((xs.filter (inT .pre h b t)).filter fun x => cntL x.m L).map Lt.w := by
  unfold memM
  rw [List.filter_filter]
  congr 1
  refine List.filter_congr fun x _ => ?_
  rw [cnt_inT nb, Bool.and_comm]
theorem com_inT {xs : List Lt} {h t : Int} {b : Option Str} (nb : b ≠ none) : comS xs h t b = (xs.filter (inT .com h b t)).map Lt.w := by
  unfold comS
  congr 1
  refine List.filter_congr fun x _ => ?_
  unfold inT selV
  rw [Bool.eq_iff_iff, Bool.and_eq_true_iff, decide_eq_true_iff, decide_eq_true_iff, decide_eq_true_iff]
  exact ⟨fun ⟨z1, z2, z3, z4⟩ => ⟨⟨nb, z1, z2, z4⟩, z3⟩, fun ⟨⟨_, z1, z2, z4⟩, z3⟩ => ⟨z1, z2, z3, z4⟩⟩
/-- no prevote in a turn: no certificate -/
theorem cert_none {ws : List Int} {xs : List Lt} {h : Int} {b : Option Str} {n : Nat} (g : GoodW ws) (nb : b ≠ none) (z : ¬ ∃ x ∈ xs, inT .pre h b (n : Int) x = true) : certM ws xs h b n = false := by
  unfold certM
  rw [mem_inT nb]
  have e : xs.filter (inT .pre h b (n : Int)) = [] := List.filter_eq_nil_iff.mpr fun x hx y => z ⟨x, hx, y⟩
  rw [e]
  exact qrm_nil g
theorem nodup_few : ∀ (n : Nat) {L : List Int}, L.Nodup → (∀ t ∈ L, 0 ≤ t ∧ t < n) → L.length ≤ n
  | 0, [], _, _ => Nat.le_refl _
  | 0, t :: L, _, h => by
    have := h t List.mem_cons_self
    omega
  | n + 1, L, nd, h => by
    by_cases c : (n : Int) ∈ L
    · have l1 := List.length_erase_of_mem c
      have ih := nodup_few n (nd.erase (n : Int)) fun t ht => by
        have h2 := (nd.mem_erase_iff).mp ht
        have h3 := h t h2.2
        have h4 := h2.1
        omega
      omega
    · have := nodup_few n nd fun t ht => by
        have h3 := h t ht
        have h4 : t ≠ (n : Int) := fun z => c (z ▸ ht)
        omega
      omega
theorem tru_snoc (L : List Int) (t : Int) : tru (L ++ [t]) = tru L ++ [(Sum.inl t, V.bl true)] := by simp [tru]
theorem take_len {α : Type} (xs : List α) : xs.take xs.length = xs := List.take_length
theorem srt_lt {ts : List Int} (pw : ts.Pairwise (· ≤ ·)) (nd : ts.Nodup) {i j : Nat} (h : i < j) (hj : j < ts.length) : ts.getD i 0 < ts.getD j 0 := by
  have hi : i < ts.length := by omega
  have e1 : ts.getD i 0 = ts[i] := by rw [List.getD_eq_getElem?_getD, List.getElem?_eq_getElem hi]; rfl
  have e2 : ts.getD j 0 = ts[j] := by rw [List.getD_eq_getElem?_getD, List.getElem?_eq_getElem hj]; rfl
  rw [e1, e2]
  have h1 := List.pairwise_iff_getElem.mp pw i j hi hj h
  have h2 := List.pairwise_iff_getElem.mp nd i j hi hj h
  omega
/-- behind the turn before the place i -/
def nxt (ts : List Int) : Nat → Nat
  | 0 => 0
  | i + 1 => (ts.getD i 0 + 1).toNat
theorem gap_gen {ws : List Int} {xs : List Lt} {h : Int} {b : Option Str} {ts : List Int} (g : GoodW ws) (nb : b ≠ none) (ky : ∀ t : Int, t ∈ ts ↔ ∃ x ∈ xs, inT .pre h b t x = true) (pw : ts.Pairwise (· ≤ ·)) (nd : ts.Nodup)
    {i m : Nat} (hi : i ≤ ts.length) (le : nxt ts i ≤ m) (up : ∀ j, i ≤ j → j < ts.length → (m : Int) ≤ ts.getD j 0) : lns ws xs h b m = lns ws xs h b (nxt ts i) := by
  obtain ⟨d, rfl⟩ : ∃ d, m = nxt ts i + d := ⟨m - nxt ts i, by omega⟩
  refine lns_gap d fun n h1 h2 => cert_none g nb fun ex => ?_
  obtain ⟨j, hj, ej⟩ := List.getElem_of_mem ((ky n).mpr ex)
  have ej2 : ts.getD j 0 = (n : Int) := by rw [List.getD_eq_getElem?_getD, List.getElem?_eq_getElem hj]; exact ej
  rcases Nat.lt_or_ge j i with z | z
  · cases i with
    | zero => omega
    | succ k =>
      have h3 : ts.getD j 0 ≤ ts.getD k 0 := by
        rcases Nat.lt_or_ge j k with y | y
        · have := srt_lt pw nd y (by omega)
          omega
        · have : j = k := by omega
          rw [this]
          exact Int.le_refl _
      have h4 : nxt ts (k + 1) = (ts.getD k 0 + 1).toNat := rfl
      omega
  · have := up j z hj
    omega
theorem inT_some {kd : Kd} {h t : Int} {b : Option Str} {x : Lt} (c : inT kd h b t x = true) : b ≠ none ∧ x.m.k = kd := by
  unfold inT selV at c
  have := of_decide_eq_true (Bool.and_eq_true_iff.mp c).1
  exact ⟨this.1, this.2.1⟩
theorem filt_mem {xs : List Lt} {p : Lt → Bool} {i : Nat} (h : i < (xs.filter p).length) : (xs.filter p).getD i default ∈ xs ∧ p ((xs.filter p).getD i default) = true := List.mem_filter.mp (getD_mem2 h)

/-! ### papers -/
def spShown (K : PySem.W.Frag) (C : Addr) : Sp := fun vs H Q _ => ∃ (c l : Addr) (ws : List Int) (ps : List Addr) (xs : List Lt) (h : Int) (b : Option Str), vs = [.ref c, .int h, oS b, .ref l] ∧ CommAt C H c ws ∧ GoodW ws ∧ H l = some (.lst (ps.map V.ref)) ∧ LsAt H ps xs ∧ xs.length ≤ 900 ∧ TB xs ∧
  ∀ (v : V) H', Same H H' → (cmL ws xs h b = [] → v = .non) → (cmL ws xs h b ≠ [] → ∃ m ∈ cmL ws xs h b, (∀ y ∈ cmL ws xs h b, m ≤ y) ∧ v = .int m) → Q v H'
def shM (ws : List Int) (xs : List Lt) (h : Int) (b : Option Str) : Bool := !(cmL ws xs h b).isEmpty
def spShows (K : PySem.W.Frag) (C : Addr) : Sp := fun vs H Q _ => ∃ (c l : Addr) (ws : List Int) (ps : List Addr) (xs : List Lt) (h : Int) (b : Option Str), vs = [.ref c, .int h, oS b, .ref l] ∧ CommAt C H c ws ∧ GoodW ws ∧ H l = some (.lst (ps.map V.ref)) ∧ LsAt H ps xs ∧ xs.length ≤ 900 ∧ TB xs ∧
  ∀ H', Same H H' → Q (.bl (shM ws xs h b)) H'

def spCell (K : PySem.W.Frag) : Sp := fun vs H Q _ => ∃ (a : Addr) (ns : List Int) (k : Int), vs = [.ref a, .int k] ∧ SqL K H a (ns.map V.int) ∧ ns.length ≤ 63 ∧ 0 ≤ k ∧ Q (.int (ns.getD k.toNat 0)) H
def spRow (K : PySem.W.Frag) : Sp := fun vs H Q _ => ∃ (cell count size : Int), vs = [.int cell, .int count, .int size] ∧ 0 ≤ count ∧ count ≤ 1000 ∧ 0 < size ∧ size < 1000 ∧
  ∀ p (row : List Int) H', Same H H' → H' p = some (.lst (row.map V.int)) → row.length = count.toNat → (∀ x ∈ row, 0 ≤ x ∧ x < size) → H p = none → Q (.ref p) H'
def spWeights (K : PySem.W.Frag) : Sp := fun vs H Q _ => ∃ (cell most : Int), vs = [.int cell, .int most] ∧ 0 < most ∧ most ≤ 16 ∧ ∀ p (ws : List Int) H', Same H H' → H' p = some (.lst (ws.map V.int)) → GoodW ws → ws.length ≤ most.toNat → Q (.ref p) H'
def spWeight (K : PySem.W.Frag) : Sp := fun vs H Q _ => ∃ (p q : Addr) (ws ms : List Int), vs = [.ref p, .ref q] ∧ SqL K H p (ws.map V.int) ∧ SqL K H q (ms.map V.int) ∧ ws.length ≤ 16 ∧ ∀ H', Same H H' → Q (.int (wOf ws ms)) H'
def spLCert (K : PySem.W.Frag) : Sp := fun vs H Q _ => ∃ (pw l : Addr) (ws : List Int) (ps : List Addr) (xs : List Lt) (h t : Int) (b : Option Str), vs = [.ref pw, .ref l, .int h, .int t, oS b] ∧ SqL K H pw (ws.map V.int) ∧ ws.length ≤ 16 ∧ H l = some (.lst (ps.map V.ref)) ∧ LsAt H ps xs ∧ xs.length ≤ 100 ∧
  0 ≤ t ∧ t ≤ 12 ∧ ∀ H', Same H H' → Q (.bl (certM ws xs h b t.toNat)) H'
def spLComm (K : PySem.W.Frag) : Sp := fun vs H Q _ => ∃ (pw l : Addr) (ws : List Int) (ps : List Addr) (xs : List Lt) (h t : Int) (b : Option Str), vs = [.ref pw, .ref l, .int h, .int t, oS b] ∧ SqL K H pw (ws.map V.int) ∧ ws.length ≤ 16 ∧ H l = some (.lst (ps.map V.ref)) ∧ LsAt H ps xs ∧ xs.length ≤ 100 ∧
  0 ≤ t ∧ t ≤ 12 ∧ OkS b ∧ OkL xs ∧ ∀ H', Same H H' → Q (.bl (commM ws xs h b t.toNat)) H'

/-- a command -/
inductive Cm where
  | p (a b c : Int)
  | w (a b : Int)
  | k (a b c : Int)
  | d (a : Int) (code : Str)
def nu (i : Int) : Str := Str.ofString (toString i)
def Cm.ki : Cm → Str
  | .p _ _ _ => "p"
  | .w _ _ => "w"
  | .k _ _ _ => "k"
  | .d _ _ => "d"
def Cm.ps : Cm → List V
  | .p a b c => [.int a, .int b, .int c]
  | .w a b => [.int a, .int b]
  | .k a b c => [.int a, .int b, .int c]
  | .d a s => [.int a, .str s]
def Cm.txt : Cm → Str
  | .p a b c => "p" ++ nu a ++ "q" ++ nu b ++ "r" ++ nu c
  | .w a b => "w" ++ nu a ++ "x" ++ nu b
  | .k a b c => "k" ++ nu a ++ "b" ++ nu b ++ "v" ++ nu c
  | .d a s => "d" ++ nu a ++ "z" ++ s ++ "z"
/-- what stands before each part -/
def Cm.ms : Cm → List Str
  | .p _ _ _ => ["p", "q", "r"]
  | .w _ _ => ["w", "x"]
  | .k _ _ _ => ["k", "b", "v"]
  | .d _ _ => ["d", "z"]
def Cm.ma (a : Ads) : Cm → Addr
  | .p _ _ _ => a.M_MARKS_p
  | .w _ _ => a.M_MARKS_w
  | .k _ _ _ => a.M_MARKS_k
  | .d _ _ => a.M_MARKS_d
/-- each part behind its mark -/
def Cm.bits : Cm → List Str
  | .p a b c => ["p" ++ nu a, "q" ++ nu b, "r" ++ nu c]
  | .w a b => ["w" ++ nu a, "x" ++ nu b]
  | .k a b c => ["k" ++ nu a, "b" ++ nu b, "v" ++ nu c]
  | .d a s => ["d" ++ nu a, "z" ++ s]
/-- a part as a text -/
def paT : V → Str
  | .int i => nu i
  | .str s => s
  | _ => Str.empty
def CmAt (H : Hp) (p : Addr) (c : Cm) : Prop := H p = some (.tup (.str c.ki :: c.ps))
def NOk (i : Int) : Prop := 0 ≤ i ∧ i ≤ 999999
/-- a number that may stand in a command tuple -/
def WOk (i : Int) : Prop := -1000 ≤ i ∧ i ≤ 2000000
theorem NOk.w {i : Int} (h : NOk i) : WOk i := ⟨by have := h.1; omega, by have := h.2; omega⟩
def Cm.ok : Cm → Prop
  | .p a b c => WOk a ∧ WOk b ∧ WOk c
  | .w a b => WOk a ∧ WOk b
  | .k a b c => WOk a ∧ WOk b ∧ WOk c
  | .d a s => WOk a ∧ s.length ≤ 250 ∧ PyData.strOk s = true
/-- the signs of programs -/
def Sgn (z : Str) : Prop := ∀ n ∈ TL.tl z, n ∈ TL.tl "0123456789ginasmtcehlujfyo"
/-- a command that a text writes -/
def Cm.right : Cm → Prop
  | .p a b c => NOk a ∧ NOk b ∧ NOk c
  | .w a b => NOk a ∧ NOk b
  | .k a b c => NOk a ∧ NOk b ∧ NOk c
  | .d a s => NOk a ∧ Sgn s
/-- a command that the law makes -/
def Cm.good : Cm → Prop
  | .p a b c => NOk a ∧ NOk b ∧ NOk c
  | .w a b => NOk a ∧ NOk b
  | .k a b c => NOk a ∧ NOk b ∧ NOk c
  | .d a s => NOk a ∧ s.length ≤ 12 ∧ Sgn s
theorem strOk_cps {x : Str} (h : ∀ c ∈ TL.tl x, c < 1114112) : PyData.strOk x = true := by
  unfold PyData.strOk
  rw [← Array.all_toList]
  exact List.all_eq_true.mpr fun c hc => decide_eq_true (h c hc)
theorem Sgn.ok {z : Str} (h : Sgn z) : PyData.strOk z = true := strOk_cps fun c hc => by
  have : ∀ c ∈ TL.tl "0123456789ginasmtcehlujfyo", c < 1114112 := by decide +kernel
  exact this c (h c hc)
theorem Cm.good.ok : ∀ {c : Cm}, c.good → c.ok
  | .p _ _ _, h => ⟨h.1.w, h.2.1.w, h.2.2.w⟩
  | .w _ _, h => ⟨h.1.w, h.2.w⟩
  | .k _ _ _, h => ⟨h.1.w, h.2.1.w, h.2.2.w⟩
  | .d _ _, h => ⟨h.1.w, Nat.le_trans h.2.1 (by decide), h.2.2.ok⟩
theorem Cm.good.right : ∀ {c : Cm}, c.good → c.right
  | .p _ _ _, h => h
  | .w _ _, h => h
  | .k _ _ _, h => h
  | .d _ _, h => ⟨h.1, h.2.2⟩
instance : Inhabited Cm := ⟨.w 0 0⟩
def CmsAt (H : Hp) (ps : List Addr) (cs : List Cm) : Prop := ps.length = cs.length ∧ ∀ i, i < cs.length → CmAt H (ps.getD i 0) (cs.getD i default)
theorem CmsAt.same {H H' : Hp} {ps : List Addr} {cs : List Cm} (h : CmsAt H ps cs) (s : Same H H') : CmsAt H' ps cs := ⟨h.1, fun i hi => s _ _ (h.2 i hi)⟩
/-- the texts one behind the other -/
def cat (cs : List Cm) : Str := cs.foldl (fun z c => z ++ c.txt) Str.empty
theorem cat_snoc (cs : List Cm) (c : Cm) : cat (cs ++ [c]) = cat cs ++ c.txt := by
  unfold cat
  rw [List.foldl_append]
  rfl
/-- the first n commands fit, and no more do -/
def Fit (cs : List Cm) (n : Nat) : Prop := n ≤ cs.length ∧ (∀ j, j ≤ n → (cat (cs.take j)).length ≤ 60) ∧ (n < cs.length → 60 < (cat (cs.take (n + 1))).length)
theorem Fit.one {cs : List Cm} {m n : Nat} (h : Fit cs m) (g : Fit cs n) : m = n := by
  obtain ⟨a1, a2, a3⟩ := h
  obtain ⟨b1, b2, b3⟩ := g
  rcases Nat.lt_trichotomy m n with c | c | c
  · have := a3 (by omega)
    have := b2 (m + 1) c
    omega
  · exact c
  · have := b3 (by omega)
    have := a2 (n + 1) c
    omega
/-- a reader of z that stands at i -/
def RdAt (C : Addr) (H : Hp) (p : Addr) (z : Str) (i : Nat) : Prop := ∃ dx, H p = some (.ins C dx [("text", .str z), ("at", .int (i : Int))])
/-- how many signs from i on are allowed -/
def runL (al : List Nat) : List Nat → Nat
  | [] => 0
  | c :: r => if c ∈ al then runL al r + 1 else 0
def spRInit (C : Addr) : Sp := fun vs H Q _ => ∃ (p dx : Addr) (z : Str), vs = [.ref p, .str z] ∧ H p = some (.ins C dx []) ∧ ∀ H', RdAt C H' p z 0 → (∀ b o, b ≠ p → H b = some o → H' b = some o) → Q .non H'
def spSigns (C : Addr) : Sp := fun vs H Q _ => ∃ (p : Addr) (z al : Str) (i : Nat), vs = [.ref p, .str al] ∧ RdAt C H p z i ∧ z.length ≤ 1000 ∧ i ≤ z.length ∧
  ∀ H', RdAt C H' p z (i + runL (TL.tl al) ((TL.tl z).drop i)) → (∀ b o, b ≠ p → H b = some o → H' b = some o) → Q (.str ⟨(((TL.tl z).drop i).take (runL (TL.tl al) ((TL.tl z).drop i))).toArray⟩) H'
def spSkip (C CE : Addr) : Sp := fun vs H Q E => ∃ (p : Addr) (z : Str) (c i : Nat), vs = [.ref p, .str ⟨#[c]⟩] ∧ RdAt C H p z i ∧ z.length ≤ 1000 ∧ i ≤ z.length ∧
  ((TL.tl z)[i]? = some c → ∀ H', RdAt C H' p z (i + 1) → (∀ b o, b ≠ p → H b = some o → H' b = some o) → Q .non H') ∧
  ((TL.tl z)[i]? ≠ some c → E (.ref CE) none H)
/-- the digits that stand at i -/
def digsAt (z : Str) (i : Nat) : List Nat := ((TL.tl z).drop i).take (runL (TL.tl "0123456789") ((TL.tl z).drop i))
/-- a right number -/
def NumW (w : List Nat) : Prop := 1 ≤ w.length ∧ w.length ≤ 6 ∧ ¬ (w.head? = some 48 ∧ w ≠ [48])
def spNumR (C CE : Addr) : Sp := fun vs H Q E => ∃ (p : Addr) (z : Str) (i : Nat), vs = [.ref p] ∧ RdAt C H p z i ∧ z.length ≤ 1000 ∧ i ≤ z.length ∧
  (NumW (digsAt z i) → ∀ H', RdAt C H' p z (i + (digsAt z i).length) → (∀ b o, b ≠ p → H b = some o → H' b = some o) → Q (.int (NumText.digitsVal (digsAt z i) : Nat)) H') ∧
  (¬ NumW (digsAt z i) → ∀ H', (∀ b o, b ≠ p → H b = some o → H' b = some o) → E (.ref CE) none H')

def spLaw (K : PySem.W.Frag) : Sp := fun vs H Q _ => ∃ (a : Addr) (ns : List Int), vs = [.ref a] ∧ SqL K H a (ns.map V.int) ∧ ns.length ≤ 63 ∧ ∀ H', Q (.bl true) H'
/-! ### journals -/
theorem hu65 {k : Nat} {A : Around} (r : Room k A) : A.units + 65 < cLine := by
  have := r.un
  omega
instance : Inhabited Sm := ⟨⟨.prop, 0, 0, none, none⟩⟩
def SsAt (H : Hp) (ps : List Addr) (ms : List Sm) : Prop := ps.length = ms.length ∧ ∀ i, i < ms.length → SmAt H (ps.getD i 0) (ms.getD i default)
theorem SsAt.nil {H : Hp} : SsAt H [] [] := ⟨rfl, fun i h => absurd h (Nat.not_lt_zero i)⟩
theorem SsAt.same {H H' : Hp} {ps : List Addr} {ms : List Sm} (h : SsAt H ps ms) (s : Same H H') : SsAt H' ps ms := ⟨h.1, fun i hi => s _ _ (h.2 i hi)⟩
theorem ne_ls {H : Hp} {p l : Addr} {m : Sm} {ys : List V} (h : SmAt H p m) (hl : H l = some (.lst ys)) : p ≠ l := fun e => by
  have h : H p = some (.tup m.vals) := h
  rw [e, hl] at h
  cases h
/-- all but the object at l stays -/
def But (l : Addr) (H H' : Hp) : Prop := ∀ b o, b ≠ l → H b = some o → H' b = some o
theorem But.sm {l : Addr} {H H' : Hp} {p : Addr} {m : Sm} {ys : List V} (k : But l H H') (hl : H l = some (.lst ys)) (h : SmAt H p m) : SmAt H' p m := k _ _ (ne_ls h hl) h
theorem But.ss {l : Addr} {H H' : Hp} {ps : List Addr} {ms : List Sm} {ys : List V} (k : But l H H') (hl : H l = some (.lst ys)) (h : SsAt H ps ms) : SsAt H' ps ms := ⟨h.1, fun i hi => k.sm hl (h.2 i hi)⟩
theorem SsAt.snoc {H : Hp} {ps : List Addr} {ms : List Sm} {p : Addr} {m : Sm} (h : SsAt H ps ms) (e : SmAt H p m) : SsAt H (ps ++ [p]) (ms ++ [m]) := by
  refine ⟨by rw [List.length_append, List.length_append, h.1]; rfl, fun i hi => ?_⟩
  rw [List.length_append, List.length_singleton] at hi
  rcases Nat.lt_or_ge i ms.length with z | z
  · rw [getD_left (by rw [h.1]; exact z), getD_left z]
    exact h.2 i z
  · have ei : i = ms.length := by omega
    subst ei
    rw [getD_last]
    have : (ps ++ [p]).getD ms.length 0 = p := by rw [← h.1, getD_last]
    rw [this]
    exact e
theorem SsAt.cons {H : Hp} {p : Addr} {ps : List Addr} {m : Sm} {ms : List Sm} (h : SsAt H (p :: ps) (m :: ms)) : SmAt H p m ∧ SsAt H ps ms :=
  ⟨h.2 0 (Nat.succ_pos _), Nat.succ.inj h.1, fun i hi => h.2 (i + 1) (Nat.succ_lt_succ hi)⟩
def smD (m : Sm) : PyData := .tuple m.dat
theorem dp_sms {K : PySem.W.Frag} {H : Hp} : ∀ {ps : List Addr} {ms : List Sm}, SsAt H ps ms → DpAll K H (ps.map V.ref) (ms.map smD)
  | [], [], _ => .nil
  | p :: ps, m :: ms, h => .cons (dp_sm h.cons.1) (dp_sms h.cons.2)
  | [], m :: ms, h => nomatch h.1
  | p :: ps, [], h => nomatch h.1
def OkM (ms : List Sm) : Prop := ∀ m ∈ ms, OkS m.b
theorem lay_sms : ∀ {ms : List Sm}, OkM ms → PyData.canLayAll0 (ms.map smD) = true
  | [], _ => by simp [PyData.canLayAll0]
  | m :: ms, o => by
    simp only [List.map_cons, PyData.canLayAll0]
    rw [show PyData.canLay0 (smD m) = true from lay_sm m (o m List.mem_cons_self), lay_sms fun y hy => o y (List.mem_cons_of_mem _ hy)]
    rfl
theorem depth_sms : ∀ ms : List Sm, PyData.depthAll (ms.map smD) ≤ 1
  | [] => by simp [PyData.depthAll]
  | m :: ms => by
    have := depth_sms ms
    have h : PyData.depth (smD m) = 1 := depth_sm m
    simp only [List.map_cons, PyData.depthAll, h]
    omega
theorem shaped_sms {ms : List Sm} (o : OkM ms) : SeqAt.shaped (.list (ms.map smD)) = true := by
  have h := depth_sms ms
  unfold SeqAt.shaped
  have e : PyData.depth (.list (ms.map smD)) = PyData.depthAll (ms.map smD) + 1 := by simp only [PyData.depth]
  have l : PyData.canLay0 (.list (ms.map smD)) = true := by simp only [PyData.canLay0, lay_sms o]
  rw [l, e, decide_eq_true (show PyData.depthAll (ms.map smD) + 1 ≤ 64 by omega)]
  rfl
theorem eqv_sms {ms : List Sm} (o : OkM ms) : PyData.eqv (.list (ms.map smD)) (.list (ms.map smD)) = true := SeqAt.eqv_refl _ (by
  simp only [PyData.canLay0, lay_sms o])
/-- m in ms -/
def memS (ms : List Sm) (m : Sm) : Bool := (ms.map smD).any fun z => PyData.eqv z (smD m)
theorem ne_wsg : ¬ (("who" : Str) = "signed") := by decide +kernel
def jfs (who : Int) (L : Addr) : List (Str × V) := putF "signed" (.ref L) (putF "who" (.int who) [])
theorem jfs_w (who : Int) (L : Addr) : (jfs who L).lookup ("who" : Str) = some (.int who) := by
  unfold jfs
  rw [lookup_putF, if_neg ne_wsg, lookup_putF, if_pos rfl]
theorem jfs_s (who : Int) (L : Addr) : (jfs who L).lookup ("signed" : Str) = some (.ref L) := by
  unfold jfs
  rw [lookup_putF, if_pos rfl]
theorem jfs_no (who : Int) (L : Addr) {m : Str} (h1 : ¬ m = "who") (h2 : ¬ m = "signed") : (jfs who L).lookup m = none := by
  unfold jfs
  rw [lookup_putF, if_neg h2, lookup_putF, if_neg h1]
  rfl
def JAt (C : Addr) (H : Hp) (j : Addr) (who : Int) (L : Addr) : Prop := ∃ dx, H j = some (.ins C dx (jfs who L))
/-- the first of the first n that clashes with m -/
def fcl (ms : List Sm) (m : Sm) : Nat → Option Nat
  | 0 => none
  | n + 1 => match fcl ms m n with
    | some k => some k
    | none => if clashM (ms.getD n default) m then some n else none
theorem fcl_none {ms : List Sm} {m : Sm} : ∀ {n : Nat}, fcl ms m n = none → ∀ k, k < n → clashM (ms.getD k default) m = false
  | 0, _, k, hk => absurd hk (Nat.not_lt_zero _)
  | n + 1, h, k, hk => by
    rw [fcl] at h
    split at h
    · cases h
    · rename_i e
      split at h
      · cases h
      · rename_i c
        rcases Nat.lt_or_ge k n with z | z
        · exact fcl_none e k z
        · have : k = n := by omega
          rw [this]
          simpa using c
theorem fcl_keep {ms : List Sm} {m : Sm} {n k : Nat} (h : fcl ms m n = some k) : fcl ms m (n + 1) = some k := by
  rw [fcl, h]
theorem fcl_new {ms : List Sm} {m : Sm} {n : Nat} (h : fcl ms m n = none) (c : clashM (ms.getD n default) m = true) : fcl ms m (n + 1) = some n := by
  rw [fcl, h]
  exact if_pos c
theorem fcl_no {ms : List Sm} {m : Sm} {n : Nat} (h : fcl ms m n = none) (c : clashM (ms.getD n default) m = false) : fcl ms m (n + 1) = none := by
  rw [fcl, h]
  exact if_neg (by rw [c]; exact Bool.false_ne_true)
theorem fcl_mono {ms : List Sm} {m : Sm} {n k : Nat} (h : fcl ms m n = some k) : ∀ d, fcl ms m (n + d) = some k
  | 0 => h
  | d + 1 => fcl_keep (fcl_mono h d)
theorem fcl_lt {ms : List Sm} {m : Sm} : ∀ {n k : Nat}, fcl ms m n = some k → k < n
  | 0, k, h => nomatch h
  | n + 1, k, h => by
    rw [fcl] at h
    split at h
    · rename_i e
      cases h
      have := fcl_lt e
      omega
    · split at h
      · cases h
        exact Nat.lt_succ_self _
      · cases h
/-- what is signed behind m -/
def after (ps : List Addr) (ms : List Sm) (p : Addr) (m : Sm) : List Addr := if memS ms m then ps else ps ++ [p]
def afterM (ms : List Sm) (m : Sm) : List Sm := if memS ms m then ms else ms ++ [m]
theorem shaped_pair {who : Int} {m : Sm} (o : OkS m.b) : SeqAt.shaped (.tuple [.int who, .tuple m.dat]) = true := shaped_lt (x := ⟨who, m⟩) o
theorem eqv_pair {who : Int} {m : Sm} (o : OkS m.b) : PyData.eqv (.tuple [.int who, .tuple m.dat]) (.tuple [.int who, .tuple m.dat]) = true := eqv_lt (x := ⟨who, m⟩) o
def spJI (K : PySem.W.Frag) (C : Addr) : Sp := fun vs H Q _ => ∃ (p dx : Addr) (who : Int), vs = [.ref p, .int who] ∧ H p = some (.ins C dx []) ∧ ∀ (L : Addr) (H' : Hp), H L = none → H' p = some (.ins C dx (jfs who L)) → H' L = some (.lst []) → (∀ b o, b ≠ p → H b = some o → H' b = some o) → Q .non H'
def spSign (K : PySem.W.Frag) (C CR : Addr) : Sp := fun vs H Q E => ∃ (j p L : Addr) (who : Int) (ps : List Addr) (ms : List Sm) (m : Sm), vs = [.ref j, .ref p] ∧ JAt C H j who L ∧ H L = some (.lst (ps.map V.ref)) ∧ SsAt H ps ms ∧ SmAt H p m ∧ ms.length ≤ 900 ∧ OkM ms ∧ OkS m.b ∧
  (∀ k, fcl ms m ms.length = some k → ∀ d H', Same H H' → H' d = some (.xd [(("vote" : Str), .ref (ps.getD k 0))]) → E (.ref CR) (some d) H') ∧
  (fcl ms m ms.length = none → ∀ t H', But L H H' → H' L = some (.lst ((after ps ms p m).map V.ref)) → H' t = some (.tup [.int who, .ref p]) → Q (.ref t) H')
def spLast (K : PySem.W.Frag) (C : Addr) : Sp := fun vs H Q _ => ∃ (j L : Addr) (who h : Int) (ps : List Addr) (ms : List Sm), vs = [.ref j, .int h] ∧ JAt C H j who L ∧ H L = some (.lst (ps.map V.ref)) ∧ SsAt H ps ms ∧ ms.length ≤ 900 ∧ (∀ m ∈ ms, 0 ≤ m.t) ∧
  ∀ (z : Int) H', Same H H' → (z = 0 ∨ z ∈ (ms.filter fun m => decide (m.h = h)).map Sm.t) → 0 ≤ z → (∀ m ∈ ms, m.h = h → m.t ≤ z) → Q (.int z) H'

/-! ### words and lines -/
def wordV : V → Str
  | .non => "-"
  | .int i => toString i
  | .str x => x
  | _ => ""
def lineS (who : Int) (m : Sm) : Str := Txt.join " " ((toString who : Str) :: m.vals.map wordV)
/-- small numbers and names -/
def SmallV (v : V) : Prop := v = .non ∨ (∃ i : Int, v = .int i ∧ 0 ≤ i ∧ i < 1000000000) ∨ ∃ x : Str, v = .str x ∧ x.length ≤ 60 ∧ PyData.strOk x = true
def SmallM (m : Sm) : Prop := ∀ v ∈ m.vals, SmallV v
theorem strOk_of {x : Str} (h : ∀ c ∈ TL.tl x, c < 1114112) : PyData.strOk x = true := by
  unfold PyData.strOk
  rw [← Array.all_toList]
  exact List.all_eq_true.mpr fun c hc => decide_eq_true (h c hc)
theorem tos_nat {i : Int} (h0 : 0 ≤ i) : (toString i : Str) = Str.ofString (toString ((i.toNat : Nat) : Int)) := by
  rw [Int.toNat_of_nonneg h0]
theorem num_ok {i : Int} (h0 : 0 ≤ i) (h1 : i < 1000000000) : (toString i : Str).length ≤ 60 ∧ PyData.strOk (toString i : Str) = true := by
  have e : TL.tl (toString i : Str) = TL.numL i.toNat := by
    rw [tos_nat h0, TL.tl_num]
  refine ⟨?_, strOk_of fun c hc => ?_⟩
  · rw [TL.len_tl, e]
    exact Nat.le_trans (TL.numL_len (k := 9) (by decide) (by omega)) (by decide)
  · rw [e] at hc
    have := TL.numL_digits i.toNat c hc
    omega
theorem log_small {i : Int} (h0 : 0 ≤ i) (h1 : i < 1000000000) : i.natAbs.log2 < 1920 := by
  rcases Nat.eq_zero_or_pos i.natAbs with z | z
  · rw [z]
    decide
  · have : i.natAbs.log2 < 30 := (Nat.log2_lt (Nat.ne_of_gt z)).mpr (by omega)
    omega
theorem word_ok {v : V} (h : SmallV v) : (wordV v).length ≤ 60 ∧ PyData.strOk (wordV v) = true := by
  rcases h with rfl | ⟨i, rfl, h0, h1⟩ | ⟨x, rfl, h⟩
  · exact ⟨by decide +kernel, by decide +kernel⟩
  · exact num_ok h0 h1
  · exact h
theorem vals_len (m : Sm) : m.vals.length ≤ 5 := by
  obtain ⟨mk, mh, mt, mb, ml⟩ := m
  cases mk <;> simp [Sm.vals]
theorem strOk_app {a b : Str} (h1 : PyData.strOk a = true) (h2 : PyData.strOk b = true) : PyData.strOk (a ++ b) = true := by
  unfold PyData.strOk at *
  show (a.cps ++ b.cps).all _ = true
  rw [Array.all_append, h1, h2]
  rfl
theorem strOk_join {y : Str} (hy : PyData.strOk y = true) : ∀ {parts : List Str}, (∀ x ∈ parts, PyData.strOk x = true) → PyData.strOk (Str.join y parts) = true
  | [], _ => (by decide +kernel : PyData.strOk Str.empty = true)
  | [x], h => h x List.mem_cons_self
  | x :: z :: r, h => strOk_app (strOk_app (h x List.mem_cons_self) hy) (strOk_join hy fun w hw => h w (List.mem_cons_of_mem _ hw))
theorem line_ok {who : Int} {m : Sm} (w0 : 0 ≤ who) (w1 : who < 1000000000) (h : SmallM m) : PyData.strOk (lineS who m) = true := by
  unfold lineS
  rw [TL.join_eq]
  refine strOk_join (by decide +kernel) fun x hx => ?_
  rcases List.mem_cons.mp hx with rfl | hx
  · exact (num_ok w0 w1).2
  · obtain ⟨v, hv, rfl⟩ := List.mem_map.mp hx
    exact (word_ok (h v hv)).2
theorem sum_small : ∀ {ys : List Str}, (∀ y ∈ ys, y.length ≤ 60) → (ys.map (·.length)).sum ≤ 60 * ys.length
  | [], _ => by simp
  | y :: ys, h => by
    have h1 := h y List.mem_cons_self
    have h2 := sum_small fun z hz => h z (List.mem_cons_of_mem _ hz)
    simp only [List.map_cons, List.sum_cons, List.length_cons]
    omega
theorem join_fit {who : Int} {m : Sm} (w0 : 0 ≤ who) (w1 : who < 1000000000) (h : SmallM m) : ((((toString who : Str) :: m.vals.map wordV)).map (·.length)).sum + (((toString who : Str) :: m.vals.map wordV)).length * (" " : Str).length ≤ 16777216 := by
  have l := vals_len m
  have s := sum_small (ys := (toString who : Str) :: m.vals.map wordV) fun y hy => by
    rcases List.mem_cons.mp hy with rfl | hy
    · exact (num_ok w0 w1).1
    · obtain ⟨v, hv, rfl⟩ := List.mem_map.mp hy
      exact (word_ok (h v hv)).1
  have e : (" " : Str).length = 1 := by decide +kernel
  simp only [List.length_cons, List.length_map] at s ⊢
  rw [e]
  omega
theorem dp_strs {K : PySem.W.Frag} {H : Hp} : ∀ xs : List Str, DpAll K H (xs.map V.str) (xs.map PyData.str)
  | [] => .nil
  | x :: xs => .cons (.str x) (dp_strs xs)
theorem lay_strs : ∀ {xs : List Str}, (∀ x ∈ xs, PyData.strOk x = true) → PyData.canLayAll0 (xs.map PyData.str) = true
  | [], _ => by simp [PyData.canLayAll0]
  | x :: xs, o => by
    simp only [List.map_cons, PyData.canLayAll0, PyData.canLay0, o x List.mem_cons_self, lay_strs fun y hy => o y (List.mem_cons_of_mem _ hy)]
    rfl
theorem depth_strs : ∀ xs : List Str, PyData.depthAll (xs.map PyData.str) = 0
  | [] => by simp [PyData.depthAll]
  | x :: xs => by
    have := depth_strs xs
    simp only [List.map_cons, PyData.depthAll, PyData.depth, this]
    rfl
theorem shaped_strs {xs : List Str} (o : ∀ x ∈ xs, PyData.strOk x = true) : SeqAt.shaped (.list (xs.map PyData.str)) = true := by
  unfold SeqAt.shaped
  have e : PyData.depth (.list (xs.map PyData.str)) = PyData.depthAll (xs.map PyData.str) + 1 := by simp only [PyData.depth]
  have l : PyData.canLay0 (.list (xs.map PyData.str)) = true := by simp only [PyData.canLay0, lay_strs o]
  rw [l, e, depth_strs]
  rfl
theorem eqv_strs {xs : List Str} (o : ∀ x ∈ xs, PyData.strOk x = true) : PyData.eqv (.list (xs.map PyData.str)) (.list (xs.map PyData.str)) = true := SeqAt.eqv_refl _ (by
  simp only [PyData.canLay0, lay_strs o])
def spWord (K : PySem.W.Frag) : Sp := fun vs H Q _ => ∃ v : V, vs = [v] ∧ SmallV v ∧ Q (.str (wordV v)) H
def spLine (K : PySem.W.Frag) : Sp := fun vs H Q _ => ∃ (t : Addr) (x : Lt), vs = [.ref t] ∧ LtAt H t x ∧ 0 ≤ x.w ∧ x.w < 1000000000 ∧ SmallM x.m ∧ ∀ H', Same H H' → Q (.str (lineS x.w x.m)) H'
def spLines (K : PySem.W.Frag) (C : Addr) : Sp := fun vs H Q _ => ∃ (j L : Addr) (who : Int) (ps : List Addr) (ms : List Sm), vs = [.ref j] ∧ JAt C H j who L ∧ H L = some (.lst (ps.map V.ref)) ∧ SsAt H ps ms ∧ ms.length ≤ 900 ∧ 0 ≤ who ∧ who < 1000000000 ∧ (∀ m ∈ ms, SmallM m) ∧
  ∀ R H', Same H H' → H' R = some (.lst ((ms.map (lineS who)).map V.str)) → Q (.ref R) H'

/-! ### words read back -/
def isD (c : Nat) : Bool := decide (48 ≤ c) && decide (c ≤ 57)
theorem isD_iff {c : Nat} : isD c = true ↔ 48 ≤ c ∧ c ≤ 57 := by
  unfold isD
  rw [Bool.and_eq_true, decide_eq_true_eq, decide_eq_true_eq]
def numB (w : Str) : Bool := (TL.tl w).all isD && (decide (TL.tl w ≠ []) && (decide ((TL.tl w).length ≤ 9) && (decide (w = "0") || decide ((TL.tl w).head? ≠ some 48))))
def numV (w : Str) : Int := ((NumText.digitsVal (TL.tl w) : Nat) : Int)
theorem ascii_digit : ∀ c : _root_.Fin 128, Unicode.isDigit c.val = isD c.val := by decide +kernel
theorem all_digit : ∀ {l : List Nat}, (l.all fun c => decide (c < 128)) = true → l.all Unicode.isDigit = l.all isD
  | [], _ => rfl
  | c :: l, h => by
    rw [List.all_cons, Bool.and_eq_true] at h
    have hc := of_decide_eq_true h.1
    rw [List.all_cons, List.all_cons, ascii_digit ⟨c, hc⟩, all_digit h.2]
theorem digit_ascii : ∀ {l : List Nat}, l.all isD = true → (l.all fun c => decide (c < 128)) = true
  | [], _ => rfl
  | c :: l, h => by
    rw [List.all_cons, Bool.and_eq_true] at h
    have hc := isD_iff.mp h.1
    rw [List.all_cons, digit_ascii h.2, decide_eq_true (show c < 128 by omega)]
    rfl
theorem ascii_all (w : Str) : Txt.isascii w = ((TL.tl w).all fun c => decide (c < 128)) := by
  unfold Txt.isascii TL.tl
  rw [← Array.all_toList]
theorem digit_all (w : Str) : Txt.isdigit w = (decide (TL.tl w ≠ []) && (TL.tl w).all Unicode.isDigit) := by
  unfold Txt.isdigit
  have e : decide (w.length > 0) = decide (TL.tl w ≠ []) := by
    rw [TL.len_tl]
    refine decide_eq_decide.mpr ?_
    exact List.length_pos_iff
  rw [← Array.all_toList]
  show (decide (w.length > 0) && _) = _
  rw [e]
theorem num_parts (w : Str) : (Txt.isascii w && Txt.isdigit w) = ((TL.tl w).all isD && decide (TL.tl w ≠ [])) := by
  rw [ascii_all, digit_all]
  cases h : (TL.tl w).all fun c => decide (c < 128) with
  | false =>
    cases h2 : (TL.tl w).all isD with
    | false => rfl
    | true =>
      rw [digit_ascii h2] at h
      cases h
  | true =>
    rw [all_digit h, Bool.true_and, Bool.and_comm]
theorem numV_nonneg (w : Str) : 0 ≤ numV w := Int.natCast_nonneg _
theorem num_all {w : Str} (h : numB w = true) : (∀ c ∈ TL.tl w, 48 ≤ c ∧ c ≤ 57) ∧ TL.tl w ≠ [] ∧ (TL.tl w).length ≤ 9 := by
  unfold numB at h
  simp only [Bool.and_eq_true, decide_eq_true_eq, List.all_eq_true] at h
  exact ⟨fun c hc => isD_iff.mp (h.1 c hc), h.2.1, h.2.2.1⟩
theorem num_int {w : Str} (h : numB w = true) : PySem.intText? w = some (numV w) ∧ w.length ≤ 9 := by
  obtain ⟨h1, h2, h3⟩ := num_all h
  have h4 : w.length ≤ 9 := by rw [TL.len_tl]; exact h3
  exact ⟨PySem.intText_digits (fun c hc => h1 c hc) h2 (by omega), h4⟩
theorem num_last {w : Str} (h1 : Txt.isascii w = true) (h2 : Txt.isdigit w = true) (h3 : w.length ≤ 9) : numB w = (decide (w = "0") || decide ((TL.tl w).head? ≠ some 48)) := by
  have e := num_parts w
  rw [h1, h2] at e
  have e2 := Bool.and_eq_true_iff.mp e.symm
  rw [TL.len_tl] at h3
  unfold numB
  rw [e2.1, e2.2, decide_eq_true h3]
  rfl
theorem num_not1 {w : Str} (h : Txt.isascii w = false ∨ Txt.isdigit w = false) : numB w = false := by
  have e := num_parts w
  cases z : numB w with
  | false => rfl
  | true =>
    unfold numB at z
    simp only [Bool.and_eq_true] at z
    rw [z.1, z.2.1] at e
    rcases h with h | h <;> rw [h] at e <;> simp at e
theorem num_not2 {w : Str} (h : 9 < w.length) : numB w = false := by
  cases z : numB w with
  | false => rfl
  | true =>
    have := (num_all z).2.2
    rw [← TL.len_tl] at this
    omega
def wordAt (ws : List Str) (k : Nat) : Except Int Str := if k < ws.length then .ok (ws.getD k "") else .error (ws.length : Int)
theorem word_mem {ws : List Str} {k : Nat} {x : Str} (h : wordAt ws k = .ok x) : x ∈ ws := by
  unfold wordAt at h
  split at h
  · cases h
    rename_i h
    rw [List.getD_eq_getElem?_getD, List.getElem?_eq_getElem h]
    exact List.getElem_mem h
  · cases h
def numAt (ws : List Str) (k : Nat) : Except Int Int := match wordAt ws k with
  | .error e => .error e
  | .ok w => if numB w = true then .ok (numV w) else .error (k : Int)
def kdOf (w : Str) : Option Kd := if w = "proposal" then some .prop else if w = "prevote" then some .pre else if w = "precommit" then some .com else none
def kindAt (ws : List Str) (k : Nat) : Except Int Kd := match wordAt ws k with
  | .error e => .error e
  | .ok w => match kdOf w with
    | some d => .ok d
    | none => .error (k : Int)
def isL (c : Nat) : Bool := decide (c ∈ TL.tl "abcdefghijklmnopqrstuvwxyz")
def isA (c : Nat) : Bool := decide (c ∈ TL.tl "abcdefghijklmnopqrstuvwxyz0123456789")
def blkB (w : Str) : Bool := match TL.tl w with
  | [] => false
  | c :: l => decide (l.length + 1 ≤ 60) && (isL c && (c :: l).all isA)
def blockAt (ws : List Str) (k : Nat) (d : Kd) : Except Int (Option Str) := match wordAt ws k with
  | .error e => .error e
  | .ok w => if w = "-" ∧ d ≠ .prop then .ok none else if blkB w = true then .ok (some w) else .error (k : Int)
def leanAt (ws : List Str) (k : Nat) (t : Int) : Except Int (Option Int) := match wordAt ws k with
  | .error e => .error e
  | .ok w => if w = "-" then .ok none else if numB w = true then (if numV w < t then .ok (some (numV w)) else .error (k : Int)) else .error (k : Int)
def endAt (ws : List Str) (k : Nat) : Except Int Unit := if k < ws.length then .error (k : Int) else .ok ()
def bindE {α β : Type} : Except Int α → (α → Except Int β) → Except Int β
  | .error e, _ => .error e
  | .ok x, f => f x
def readEnd (ws : List Str) (w : Int) (k : Kd) (h t : Int) (b : Option Str) : Except Int Lt :=
  if k = .pre then bindE (leanAt ws 5 t) fun l => bindE (endAt ws 6) fun _ => .ok ⟨w, ⟨.pre, h, t, b, l⟩⟩
  else bindE (endAt ws 5) fun _ => .ok ⟨w, ⟨k, h, t, b, none⟩⟩
def readW (ws : List Str) : Except Int Lt :=
  bindE (numAt ws 0) fun w => bindE (kindAt ws 1) fun k => bindE (numAt ws 2) fun h => bindE (numAt ws 3) fun t => bindE (blockAt ws 4 k) fun b => readEnd ws w k h t b
def readL (line : Str) : Except Int Lt := readW (Txt.split line " ")
theorem inV_kinds (w : Str) : inV (.str w) [V.str "proposal", V.str "prevote", V.str "precommit"] = (kdOf w).isSome := by
  unfold kdOf inV
  have e : ∀ x y : Str, eqV (.str x) (.str y) = decide (y = x) := fun x y => by
    show (x == y) = _
    by_cases h : y = x
    · rw [h, decide_eq_true rfl, beq_self_eq_true]
    · rw [decide_eq_false h]
      exact beq_eq_false_iff_ne.mpr fun z => h z.symm
  simp only [List.any_cons, List.any_nil, e, Bool.or_false]
  by_cases h1 : w = "proposal"
  · rw [h1]
    decide +kernel
  · by_cases h2 : w = "prevote"
    · rw [h2]
      decide +kernel
    · by_cases h3 : w = "precommit"
      · rw [h3]
        decide +kernel
      · simp [h1, h2, h3]
theorem s_prop (a : Kd) : a.s = ("proposal" : Str) ↔ a = .prop := by cases a <;> decide +kernel
theorem s_pre (a : Kd) : a.s = ("prevote" : Str) ↔ a = .pre := by cases a <;> decide +kernel
theorem s_com (a : Kd) : a.s = ("precommit" : Str) ↔ a = .com := by cases a <;> decide +kernel
theorem kd_s (k : Kd) : kdOf k.s = some k := by
  cases k <;> decide +kernel
theorem kd_of {w : Str} {k : Kd} (h : kdOf w = some k) : w = k.s := by
  unfold kdOf at h
  split at h
  · cases h
    assumption
  · split at h
    · cases h
      assumption
    · split at h
      · cases h
        assumption
      · cases h
/-- what is raised: the error of the class at C that keeps e as at -/
def ExR (C : Addr) (H : Hp) (E : XK) (e : Int) : Prop := ∀ d H', Same H H' → H' d = some (.xd [(("at" : Str), .int e)]) → E (.ref C) (some d) H'
def spAt (K : PySem.W.Frag) (C : Addr) (R : List Str → Nat → Except Int V) : Sp := fun vs H Q E => ∃ (W : Addr) (ws : List Str) (k : Nat), vs = [.ref W, .int k] ∧ H W = some (.lst (ws.map V.str)) ∧ ws.length ≤ 16777216 ∧ (∀ w ∈ ws, w.length ≤ 16777216) ∧ k ≤ 6 ∧
  (∀ e, R ws k = .error e → ExR C H E e) ∧ (∀ n, R ws k = .ok n → ∀ H', Same H H' → Q n H')
def mapE {α β : Type} (f : α → β) : Except Int α → Except Int β
  | .error e => .error e
  | .ok x => .ok (f x)
def spWordAt (K : PySem.W.Frag) (C : Addr) : Sp := spAt K C fun ws k => mapE V.str (wordAt ws k)
def spNumAt (K : PySem.W.Frag) (C : Addr) : Sp := spAt K C fun ws k => mapE V.int (numAt ws k)
def spKindAt (K : PySem.W.Frag) (C : Addr) : Sp := spAt K C fun ws k => mapE (fun d => V.str d.s) (kindAt ws k)
def spEndAt (K : PySem.W.Frag) (C : Addr) : Sp := spAt K C fun ws k => mapE (fun _ => V.non) (endAt ws k)
def spBlockAt (K : PySem.W.Frag) (C : Addr) : Sp := fun vs H Q E => ∃ (W : Addr) (ws : List Str) (k : Nat) (d : Kd), vs = [.ref W, .int k, .str d.s] ∧ H W = some (.lst (ws.map V.str)) ∧ ws.length ≤ 16777216 ∧ (∀ w ∈ ws, w.length ≤ 16777216) ∧ k ≤ 6 ∧
  (∀ e, blockAt ws k d = .error e → ExR C H E e) ∧ (∀ n, blockAt ws k d = .ok n → ∀ H', Same H H' → Q (oS n) H')
def spLeanAt (K : PySem.W.Frag) (C : Addr) : Sp := fun vs H Q E => ∃ (W : Addr) (ws : List Str) (k : Nat) (t : Int), vs = [.ref W, .int k, .int t] ∧ H W = some (.lst (ws.map V.str)) ∧ ws.length ≤ 16777216 ∧ (∀ w ∈ ws, w.length ≤ 16777216) ∧ k ≤ 6 ∧
  (∀ e, leanAt ws k t = .error e → ExR C H E e) ∧ (∀ n, leanAt ws k t = .ok n → ∀ H', Same H H' → Q (oI n) H')
def spIsNum (K : PySem.W.Frag) : Sp := fun vs H Q _ => ∃ w : Str, vs = [.str w] ∧ w.length ≤ 16777216 ∧ ∀ H', Same H H' → Q (.bl (numB w)) H'
def spIsBlk (K : PySem.W.Frag) : Sp := fun vs H Q _ => ∃ w : Str, vs = [.str w] ∧ w.length ≤ 16777216 ∧ ∀ H', Same H H' → Q (.bl (blkB w)) H'
def spProp (K : PySem.W.Frag) : Sp := fun vs H Q _ => ∃ (h t : Int) (b : Option Str), vs = [.int h, .int t, oS b] ∧ ∀ p H', Same H H' → SmAt H' p ⟨.prop, h, t, b, none⟩ → Q (.ref p) H'
def spPrec (K : PySem.W.Frag) : Sp := fun vs H Q _ => ∃ (h t : Int) (b : Option Str), vs = [.int h, .int t, oS b] ∧ ∀ p H', Same H H' → SmAt H' p ⟨.com, h, t, b, none⟩ → Q (.ref p) H'
def spPrev (K : PySem.W.Frag) : Sp := fun vs H Q _ => ∃ (h t : Int) (b : Option Str) (l : Option Int), vs = [.int h, .int t, oS b, oI l] ∧ ∀ p H', Same H H' → SmAt H' p ⟨.pre, h, t, b, l⟩ → Q (.ref p) H'
def spRead (K : PySem.W.Frag) (C : Addr) : Sp := fun vs H Q E => ∃ line : Str, vs = [.str line] ∧ line.length + 2 ≤ 16777216 ∧
  (∀ e, readL line = .error e → ExR C H E e) ∧ (∀ x, readL line = .ok x → ∀ p H', Same H H' → LtAt H' p x → Q (.ref p) H')
theorem at_err {α β : Type} {C : Addr} {H H1 : Hp} {E : XK} {r : Except Int α} {f : α → Except Int β} (s1 : Same H H1) (h : ∀ e, bindE r f = .error e → ExR C H E e) : ∀ e, r = .error e → ExR C H1 E e := fun e he => by
  rw [he] at h
  exact fun d H' s' hd => h e rfl d H' (s1.trans s') hd
theorem mapE_err {α β : Type} {g : α → β} {r : Except Int α} {e : Int} (h : mapE g r = .error e) : r = .error e := by
  cases r with
  | error e' => cases h; rfl
  | ok x => cases h
theorem mapE_ok {α β : Type} {g : α → β} {r : Except Int α} {y : β} (h : mapE g r = .ok y) : ∃ x, r = .ok x ∧ y = g x := by
  cases r with
  | error e' => cases h
  | ok x => cases h; exact ⟨x, rfl, rfl⟩

/-! ### what is written is read back -/
theorem tl_str {i : Int} (h0 : 0 ≤ i) : TL.tl (toString i : Str) = TL.numL i.toNat := by
  rw [tos_nat h0, TL.tl_num]
theorem numL_head : ∀ (n : Nat), 0 < n → (TL.numL n).head? ≠ some 48
  | n, h => by
    rcases Nat.lt_or_ge n 10 with z | z
    · rw [TL.numL_lt z]
      simp
      omega
    · rw [TL.numL_step z]
      have ih := numL_head (n / 10) (by omega)
      have ne := TL.numL_ne (n / 10)
      cases e : TL.numL (n / 10) with
      | nil => exact absurd e ne
      | cons c l =>
        rw [e] at ih
        exact ih
theorem num_str {i : Int} (h0 : 0 ≤ i) (h1 : i < 1000000000) : numB (toString i : Str) = true ∧ numV (toString i : Str) = i := by
  have e := tl_str h0
  refine ⟨?_, ?_⟩
  · unfold numB
    rw [e]
    have a1 : (TL.numL i.toNat).all isD = true := List.all_eq_true.mpr fun c hc => isD_iff.mpr (TL.numL_digits i.toNat c hc)
    have a3 : (TL.numL i.toNat).length ≤ 9 := TL.numL_len (by decide) (by omega)
    rw [a1, decide_eq_true (TL.numL_ne i.toNat), decide_eq_true a3, Bool.true_and, Bool.true_and, Bool.true_and, Bool.or_eq_true]
    rcases Nat.eq_zero_or_pos i.toNat with z | z
    · refine .inl (decide_eq_true ?_)
      have : i = 0 := by omega
      rw [this]
      decide +kernel
    · exact .inr (decide_eq_true (numL_head _ z))
  · unfold numV
    rw [e, TL.numL_val]
    omega
theorem num_free {i : Int} (h0 : 0 ≤ i) {c : Nat} (hc : c < 48 ∨ 57 < c) : c ∉ TL.tl (toString i : Str) := by
  rw [tl_str h0]
  exact TL.numL_free hc
theorem blk_free {x : Str} (h : blkB x = true) {c : Nat} (hc : isA c = false) : c ∉ TL.tl x := fun hm => by
  unfold blkB at h
  split at h
  · cases h
  · rename_i d l e
    simp only [Bool.and_eq_true, List.all_eq_true] at h
    rw [e] at hm
    have := h.2.2 c hm
    rw [hc] at this
    cases this
/-- a statement that a line may write -/
structure GoodM (m : Sm) : Prop where
  h0 : 0 ≤ m.h
  h1 : m.h < 1000000000
  t0 : 0 ≤ m.t
  t1 : m.t < 1000000000
  b : ∀ x, m.b = some x → blkB x = true
  bp : m.k = .prop → m.b ≠ none
  l : ∀ x, m.l = some x → 0 ≤ x ∧ x < m.t
  lk : m.k ≠ .pre → m.l = none
theorem blk_ok {x : Str} (h : blkB x = true) : x.length ≤ 60 ∧ PyData.strOk x = true := by
  unfold blkB at h
  split at h
  · cases h
  · rename_i d l e
    simp only [Bool.and_eq_true, List.all_eq_true, decide_eq_true_eq] at h
    refine ⟨by rw [TL.len_tl, e]; exact h.1, strOk_of fun c hc => ?_⟩
    rw [e] at hc
    have := of_decide_eq_true (h.2.2 c hc)
    have : ∀ c ∈ TL.tl "abcdefghijklmnopqrstuvwxyz0123456789", c < 1114112 := by decide +kernel
    exact this c (of_decide_eq_true (h.2.2 c hc))
theorem GoodM.small {m : Sm} (g : GoodM m) : SmallM m := by
  have hk : SmallV (.str m.k.s) := .inr (.inr ⟨_, rfl, by cases m.k <;> decide +kernel, ks_ok _⟩)
  have hh : SmallV (.int m.h) := .inr (.inl ⟨_, rfl, g.h0, g.h1⟩)
  have ht : SmallV (.int m.t) := .inr (.inl ⟨_, rfl, g.t0, g.t1⟩)
  have hb : SmallV (oS m.b) := by
    cases e : m.b with
    | none => exact .inl rfl
    | some x => exact .inr (.inr ⟨x, rfl, blk_ok (g.b x e)⟩)
  have hl : SmallV (oI m.l) := by
    cases e : m.l with
    | none => exact .inl rfl
    | some x =>
      have := g.l x e
      have := g.t1
      exact .inr (.inl ⟨x, rfl, by omega, by omega⟩)
  intro v hv
  obtain ⟨mk, mh, mt, mb, ml⟩ := m
  cases mk <;> simp only [Sm.vals, List.mem_cons, List.not_mem_nil, or_false] at hv <;> (rcases hv with rfl | rfl | rfl | rfl | rfl <;> assumption) <;> skip
theorem GoodM.ok {m : Sm} (g : GoodM m) : OkS m.b := fun x e => (blk_ok (g.b x e)).2
theorem dash_blk : blkB "-" = false := by decide +kernel
theorem dash_num : numB "-" = false := by decide +kernel
theorem ks_free (k : Kd) : 32 ∉ TL.tl k.s := by cases k <;> decide +kernel
theorem word_free {m : Sm} (g : GoodM m) : ∀ v ∈ m.vals, 32 ∉ TL.tl (wordV v) := by
  have hd : 32 ∉ TL.tl (wordV V.non) := by decide +kernel
  have hk : 32 ∉ TL.tl (wordV (.str m.k.s)) := ks_free m.k
  have hh : 32 ∉ TL.tl (wordV (.int m.h)) := num_free g.h0 (.inl (by decide))
  have ht : 32 ∉ TL.tl (wordV (.int m.t)) := num_free g.t0 (.inl (by decide))
  have hb : 32 ∉ TL.tl (wordV (oS m.b)) := by
    cases e : m.b with
    | none => exact hd
    | some x => exact blk_free (g.b x e) (by decide +kernel)
  have hl : 32 ∉ TL.tl (wordV (oI m.l)) := by
    cases e : m.l with
    | none => exact hd
    | some x => exact num_free (g.l x e).1 (.inl (by decide))
  intro v hv
  obtain ⟨mk, mh, mt, mb, ml⟩ := m
  cases mk <;> simp only [Sm.vals, List.mem_cons, List.not_mem_nil, or_false] at hv <;> (rcases hv with rfl | rfl | rfl | rfl | rfl <;> assumption) <;> skip
theorem line_words {who : Int} (w0 : 0 ≤ who) {m : Sm} (g : GoodM m) : Txt.split (lineS who m) " " = (toString who : Str) :: m.vals.map wordV := by
  unfold lineS
  refine TL.split_join (y := " ") (s := 32) (S := []) (by decide +kernel) (by decide +kernel) (List.cons_ne_nil _ _) fun p hp => ?_
  rcases List.mem_cons.mp hp with rfl | hp
  · exact num_free w0 (.inl (by decide))
  · obtain ⟨v, hv, rfl⟩ := List.mem_map.mp hp
    exact word_free g v hv
theorem wordAt_cons {x : Str} {ws : List Str} {k : Nat} : wordAt (x :: ws) (k + 1) = mapE id (match wordAt ws k with | .ok y => .ok y | .error e => .error (e + 1)) := by
  unfold wordAt
  by_cases h : k < ws.length
  · rw [if_pos h, if_pos (by simpa using h)]
    rfl
  · rw [if_neg h, if_neg (by simpa using h)]
    simp [mapE]
theorem wordAt_ok {ws : List Str} {k : Nat} {x : Str} (h : ws[k]? = some x) : wordAt ws k = .ok x := by
  have hk := (List.getElem?_eq_some_iff.mp h).1
  unfold wordAt
  rw [if_pos hk, List.getD_eq_getElem?_getD, h]
  rfl
theorem read_line {who : Int} (w0 : 0 ≤ who) (w1 : who < 1000000000) {m : Sm} (g : GoodM m) : readL (lineS who m) = .ok ⟨who, m⟩ := by
  unfold readL
  rw [line_words w0 g]
  have nw := num_str w0 w1
  have nh := num_str g.h0 g.h1
  have nt := num_str g.t0 g.t1
  obtain ⟨mk, mh, mt, mb, ml⟩ := m
  have lk := g.lk
  have bp := g.bp
  have gb := g.b
  have gl := g.l
  have t1 := g.t1
  dsimp only at nh nt lk bp gb gl t1
  have e0 : ∀ rest, numAt ((toString who : Str) :: rest) 0 = .ok who := fun rest => by
    unfold numAt
    rw [wordAt_ok (x := toString who) rfl]
    simp only [nw.1, nw.2, if_true]
  have e2 : ∀ a b rest, numAt (a :: b :: (toString mh : Str) :: rest) 2 = .ok mh := fun a b rest => by
    unfold numAt
    rw [wordAt_ok (x := toString mh) rfl]
    simp only [nh.1, nh.2, if_true]
  have e3 : ∀ a b c rest, numAt (a :: b :: c :: (toString mt : Str) :: rest) 3 = .ok mt := fun a b c rest => by
    unfold numAt
    rw [wordAt_ok (x := toString mt) rfl]
    simp only [nt.1, nt.2, if_true]
  have e1 : ∀ a (k : Kd) rest, kindAt (a :: k.s :: rest) 1 = .ok k := fun a k rest => by
    unfold kindAt
    rw [wordAt_ok (x := k.s) rfl]
    simp only [kd_s]
  have e4 : ∀ a b c d rest, blockAt (a :: b :: c :: d :: wordV (oS mb) :: rest) 4 mk = .ok mb := fun a b c d rest => by
    unfold blockAt
    rw [wordAt_ok (x := wordV (oS mb)) rfl]
    cases mb with
    | none => exact if_pos ⟨rfl, fun z => bp z rfl⟩
    | some x =>
      have hx := gb x rfl
      have nd : ¬ (x = "-" ∧ mk ≠ .prop) := fun z => by
        rw [z.1, dash_blk] at hx
        cases hx
      show (if x = "-" ∧ mk ≠ .prop then _ else if blkB x = true then _ else _) = _
      rw [if_neg nd, if_pos hx]
      rfl
  have e5 : ∀ a b c d e, leanAt [a, b, c, d, e, wordV (oI ml)] 5 mt = .ok ml := fun a b c d e => by
    unfold leanAt
    rw [wordAt_ok (x := wordV (oI ml)) rfl]
    cases ml with
    | none => exact if_pos rfl
    | some x =>
      have hx := gl x rfl
      have nx := num_str hx.1 (by omega)
      have nd : ¬ ((toString x : Str) = "-") := fun z => by
        rw [z, dash_num] at nx
        cases nx.1
      show (if (toString x : Str) = "-" then _ else if numB (toString x) = true then (if numV (toString x) < mt then _ else _) else _) = _
      rw [if_neg nd, if_pos nx.1, nx.2, if_pos hx.2]
      exact congrArg (fun z => Except.ok (some z)) nx.2
  cases mk with
  | pre =>
    have ew : (toString who : Str) :: (Sm.vals ⟨.pre, mh, mt, mb, ml⟩).map wordV = [(toString who : Str), Kd.pre.s, (toString mh : Str), (toString mt : Str), wordV (oS mb), wordV (oI ml)] := rfl
    rw [ew]
    unfold readW readEnd
    rw [e0, e1, e2, e3]
    simp only [bindE, e4]
    rw [if_pos trivial, e5]
    rfl
  | prop =>
    have ew : (toString who : Str) :: (Sm.vals ⟨.prop, mh, mt, mb, ml⟩).map wordV = [(toString who : Str), Kd.prop.s, (toString mh : Str), (toString mt : Str), wordV (oS mb)] := rfl
    rw [ew]
    unfold readW readEnd
    rw [e0, e1, e2, e3]
    simp only [bindE, e4]
    rw [if_neg (by decide), lk (by decide)]
    rfl
  | com =>
    have ew : (toString who : Str) :: (Sm.vals ⟨.com, mh, mt, mb, ml⟩).map wordV = [(toString who : Str), Kd.com.s, (toString mh : Str), (toString mt : Str), wordV (oS mb)] := rfl
    rw [ew]
    unfold readW readEnd
    rw [e0, e1, e2, e3]
    simp only [bindE, e4]
    rw [if_neg (by decide), lk (by decide)]
    rfl
/-! ### a journal restored -/
/-- the journal of the lines, or the index of the first invalid one -/
def resM (who : Int) : List Str → Nat → List Sm → Except Int (List Sm)
  | [], _, ms => .ok ms
  | l :: ls, n, ms => match readL l with
    | .error _ => if ls = [] then .ok ms else .error (n : Int)
    | .ok x => if x.w ≠ who ∨ memS ms x.m = true ∨ fcl ms x.m ms.length ≠ none then .error (n : Int) else resM who ls (n + 1) (ms ++ [x.m])
/-- no two of them clash, none is repeated -/
def Clean (ms : List Sm) : Prop := ∀ j, j < ms.length → memS (ms.take j) (ms.getD j default) = false ∧ fcl (ms.take j) (ms.getD j default) j = none
theorem resM_lines {who : Int} (w0 : 0 ≤ who) (w1 : who < 1000000000) (tail : List Str) : ∀ (ms : List Sm) (n : Nat) (acc : List Sm), (∀ m ∈ ms, GoodM m) → (∀ j, j < ms.length → memS (acc ++ ms.take j) (ms.getD j default) = false ∧ fcl (acc ++ ms.take j) (ms.getD j default) (acc.length + j) = none) →
    resM who (ms.map (lineS who) ++ tail) n acc = resM who tail (n + ms.length) (acc ++ ms)
  | [], n, acc, _, _ => by simp
  | m :: ms, n, acc, g, c => by
    have h0 := c 0 (Nat.succ_pos _)
    have e := read_line w0 w1 (g m List.mem_cons_self)
    have h1 : memS acc m = false := by simpa using h0.1
    have h2 : fcl acc m acc.length = none := by simpa using h0.2
    show resM who (lineS who m :: (ms.map (lineS who) ++ tail)) n acc = _
    rw [resM, e]
    show (if (⟨who, m⟩ : Lt).w ≠ who ∨ memS acc m = true ∨ fcl acc m acc.length ≠ none then _ else _) = _
    rw [if_neg (by simp [h1, h2]), resM_lines w0 w1 tail ms (n + 1) (acc ++ [m]) (fun y hy => g y (List.mem_cons_of_mem _ hy)) fun j hj => ?_]
    · simp [Nat.add_assoc, Nat.add_comm 1]
    · have := c (j + 1) (Nat.succ_lt_succ hj)
      simpa [Nat.add_assoc, Nat.add_comm 1] using this

section
local macro_rules | `(tactic| walk_at "r1") => `(tactic| first
  | refine ⟨_, rfl, ?_⟩
  | refine ⟨_, _, rfl, rfl, (by show (0 : Int) < _; first | decide | omega), ?_⟩
  | refine ⟨_, _, rfl, rfl, (show CDiv _ _ from ⟨by decide, by decide⟩), ?_⟩
  | refine ⟨_, _, rfl, rfl, (show CMul _ _ from .inl ⟨by decide, by decide⟩), ?_⟩
  | refine ⟨_, _, rfl, rfl, (show CMul _ _ from .inr ⟨by decide, by decide⟩), ?_⟩
  | refine ⟨_, _, rfl, rfl, (show CPow _ _ from ⟨by decide, by decide, by decide⟩), ?_⟩
  | refine ⟨_, _, rfl, rfl, ?_⟩
  | refine ⟨_, _, _, _, rfl, rfl, SqT.of (by assumption), by first | exact at0 _ | exact at1 _ | exact at2 _ | exact at3 _ | exact at4 _ (by assumption), ?_⟩
  | refine ⟨scal_oS _ _, ?_⟩
  | refine .inl ⟨_, rfl, ?_⟩
  | refine ⟨rfl, ?_⟩)
local macro_rules | `(tactic| walk_at "rs") => `(tactic| repeat walk_at "r1")

variable {P : Program} {w : World} {K : PySem.W.Frag} {mg : Str → Option Value} {base : Heap} {a : Ads}
theorem getD_mem {zs : List Int} {i : Nat} (h : i < zs.length) : zs.getD i 0 ∈ zs := by
  rw [List.getD_eq_getElem?_getD, List.getElem?_eq_getElem h]
  exact List.getElem_mem h
theorem at_ints {zs : List Int} {i : Nat} (h : i < zs.length) : (zs.map V.int)[i]? = some (.int (zs.getD i 0)) := by
  rw [List.getElem?_map, List.getD_eq_getElem?_getD, List.getElem?_eq_getElem h]
  rfl

theorem ok_word (T : Txt K mg a) : ∃ fd, FnOk P w K mg base CX0 1 a.d_word fd ["part"] (spWord K) ∧ Binds K fd ["part"] [] := by
  obtain ⟨fd, F, b⟩ := T.d_word.F
  refine ⟨fd, F.ok sc_word (fun vs H Q E h => ?_) (fun cdv A outer s H vs Q E hr h => ?_), b⟩
  · obtain ⟨_, rfl, _⟩ := h
    rfl
  · obtain ⟨v, rfl, hv, k⟩ := h
    refine ⟨_, (pss_cons (ps_if (pt_cmpR op_isN (pv 0) pe_non (nomark _))
      (pss_one (ps_ret (pe_glob (v := (.str "-")) rfl T.c_NONE.choose_spec ⟨_, rfl⟩)))
      pss_nil)
      (pss_one (ps_ret (pe_callTy cr_strA (by rfl) T.n_str (by decide +kernel) (pa_cons (pv 0) pa_nil))))), ?_⟩
    rcases hv with rfl | ⟨i, rfl, h0, h1⟩ | ⟨x, rfl, hx⟩
    · walk_at "rs"
      exact k
    · walk_at "rs"
      exact ⟨log_small (by omega) (by omega), k⟩
    · walk_at "rs"
      exact .inr ⟨x, rfl, k⟩
theorem ok_letter_line (T : Txt K mg a) : ∃ fd, FnOk P w K mg base CX0 2 a.d_letter_line fd ["letter"] (spLine K) ∧ Binds K fd ["letter"] [] := by
  obtain ⟨fd, F, b⟩ := T.d_letter_line.F
  obtain ⟨fd_word, G_word, b_word⟩ := ok_word (P := P) (w := w) (base := base) T
  refine ⟨fd, F.ok sc_letter_line (fun vs H Q E h => ?_) (fun cdv A outer s H vs Q E hr h => ?_), b⟩
  · obtain ⟨_, _, rfl, _⟩ := h
    rfl
  · obtain ⟨t, x, rfl, hx, w0, w1, hs, k⟩ := h
    obtain ⟨q, hp, hq⟩ := id hx
    have hq' : H q = some (.tup x.m.vals) := hq
    have l5 := vals_len x.m
    refine ⟨_, (pss_cons (ps_asg (pv 0) (pg_tup rfl (pgs_cons (pg_name (i := 1) sc_letter_line.nd rfl (Or.inl rfl)) (pgs_cons (pg_name (i := 2) sc_letter_line.nd rfl (Or.inl rfl)) pgs_nil))))
      (pss_one (ps_ret (pe_join pe_str (pe_op op_cat (pe_lst (pa_cons (pe_callTy cr_strA (by rfl) T.n_str (by decide +kernel) (pa_cons (pv 1) pa_nil)) pa_nil)) (pe_lc (own := [("part", 3)]) (g := (gName 3)) (tt := tYes) rfl sc_letter_line.nd (pi_tup (pv 2)) (blkOk_by (own := [("part", 3)]) (N := sc_letter_line_N) (sc := defScope s_letter_line) (by decide +kernel)) (fun _ _ _ _ _ => (pg_name (i := 3) sc_letter_line.nd rfl (Or.inl rfl))) (fun _ _ _ _ _ => pts_nil) (fun _ _ _ _ _ => (pe_call G_word (hr.mono (by decide)) rfl T.d_word.g T.d_word.kp b_word .nil pass0 (pa_cons (pv 3) pa_nil))))))))), ?_⟩
    walk_at "rs"
    refine ⟨_, _, rfl, SqT.of hp, rfl, _, _, rfl, _, _, rfl, rfl, ?_⟩
    walk_at "rs"
    refine ⟨⟨_, rfl⟩, ?_⟩
    walk_at "rs"
    refine ⟨log_small (by omega) (by omega), ?_⟩
    refine ⟨(by show 1 ≤ sizeLine; decide), fun l1 hl1 => ?_⟩
    have s1 := same_new (o := .lst [V.str (toString x.w)]) hl1
    have h1 := (upd_same : (upd H l1 (.lst [V.str (toString x.w)])) l1 = _)
    generalize upd H l1 (.lst [V.str (toString x.w)]) = H1 at s1 h1 ⊢
    walk_at "rs"
    refine ⟨⟨_, SqT.of (s1 _ _ hq')⟩, fun D hD => ?_⟩
    refine lc_tup (K := K) (a := q) (xs := x.m.vals) (fun i H2 => Same H1 H2 ∧ H2 D = some (.lst (((x.m.vals.take i).map wordV).map V.str))) ⟨same_new hD, by rw [upd_same]; simp⟩ (fun i H2 _ ⟨s2, _⟩ => SqT.of (s2 _ _ (s1 _ _ hq'))) ?_ ?_
    · rintro i y H2 hy ⟨s2, hd⟩
      have hi : i < x.m.vals.length := (List.getElem?_eq_some_iff.mp hy).1
      have et : x.m.vals.take (i + 1) = x.m.vals.take i ++ [y] := by rw [List.take_add_one, hy]; rfl
      have hsy := hs y (List.mem_of_getElem? hy)
      refine ⟨rfl, ?_⟩
      walk_at "rs"
      refine ⟨hsy, ?_⟩
      refine ⟨_, hd, by rw [List.length_map, List.length_map, List.length_take]; exact small1000 (by omega), same_upd s2 hD, ?_⟩
      rw [upd_same, et]
      simp
    · rintro H2 ⟨s2, hd⟩
      rw [List.take_length] at hd
      have fit := join_fit (who := x.w) w0 w1 hs
      refine ⟨l1, D, _, _, rfl, rfl, s2 _ _ h1, hd, by rw [List.length_map, List.length_map, sizeLine_eq]; simp; omega, fun l3 hl3 => ?_⟩
      have s3 := same_new (o := .lst ([V.str (toString x.w)] ++ (x.m.vals.map wordV).map V.str)) hl3
      refine ⟨_, l3, (toString x.w : Str) :: x.m.vals.map wordV, rfl, rfl, .inl (SqL.of upd_same), fit, ?_⟩
      exact k _ ((s1.trans s2).trans s3)

theorem at_strs {ws : List Str} {k : Nat} (h : k < ws.length) : atI (ws.map V.str) (k : Int) = some (.str (ws.getD k "")) := atI_nat (by
  rw [List.getElem?_map, List.getD_eq_getElem?_getD, List.getElem?_eq_getElem h]
  rfl)
theorem msgL (i : Int) (h0 : 0 ≤ i) (h1 : i < 1000000000) : (((Str.empty ++ ("no right word at index " : Str)) ++ (toString i : Str)) : Str).length ≤ 1000 := by
  have a := (num_ok h0 h1).1
  have e : (((Str.empty ++ ("no right word at index " : Str)) ++ (toString i : Str)) : Str).length = (Str.empty ++ ("no right word at index " : Str)).length + (toString i : Str).length := by
    rw [TL.len_tl, TL.tl_append, List.length_append, ← TL.len_tl, ← TL.len_tl]
  rw [e]
  have c : (Str.empty ++ ("no right word at index " : Str)).length = 23 := by decide +kernel
  omega
theorem ok_BadLine_init (TE : TxtE P w K mg a) (T : Txt K mg a) : ∃ fd, FnOk P w K mg base CX0 1 a.d_BadLine_init fd ["self", "at"] (spSup a.C_BadLine "at" fun v => ∃ i : Int, v = .int i ∧ 0 ≤ i ∧ i < 1000000000) ∧ Binds K fd ["self", "at"] [] := by
  obtain ⟨fd, S, b⟩ := TE.sup_BadLine
  have T0 : SupTxt "at" "at" s_BadLine_init _ _ _ _ _ _ _ _ _ _ := ⟨rfl, rfl, rfl, rfl, rfl, rfl, rfl, rfl, by decide +kernel, ⟨_, rfl, rfl⟩⟩
  refine ⟨fd, ok_sup S T0 (by decide +kernel) (by decide) (by decide) T.n_super ?_ (fun _ => rfl) (fun _ _ _ _ => rfl) (fun _ _ _ _ => rfl) (fun _ _ _ _ => rfl) _ (fun _ => rfl), b⟩
  rintro cd cc A outer s H E e v ⟨i, rfl, i0, i1⟩
  refine ⟨_, pa_cons (pe_joined (.cons pe_str (.cons (pe_fmt (pv 1)) .nil))) pa_nil, fun H1 Q q => ?_⟩
  have len := msgL i i0 i1
  refine ⟨_, rfl, by rw [sizeLine_eq]; decide +kernel, _, rfl, .inr ⟨i, rfl, log_small i0 i1, _, rfl, ?_, q _⟩⟩
  rw [sizeLine_eq]
  exact Nat.le_trans len (by decide)
theorem ok_proposal (T : Txt K mg a) : ∃ fd, FnOk P w K mg base CX0 1 a.d_proposal fd ["height", "turn", "block"] (spProp K) ∧ Binds K fd ["height", "turn", "block"] [] := by
  obtain ⟨fd, F, b⟩ := T.d_proposal.F
  refine ⟨fd, F.ok sc_proposal (fun vs H Q E h => ?_) (fun cdv A outer s H vs Q E hr h => ?_), b⟩
  · obtain ⟨_, _, _, rfl, _⟩ := h
    rfl
  · obtain ⟨h, t, b, rfl, k⟩ := h
    refine ⟨_, (pss_one (ps_ret (pe_tup (pa_cons pe_str (pa_cons (pv 0) (pa_cons (pv 1) (pa_cons (pv 2) pa_nil))))))), ?_⟩
    walk_at "rs"
    exact ⟨(by show 4 ≤ sizeLine; decide), fun p hp => k p _ (same_new hp) upd_same⟩
theorem ok_precommit (T : Txt K mg a) : ∃ fd, FnOk P w K mg base CX0 1 a.d_precommit fd ["height", "turn", "block"] (spPrec K) ∧ Binds K fd ["height", "turn", "block"] [] := by
  obtain ⟨fd, F, b⟩ := T.d_precommit.F
  refine ⟨fd, F.ok sc_precommit (fun vs H Q E h => ?_) (fun cdv A outer s H vs Q E hr h => ?_), b⟩
  · obtain ⟨_, _, _, rfl, _⟩ := h
    rfl
  · obtain ⟨h, t, b, rfl, k⟩ := h
    refine ⟨_, (pss_one (ps_ret (pe_tup (pa_cons pe_str (pa_cons (pv 0) (pa_cons (pv 1) (pa_cons (pv 2) pa_nil))))))), ?_⟩
    walk_at "rs"
    exact ⟨(by show 4 ≤ sizeLine; decide), fun p hp => k p _ (same_new hp) upd_same⟩
theorem ok_prevote (T : Txt K mg a) : ∃ fd, FnOk P w K mg base CX0 1 a.d_prevote fd ["height", "turn", "block", "lean"] (spPrev K) ∧ Binds K fd ["height", "turn", "block", "lean"] [] := by
  obtain ⟨fd, F, b⟩ := T.d_prevote.F
  refine ⟨fd, F.ok sc_prevote (fun vs H Q E h => ?_) (fun cdv A outer s H vs Q E hr h => ?_), b⟩
  · obtain ⟨_, _, _, _, rfl, _⟩ := h
    rfl
  · obtain ⟨h, t, b, l, rfl, k⟩ := h
    refine ⟨_, (pss_one (ps_ret (pe_tup (pa_cons pe_str (pa_cons (pv 0) (pa_cons (pv 1) (pa_cons (pv 2) (pa_cons (pv 3) pa_nil)))))))), ?_⟩
    walk_at "rs"
    exact ⟨(by show 5 ≤ sizeLine; decide), fun p hp => k p _ (same_new hp) upd_same⟩
theorem ok_is_number (T : Txt K mg a) : ∃ fd, FnOk P w K mg base CX0 1 a.d_is_number fd ["word"] (spIsNum K) ∧ Binds K fd ["word"] [] := by
  obtain ⟨fd, F, b⟩ := T.d_is_number.F
  refine ⟨fd, F.ok sc_is_number (fun vs H Q E h => ?_) (fun cdv A outer s H vs Q E hr h => ?_), b⟩
  · obtain ⟨_, rfl, _⟩ := h
    rfl
  · obtain ⟨x, rfl, lx, k⟩ := h
    have k0 := k _ (Same.refl H)
    refine ⟨_, (pss_cons (ps_if (PW.pt (pw_or (pt_not (pt_val (pe_bm0 PySem.F.plainAttrs_str PySem.F.slot_str_isascii PySem.F.type_str_isascii mt_isascii (pv 0)))) (pw_or (pt_not (pt_val (pe_bm0 PySem.F.plainAttrs_str PySem.F.slot_str_isdigit PySem.F.type_str_isdigit mt_isdigit (pv 0)))) (pw_or1 (pt_cmpR op_gt (pe_callB call_len_str (by rfl) T.n_len PySem.boot_len (pa_cons (pv 0) pa_nil)) (pe_glob (v := (.int 9)) rfl T.c_MOST_DIGITS_wire.choose_spec ⟨_, rfl⟩) (nomark _))))))
      (pss_one (ps_ret pe_bl))
      pss_nil)
      (pss_one (ps_ret (pe_or (pe_cmpR op_eq (pv 0) pe_str (nomark _)) (pe_one (pe_cmpR op_ne (pe_ix ix_str (pv 0) pe_int (fun _ _ => rfl)) pe_str (nomark _))))))), ?_⟩
    walk_at "rs"
    refine ⟨trivial, ?_⟩
    walk_at "rs"
    refine ite2 (fun c1 => ?_) (fun c1 => ?_)
    · rw [num_not1 (.inl (by simpa using c1))] at k0
      walk_at "rs"
      exact k0
    walk_at "rs"
    refine ⟨trivial, ?_⟩
    walk_at "rs"
    refine ite2 (fun c2 => ?_) (fun c2 => ?_)
    · rw [num_not1 (.inr (by simpa using c2))] at k0
      walk_at "rs"
      exact k0
    walk_at "rs"
    refine ⟨lx, ?_⟩
    walk_at "rs"
    refine ite2 (fun c3 => ?_) (fun c3 => ?_)
    · rw [num_not2 (by simp at c3; omega)] at k0
      walk_at "rs"
      exact k0
    have a1 : Txt.isascii x = true := by simpa using c1
    have a2 : Txt.isdigit x = true := by simpa using c2
    rw [num_last a1 a2 (by simp at c3; omega)] at k0
    obtain ⟨c, l, ec⟩ : ∃ c l, TL.tl x = c :: l := by
      have := num_parts x
      rw [a1, a2] at this
      have := of_decide_eq_true (Bool.and_eq_true_iff.mp this.symm).2
      cases e : TL.tl x with
      | nil => exact absurd e this
      | cons c l => exact ⟨c, l, rfl⟩
    walk_at "rs"
    refine ite2 (fun c4 => ?_) (fun c4 => ?_)
    · have e0 : x = "0" := by simpa using c4
      rw [decide_eq_true e0] at k0
      exact k0
    · have e0 : ¬ x = "0" := by simpa using c4
      rw [decide_eq_false e0, ec] at k0
      walk_at "rs"
      refine ⟨_, _, c, rfl, rfl, lx, atI_nat (j := 0) (by rw [show x.cps.toList = c :: l from ec]; rfl), ?_⟩
      walk_at "rs"
      have e3 : (!decide (V.str ⟨#[c]⟩ = V.str "0")) = (false || decide ((c :: l).head? ≠ some 48)) := by
        have : (("0" : Str)) = ⟨#[48]⟩ := by decide +kernel
        rw [this]
        simp
      rw [e3]
      exact k0
theorem ok_is_block (T : Txt K mg a) : ∃ fd, FnOk P w K mg base CX0 1 a.d_is_block fd ["word"] (spIsBlk K) ∧ Binds K fd ["word"] [] := by
  obtain ⟨fd, F, b⟩ := T.d_is_block.F
  refine ⟨fd, F.ok sc_is_block (fun vs H Q E h => ?_) (fun cdv A outer s H vs Q E hr h => ?_), b⟩
  · obtain ⟨_, rfl, _⟩ := h
    rfl
  · obtain ⟨x, rfl, lx, k⟩ := h
    have k2 := k
    have k0 := k _ (Same.refl H)
    refine ⟨_, (pss_cons (ps_if (PW.pt (pw_or (pt_cmpR op_lt (pe_callB call_len_str (by rfl) T.n_len PySem.boot_len (pa_cons (pv 0) pa_nil)) pe_int (nomark _)) (pw_or (pt_cmpR op_gt (pe_callB call_len_str (by rfl) T.n_len PySem.boot_len (pa_cons (pv 0) pa_nil)) (pe_glob (v := (.int 60)) rfl T.c_MOST_SIGNS.choose_spec ⟨_, rfl⟩) (nomark _)) (pw_or1 (pt_cmpR op_notIn_sign (pe_ix ix_str (pv 0) pe_int (fun _ _ => rfl)) (pe_glob (v := (.str "abcdefghijklmnopqrstuvwxyz")) rfl T.c_LETTERS.choose_spec ⟨_, rfl⟩) (by rfl))))))
      (pss_one (ps_ret pe_bl))
      pss_nil)
      (pss_one (ps_ret (pe_callB (cr_all rfl) (by rfl) T.n_all (by decide +kernel) (pa_cons (pe_lc (own := [("sign", 1)]) (g := (gName 1)) (tt := tYes) rfl sc_is_block.nd (pi_str (pv 0)) (blkOk_by (own := [("sign", 1)]) (N := sc_is_block_N) (sc := defScope s_is_block) (by decide +kernel)) (fun _ _ _ _ _ => (pg_name (i := 1) sc_is_block.nd rfl (Or.inl rfl))) (fun _ _ _ _ _ => pts_nil) (fun _ _ _ _ _ => (pe_cmpR op_in_sign (pv 1) (pe_glob (v := (.str "abcdefghijklmnopqrstuvwxyz0123456789")) rfl T.c_BLOCK_SIGNS.choose_spec ⟨_, rfl⟩) (by rfl)))) pa_nil))))), ?_⟩
    walk_at "rs"
    refine ⟨lx, ?_⟩
    walk_at "rs"
    refine ite2 (fun c1 => ?_) (fun c1 => ?_)
    · have e : TL.tl x = [] := by
        have := of_decide_eq_true c1
        have : x.length = 0 := by omega
        rw [TL.len_tl] at this
        exact List.eq_nil_of_length_eq_zero (by omega)
      have : blkB x = false := by unfold blkB; rw [e]
      rw [this] at k0
      walk_at "rs"
      refine ite2 (fun _ => ?_) (fun z => absurd rfl z)
      walk_at "rs"
      exact k0
    obtain ⟨c, l, ec⟩ : ∃ c l, TL.tl x = c :: l := by
      have : ¬ ((x.length : Int) < 1) := fun z => c1 (decide_eq_true z)
      have : ¬ x.length = 0 := by omega
      rw [TL.len_tl] at this
      cases e : TL.tl x with
      | nil => rw [e] at this; exact absurd rfl this
      | cons c l => exact ⟨c, l, rfl⟩
    have eb : blkB x = (decide (l.length + 1 ≤ 60) && (isL c && (c :: l).all isA)) := by unfold blkB; rw [ec]
    rw [eb] at k0
    walk_at "rs"
    refine ⟨lx, ?_⟩
    walk_at "rs"
    have el : x.length = l.length + 1 := by rw [TL.len_tl, ec]; rfl
    refine ite2 (fun c2 => ?_) (fun c2 => ?_)
    · have : ¬ (l.length + 1 ≤ 60) := by simp at c2; omega
      rw [decide_eq_false this] at k0
      walk_at "rs"
      refine ite2 (fun _ => ?_) (fun z => absurd rfl z)
      walk_at "rs"
      exact k0
    have : l.length + 1 ≤ 60 := by simp at c2; omega
    rw [decide_eq_true this, Bool.true_and] at k0
    walk_at "rs"
    refine ⟨_, _, c, rfl, rfl, lx, atI_nat (j := 0) (by rw [show x.cps.toList = c :: l from ec]; rfl), ?_⟩
    walk_at "rs"
    refine ite2 (fun c3 => ?_) (fun c3 => ?_)
    · have : isL c = false := by
        unfold isL
        have c3' : (!decide (c ∈ TL.tl "abcdefghijklmnopqrstuvwxyz")) = true := c3
        simpa using c3'
      rw [this] at k0
      walk_at "rs"
      exact k0
    have : isL c = true := by
      unfold isL
      have c3' : ¬ (!decide (c ∈ TL.tl "abcdefghijklmnopqrstuvwxyz")) = true := c3
      simpa using c3'
    rw [eb, decide_eq_true (show l.length + 1 ≤ 60 by assumption), this, Bool.true_and, Bool.true_and] at k2
    walk_at "rs"
    intro D hD
    have es : x.cps.toList = c :: l := ec
    have esz : x.cps.size = (c :: l).length := by rw [← es, Array.length_toList]
    refine lc_it walk_str (fun i H2 => Same H H2 ∧ H2 D = some (.lst ((((c :: l).take i).map isA).map V.bl))) ⟨same_new hD, by rw [upd_same]; rfl⟩ (fun _ _ _ _ => trivial) ?_ ?_
    · rintro i y H2 _ hi ⟨s2, hd⟩ ⟨rfl, d, hd0, rfl⟩
      have hd1 : (c :: l)[i]? = some d := by rw [← es, Array.getElem?_toList]; exact hd0
      have et : (c :: l).take (i + 1) = (c :: l).take i ++ [d] := by rw [List.take_add_one, hd1]; rfl
      refine ⟨rfl, ?_⟩
      walk_at "rs"
      refine ⟨_, hd, by rw [List.length_map, List.length_map, List.length_take]; exact small1000 (by rw [List.length_cons]; omega), same_upd s2 hD, ?_⟩
      rw [upd_same, et]
      simp only [List.map_append, List.map_cons, List.map_nil]
      rfl
    · rintro H2 ⟨s2, hd⟩
      rw [esz, List.take_length] at hd
      walk_at "rs"
      refine ⟨D, _, rfl, SqL.of hd, ?_⟩
      rw [List.all_map]
      exact k2 _ s2
theorem ok_word_at (TE : TxtE P w K mg a) (T : Txt K mg a) : ∃ fd, FnOk P w K mg base (L2N.CX P w) 3 a.d_word_at fd ["words", "at"] (spWordAt K a.C_BadLine) ∧ Binds K fd ["words", "at"] [] := by
  obtain ⟨fd, F, b⟩ := T.d_word_at.F
  obtain ⟨fd_BadLine_init, G_BadLine_init, b_BadLine_init⟩ := ok_BadLine_init (P := P) (w := w) (base := base) TE T
  refine ⟨fd, fun_okN F sc_word_at (fun vs H Q E h => ?_) (fun cdv A outer s H vs Q E hr h => ?_), b⟩
  · obtain ⟨_, _, _, rfl, _⟩ := h
    rfl
  · obtain ⟨W, ws, k, rfl, hW, lw, sw, k6, kr, kq⟩ := h
    refine ⟨_, (pss_cons (ps_if (pt_cmpR op_ge (pv 1) (pe_callB call_len_seq (by rfl) T.n_len PySem.boot_len (pa_cons (pv 0) pa_nil)) (nomark _))
      (pss_one (L2N.ps_raise rfl (L2N.takes_of rfl rfl rfl rfl) (pmk_sup TE.oex_BadLine TE.iC_BadLine TE.tI_BadLine G_BadLine_init (hr.mono (by decide)) b_BadLine_init rfl TE.g_BadLine (pa_cons (pe_callB call_len_seq (by rfl) T.n_len PySem.boot_len (pa_cons (pv 0) pa_nil)) pa_nil))))
      pss_nil)
      (pss_one (ps_ret (pe_ix ix_list (pv 0) (pv 1) (fun _ _ => rfl))))), ?_⟩
    walk_at "rs"
    refine ⟨W, _, rfl, .inl (SqL.of hW), ?_⟩
    walk_at "rs"
    refine ite2 (fun c1 => ?_) (fun c1 => ?_)
    · have c1 : ws.length ≤ k := by simpa using c1
      have er : wordAt ws k = .error (ws.length : Int) := if_neg (by omega)
      walk_at "rs"
      refine ⟨W, _, rfl, .inl (SqL.of hW), ?_⟩
      walk_at "rs"
      rw [List.length_map]
      refine ⟨⟨_, rfl, Int.natCast_nonneg _, by omega⟩, fun d hd => ?_⟩
      exact kr _ (by show mapE V.str (wordAt ws k) = _; rw [er]; rfl) d _ (same_new hd) upd_same
    · have c1 : k < ws.length := by simpa using c1
      have er : wordAt ws k = .ok (ws.getD k "") := if_pos c1
      walk_at "rs"
      refine ⟨W, _, _, _, rfl, rfl, SqL.of hW, at_strs c1, ?_⟩
      exact kq _ (by show mapE V.str (wordAt ws k) = _; rw [er]; rfl) _ (Same.refl H)
theorem ok_number_at (TE : TxtE P w K mg a) (T : Txt K mg a) : ∃ fd, FnOk P w K mg base (L2N.CX P w) 4 a.d_number_at fd ["words", "at"] (spNumAt K a.C_BadLine) ∧ Binds K fd ["words", "at"] [] := by
  obtain ⟨fd, F, b⟩ := T.d_number_at.F
  obtain ⟨fd_word_at, G_word_at, b_word_at⟩ := ok_word_at (P := P) (w := w) (base := base) TE T
  obtain ⟨fd_is_number, G_is_number, b_is_number⟩ := ok_is_number (P := P) (w := w) (base := base) T
  obtain ⟨fd_BadLine_init, G_BadLine_init, b_BadLine_init⟩ := ok_BadLine_init (P := P) (w := w) (base := base) TE T
  refine ⟨fd, fun_okN F sc_number_at (fun vs H Q E h => ?_) (fun cdv A outer s H vs Q E hr h => ?_), b⟩
  · obtain ⟨_, _, _, rfl, _⟩ := h
    rfl
  · obtain ⟨W, ws, k, rfl, hW, lw, sw, k6, kr, kq⟩ := h
    have kr' : ∀ e, numAt ws k = .error e → ExR a.C_BadLine H E e := fun e h => kr e (by show mapE _ _ = _; rw [h]; rfl)
    have kq' : ∀ n, numAt ws k = .ok n → ∀ H', Same H H' → Q (.int n) H' := fun n h => kq _ (by show mapE _ _ = _; rw [h]; rfl)
    clear kr kq
    refine ⟨_, (pss_cons (ps_set (i := 2) sc_number_at.nd rfl (Or.inl rfl) (pe_call G_word_at (hr.mono (by decide)) rfl T.d_word_at.g T.d_word_at.kp b_word_at .nil (L2N.passes_call (W := fun c d _ H => E c d H) (E := E) (L2N.takes_of rfl rfl rfl rfl) (fun _ _ _ _ h => h)) (pa_cons (pv 0) (pa_cons (pv 1) pa_nil))))
      (pss_cons (ps_if (pt_not (pt_val (pe_call G_is_number (hr.mono (by decide)) rfl T.d_is_number.g T.d_is_number.kp b_is_number .nil pass0 (pa_cons (pv 2) pa_nil))))
      (pss_one (L2N.ps_raise rfl (L2N.takes_of rfl rfl rfl rfl) (pmk_sup TE.oex_BadLine TE.iC_BadLine TE.tI_BadLine G_BadLine_init (hr.mono (by decide)) b_BadLine_init rfl TE.g_BadLine (pa_cons (pv 1) pa_nil))))
      pss_nil)
      (pss_one (ps_ret (pe_callTy call_int_str (by rfl) T.n_int (by decide +kernel) (pa_cons (pv 2) pa_nil)))))), ?_⟩
    walk_at "rs"
    refine ⟨W, ws, k, rfl, hW, lw, sw, k6, fun e he => ?_, fun n hn H1 s1 => ?_⟩
    · cases q : wordAt ws k with
      | ok x => simp only [q, mapE] at he; cases he
      | error e' =>
        simp only [q, mapE] at he
        cases he
        exact kr' e (by unfold numAt; rw [q])
    · cases q : wordAt ws k with
      | error e' => simp only [q, mapE] at hn; cases hn
      | ok x =>
        simp only [q, mapE] at hn
        cases hn
        have hx := word_mem q
        walk_at "rs"
        refine ⟨sw x hx, fun H2 s2 => ?_⟩
        walk_at "rs"
        refine ite2 (fun c1 => ?_) (fun c1 => ?_)
        · have c2 : numB x = false := by simpa using c1
          walk_at "rs"
          refine ⟨⟨_, rfl, Int.natCast_nonneg _, by omega⟩, fun d hd => ?_⟩
          exact kr' _ (by unfold numAt; rw [q]; exact if_neg (by rw [c2]; exact Bool.false_ne_true)) d _ ((s1.trans s2).trans (same_new hd)) upd_same
        · have c2 : numB x = true := by simpa using c1
          walk_at "rs"
          have nv := num_int c2
          refine ⟨x, _, rfl, nv.1, Nat.le_trans nv.2 (by decide), ?_⟩
          exact kq' _ (by unfold numAt; rw [q]; exact if_pos c2) _ (s1.trans s2)
theorem ok_kind_at (TE : TxtE P w K mg a) (T : Txt K mg a) : ∃ fd, FnOk P w K mg base (L2N.CX P w) 4 a.d_kind_at fd ["words", "at"] (spKindAt K a.C_BadLine) ∧ Binds K fd ["words", "at"] [] := by
  obtain ⟨fd, F, b⟩ := T.d_kind_at.F
  obtain ⟨fd_word_at, G_word_at, b_word_at⟩ := ok_word_at (P := P) (w := w) (base := base) TE T
  obtain ⟨fd_BadLine_init, G_BadLine_init, b_BadLine_init⟩ := ok_BadLine_init (P := P) (w := w) (base := base) TE T
  refine ⟨fd, fun_okN F sc_kind_at (fun vs H Q E h => ?_) (fun cdv A outer s H vs Q E hr h => ?_), b⟩
  · obtain ⟨_, _, _, rfl, _⟩ := h
    rfl
  · obtain ⟨W, ws, k, rfl, hW, lw, sw, k6, kr, kq⟩ := h
    have kr' : ∀ e, kindAt ws k = .error e → ExR a.C_BadLine H E e := fun e h => kr e (by show mapE _ _ = _; rw [h]; rfl)
    have kq' : ∀ n, kindAt ws k = .ok n → ∀ H', Same H H' → Q (.str n.s) H' := fun n h => kq _ (by show mapE _ _ = _; rw [h]; rfl)
    clear kr kq
    refine ⟨_, (pss_cons (ps_set (i := 2) sc_kind_at.nd rfl (Or.inl rfl) (pe_call G_word_at (hr.mono (by decide)) rfl T.d_word_at.g T.d_word_at.kp b_word_at .nil (L2N.passes_call (W := fun c d _ H => E c d H) (E := E) (L2N.takes_of rfl rfl rfl rfl) (fun _ _ _ _ h => h)) (pa_cons (pv 0) (pa_cons (pv 1) pa_nil))))
      (pss_cons (ps_if (pt_cmpR op_notIn_seq (pv 2) (pe_glob (v := .ref a.P_KINDS) rfl TE.g_KINDS rfl) (by rfl))
      (pss_one (L2N.ps_raise rfl (L2N.takes_of rfl rfl rfl rfl) (pmk_sup TE.oex_BadLine TE.iC_BadLine TE.tI_BadLine G_BadLine_init (hr.mono (by decide)) b_BadLine_init rfl TE.g_BadLine (pa_cons (pv 1) pa_nil))))
      pss_nil)
      (pss_one (ps_ret (pv 2))))), ?_⟩
    walk_at "rs"
    refine ⟨W, ws, k, rfl, hW, lw, sw, k6, fun e he => ?_, fun n hn H1 s1 => ?_⟩
    · cases q : wordAt ws k with
      | ok x => simp only [q, mapE] at he; cases he
      | error e' =>
        simp only [q, mapE] at he
        cases he
        exact kr' e (by unfold kindAt; rw [q])
    · cases q : wordAt ws k with
      | error e' => simp only [q, mapE] at hn; cases hn
      | ok x =>
        simp only [q, mapE] at hn
        cases hn
        walk_at "rs"
        refine ⟨_, _, rfl, .inr (TE.s_KINDS _), rfl, rfl, ?_⟩
        rw [if_pos rfl, inV_kinds]
        walk_at "rs"
        refine ite2 (fun c1 => ?_) (fun c1 => ?_)
        · have c2 : kdOf x = none := by simpa using c1
          walk_at "rs"
          refine ⟨⟨_, rfl, Int.natCast_nonneg _, by omega⟩, fun d hd => ?_⟩
          exact kr' _ (by unfold kindAt; rw [q]; simp only [c2]) d _ (s1.trans (same_new hd)) upd_same
        · obtain ⟨d, c2⟩ : ∃ d, kdOf x = some d := Option.ne_none_iff_exists'.mp (by simpa using c1)
          walk_at "rs"
          rw [kd_of c2]
          exact kq' _ (by unfold kindAt; rw [q]; simp only [c2]) _ s1
theorem ok_end_at (TE : TxtE P w K mg a) (T : Txt K mg a) : ∃ fd, FnOk P w K mg base (L2N.CX P w) 3 a.d_end_at fd ["words", "at"] (spEndAt K a.C_BadLine) ∧ Binds K fd ["words", "at"] [] := by
  obtain ⟨fd, F, b⟩ := T.d_end_at.F
  obtain ⟨fd_BadLine_init, G_BadLine_init, b_BadLine_init⟩ := ok_BadLine_init (P := P) (w := w) (base := base) TE T
  refine ⟨fd, fun_okN F sc_end_at (fun vs H Q E h => ?_) (fun cdv A outer s H vs Q E hr h => ?_), b⟩
  · obtain ⟨_, _, _, rfl, _⟩ := h
    rfl
  · obtain ⟨W, ws, k, rfl, hW, lw, sw, k6, kr, kq⟩ := h
    have kr' : ∀ e, endAt ws k = .error e → ExR a.C_BadLine H E e := fun e h => kr e (by show mapE _ _ = _; rw [h]; rfl)
    have kq' : ∀ n, endAt ws k = .ok n → ∀ H', Same H H' → Q .non H' := fun n h => kq _ (by show mapE _ _ = _; rw [h]; rfl)
    clear kr kq
    refine ⟨_, (pss_one (ps_if (pt_cmpR op_gt (pe_callB call_len_seq (by rfl) T.n_len PySem.boot_len (pa_cons (pv 0) pa_nil)) (pv 1) (nomark _))
      (pss_one (L2N.ps_raise rfl (L2N.takes_of rfl rfl rfl rfl) (pmk_sup TE.oex_BadLine TE.iC_BadLine TE.tI_BadLine G_BadLine_init (hr.mono (by decide)) b_BadLine_init rfl TE.g_BadLine (pa_cons (pv 1) pa_nil))))
      pss_nil)), ?_⟩
    walk_at "rs"
    refine ⟨W, _, rfl, .inl (SqL.of hW), ?_⟩
    walk_at "rs"
    refine ite2 (fun c1 => ?_) (fun c1 => ?_)
    · have c2 : k < ws.length := by simpa using c1
      walk_at "rs"
      refine ⟨⟨_, rfl, Int.natCast_nonneg _, by omega⟩, fun d hd => ?_⟩
      exact kr' _ (if_pos c2) d _ (same_new hd) upd_same
    · have c2 : ¬ k < ws.length := by simpa using c1
      exact kq' () (if_neg c2) _ (Same.refl H)
theorem ok_block_at (TE : TxtE P w K mg a) (T : Txt K mg a) : ∃ fd, FnOk P w K mg base (L2N.CX P w) 4 a.d_block_at fd ["words", "at", "kind"] (spBlockAt K a.C_BadLine) ∧ Binds K fd ["words", "at", "kind"] [] := by
  obtain ⟨fd, F, b⟩ := T.d_block_at.F
  obtain ⟨fd_word_at, G_word_at, b_word_at⟩ := ok_word_at (P := P) (w := w) (base := base) TE T
  obtain ⟨fd_is_block, G_is_block, b_is_block⟩ := ok_is_block (P := P) (w := w) (base := base) T
  obtain ⟨fd_BadLine_init, G_BadLine_init, b_BadLine_init⟩ := ok_BadLine_init (P := P) (w := w) (base := base) TE T
  refine ⟨fd, fun_okN F sc_block_at (fun vs H Q E h => ?_) (fun cdv A outer s H vs Q E hr h => ?_), b⟩
  · obtain ⟨_, _, _, _, rfl, _⟩ := h
    rfl
  · obtain ⟨W, ws, k, kd, rfl, hW, lw, sw, k6, kr, kq⟩ := h
    refine ⟨_, (pss_cons (ps_set (i := 3) sc_block_at.nd rfl (Or.inl rfl) (pe_call G_word_at (hr.mono (by decide)) rfl T.d_word_at.g T.d_word_at.kp b_word_at .nil (L2N.passes_call (W := fun c d _ H => E c d H) (E := E) (L2N.takes_of rfl rfl rfl rfl) (fun _ _ _ _ h => h)) (pa_cons (pv 0) (pa_cons (pv 1) pa_nil))))
      (pss_cons (ps_if (PW.pt (pw_and (pt_cmpR op_eq (pv 3) (pe_glob (v := (.str "-")) rfl T.c_NONE.choose_spec ⟨_, rfl⟩) (nomark _)) (pw_and1 (pt_cmpR op_ne (pv 2) pe_str (nomark _)))))
      (pss_one (ps_ret pe_non))
      pss_nil)
      (pss_cons (ps_if (pt_not (pt_val (pe_call G_is_block (hr.mono (by decide)) rfl T.d_is_block.g T.d_is_block.kp b_is_block .nil pass0 (pa_cons (pv 3) pa_nil))))
      (pss_one (L2N.ps_raise rfl (L2N.takes_of rfl rfl rfl rfl) (pmk_sup TE.oex_BadLine TE.iC_BadLine TE.tI_BadLine G_BadLine_init (hr.mono (by decide)) b_BadLine_init rfl TE.g_BadLine (pa_cons (pv 1) pa_nil))))
      pss_nil)
      (pss_one (ps_ret (pv 3)))))), ?_⟩
    walk_at "rs"
    refine ⟨W, ws, k, rfl, hW, lw, sw, k6, fun e he => ?_, fun n hn H1 s1 => ?_⟩
    · cases q : wordAt ws k with
      | ok x => simp only [q, mapE] at he; cases he
      | error e' =>
        simp only [q, mapE] at he
        cases he
        exact kr e (by unfold blockAt; rw [q])
    · cases q : wordAt ws k with
      | error e' => simp only [q, mapE] at hn; cases hn
      | ok x =>
        simp only [q, mapE] at hn
        cases hn
        have hx := word_mem q
        have fin1 : ∀ y, Q y H1 → Q y H1 := fun _ h => h
        walk_at "rs"
        have rest : ¬ (x = "-" ∧ kd ≠ .prop) → blockAt ws k kd = if blkB x = true then .ok (some x) else .error (k : Int) := fun h => by
          unfold blockAt
          rw [q]
          exact if_neg h
        refine ite2 (fun c1 => ?_) (fun c1 => ?_)
        · have e1 : x = "-" := by simpa using c1
          walk_at "rs"
          refine ite2 (fun c2 => ?_) (fun c2 => ?_)
          · have e2 : kd ≠ .prop := by simpa [s_prop] using c2
            walk_at "rs"
            exact kq none (by unfold blockAt; rw [q]; exact if_pos ⟨e1, e2⟩) _ s1
          · have e2 : kd = .prop := by simpa [s_prop] using c2
            have e3 := rest fun z => z.2 e2
            walk_at "rs"
            refine ⟨sw x hx, fun H2 s2 => ?_⟩
            walk_at "rs"
            refine ite2 (fun c3 => ?_) (fun c3 => ?_)
            · have e4 : blkB x = false := by simpa using c3
              walk_at "rs"
              refine ⟨⟨_, rfl, Int.natCast_nonneg _, by omega⟩, fun d hd => ?_⟩
              exact kr _ (by rw [e3, e4]; rfl) d _ ((s1.trans s2).trans (same_new hd)) upd_same
            · have e4 : blkB x = true := by simpa using c3
              walk_at "rs"
              exact kq (some x) (by rw [e3, e4]; rfl) _ (s1.trans s2)
        · have e1 : ¬ x = "-" := by simpa using c1
          have e3 := rest fun z => e1 z.1
          walk_at "rs"
          refine ⟨sw x hx, fun H2 s2 => ?_⟩
          walk_at "rs"
          refine ite2 (fun c3 => ?_) (fun c3 => ?_)
          · have e4 : blkB x = false := by simpa using c3
            walk_at "rs"
            refine ⟨⟨_, rfl, Int.natCast_nonneg _, by omega⟩, fun d hd => ?_⟩
            exact kr _ (by rw [e3, e4]; rfl) d _ ((s1.trans s2).trans (same_new hd)) upd_same
          · have e4 : blkB x = true := by simpa using c3
            walk_at "rs"
            exact kq (some x) (by rw [e3, e4]; rfl) _ (s1.trans s2)
theorem ok_lean_at (TE : TxtE P w K mg a) (T : Txt K mg a) : ∃ fd, FnOk P w K mg base (L2N.CX P w) 5 a.d_lean_at fd ["words", "at", "turn"] (spLeanAt K a.C_BadLine) ∧ Binds K fd ["words", "at", "turn"] [] := by
  obtain ⟨fd, F, b⟩ := T.d_lean_at.F
  obtain ⟨fd_word_at, G_word_at, b_word_at⟩ := ok_word_at (P := P) (w := w) (base := base) TE T
  obtain ⟨fd_number_at, G_number_at, b_number_at⟩ := ok_number_at (P := P) (w := w) (base := base) TE T
  obtain ⟨fd_BadLine_init, G_BadLine_init, b_BadLine_init⟩ := ok_BadLine_init (P := P) (w := w) (base := base) TE T
  refine ⟨fd, fun_okN F sc_lean_at (fun vs H Q E h => ?_) (fun cdv A outer s H vs Q E hr h => ?_), b⟩
  · obtain ⟨_, _, _, _, rfl, _⟩ := h
    rfl
  · obtain ⟨W, ws, k, t, rfl, hW, lw, sw, k6, kr, kq⟩ := h
    refine ⟨_, (pss_cons (ps_set (i := 3) sc_lean_at.nd rfl (Or.inl rfl) (pe_call G_word_at (hr.mono (by decide)) rfl T.d_word_at.g T.d_word_at.kp b_word_at .nil (L2N.passes_call (W := fun c d _ H => E c d H) (E := E) (L2N.takes_of rfl rfl rfl rfl) (fun _ _ _ _ h => h)) (pa_cons (pv 0) (pa_cons (pv 1) pa_nil))))
      (pss_cons (ps_if (pt_cmpR op_eq (pv 3) (pe_glob (v := (.str "-")) rfl T.c_NONE.choose_spec ⟨_, rfl⟩) (nomark _))
      (pss_one (ps_ret pe_non))
      pss_nil)
      (pss_cons (ps_set (i := 4) sc_lean_at.nd rfl (Or.inl rfl) (pe_call G_number_at (hr.mono (by decide)) rfl T.d_number_at.g T.d_number_at.kp b_number_at .nil (L2N.passes_call (W := fun c d _ H => E c d H) (E := E) (L2N.takes_of rfl rfl rfl rfl) (fun _ _ _ _ h => h)) (pa_cons (pv 0) (pa_cons (pv 1) pa_nil))))
      (pss_cons (ps_if (pt_cmpR op_ge (pv 4) (pv 2) (nomark _))
      (pss_one (L2N.ps_raise rfl (L2N.takes_of rfl rfl rfl rfl) (pmk_sup TE.oex_BadLine TE.iC_BadLine TE.tI_BadLine G_BadLine_init (hr.mono (by decide)) b_BadLine_init rfl TE.g_BadLine (pa_cons (pv 1) pa_nil))))
      pss_nil)
      (pss_one (ps_ret (pv 4))))))), ?_⟩
    walk_at "rs"
    refine ⟨W, ws, k, rfl, hW, lw, sw, k6, fun e he => ?_, fun n hn H1 s1 => ?_⟩
    · cases q : wordAt ws k with
      | ok x => simp only [q, mapE] at he; cases he
      | error e' =>
        simp only [q, mapE] at he
        cases he
        exact kr e (by unfold leanAt; rw [q])
    · cases q : wordAt ws k with
      | error e' => simp only [q, mapE] at hn; cases hn
      | ok x =>
        simp only [q, mapE] at hn
        cases hn
        have hx := word_mem q
        walk_at "rs"
        refine ite2 (fun c1 => ?_) (fun c1 => ?_)
        · have e1 : x = "-" := by simpa using c1
          walk_at "rs"
          exact kq none (by unfold leanAt; rw [q]; exact if_pos e1) _ s1
        · have e1 : ¬ x = "-" := by simpa using c1
          have e3 : leanAt ws k t = if numB x = true then (if numV x < t then .ok (some (numV x)) else .error (k : Int)) else .error (k : Int) := by
            unfold leanAt
            rw [q]
            exact if_neg e1
          have e5 : numAt ws k = if numB x = true then .ok (numV x) else .error (k : Int) := by
            unfold numAt
            rw [q]
          walk_at "rs"
          refine ⟨W, ws, k, rfl, s1 _ _ hW, lw, sw, k6, fun e he => ?_, fun n hn H2 s2 => ?_⟩
          · cases e4 : numB x with
            | true => simp only [e5, e4, if_true, mapE] at he; cases he
            | false =>
              rw [e4] at e3
              simp only [e5, e4, mapE] at he
              cases he
              exact fun d H' s' hd => kr _ e3 d H' (s1.trans s') hd
          · cases e4 : numB x with
            | false => simp only [e5, e4, mapE] at hn; cases hn
            | true =>
              rw [e4, if_pos rfl] at e3
              simp only [e5, e4, if_true, mapE] at hn
              cases hn
              walk_at "rs"
              refine ite2 (fun c3 => ?_) (fun c3 => ?_)
              · have e6 : ¬ numV x < t := by have := of_decide_eq_true c3; omega
                walk_at "rs"
                refine ⟨⟨_, rfl, Int.natCast_nonneg _, by omega⟩, fun d hd => ?_⟩
                exact kr _ (by rw [e3, if_neg e6]) d _ ((s1.trans s2).trans (same_new hd)) upd_same
              · have e6 : numV x < t := by
                  have : ¬ t ≤ numV x := fun z => c3 (decide_eq_true z)
                  omega
                walk_at "rs"
                exact kq _ (by rw [e3, if_pos e6]) _ (s1.trans s2)
theorem ok_read_letter (TE : TxtE P w K mg a) (T : Txt K mg a) : ∃ fd, FnOk P w K mg base (L2N.CX P w) 6 a.d_read_letter fd ["line"] (spRead K a.C_BadLine) ∧ Binds K fd ["line"] [] := by
  obtain ⟨fd, F, b⟩ := T.d_read_letter.F
  obtain ⟨fd_number_at, G_number_at, b_number_at⟩ := ok_number_at (P := P) (w := w) (base := base) TE T
  obtain ⟨fd_kind_at, G_kind_at, b_kind_at⟩ := ok_kind_at (P := P) (w := w) (base := base) TE T
  obtain ⟨fd_block_at, G_block_at, b_block_at⟩ := ok_block_at (P := P) (w := w) (base := base) TE T
  obtain ⟨fd_end_at, G_end_at, b_end_at⟩ := ok_end_at (P := P) (w := w) (base := base) TE T
  obtain ⟨fd_lean_at, G_lean_at, b_lean_at⟩ := ok_lean_at (P := P) (w := w) (base := base) TE T
  obtain ⟨fd_proposal, G_proposal, b_proposal⟩ := ok_proposal (P := P) (w := w) (base := base) T
  obtain ⟨fd_prevote, G_prevote, b_prevote⟩ := ok_prevote (P := P) (w := w) (base := base) T
  obtain ⟨fd_precommit, G_precommit, b_precommit⟩ := ok_precommit (P := P) (w := w) (base := base) T
  refine ⟨fd, fun_okN F sc_read_letter (fun vs H Q E h => ?_) (fun cdv A outer s H vs Q E hr h => ?_), b⟩
  · obtain ⟨_, rfl, _⟩ := h
    rfl
  · obtain ⟨line, rfl, ll, kr, kq⟩ := h
    refine ⟨_, (pss_cons (ps_set (i := 1) sc_read_letter.nd rfl (Or.inl rfl) (pe_split (pv 0) pe_str))
      (pss_cons (ps_set (i := 2) sc_read_letter.nd rfl (Or.inl rfl) (pe_call G_number_at (hr.mono (by decide)) rfl T.d_number_at.g T.d_number_at.kp b_number_at .nil (L2N.passes_call (W := fun c d _ H => E c d H) (E := E) (L2N.takes_of rfl rfl rfl rfl) (fun _ _ _ _ h => h)) (pa_cons (pv 1) (pa_cons pe_int pa_nil))))
      (pss_cons (ps_set (i := 3) sc_read_letter.nd rfl (Or.inl rfl) (pe_call G_kind_at (hr.mono (by decide)) rfl T.d_kind_at.g T.d_kind_at.kp b_kind_at .nil (L2N.passes_call (W := fun c d _ H => E c d H) (E := E) (L2N.takes_of rfl rfl rfl rfl) (fun _ _ _ _ h => h)) (pa_cons (pv 1) (pa_cons pe_int pa_nil))))
      (pss_cons (ps_set (i := 4) sc_read_letter.nd rfl (Or.inl rfl) (pe_call G_number_at (hr.mono (by decide)) rfl T.d_number_at.g T.d_number_at.kp b_number_at .nil (L2N.passes_call (W := fun c d _ H => E c d H) (E := E) (L2N.takes_of rfl rfl rfl rfl) (fun _ _ _ _ h => h)) (pa_cons (pv 1) (pa_cons pe_int pa_nil))))
      (pss_cons (ps_set (i := 5) sc_read_letter.nd rfl (Or.inl rfl) (pe_call G_number_at (hr.mono (by decide)) rfl T.d_number_at.g T.d_number_at.kp b_number_at .nil (L2N.passes_call (W := fun c d _ H => E c d H) (E := E) (L2N.takes_of rfl rfl rfl rfl) (fun _ _ _ _ h => h)) (pa_cons (pv 1) (pa_cons pe_int pa_nil))))
      (pss_cons (ps_set (i := 6) sc_read_letter.nd rfl (Or.inl rfl) (pe_call G_block_at (hr.mono (by decide)) rfl T.d_block_at.g T.d_block_at.kp b_block_at .nil (L2N.passes_call (W := fun c d _ H => E c d H) (E := E) (L2N.takes_of rfl rfl rfl rfl) (fun _ _ _ _ h => h)) (pa_cons (pv 1) (pa_cons pe_int (pa_cons (pv 3) pa_nil)))))
      (pss_cons (ps_if (pt_cmpR op_eq (pv 3) pe_str (nomark _))
      (pss_cons (ps_set (i := 7) sc_read_letter.nd rfl (Or.inl rfl) (pe_call G_lean_at (hr.mono (by decide)) rfl T.d_lean_at.g T.d_lean_at.kp b_lean_at .nil (L2N.passes_call (W := fun c d _ H => E c d H) (E := E) (L2N.takes_of rfl rfl rfl rfl) (fun _ _ _ _ h => h)) (pa_cons (pv 1) (pa_cons pe_int (pa_cons (pv 5) pa_nil)))))
        (pss_cons (ps_expr (pe_call G_end_at (hr.mono (by decide)) rfl T.d_end_at.g T.d_end_at.kp b_end_at .nil (L2N.passes_call (W := fun c d _ H => E c d H) (E := E) (L2N.takes_of rfl rfl rfl rfl) (fun _ _ _ _ h => h)) (pa_cons (pv 1) (pa_cons pe_int pa_nil))))
        (pss_one (ps_ret (pe_tup (pa_cons (pv 2) (pa_cons (pe_call G_prevote (hr.mono (by decide)) rfl T.d_prevote.g T.d_prevote.kp b_prevote .nil pass0 (pa_cons (pv 4) (pa_cons (pv 5) (pa_cons (pv 6) (pa_cons (pv 7) pa_nil))))) pa_nil)))))))
      pss_nil)
      (pss_cons (ps_expr (pe_call G_end_at (hr.mono (by decide)) rfl T.d_end_at.g T.d_end_at.kp b_end_at .nil (L2N.passes_call (W := fun c d _ H => E c d H) (E := E) (L2N.takes_of rfl rfl rfl rfl) (fun _ _ _ _ h => h)) (pa_cons (pv 1) (pa_cons pe_int pa_nil))))
      (pss_cons (ps_if (pt_cmpR op_eq (pv 3) pe_str (nomark _))
      (pss_one (ps_ret (pe_tup (pa_cons (pv 2) (pa_cons (pe_call G_precommit (hr.mono (by decide)) rfl T.d_precommit.g T.d_precommit.kp b_precommit .nil pass0 (pa_cons (pv 4) (pa_cons (pv 5) (pa_cons (pv 6) pa_nil)))) pa_nil)))))
      pss_nil)
      (pss_one (ps_ret (pe_tup (pa_cons (pv 2) (pa_cons (pe_call G_proposal (hr.mono (by decide)) rfl T.d_proposal.g T.d_proposal.kp b_proposal .nil pass0 (pa_cons (pv 4) (pa_cons (pv 5) (pa_cons (pv 6) pa_nil)))) pa_nil)))))))))))))), ?_⟩
    walk_at "rs"
    refine ⟨⟨_, rfl⟩, _, _, rfl, rfl, by decide +kernel, ll, fun W hW0 => ?_⟩
    have s0 := same_new (o := .lst ((Txt.split line " ").map V.str)) hW0
    have hW := (upd_same : upd H W (.lst ((Txt.split line " ").map V.str)) W = _)
    have lw : (Txt.split line " ").length ≤ 16777216 := Nat.le_trans (PyProof.Rows.split_le line " ") ll
    have sw : ∀ w ∈ Txt.split line " ", w.length ≤ 16777216 := fun w hw => by
      have := PyProof.Rows.part_short hw
      omega
    unfold readL readW at kr kq
    generalize upd H W (.lst ((Txt.split line " ").map V.str)) = H0 at s0 hW ⊢
    generalize Txt.split line " " = ws at hW lw sw kr kq
    clear ll
    walk_at "rs"
    refine ⟨W, ws, 0, rfl, hW, lw, sw, by decide, fun e he => at_err s0 kr e (mapE_err he), fun n hn H1 s1 => ?_⟩
    obtain ⟨w0, e0, rfl⟩ := mapE_ok hn
    simp only [bindE, e0] at kr kq
    have t1 := s0.trans s1
    have hW1 := s1 _ _ hW
    clear hn s0 s1 hW
    walk_at "rs"
    refine ⟨W, ws, 1, rfl, hW1, lw, sw, by decide, fun e he => at_err t1 kr e (mapE_err he), fun n hn H2 s2 => ?_⟩
    obtain ⟨kd, e1, rfl⟩ := mapE_ok hn
    simp only [bindE, e1] at kr kq
    have t2 := t1.trans s2
    have hW2 := s2 _ _ hW1
    clear hn t1 s2 hW1
    walk_at "rs"
    refine ⟨W, ws, 2, rfl, hW2, lw, sw, by decide, fun e he => at_err t2 kr e (mapE_err he), fun n hn H3 s3 => ?_⟩
    obtain ⟨h0, e2, rfl⟩ := mapE_ok hn
    simp only [bindE, e2] at kr kq
    have t3 := t2.trans s3
    have hW3 := s3 _ _ hW2
    clear hn t2 s3 hW2
    walk_at "rs"
    refine ⟨W, ws, 3, rfl, hW3, lw, sw, by decide, fun e he => at_err t3 kr e (mapE_err he), fun n hn H4 s4 => ?_⟩
    obtain ⟨tu, e3, rfl⟩ := mapE_ok hn
    simp only [bindE, e3] at kr kq
    have t4 := t3.trans s4
    have hW4 := s4 _ _ hW3
    clear hn t3 s4 hW3
    walk_at "rs"
    refine ⟨W, ws, 4, kd, rfl, hW4, lw, sw, by decide, fun e he => at_err t4 kr e he, fun bl e4 H5 s5 => ?_⟩
    simp only [bindE, e4] at kr kq
    have t5 := t4.trans s5
    have hW5 := s5 _ _ hW4
    clear t4 s5 hW4
    walk_at "rs"
    unfold readEnd at kr kq
    refine ite2 (fun c1 => ?_) (fun c1 => ?_)
    · have ek : kd = .pre := by simpa [s_pre] using c1
      rw [if_pos ek] at kr kq
      walk_at "rs"
      refine ⟨W, ws, 5, tu, rfl, hW5, lw, sw, by decide, fun e he => at_err t5 kr e he, fun ln e6 H6 s6 => ?_⟩
      simp only [bindE, e6] at kr kq
      have t6 := t5.trans s6
      have hW6 := s6 _ _ hW5
      walk_at "rs"
      refine ⟨W, ws, 6, rfl, hW6, lw, sw, by decide, fun e he => at_err t6 kr e (mapE_err he), fun n hn H7 s7 => ?_⟩
      obtain ⟨_, e7, rfl⟩ := mapE_ok hn
      simp only [bindE, e7] at kr kq
      walk_at "rs"
      refine ⟨h0, tu, bl, ln, rfl, fun p H8 s8 hp => ?_⟩
      refine ⟨(by show 2 ≤ sizeLine; decide), fun q hq => ?_⟩
      have s9 := same_new (o := .tup [V.int w0, V.ref p]) hq
      exact kq _ rfl q _ (((t6.trans s7).trans s8).trans s9) ⟨p, upd_same, s9 _ _ hp⟩
    · have ek : ¬ kd = .pre := by simpa [s_pre] using c1
      rw [if_neg ek] at kr kq
      walk_at "rs"
      refine ⟨W, ws, 5, rfl, hW5, lw, sw, by decide, fun e he => at_err t5 kr e (mapE_err he), fun n hn H6 s6 => ?_⟩
      obtain ⟨_, e6, rfl⟩ := mapE_ok hn
      simp only [bindE, e6] at kr kq
      have t6 := t5.trans s6
      walk_at "rs"
      refine ite2 (fun c2 => ?_) (fun c2 => ?_)
      · have ek2 : kd = .com := by simpa [s_com] using c2
        subst ek2
        walk_at "rs"
        refine ⟨h0, tu, bl, rfl, fun p H8 s8 hp => ?_⟩
        refine ⟨(by show 2 ≤ sizeLine; decide), fun q hq => ?_⟩
        have s9 := same_new (o := .tup [V.int w0, V.ref p]) hq
        exact kq _ rfl q _ ((t6.trans s8).trans s9) ⟨p, upd_same, s9 _ _ hp⟩
      · have ek2 : ¬ kd = .com := by simpa [s_com] using c2
        have ek3 : kd = .prop := by
          cases kd with
          | prop => rfl
          | pre => exact absurd rfl ek
          | com => exact absurd rfl ek2
        subst ek3
        walk_at "rs"
        refine ⟨h0, tu, bl, rfl, fun p H8 s8 hp => ?_⟩
        refine ⟨(by show 2 ≤ sizeLine; decide), fun q hq => ?_⟩
        have s9 := same_new (o := .tup [V.int w0, V.ref p]) hq
        exact kq _ rfl q _ ((t6.trans s8).trans s9) ⟨p, upd_same, s9 _ _ hp⟩

theorem ok_first_wrong (T : Txt K mg a) : ∃ fd, FnOk P w K mg base CX0 1 a.d_first_wrong fd ["weights"] (spFirst K) ∧ Binds K fd ["weights"] [] := by
  obtain ⟨fd, F, b⟩ := T.d_first_wrong.F
  refine ⟨fd, F.ok sc_first_wrong (fun vs H Q E h => ?_) (fun cdv A outer s H vs Q E hr h => ?_), b⟩
  · obtain ⟨_, _, rfl, _⟩ := h
    rfl
  · obtain ⟨p, ws, rfl, hp, gw, k⟩ := h
    refine ⟨_, (pss_cons (ps_for PassesOwn.never rfl (pi_enum (by rfl) T.n_enumerate (pa_cons (pv 0) pa_nil)) (pg_tup rfl (pgs_cons (pg_name (i := 1) sc_first_wrong.nd rfl (Or.inl rfl)) (pgs_cons (pg_name (i := 2) sc_first_wrong.nd rfl (Or.inl rfl)) pgs_nil)))
      (pss_one (ps_if (PW.pt (pw_or (pt_cmpR op_ge (pv 1) (pe_glob (v := (.int 16)) rfl T.c_MOST_MEMBERS.choose_spec ⟨_, rfl⟩) (nomark _)) (pw_or (pt_cmpR op_lt (pv 2) pe_int (nomark _)) (pw_or1 (pt_cmpR op_gt (pv 2) (pe_glob (v := (.int 1000000000000)) rfl T.c_MOST_WEIGHT.choose_spec ⟨_, rfl⟩) (nomark _))))))
        (pss_one (ps_ret (pv 1)))
        pss_nil)))
      (pss_cons (ps_if (pt_cmpR op_eq (pe_callB call_len_seq (by rfl) T.n_len PySem.boot_len (pa_cons (pv 0) pa_nil)) pe_int (nomark _))
      (pss_one (ps_ret pe_int))
      pss_nil)
      (pss_one (ps_ret pe_non)))), ?_⟩
    walk_at "rs"
    refine ⟨p, _, rfl, hp, ?_⟩
    refine for_enumL (K := K) (a := p) (ys := ws.map V.int) (fun i σ H2 => ∃ v1 v2 : Option V, σ = [some (.ref p), v1, v2] ∧ Same H H2) ⟨_, _, rfl, Same.refl H⟩ (fun i σ H2 _ ⟨_, _, _, s2⟩ => s2.seq hp) ?_ ?_
    · rintro i y σ H2 q hy ⟨v1, v2, rfl, s2⟩ hq
      have hi : i < ws.length := by
        have e := (List.getElem?_eq_some_iff.mp hy).1
        rwa [List.length_map] at e
      rw [at_ints hi] at hy
      cases hy
      have g1 := gw.2.2 _ (getD_mem hi)
      have g2 := gw.2.1
      walk_at "rs"
      refine ⟨q, _, rfl, SqT.of upd_same, rfl, ?_⟩
      refine ⟨_, _, rfl, _, _, rfl, rfl, ?_⟩
      walk_at "rs"
      refine ite2 (fun c1 => ?_) (fun c1 => ?_)
      · exfalso
        have := of_decide_eq_true c1
        omega
      walk_at "rs"
      refine ite2 (fun c2 => ?_) (fun c2 => ?_)
      · exfalso
        have := of_decide_eq_true c2
        omega
      walk_at "rs"
      refine ite2 (fun c3 => ?_) (fun c3 => ?_)
      · exfalso
        have := of_decide_eq_true c3
        omega
      exact ⟨_, _, rfl, same_upd s2 (s2.free hq)⟩
    · rintro σ H2 ⟨v1, v2, rfl, s2⟩
      walk_at "rs"
      refine ⟨p, _, rfl, .inl (s2.seq hp), ?_⟩
      walk_at "rs"
      refine ite2 (fun c1 => ?_) (fun c1 => ?_)
      · exfalso
        have g0 := gw.1
        simp at c1
        simp [c1] at g0
      exact k H2 s2
theorem ok_Committee_init (T : Txt K mg a) : ∃ fd, FnOk P w K mg base CX0 2 a.d_Committee_init fd ["self", "weights"] (spInit K a.C_Committee) ∧ Binds K fd ["self", "weights"] [] := by
  obtain ⟨fd, F, b⟩ := T.d_Committee_init.F
  obtain ⟨fd_first_wrong, G_first_wrong, b_first_wrong⟩ := ok_first_wrong (P := P) (w := w) (base := base) T
  refine ⟨fd, F.ok sc_Committee_init (fun vs H Q E h => ?_) (fun cdv A outer s H vs Q E hr h => ?_), b⟩
  · obtain ⟨_, _, _, _, rfl, _⟩ := h
    rfl
  · obtain ⟨p, dx, l, ws, rfl, hp, hl, gw, k⟩ := h
    refine ⟨_, (pss_cons (ps_set (i := 2) sc_Committee_init.nd rfl (Or.inl rfl) (pe_call G_first_wrong (hr.mono (by decide)) rfl T.d_first_wrong.g T.d_first_wrong.kp b_first_wrong .nil pass0 (pa_cons (pv 1) pa_nil)))
      (pss_cons (ps_if (pt_cmpR op_notN (pv 2) pe_non (nomark _))
      (pss_one ps_never)
      pss_nil)
      (pss_cons (ps_fld (pv 0) (pe_callTy call_tuple_of (by rfl) T.n_tuple (by decide +kernel) (pa_cons (pv 1) pa_nil)) rfl)
      (pss_cons (ps_fld (pv 0) (pe_callB call_len_seq (by rfl) T.n_len PySem.boot_len (pa_cons (pe_fld (pv 0) rfl) pa_nil)) rfl)
      (pss_one (ps_fld (pv 0) (pe_callB (cr_sumT rfl) (by rfl) T.n_sum (by decide +kernel) (pa_cons (pe_fld (pv 0) rfl) pa_nil)) rfl)))))), ?_⟩
    walk_at "rs"
    refine ⟨l, ws, rfl, hl, gw, fun H1 s1 => ?_⟩
    walk_at "rs"
    have hp1 := s1 _ _ hp
    refine ⟨l, _, rfl, .inl ⟨s1.seq hl, fun t ht => ?_⟩⟩
    have npt : p ≠ t := ne_of_none hp1 ht
    have hp2 : (upd H1 t (.tup (ws.map V.int))) p = some (.ins a.C_Committee dx []) := by rw [upd_ne npt]; exact hp1
    walk_at "rs"
    refine ⟨p, _, dx, [], rfl, hp2, T.cl_Committee, T.a_Committee_weights, (by show 0 < 1000; decide), ?_⟩
    have ht3 : ∀ o : HO, (upd (upd H1 t (.tup (ws.map V.int))) p o) t = some (.tup (ws.map V.int)) := fun o => by rw [upd_ne npt.symm, upd_same]
    walk_at "rs"
    refine ⟨p, _, dx, _, .ref t, rfl, upd_same, T.cl_Committee, T.a_Committee_weights, by rw [lookup_putF, if_pos rfl], ?_⟩
    walk_at "rs"
    refine ⟨t, _, rfl, .inr (SqT.of (ht3 _)), ?_⟩
    walk_at "rs"
    refine ⟨p, _, dx, _, rfl, upd_same, T.cl_Committee, T.a_Committee_size, (by show 1 < 1000; decide), ?_⟩
    rw [upd_upd]
    walk_at "rs"
    refine ⟨p, _, dx, _, .ref t, rfl, upd_same, T.cl_Committee, T.a_Committee_weights, by rw [lookup_putF, if_neg ne_ws, lookup_putF, if_pos rfl], ?_⟩
    walk_at "rs"
    refine ⟨t, ws, rfl, SqT.of (ht3 _), ?_⟩
    walk_at "rs"
    refine ⟨p, _, dx, _, rfl, upd_same, T.cl_Committee, T.a_Committee_total, (Nat.lt_of_le_of_lt (length_putF _ _ _) (Nat.lt_of_le_of_lt (Nat.add_le_add_right (length_putF _ _ _) 1) (by show 2 < 1000; decide))), ?_⟩
    rw [upd_upd, List.length_map]
    exact k _ ⟨dx, t, upd_same, ht3 _⟩ fun b o e hb => by
      rw [upd_ne hb, upd_ne (ne_of_none (s1 _ _ e) ht)]
      exact s1 _ _ e

theorem ok_Committee_weight_of (T : Txt K mg a) : ∃ fd, FnOk P w K mg base CX0 1 a.d_Committee_weight_of fd ["self", "members"] (spWof K a.C_Committee) ∧ Binds K fd ["self", "members"] [] := by
  obtain ⟨fd, F, b⟩ := T.d_Committee_weight_of.F
  refine ⟨fd, F.ok sc_Committee_weight_of (fun vs H Q E h => ?_) (fun cdv A outer s H vs Q E hr h => ?_), b⟩
  · obtain ⟨_, _, _, _, rfl, _⟩ := h
    rfl
  · obtain ⟨p, l, ws, ms, rfl, ⟨dx, t, hp, ht⟩, hlen, hl, hms, k⟩ := h
    refine ⟨_, (pss_cons (ps_set (i := 2) sc_Committee_weight_of.nd rfl (Or.inr rfl) (pe_callTy (cr_set rfl) (by rfl) T.n_set (by decide +kernel) (pa_cons (pv 1) pa_nil)))
      (pss_one (ps_ret (pe_callB (cr_sum rfl) (by rfl) T.n_sum (by decide +kernel) (pa_cons (pe_lc (own := [("member", 3), ("weight", 4)]) (g := (gTup K 2 (gCons (gName 3) (gCons (gName 4) gNil)))) rfl sc_Committee_weight_of.nd (pi_enumT (by rfl) T.n_enumerate (pa_cons (pe_fld (pv 0) rfl) pa_nil)) (blkOk_by (own := [("member", 3), ("weight", 4)]) (N := sc_Committee_weight_of_N) (sc := defScope s_Committee_weight_of) (by decide +kernel)) (fun _ _ _ _ _ => (pg_tup rfl (pgs_cons (pg_name (i := 3) sc_Committee_weight_of.nd rfl (Or.inl rfl)) (pgs_cons (pg_name (i := 4) sc_Committee_weight_of.nd rfl (Or.inl rfl)) pgs_nil)))) (fun _ _ _ _ _ => (pts_one (pt_cmpR op_in_set (pv 3) (pv 2) (by rfl)))) (fun _ _ _ _ _ => (pv 4))) pa_nil))))), ?_⟩
    walk_at "rs"
    refine ⟨l, ms, rfl, hl, hms, fun S n hS => ?_⟩
    have nS : ∀ q o, H q = some o → (upd H S (.set (fun k => decide (k ∈ ms)) n)) q = some o := same_new hS
    walk_at "rs"
    refine ⟨p, _, dx, _, .ref t, rfl, nS _ _ hp, T.cl_Committee, T.a_Committee_weights, cfs_w _ _, ?_⟩
    walk_at "rs"
    refine ⟨t, _, rfl, SqT.of (nS _ _ ht), fun D hD => ?_⟩
    generalize eH : upd H S (.set (fun k => decide (k ∈ ms)) n) = H1 at nS hD
    have hS1 : H1 S = some (.set (fun k => decide (k ∈ ms)) n) := by rw [← eH, upd_same]
    refine lc_enumT (K := K) (a := t) (ys := ws.map V.int) (fun i H2 => Same H1 H2 ∧ H2 D = some (.lst ((pick ws (fun k => decide (k ∈ ms)) i).map V.int))) ⟨same_new hD, upd_same⟩ (fun i H2 _ ⟨s2, _⟩ => SqT.of (s2 _ _ (nS _ _ ht))) ?_ ?_
    · rintro i y H2 q hy ⟨s2, hd⟩ hq
      have hi : i < ws.length := by
        have e := (List.getElem?_eq_some_iff.mp hy).1
        rwa [List.length_map] at e
      rw [at_ints hi] at hy
      cases hy
      have fit : ((pick ws (fun k => decide (k ∈ ms)) i).map V.int).length < sizeLine := by
        have := pick_len ws (fun k => decide (k ∈ ms)) i
        rw [List.length_map]
        exact small1000 (by omega)
      have s3 : Same H2 (upd H2 q (.tup [V.int (i : Nat), V.int (ws.getD i 0)])) := same_new hq
      refine ⟨q, _, rfl, SqT.of upd_same, rfl, ?_⟩
      refine ⟨_, _, rfl, _, _, rfl, rfl, rfl, ?_⟩
      walk_at "rs"
      refine ⟨_, S, _, n, rfl, rfl, s3 _ _ (s2 _ _ hS1), ?_⟩
      rw [if_neg Bool.false_ne_true]
      walk_at "rs"
      refine ite2 (fun c1 => ?_) (fun c1 => ?_)
      · walk_at "rs"
        refine ⟨_, s3 _ _ hd, fit, same_upd (fun b o z => s3 _ _ (s2 _ _ z)) hD, ?_⟩
        rw [upd_same, pick, if_pos c1]
        simp
      · refine ⟨fun b o z => s3 _ _ (s2 _ _ z), ?_⟩
        rw [s3 _ _ hd, pick, if_neg c1]
    · rintro H2 ⟨s2, hd⟩
      rw [List.length_map] at hd
      walk_at "rs"
      exact ⟨D, _, rfl, SqL.of hd, k H2 fun b o z => s2 _ _ (nS _ _ z)⟩
theorem ok_Committee_is_quorum (T : Txt K mg a) : ∃ fd, FnOk P w K mg base CX0 2 a.d_Committee_is_quorum fd ["self", "members"] (spQuorum K a.C_Committee) ∧ Binds K fd ["self", "members"] [] := by
  obtain ⟨fd, F, b⟩ := T.d_Committee_is_quorum.F
  obtain ⟨fd_Committee_weight_of, G_Committee_weight_of, b_Committee_weight_of⟩ := ok_Committee_weight_of (P := P) (w := w) (base := base) T
  refine ⟨fd, F.ok sc_Committee_is_quorum (fun vs H Q E h => ?_) (fun cdv A outer s H vs Q E hr h => ?_), b⟩
  · obtain ⟨_, _, _, _, rfl, _⟩ := h
    rfl
  · obtain ⟨p, l, ws, ms, rfl, hc, hlen, hl, hms, k⟩ := h
    obtain ⟨dx, t, hp, ht⟩ := id hc
    refine ⟨_, (pss_one (ps_ret (pe_cmpR op_gt (pe_op op_mul pe_int (pe_meth (pv 0) T.cl_Committee T.me_Committee_weight_of G_Committee_weight_of (hr.mono (by decide)) b_Committee_weight_of .nil pass0 (pa_cons (pv 1) pa_nil))) (pe_op op_mul pe_int (pe_fld (pv 0) rfl)) (nomark _)))), ?_⟩
    walk_at "rs"
    refine ⟨p, dx, _, rfl, hp, cfs_no _ _ (by decide +kernel) (by decide +kernel) (by decide +kernel), ?_⟩
    walk_at "rs"
    refine ⟨p, l, ws, ms, rfl, hc, hlen, hl, hms, fun H1 s1 => ?_⟩
    walk_at "rs"
    refine ⟨p, _, dx, _, _, rfl, s1 _ _ hp, T.cl_Committee, T.a_Committee_total, cfs_t _ _, ?_⟩
    walk_at "rs"
    exact k H1 s1

theorem vb_nil {H : Hp} {D : Addr} {xs : List Lt} {kd : Kd} {h : Int} {b : Option Str} (hD : H D = some (.dK [])) (z : ∀ x ∈ xs, selV kd h b x = false) : VbAt H D xs kd h b [] :=
  ⟨hD, List.nodup_nil, List.nodup_nil, fun e he => (nomatch he), fun t => ⟨fun q => (nomatch q), fun ⟨x, hx, q⟩ => by rw [inT_no (z x hx)] at q; cases q⟩, Nat.zero_le _⟩
theorem ok_votes_by_turn (T : Txt K mg a) : ∃ fd, FnOk P w K mg base CX0 1 a.d_votes_by_turn fd ["letters", "kind", "height", "block"] (spVbt K) ∧ Binds K fd ["letters", "kind", "height", "block"] [] := by
  obtain ⟨fd, F, b⟩ := T.d_votes_by_turn.F
  refine ⟨fd, F.ok sc_votes_by_turn (fun vs H Q E h => ?_) (fun cdv A outer s H vs Q E hr h => ?_), b⟩
  · obtain ⟨_, _, _, _, _, _, rfl, _⟩ := h
    rfl
  · obtain ⟨l, ps, xs, kd, h, b, rfl, hl, hx, few, k⟩ := h
    refine ⟨_, (pss_cons (ps_set (i := 4) sc_votes_by_turn.nd rfl (Or.inl rfl) pe_dnewK)
      (pss_cons (ps_if (pt_cmpR op_isN (pv 3) pe_non (nomark _))
      (pss_one (ps_ret (pv 4)))
      pss_nil)
      (pss_cons (ps_for PassesOwn.never rfl (pi_list (pv 0)) (pg_name (i := 5) sc_votes_by_turn.nd rfl (Or.inl rfl))
      (pss_cons (ps_set (i := 6) sc_votes_by_turn.nd rfl (Or.inl rfl) (pe_ix ix_tup (pv 5) pe_int (fun _ _ => rfl)))
        (pss_one (ps_if (PW.pt (pw_and (pt_cmpR op_eq (pe_ix ix_tup (pv 6) (pe_glob (v := (.int 0)) rfl T.c_KIND.choose_spec ⟨_, rfl⟩) (fun _ _ => rfl)) (pv 1) (nomark _)) (pw_and (pt_cmpR op_eq (pe_ix ix_tup (pv 6) (pe_glob (v := (.int 1)) rfl T.c_HEIGHT.choose_spec ⟨_, rfl⟩) (fun _ _ => rfl)) (pv 2) (nomark _)) (pw_and1 (pt_cmpR op_eq (pe_ix ix_tup (pv 6) (pe_glob (v := (.int 3)) rfl T.c_BLOCK.choose_spec ⟨_, rfl⟩) (fun _ _ => rfl)) (pv 3) (nomark _))))))
        (pss_one (ps_expr (pe_bm PySem.F.plainAttrs_list PySem.F.slot_list_append PySem.F.type_list_append mt_append (pe_dsetd (pv 4) (pe_ix ix_tup (pv 6) (pe_glob (v := (.int 2)) rfl T.c_TURN.choose_spec ⟨_, rfl⟩) (fun _ _ => rfl)) (pe_lst pa_nil) ⟨rfl, rfl, rfl, rfl⟩) (pa_cons (pv 5) pa_nil))))
        pss_nil))))
      (pss_one (ps_ret (pv 4)))))), ?_⟩
    walk_at "rs"
    intro D hD
    have s0 : Same H (upd H D (.dK [])) := same_new hD
    walk_at "rs"
    refine ite2 (fun c1 => ?_) (fun c1 => ?_) <;> simp only [koSn, decide_eq_true_iff] at c1
    · walk_at "rs"
      refine k D [] _ s0 (vb_nil upd_same fun x _ => ?_)
      unfold selV
      rw [c1]
      simp
    walk_at "rs"
    refine ⟨⟨_, SqL.of (s0 _ _ hl)⟩, for_list (K := K) (a := l) (xs := ps.map V.ref) (fun i σ H2 => ∃ v5 v6 : Option V, σ = [some (.ref l), some (.str kd.s), some (.int h), some (oS b), some (.ref D), v5, v6] ∧ Same H H2 ∧ ∃ ks, VbAt H2 D (xs.take i) kd h b ks ∧ ∀ e ∈ ks, H e.2 = none)
      ⟨_, _, rfl, s0, [], vb_nil upd_same fun x hx => (nomatch hx), fun e he => (nomatch he)⟩ (fun i σ H2 _ ⟨_, _, _, s2, _⟩ => SqL.of (s2 _ _ hl)) ?_ ?_⟩
    · rintro i y σ H2 hy ⟨v5, v6, rfl, s2, ks, hv, hfr⟩
      have hi : i < ps.length := by
        have e := (List.getElem?_eq_some_iff.mp hy).1
        rwa [List.length_map] at e
      have hi' : i < xs.length := by
        rw [← hx.1]
        exact hi
      rw [at_refs hi] at hy
      cases hy
      have hlt := (hx.2 i hi').same s2
      obtain ⟨q, hp, hq⟩ := id hlt
      have et := take_succ_getD (d := default) hi'
      generalize xs.getD i default = x at hlt hq hp et
      walk_at "rs"
      refine ⟨_, _, _, _, rfl, rfl, SqT.of hp, rfl, ?_⟩
      walk_at "rs"
      refine ite2 (fun c2 => ?_) (fun c2 => ?_) <;> simp only [dec_kd, decide_eq_true_iff] at c2
      · walk_at "rs"
        refine ite2 (fun c3 => ?_) (fun c3 => ?_) <;> simp only [dec_int, beq_iff_eq] at c3
        · walk_at "rs"
          refine ite2 (fun c4 => ?_) (fun c4 => ?_) <;> simp only [dec_oS, decide_eq_true_iff] at c4
          · have cs : selV kd h b x = true := decide_eq_true ⟨c1, c2, c3, c4⟩
            walk_at "rs"
            refine ⟨.inl ⟨_, .inl hv.here⟩, ?_⟩
            walk_at "rs"
            refine ⟨(by show 0 ≤ sizeLine; decide), fun z hz => ?_⟩
            have sz : Same H2 (upd H2 z (.lst [])) := same_new hz
            have hv3 := hv.same sz
            have few3 := hv.few
            rw [List.length_take] at few3
            have hHz : H z = none := s2.free hz
            refine ⟨_, Sum.inl x.m.t, hv3.here, rfl, by unfold vbK; rw [List.length_map]; exact small1000 (by omega), fun v hval => ?_, fun hval => ?_⟩
            · have hin : x.m.t ∈ ks.map (·.1) := by
                refine Decidable.byContradiction fun no => ?_
                rw [val_vbn no] at hval
                cases hval
              obtain ⟨l2, hm, e2⟩ := val_vb hin
              rw [e2] at hval
              cases hval
              obtain ⟨qs, hl2, hls⟩ := hv3.ls _ hm
              have lq : qs.length ≤ 900 := by
                have := List.length_filter_le (inT kd h b x.m.t) (xs.take i)
                rw [List.length_take] at this
                have e3 : qs.length = ((xs.take i).filter (inT kd h b x.m.t)).length := hls.1
                omega
              walk_at "rs"
              refine ⟨.inl ⟨rfl, _, SqL.of hl2⟩, ?_⟩
              walk_at "rs"
              refine ⟨l2, _, _, rfl, rfl, hl2, by rw [List.length_map]; exact small1000 (by omega), ?_⟩
              refine ⟨_, _, rfl, same_upd (s2.trans sz) (hfr _ hm), ks, ?_, hfr⟩
              rw [et]
              exact hv3.more cs hm hl2 (hlt.same sz)
            · have hno : x.m.t ∉ ks.map (·.1) := fun hin => by
                obtain ⟨l2, hm, e2⟩ := val_vb hin
                rw [e2] at hval
                cases hval
              have nl : z ∉ ks.map (·.2) := fun hin => by
                obtain ⟨e, he, ez⟩ := List.mem_map.mp hin
                obtain ⟨qs, hl2, _⟩ := hv.ls e he
                rw [ez, hz] at hl2
                cases hl2
              have ekvs : putK (vbK ks) (Sum.inl x.m.t) (V.ref z) = vbK (ks ++ [(x.m.t, z)]) := by
                rw [putK_new hval]
                unfold vbK
                simp
              rw [ekvs]
              have hz3 : (upd H2 z (.lst [])) z = some (.lst []) := upd_same
              have nDz := ne_dk hv3.here hz3
              walk_at "rs"
              refine ⟨.inl ⟨rfl, _, SqL.of (by rw [upd_ne nDz.symm]; exact hz3)⟩, ?_⟩
              walk_at "rs"
              refine ⟨z, _, _, rfl, rfl, (by rw [upd_ne nDz.symm]; exact hz3), by show 0 < sizeLine; decide, ?_⟩
              refine ⟨_, _, rfl, same_upd (same_upd (s2.trans sz) hD) hHz, ks ++ [(x.m.t, z)], ?_, fun e he => ?_⟩
              · rw [et]
                exact hv3.first cs hno hz3 nl (hlt.same sz)
              · rcases List.mem_append.mp he with he | he
                · exact hfr e he
                · rw [List.mem_singleton.mp he]
                  exact hHz
          · exact ⟨_, _, rfl, s2, ks, by rw [et]; exact hv.skip (decide_eq_false fun z => c4 z.2.2.2), hfr⟩
        · exact ⟨_, _, rfl, s2, ks, by rw [et]; exact hv.skip (decide_eq_false fun z => c3 z.2.2.1), hfr⟩
      · exact ⟨_, _, rfl, s2, ks, by rw [et]; exact hv.skip (decide_eq_false fun z => c2 z.2.1), hfr⟩
    · rintro σ H2 ⟨v5, v6, rfl, s2, ks, hv, hfr⟩
      rw [List.length_map, hx.1, List.take_length] at hv
      walk_at "rs"
      exact k D ks _ s2 hv
theorem ok_counts (T : Txt K mg a) : ∃ fd, FnOk P w K mg base CX0 1 a.d_counts fd ["prevote", "turns"] (spCounts K) ∧ Binds K fd ["prevote", "turns"] [] := by
  obtain ⟨fd, F, b⟩ := T.d_counts.F
  refine ⟨fd, F.ok sc_counts (fun vs H Q E h => ?_) (fun cdv A outer s H vs Q E hr h => ?_), b⟩
  · obtain ⟨_, _, _, _, rfl, _⟩ := h
    rfl
  · obtain ⟨p, D, m, L, rfl, hp, hk, hD, k⟩ := h
    have k0 := k H (Same.refl H)
    unfold cntL at k0
    refine ⟨_, (pss_cons (ps_set (i := 2) sc_counts.nd rfl (Or.inl rfl) (pe_ix ix_tup (pv 0) (pe_glob (v := (.int 4)) rfl T.c_LEAN.choose_spec ⟨_, rfl⟩) (fun _ _ => rfl)))
      (pss_one (ps_ret (pe_or (pe_cmpR op_isN (pv 2) pe_non (nomark _)) (pe_one (pe_and (pe_cmpR op_lt (pv 2) (pe_ix ix_tup (pv 0) (pe_glob (v := (.int 2)) rfl T.c_TURN.choose_spec ⟨_, rfl⟩) (fun _ _ => rfl)) (nomark _)) (pe_one (pe_cmp (pc_din (hu_of hr) (pv 2) (pv 1)) rfl)))))))), ?_⟩
    walk_at "rs"
    refine ite2 (fun c1 => ?_) (fun c1 => ?_) <;> simp only [koIn, decide_eq_true_iff] at c1
    · rw [c1] at k0
      exact k0
    obtain ⟨i, hl⟩ : ∃ i, m.l = some i := by
      cases hl : m.l with
      | none => exact absurd hl c1
      | some i => exact ⟨i, rfl⟩
    rw [hl] at k0 ⊢
    have k0 : Q (.bl (decide (i < m.t) && decide (i ∈ L))) H := k0
    refine ⟨_, rfl, ?_⟩
    walk_at "rs"
    refine ite2 (fun c2 => ?_) (fun c2 => ?_) <;> simp only [decide_eq_true_iff] at c2
    · rw [decide_eq_true c2, Bool.true_and] at k0
      walk_at "rs"
      refine ⟨D, _, rfl, DGet.k (k := Sum.inl i) hD, ?_⟩
      rw [val_tru]
      exact k0
    · rw [decide_eq_false c2, Bool.false_and] at k0
      exact k0
theorem ok_certified_turns (T : Txt K mg a) : ∃ fd, FnOk P w K mg base CX0 3 a.d_certified_turns fd ["committee", "letters", "height", "block"] (spCts K a.C_Committee) ∧ Binds K fd ["committee", "letters", "height", "block"] [] := by
  obtain ⟨fd, F, b⟩ := T.d_certified_turns.F
  obtain ⟨fd_votes_by_turn, G_votes_by_turn, b_votes_by_turn⟩ := ok_votes_by_turn (P := P) (w := w) (base := base) T
  obtain ⟨fd_Committee_is_quorum, G_Committee_is_quorum, b_Committee_is_quorum⟩ := ok_Committee_is_quorum (P := P) (w := w) (base := base) T
  obtain ⟨fd_counts, G_counts, b_counts⟩ := ok_counts (P := P) (w := w) (base := base) T
  refine ⟨fd, F.ok sc_certified_turns (fun vs H Q E h => ?_) (fun cdv A outer s H vs Q E hr h => ?_), b⟩
  · obtain ⟨_, _, _, _, _, _, _, rfl, _⟩ := h
    rfl
  · obtain ⟨c, l, ws, ps, xs, h, b, rfl, hc, gw, hl, hx, few, tb, k⟩ := h
    obtain ⟨dx, t, hcp, hct⟩ := id hc
    refine ⟨_, (pss_cons (ps_set (i := 4) sc_certified_turns.nd rfl (Or.inl rfl) (pe_call G_votes_by_turn (hr.mono (by decide)) rfl T.d_votes_by_turn.g T.d_votes_by_turn.kp b_votes_by_turn .nil pass0 (pa_cons (pv 1) (pa_cons pe_str (pa_cons (pv 2) (pa_cons (pv 3) pa_nil))))))
      (pss_cons (ps_set (i := 5) sc_certified_turns.nd rfl (Or.inr rfl) pe_dnewK)
      (pss_cons (ps_for PassesOwn.never rfl (pi_list (pe_callB (call_sortedDI rfl) (by rfl) T.n_sorted (by decide +kernel) (pa_cons (pv 4) pa_nil))) (pg_name (i := 6) sc_certified_turns.nd rfl (Or.inl rfl))
      (pss_cons (ps_setLc (i := 7) (own := [("letter", 8)]) (g := (gName 8)) rfl sc_certified_turns.nd rfl rfl (sw_true rfl rfl rfl (by decide +kernel)) (pi_list (pe_dget (hu_of hr) (pv 4) (pv 6) (fun _ _ => rfl))) (blkOk_by (own := [("letter", 8)]) (N := sc_certified_turns_N) (sc := defScope s_certified_turns) (by decide +kernel)) (fun _ _ _ _ _ => (pg_name (i := 8) sc_certified_turns.nd rfl (Or.inl rfl))) (fun _ _ _ _ _ => (pts_one (pt_val (pe_call G_counts (hr.mono (by decide)) rfl T.d_counts.g T.d_counts.kp b_counts .nil pass0 (pa_cons (pe_ix (r := rIxT K) ix_tup (pv 8) pe_int (fun _ _ => rfl)) (pa_cons (pv 5) pa_nil)))))) (fun _ _ _ _ _ => (pe_ix (r := rIxT K) ix_tup (pv 8) pe_int (fun _ _ => rfl))))
        (pss_one (ps_if (pt_val (pe_meth (pv 0) T.cl_Committee T.me_Committee_is_quorum G_Committee_is_quorum (hr.mono (by decide)) b_Committee_is_quorum .nil pass0 (pa_cons (pv 7) pa_nil)))
        (pss_one (ps_dput (hu_of hr) (pv 5) (pv 6) pe_bl rfl))
        pss_nil))))
      (pss_one (ps_ret (pe_callTy (call_listD rfl) (by rfl) T.n_list (by decide +kernel) (pa_cons (pv 5) pa_nil))))))), ?_⟩
    walk_at "rs"
    refine ⟨l, ps, xs, .pre, h, b, rfl, hl, hx, few, fun D ks H1 s1 hv => ?_⟩
    walk_at "rs"
    intro F1 hF1
    have s2 : Same H1 (upd H1 F1 (.dK [])) := same_new hF1
    have hF2 : (upd H1 F1 (.dK [])) F1 = some (.dK (tru [])) := upd_same
    have hv2 := hv.same s2
    have hFH : H F1 = none := s1.free hF1
    generalize upd H1 F1 (.dK []) = H2 at s2 hF2 hv2 ⊢
    walk_at "rs"
    have kb : ∀ t ∈ ks.map (·.1), 0 ≤ t ∧ t < 60 := fun t ht => by
      obtain ⟨x, hx, z⟩ := (hv.ky t).mp ht
      rw [inT_t z]
      exact tb x hx
    have k60 := nodup_few 60 hv.nd kb
    rw [List.length_map] at k60
    refine ⟨D, _, ks.map (·.1), rfl, .inl hv2.here, by unfold vbK; simp [Function.comp_def], by rw [List.length_map]; omega, fun ts R hp hpw hR => ?_⟩
    have nd := (hp.nodup_iff).mpr hv.nd
    have ky : ∀ t : Int, t ∈ ts ↔ ∃ x ∈ xs, inT .pre h b t x = true := fun t => by rw [hp.mem_iff]; exact hv.ky t
    have tb2 : ∀ t ∈ ts, 0 ≤ t ∧ t < 60 := fun t ht => kb t (hp.mem_iff.mp ht)
    have s3 : Same H2 (upd H2 R (.lst (ts.map V.int))) := same_new hR
    have hF3 := s3 _ _ hF2
    have hR3 : (upd H2 R (.lst (ts.map V.int))) R = some (.lst (ts.map V.int)) := upd_same
    generalize upd H2 R (.lst (ts.map V.int)) = H3 at s3 hF3 hR3 ⊢
    have nF : H1 F1 = none := hF1
    refine ⟨R, rfl, ⟨_, SqL.of hR3⟩, for_list (K := K) (a := R) (xs := ts.map V.int) (fun i σ H4 => ∃ v6 v7 : Option V, σ = [some (.ref c), some (.ref l), some (.int h), some (oS b), some (.ref D), some (.ref F1), v6, v7, none] ∧ Same H1 H4 ∧ H4 R = some (.lst (ts.map V.int)) ∧ H4 F1 = some (.dK (tru (lns ws xs h b (nxt ts i)))))
      ⟨_, _, rfl, s2.trans s3, hR3, hF3⟩ (fun i σ H4 _ ⟨_, _, _, _, hr4, _⟩ => SqL.of hr4) ?_ ?_⟩
    · rintro i y σ H4 hy ⟨v6, v7, rfl, s4, hr4, hf4⟩
      have hi : i < ts.length := by
        have e := (List.getElem?_eq_some_iff.mp hy).1
        rwa [List.length_map] at e
      rw [at_ints hi] at hy
      cases hy
      have ht := getD_mem hi
      have hb := tb2 _ ht
      obtain ⟨x0, hx0, i0⟩ := (ky _).mp ht
      have nb := (inT_some i0).1
      obtain ⟨n, en⟩ := Int.eq_ofNat_of_zero_le hb.1
      have lo : ∀ k, k < i → 0 ≤ ts.getD k 0 := fun k hk => (tb2 _ (getD_mem (by omega))).1
      have eL : lns ws xs h b n = lns ws xs h b (nxt ts i) := by
        refine gap_gen gw nb ky hpw nd (Nat.le_of_lt hi) ?_ fun j h1 h2 => ?_
        · cases i with
          | zero => exact Nat.zero_le _
          | succ k =>
            have h3 := srt_lt hpw nd (show k < k + 1 by omega) hi
            have h4 := lo k (show k < k + 1 by omega)
            have h5 : nxt ts (k + 1) = (ts.getD k 0 + 1).toNat := rfl
            omega
        · rcases Nat.lt_or_ge i j with z | z
          · have := srt_lt hpw nd z h2
            omega
          · have : j = i := by omega
            rw [this]
            omega
      have eN : nxt ts (i + 1) = n + 1 := by
        have h5 : nxt ts (i + 1) = (ts.getD i 0 + 1).toNat := rfl
        omega
      rw [← eL] at hf4
      rw [eN]
      rw [en] at i0 ⊢
      clear eL eN hb en
      have hin : (n : Int) ∈ ks.map (·.1) := (hv.ky _).mpr ⟨x0, hx0, i0⟩
      obtain ⟨lt, hm, e2⟩ := val_vb hin
      have hv4 := hv.same s4
      obtain ⟨qs, hl4, hls⟩ := hv4.ls _ hm
      have hls : LsAt H4 qs (xs.filter (inT .pre h b (n : Int))) := hls
      have lq : qs.length ≤ 900 := by
        have h1 := List.length_filter_le (inT .pre h b (n : Int)) xs
        have h2 := hls.1
        omega
      have eM : memM xs h n b (lns ws xs h b n) = ((xs.filter (inT .pre h b n)).filter fun x => cntL x.m (lns ws xs h b n)).map Lt.w := mem_inT nb
      have eC : certM ws xs h b n = qrm ws (memM xs h n b (lns ws xs h b n)) := rfl
      have lL := lns_len ws xs h b n
      have n60 : n < 60 := by
        have := tb2 _ ht
        have e := tb x0 hx0
        have e3 := inT_t i0
        omega
      have nL : (n : Int) ∉ lns ws xs h b n := fun z => by
        have := ((mem_lnsI (n : Int) n).mp z).2.1
        omega
      have yes := fun q => lns_yes (ws := ws) (xs := xs) (h := h) (b := b) (n := n) q
      have no := fun q => lns_no (ws := ws) (xs := xs) (h := h) (b := b) (n := n) q
      rw [eC, eM] at yes no
      clear eC eM
      generalize lns ws xs h b n = L at hf4 lL nL yes no
      have ysk : ∀ j, j < (xs.filter (inT .pre h b (n : Int))).length → ((xs.filter (inT .pre h b (n : Int))).getD j default).m.k = .pre := fun j hj => (inT_some (filt_mem hj).2).2
      generalize xs.filter (inT .pre h b (n : Int)) = ys at hls yes no ysk
      walk_at "rs"
      refine ⟨D, .ref lt, rfl, by rw [← e2]; exact DGet.k (k := Sum.inl (n : Int)) hv4.here, ?_⟩
      walk_at "rs"
      refine ⟨⟨_, SqL.of hl4⟩, fun D3 hD3 => ?_⟩
      refine lc_list (K := K) (a := lt) (xs := qs.map V.ref) (fun j H5 => Same H4 H5 ∧ H5 D3 = some (.lst ((((ys.take j).filter fun x => cntL x.m L).map Lt.w).map V.int))) ⟨same_new hD3, by rw [upd_same]; simp⟩ (fun j H5 _ ⟨s5, _⟩ => SqL.of (s5 _ _ hl4)) ?_ ?_
      · rintro j y H5 hy ⟨s5, hd5⟩
        have hj : j < qs.length := by
          have e := (List.getElem?_eq_some_iff.mp hy).1
          rwa [List.length_map] at e
        have hj' : j < ys.length := by
          rw [← hls.1]
          exact hj
        rw [at_refs hj] at hy
        cases hy
        have hlt := (hls.2 j hj').same s5
        obtain ⟨q, hp5, hq5⟩ := id hlt
        have hk5 := ysk j hj'
        have et := take_succ_getD (d := default) hj'
        generalize ys.getD j default = x at hlt hp5 hq5 hk5 et
        refine ⟨rfl, ?_⟩
        walk_at "rs"
        refine ⟨_, _, _, _, rfl, rfl, SqT.of hp5, rfl, ?_⟩
        walk_at "rs"
        refine ⟨q, F1, x.m, L, rfl, hq5, hk5, s5 _ _ hf4, fun H6 s6 => ?_⟩
        walk_at "rs"
        refine ite2 (fun c1 => ?_) (fun c1 => ?_)
        · walk_at "rs"
          refine ⟨_, _, _, _, rfl, rfl, SqT.of (s6 _ _ hp5), rfl, ?_⟩
          have l5 := List.length_filter_le (fun x => cntL x.m L) (ys.take j)
          rw [List.length_take] at l5
          have l6 := hls.1
          refine ⟨_, s6 _ _ hd5, by rw [List.length_map, List.length_map]; exact small1000 (by omega), same_upd (s5.trans s6) hD3, ?_⟩
          rw [upd_same, et, List.filter_append, List.filter_cons_of_pos (by exact c1)]
          simp
        · refine ⟨s5.trans s6, ?_⟩
          rw [s6 _ _ hd5, et, List.filter_append, List.filter_cons_of_neg (by exact c1)]
          simp
      · rintro H5 ⟨s5, hd5⟩
        rw [List.length_map, hls.1, List.take_length] at hd5
        have l5 := List.length_filter_le (fun x => cntL x.m L) ys
        have l6 := hls.1
        have s15 := s4.trans s5
        have sH5 := s1.trans s15
        walk_at "rs"
        refine ⟨c, dx, _, rfl, sH5 _ _ hcp, cfs_no _ _ (by decide +kernel) (by decide +kernel) (by decide +kernel), ?_⟩
        walk_at "rs"
        refine ⟨c, D3, ws, _, rfl, hc.same sH5, gw.2.1, SqL.of hd5, by rw [List.length_map]; omega, fun H6 s6 => ?_⟩
        walk_at "rs"
        have hf6 := s6 _ _ (s5 _ _ hf4)
        have s16 := s15.trans s6
        have hr6 := s6 _ _ (s5 _ _ hr4)
        refine ite2 (fun c1 => ?_) (fun c1 => ?_)
        · walk_at "rs"
          refine ⟨F1, _, rfl, DPut.k (k := Sum.inl (n : Int)) hf6 (by unfold tru; rw [List.length_map]; exact small1000 (by omega)), ?_⟩
          refine ⟨_, _, rfl, same_upd s16 nF, ?_, ?_⟩
          · rw [upd_ne (fun z => by rw [← z, hr6] at hf6; cases hf6)]
            exact hr6
          · have ev : valV (tru L) (Sum.inl (n : Int)) = none := by
              have := val_tru (t := (n : Int)) (L := L)
              rw [decide_eq_false nL] at this
              cases q : valV (tru L) (Sum.inl (n : Int)) with
              | none => rfl
              | some v => rw [q] at this; cases this
            rw [upd_same, putK_new ev, yes c1, tru_snoc]
        · refine ⟨_, _, rfl, s16, hr6, ?_⟩
          rw [no c1]
          exact hf6
    · rintro σ H4 ⟨v6, v7, rfl, s4, hr4, hf4⟩
      rw [List.length_map] at hf4
      have eE : lns ws xs h b (nxt ts ts.length) = ctL ws xs h b := by
        cases b with
        | none =>
          have : ts = [] := by
            cases ts with
            | nil => rfl
            | cons t ts =>
              obtain ⟨x, _, z⟩ := (ky t).mp List.mem_cons_self
              exact absurd rfl (inT_some z).1
          rw [this]
          rfl
        | some bb =>
          symm
          refine gap_gen (b := some bb) (h := h) gw (by simp) ky hpw nd (Nat.le_refl _) ?_ fun j h1 h2 => absurd h2 (by omega)
          cases q : ts.length with
          | zero => exact Nat.zero_le _
          | succ k =>
            have h5 : nxt ts (k + 1) = (ts.getD k 0 + 1).toNat := rfl
            have h6 := tb2 _ (getD_mem (show k < ts.length by omega))
            omega
      rw [eE] at hf4
      walk_at "rs"
      refine ⟨F1, _, rfl, .inl hf4, fun R2 hR2 => ?_⟩
      have s5 := same_new (o := .lst ((ctL ws xs h b).map V.int)) hR2
      have e : (tru (ctL ws xs h b)).map (fun kv => kV kv.1) = (ctL ws xs h b).map V.int := by
        unfold tru
        rw [List.map_map]
        rfl
      rw [e]
      exact k R2 _ (s1.trans (s4.trans s5)) (s1.free (s4.free hR2)) upd_same
theorem ok_committed_turns (T : Txt K mg a) : ∃ fd, FnOk P w K mg base CX0 4 a.d_committed_turns fd ["committee", "letters", "height", "block"] (spCms K a.C_Committee) ∧ Binds K fd ["committee", "letters", "height", "block"] [] := by
  obtain ⟨fd, F, b⟩ := T.d_committed_turns.F
  obtain ⟨fd_votes_by_turn, G_votes_by_turn, b_votes_by_turn⟩ := ok_votes_by_turn (P := P) (w := w) (base := base) T
  obtain ⟨fd_certified_turns, G_certified_turns, b_certified_turns⟩ := ok_certified_turns (P := P) (w := w) (base := base) T
  obtain ⟨fd_Committee_is_quorum, G_Committee_is_quorum, b_Committee_is_quorum⟩ := ok_Committee_is_quorum (P := P) (w := w) (base := base) T
  refine ⟨fd, F.ok sc_committed_turns (fun vs H Q E h => ?_) (fun cdv A outer s H vs Q E hr h => ?_), b⟩
  · obtain ⟨_, _, _, _, _, _, _, rfl, _⟩ := h
    rfl
  · obtain ⟨c, l, ws, ps, xs, h, b, rfl, hc, gw, hl, hx, few, tb, k⟩ := h
    obtain ⟨dx, t, hcp, hct⟩ := id hc
    refine ⟨_, (pss_cons (ps_set (i := 4) sc_committed_turns.nd rfl (Or.inl rfl) (pe_call G_votes_by_turn (hr.mono (by decide)) rfl T.d_votes_by_turn.g T.d_votes_by_turn.kp b_votes_by_turn .nil pass0 (pa_cons (pv 1) (pa_cons pe_str (pa_cons (pv 2) (pa_cons (pv 3) pa_nil))))))
      (pss_cons (ps_set (i := 5) sc_committed_turns.nd rfl (Or.inl rfl) (pe_lst pa_nil))
      (pss_cons (ps_for PassesOwn.never rfl (pi_list (pe_call G_certified_turns (hr.mono (by decide)) rfl T.d_certified_turns.g T.d_certified_turns.kp b_certified_turns .nil pass0 (pa_cons (pv 0) (pa_cons (pv 1) (pa_cons (pv 2) (pa_cons (pv 3) pa_nil)))))) (pg_name (i := 6) sc_committed_turns.nd rfl (Or.inl rfl))
      (pss_cons (ps_setLc (i := 7) (own := [("letter", 8)]) (g := (gName 8)) (tt := tYes) rfl sc_committed_turns.nd rfl rfl (sw_true rfl rfl rfl (by decide +kernel)) (pi_list (pe_dget2 (hu_of hr) (pv 4) (pv 6) (pe_lst pa_nil) ⟨rfl, rfl, rfl, rfl⟩)) (blkOk_by (own := [("letter", 8)]) (N := sc_committed_turns_N) (sc := defScope s_committed_turns) (by decide +kernel)) (fun _ _ _ _ _ => (pg_name (i := 8) sc_committed_turns.nd rfl (Or.inl rfl))) (fun _ _ _ _ _ => pts_nil) (fun _ _ _ _ _ => (pe_ix (r := rIxT K) ix_tup (pv 8) pe_int (fun _ _ => rfl))))
        (pss_one (ps_if (pt_val (pe_meth (pv 0) T.cl_Committee T.me_Committee_is_quorum G_Committee_is_quorum (hr.mono (by decide)) b_Committee_is_quorum .nil pass0 (pa_cons (pv 7) pa_nil)))
        (pss_one (ps_expr (pe_bm PySem.F.plainAttrs_list PySem.F.slot_list_append PySem.F.type_list_append mt_append (pv 5) (pa_cons (pv 6) pa_nil))))
        pss_nil))))
      (pss_one (ps_ret (pv 5)))))), ?_⟩
    walk_at "rs"
    refine ⟨l, ps, xs, .com, h, b, rfl, hl, hx, few, fun D ks H1 s1 hv => ?_⟩
    walk_at "rs"
    refine ⟨(by show 0 ≤ sizeLine; decide), fun F1 hF1 => ?_⟩
    have s2 : Same H1 (upd H1 F1 (.lst [])) := same_new hF1
    have hF2 : (upd H1 F1 (.lst [])) F1 = some (.lst (([] : List Int).map V.int)) := upd_same
    have nF : H F1 = none := s1.free hF1
    generalize upd H1 F1 (.lst []) = H2 at s2 hF2 ⊢
    walk_at "rs"
    have s02 := s1.trans s2
    refine ⟨c, l, ws, ps, xs, h, b, rfl, hc.same s02, gw, s02 _ _ hl, hx.same s02, few, tb, fun R H3 s3 hR hR3 => ?_⟩
    have s03 := s02.trans s3
    have hv3 := hv.same (s2.trans s3)
    have hF3 := s3 _ _ hF2
    have s13 := s2.trans s3
    have nRF : R ≠ F1 := fun e => by
      rw [e, hF2] at hR
      cases hR
    have lC : (ctL ws xs h b).length ≤ 60 := by
      unfold ctL
      cases b with
      | none => exact Nat.zero_le _
      | some bb => exact lns_len ws xs h (some bb) 60
    have nbC : ∀ t ∈ ctL ws xs h b, b ≠ none := fun t ht z => by
      rw [z] at ht
      cases ht
    unfold cmL at k
    generalize ctL ws xs h b = C at hR3 lC nbC k
    refine ⟨R, rfl, ⟨_, SqL.of hR3⟩, for_list (K := K) (a := R) (xs := C.map V.int) (fun i σ H4 => ∃ v6 v7 : Option V, σ = [some (.ref c), some (.ref l), some (.int h), some (oS b), some (.ref D), some (.ref F1), v6, v7, none] ∧ Same H1 H4 ∧ H4 R = some (.lst (C.map V.int)) ∧ H4 F1 = some (.lst (((C.take i).filter fun t => qrm ws (comS xs h t b)).map V.int)))
      ⟨_, _, rfl, s13, hR3, hF3⟩ (fun i σ H4 _ ⟨_, _, _, _, hr4, _⟩ => SqL.of hr4) ?_ ?_⟩
    · rintro i y σ H4 hy ⟨v6, v7, rfl, s4, hr4, hf4⟩
      have hi : i < C.length := by
        have e := (List.getElem?_eq_some_iff.mp hy).1
        rwa [List.length_map] at e
      rw [at_ints hi] at hy
      cases hy
      have nb := nbC _ (getD_mem hi)
      have et := take_succ_getD (d := (0 : Int)) hi
      generalize C.getD i 0 = t at et ⊢
      have hv4 := hv.same s4
      have s04 := s1.trans s4
      have eS : comS xs h t b = (xs.filter (inT .com h b t)).map Lt.w := com_inT nb
      have lF := List.length_filter_le (inT .com h b t) xs
      walk_at "rs"
      refine ⟨.inl ⟨_, .inl hv4.here⟩, ?_⟩
      walk_at "rs"
      refine ⟨(by show 0 ≤ sizeLine; decide), fun z hz => ?_⟩
      have sz : Same H4 (upd H4 z (.lst [])) := same_new hz
      have hzz : (upd H4 z (.lst [])) z = some (.lst (([] : List Addr).map V.ref)) := upd_same
      have hv5 := hv4.same sz
      have hr5 := sz _ _ hr4
      have hf5 := sz _ _ hf4
      have s05 := s04.trans sz
      have s15 := s4.trans sz
      generalize upd H4 z (.lst []) = H5 at sz hzz hv5 hr5 hf5 s05 s15 ⊢
      obtain ⟨lt, qs, o, hdg, eo, hlt, hls⟩ : ∃ (lt : Addr) (qs : List Addr) (o : Option V), DGet H5 D (.int t) o ∧ o.getD (.ref z) = .ref lt ∧ H5 lt = some (.lst (qs.map V.ref)) ∧ LsAt H5 qs (xs.filter (inT .com h b t)) := by
        by_cases hin : t ∈ ks.map (·.1)
        · obtain ⟨lt, hm, e2⟩ := val_vb hin
          obtain ⟨qs, h1, h2⟩ := hv5.ls _ hm
          exact ⟨lt, qs, _, DGet.k (k := Sum.inl t) hv5.here, by rw [e2]; rfl, h1, h2⟩
        · refine ⟨z, [], _, DGet.k (k := Sum.inl t) hv5.here, by rw [val_vbn hin]; rfl, hzz, ?_⟩
          have e0 : xs.filter (inT .com h b t) = [] := List.filter_eq_nil_iff.mpr fun x hx y => hin ((hv.ky t).mpr ⟨x, hx, y⟩)
          rw [e0]
          exact LsAt.nil
      refine ⟨o, hdg, ?_⟩
      rw [eo]
      walk_at "rs"
      generalize xs.filter (inT .com h b t) = ys at hls lF eS
      refine ⟨⟨_, SqL.of hlt⟩, fun D3 hD3 => ?_⟩
      refine lc_list (K := K) (a := lt) (xs := qs.map V.ref) (fun j H6 => Same H5 H6 ∧ H6 D3 = some (.lst (((ys.take j).map Lt.w).map V.int))) ⟨same_new hD3, by rw [upd_same]; simp⟩ (fun j H6 _ ⟨s6, _⟩ => SqL.of (s6 _ _ hlt)) ?_ ?_
      · rintro j y H6 hy ⟨s6, hd6⟩
        have hj : j < qs.length := by
          have e := (List.getElem?_eq_some_iff.mp hy).1
          rwa [List.length_map] at e
        have hj' : j < ys.length := by
          rw [← hls.1]
          exact hj
        rw [at_refs hj] at hy
        cases hy
        have hl6 := (hls.2 j hj').same s6
        obtain ⟨q, hp6, hq6⟩ := id hl6
        have ej := take_succ_getD (d := default) hj'
        refine ⟨rfl, ?_⟩
        walk_at "rs"
        refine ⟨_, _, _, _, rfl, rfl, SqT.of hp6, rfl, ?_⟩
        refine ⟨_, hd6, by rw [List.length_map, List.length_map, List.length_take]; exact small1000 (by omega), same_upd s6 hD3, ?_⟩
        rw [upd_same, ej]
        simp
      · rintro H6 ⟨s6, hd6⟩
        rw [List.length_map, hls.1, List.take_length] at hd6
        have s06 := s05.trans s6
        walk_at "rs"
        refine ⟨c, dx, _, rfl, s06 _ _ hcp, cfs_no _ _ (by decide +kernel) (by decide +kernel) (by decide +kernel), ?_⟩
        walk_at "rs"
        refine ⟨c, D3, ws, _, rfl, hc.same s06, gw.2.1, SqL.of hd6, by rw [List.length_map]; omega, fun H7 s7 => ?_⟩
        walk_at "rs"
        have hf7 := s7 _ _ (s6 _ _ hf5)
        have hr7 := s7 _ _ (s6 _ _ hr5)
        have s17 := (s15.trans s6).trans s7
        refine ite2 (fun c1 => ?_) (fun c1 => ?_)
        · walk_at "rs"
          refine ⟨.inl ⟨rfl, _, SqL.of hf7⟩, ?_⟩
          walk_at "rs"
          have l7 := List.length_filter_le (fun t => qrm ws (comS xs h t b)) (C.take i)
          rw [List.length_take] at l7
          refine ⟨F1, _, _, rfl, rfl, hf7, by rw [List.length_map]; exact small1000 (by omega), ?_⟩
          refine ⟨_, _, rfl, same_upd s17 hF1, ?_, ?_⟩
          · rw [upd_ne nRF]
            exact hr7
          · rw [upd_same, et, List.filter_append, List.filter_cons_of_pos (by rw [eS]; exact c1)]
            simp
        · refine ⟨_, _, rfl, s17, hr7, ?_⟩
          rw [hf7, et, List.filter_append, List.filter_cons_of_neg (by rw [eS]; exact c1)]
          simp
    · rintro σ H4 ⟨v6, v7, rfl, s4, hr4, hf4⟩
      rw [List.length_map, List.take_length] at hf4
      walk_at "rs"
      exact k F1 _ (s1.trans s4) nF hf4

theorem ok_shown_turn (T : Txt K mg a) : ∃ fd, FnOk P w K mg base CX0 5 a.d_shown_turn fd ["committee", "height", "block", "letters"] (spShown K a.C_Committee) ∧ Binds K fd ["committee", "height", "block", "letters"] [] := by
  obtain ⟨fd, F, b⟩ := T.d_shown_turn.F
  obtain ⟨fd_committed_turns, G_committed_turns, b_committed_turns⟩ := ok_committed_turns (P := P) (w := w) (base := base) T
  refine ⟨fd, F.ok sc_shown_turn (fun vs H Q E h => ?_) (fun cdv A outer s H vs Q E hr h => ?_), b⟩
  · obtain ⟨_, _, _, _, _, _, _, rfl, _⟩ := h
    rfl
  · obtain ⟨c, l, ws, ps, xs, h, b, rfl, hc, gw, hl, hx, few, tb, k⟩ := h
    refine ⟨_, (pss_one (ps_ret (pe_callBK (cr_mind rfl) (by rfl) T.n_min (by decide +kernel) (pa_cons (pe_call G_committed_turns (hr.mono (by decide)) rfl T.d_committed_turns.g T.d_committed_turns.kp b_committed_turns .nil pass0 (pa_cons (pv 0) (pa_cons (pv 3) (pa_cons (pv 1) (pa_cons (pv 2) pa_nil))))) pa_nil) (pk_cons pe_non pk_nil)))), ?_⟩
    walk_at "rs"
    refine ⟨c, l, ws, ps, xs, h, b, rfl, hc, gw, hl, hx, few, tb, fun R H1 s1 hR hR1 => ?_⟩
    walk_at "rs"
    refine ⟨R, _, _, rfl, rfl, SqL.of hR1, fun e => ?_, fun m hm lo => ?_⟩
    · exact k _ H1 s1 (fun _ => rfl) (fun z => absurd e z)
    · refine k _ H1 s1 (fun e => ?_) (fun _ => ⟨m, hm, lo, rfl⟩)
      rw [e] at hm
      cases hm
theorem ok_shows (T : Txt K mg a) : ∃ fd, FnOk P w K mg base CX0 6 a.d_shows fd ["committee", "height", "block", "letters"] (spShows K a.C_Committee) ∧ Binds K fd ["committee", "height", "block", "letters"] [] := by
  obtain ⟨fd, F, b⟩ := T.d_shows.F
  obtain ⟨fd_shown_turn, G_shown_turn, b_shown_turn⟩ := ok_shown_turn (P := P) (w := w) (base := base) T
  refine ⟨fd, F.ok sc_shows (fun vs H Q E h => ?_) (fun cdv A outer s H vs Q E hr h => ?_), b⟩
  · obtain ⟨_, _, _, _, _, _, _, rfl, _⟩ := h
    rfl
  · obtain ⟨c, l, ws, ps, xs, h, b, rfl, hc, gw, hl, hx, few, tb, k⟩ := h
    refine ⟨_, (pss_one (ps_ret (pe_cmpR op_notN (pe_call G_shown_turn (hr.mono (by decide)) rfl T.d_shown_turn.g T.d_shown_turn.kp b_shown_turn .nil pass0 (pa_cons (pv 0) (pa_cons (pv 1) (pa_cons (pv 2) (pa_cons (pv 3) pa_nil))))) pe_non (nomark _)))), ?_⟩
    walk_at "rs"
    refine ⟨c, l, ws, ps, xs, h, b, rfl, hc, gw, hl, hx, few, tb, fun v H1 s1 e0 e1 => ?_⟩
    have k1 := k H1 s1
    unfold shM at k1
    cases q : cmL ws xs h b with
    | nil =>
      rw [e0 q]
      rw [q] at k1
      walk_at "rs"
      exact k1
    | cons y ys =>
      obtain ⟨m, _, _, rfl⟩ := e1 (by rw [q]; exact fun z => nomatch z)
      rw [q] at k1
      walk_at "rs"
      exact k1

theorem ok_law_cell (T : Txt K mg a) : ∃ fd, FnOk P w K mg base CX0 1 a.d_law_cell fd ["script", "k"] (spCell K) ∧ Binds K fd ["script", "k"] [] := by
  obtain ⟨fd, F, b⟩ := T.d_law_cell.F
  refine ⟨fd, F.ok sc_law_cell (fun vs H Q E h => ?_) (fun cdv A outer s H vs Q E hr h => ?_), b⟩
  · obtain ⟨a, ns, k, rfl, _⟩ := h
    rfl
  · obtain ⟨l, ns, k, rfl, hS, hl, hk, q⟩ := h
    refine ⟨_, (pss_cons (ps_if (pt_cmpR op_lt (pv 1) (pe_callB call_len_seq (by rfl) T.n_len PySem.boot_len (pa_cons (pv 0) pa_nil)) (nomark _))
      (pss_one (ps_ret (pe_ix ix_list (pv 0) (pv 1) (fun _ _ => rfl))))
      pss_nil)
      (pss_one (ps_ret pe_int))), ?_⟩
    refine ⟨_, rfl, _, rfl, l, _, rfl, .inl hS, _, _, rfl, rfl, _, rfl, ?_⟩
    refine ite2 (fun hlt => ?_) (fun hge => ?_)
    · have hlt : k < ((ns.map V.int).length : Int) := of_decide_eq_true hlt
      rw [List.length_map] at hlt
      have hj : k.toNat < ns.length := by omega
      have e : ns.getD k.toNat 0 = ns[k.toNat] := by rw [List.getD_eq_getElem?_getD, List.getElem?_eq_getElem hj]; rfl
      rw [e] at q
      refine ⟨_, rfl, _, rfl, l, _, k, .int ns[k.toNat], rfl, rfl, hS, at_of (j := k.toNat) (by omega) (by rw [List.getElem?_map, List.getElem?_eq_getElem hj]; rfl), q⟩
    · have hge : ¬ k < ((ns.map V.int).length : Int) := fun e => hge (decide_eq_true e)
      rw [List.length_map] at hge
      have e : ns.getD k.toNat 0 = 0 := by rw [List.getD_eq_getElem?_getD, List.getElem?_eq_none (by omega)]; rfl
      rw [e] at q
      exact q

theorem ok_law_row (T : Txt K mg a) : ∃ fd, FnOk P w K mg base CX0 1 a.d_law_row fd ["cell", "count", "size"] (spRow K) ∧ Binds K fd ["cell", "count", "size"] [] := by
  obtain ⟨fd, F, b⟩ := T.d_law_row.F
  refine ⟨fd, F.ok sc_law_row (fun vs H Q E h => ?_) (fun cdv A outer s H vs Q E hr h => ?_), b⟩
  · obtain ⟨_, _, _, rfl, _⟩ := h
    rfl
  · obtain ⟨cell, count, size, rfl, c0, c1, z0, z1, k⟩ := h
    refine ⟨_, (pss_cons (ps_set (i := 3) sc_law_row.nd rfl (Or.inl rfl) (pv 0))
      (pss_cons (ps_set (i := 4) sc_law_row.nd rfl (Or.inl rfl) (pe_lst pa_nil))
      (pss_cons (ps_for PassesOwn.never rfl (pi_range1 rfl T.n_range (pa_cons (pv 1) pa_nil)) (pg_name (i := 5) sc_law_row.nd rfl (Or.inl rfl))
      (pss_one (ps_if (pt_cmpR op_ge (pv 0) (pe_op op_pow pe_int pe_int) (nomark _))
        (pss_cons (ps_expr (pe_bm PySem.F.plainAttrs_list PySem.F.slot_list_append PySem.F.type_list_append mt_append (pv 4) (pa_cons (pe_op op_mod (pe_callTy call_int1 (by rfl) T.n_int (by decide +kernel) (pa_cons (pv 3) pa_nil)) (pv 2)) pa_nil)))
          (pss_one (ps_set (i := 3) sc_law_row.nd rfl (Or.inl rfl) (pe_op op_fdivN (pv 3) (pv 2)))))
        (pss_cons (ps_set (i := 3) sc_law_row.nd rfl (Or.inl rfl) (pe_op op_mod (pe_callTy call_int1 (by rfl) T.n_int (by decide +kernel) (pa_cons (pe_op op_add (pe_op op_mul (pv 3) pe_int) pe_int) pa_nil)) pe_int))
          (pss_one (ps_expr (pe_bm PySem.F.plainAttrs_list PySem.F.slot_list_append PySem.F.type_list_append mt_append (pv 4) (pa_cons (pe_op op_mod (pe_op op_mod (pe_callTy call_int1 (by rfl) T.n_int (by decide +kernel) (pa_cons (pe_op op_add (pe_op op_mul (pv 3) pe_int) (pe_op op_mul (pv 5) pe_int)) pa_nil)) pe_int) (pv 2)) pa_nil))))))))
      (pss_one (ps_ret (pv 4)))))), ?_⟩
    walk_at "rs"
    refine ⟨(by show 0 ≤ sizeLine; decide), fun p hp => ?_⟩
    walk_at "rs"
    refine ⟨(by show -(2 ^ 62 : Int) ≤ _; omega), (by show _ < (2 ^ 62 : Int); omega), ?_⟩
    refine for_range (lo := 0) (n := count.toNat) (fun i σ H2 => ∃ (st : Int) (row : List Int) (v5 : Option V), σ = [some (.int cell), some (.int count), some (.int size), some (.int st), some (.ref p), v5] ∧ Same H H2 ∧
      H2 p = some (.lst (row.map V.int)) ∧ row.length = i ∧ ∀ x ∈ row, 0 ≤ x ∧ x < size) ⟨_, [], _, rfl, same_new hp, upd_same, rfl, fun x hx => nomatch hx⟩ ?_ ?_
    · rintro i σ H2 hi ⟨st, row, v5, rfl, s2, hrow, hlen, hb⟩
      have fit : (row.map V.int).length < sizeLine := by
        rw [List.length_map]
        exact small1000 (by omega)
      have grow : ∀ z : Int, 0 ≤ z → z < size → ∀ x ∈ row ++ [z], 0 ≤ x ∧ x < size := fun z h0 h1 x hx => by
        rcases List.mem_append.mp hx with hx | hx
        · exact hb x hx
        · rw [List.mem_singleton.mp hx]
          exact ⟨h0, h1⟩
      walk_at "rs"
      refine ite2 (fun c1 => ?_) (fun c1 => ?_)
      · walk_at "rs"
        refine ⟨.inl ⟨rfl, _, SqL.of hrow⟩, ?_⟩
        walk_at "rs"
        refine ⟨p, _, _, rfl, rfl, hrow, fit, ?_⟩
        walk_at "rs"
        refine ⟨(show CDivN _ _ from ⟨by omega, by omega⟩), ?_⟩
        exact ⟨_, row ++ [st % size], _, rfl, same_upd s2 hp, by rw [upd_same]; simp, by simp [hlen], grow _ (Int.emod_nonneg _ (by omega)) (Int.emod_lt_of_pos _ z0)⟩
      · walk_at "rs"
        refine ⟨.inl ⟨rfl, _, SqL.of hrow⟩, ?_⟩
        walk_at "rs"
        refine ⟨p, _, _, rfl, rfl, hrow, fit, ?_⟩
        exact ⟨_, row ++ [((st * 48271 + 12345) % 2147483647 * 69621 + (i : Int) * 7919) % 2147483647 % size], _, rfl, same_upd s2 hp, by rw [upd_same]; simp, by simp [hlen], grow _ (Int.emod_nonneg _ (by omega)) (Int.emod_lt_of_pos _ z0)⟩
    · rintro σ H2 ⟨st, row, v5, rfl, s2, hrow, hlen, hb⟩
      walk_at "rs"
      exact k p row H2 s2 hrow hlen hb hp

theorem ok_law_weights (T : Txt K mg a) : ∃ fd, FnOk P w K mg base CX0 2 a.d_law_weights fd ["cell", "most"] (spWeights K) ∧ Binds K fd ["cell", "most"] [] := by
  obtain ⟨fd, F, b⟩ := T.d_law_weights.F
  obtain ⟨fd_law_row, G_law_row, b_law_row⟩ := ok_law_row (P := P) (w := w) (base := base) T
  refine ⟨fd, F.ok sc_law_weights (fun vs H Q E h => ?_) (fun cdv A outer s H vs Q E hr h => ?_), b⟩
  · obtain ⟨_, _, rfl, _⟩ := h
    rfl
  · obtain ⟨cell, most, rfl, m0, m1, k⟩ := h
    refine ⟨_, (pss_cons (ps_set (i := 2) sc_law_weights.nd rfl (Or.inl rfl) (pe_op op_add pe_int (pe_op op_mod (pe_callTy call_int1 (by rfl) T.n_int (by decide +kernel) (pa_cons (pv 0) pa_nil)) (pv 1))))
      (pss_cons (ps_if (pt_cmpR op_eq (pe_op op_mod (pe_op op_fdiv (pv 0) pe_int) pe_int) pe_int (nomark _))
      (pss_one (ps_ret (pe_op op_rep (pe_lst (pa_cons pe_int pa_nil)) (pv 2))))
      pss_nil)
      (pss_one (ps_ret (pe_lc (own := [("value", 3)]) (g := (gName 3)) (tt := tYes) rfl sc_law_weights.nd (pi_list (pe_call G_law_row (hr.mono (by decide)) rfl T.d_law_row.g T.d_law_row.kp b_law_row .nil pass0 (pa_cons (pe_op op_fdiv (pv 0) pe_int) (pa_cons (pv 2) (pa_cons pe_int pa_nil))))) (blkOk_by (own := [("value", 3)]) (N := sc_law_weights_N) (sc := defScope s_law_weights) (by decide +kernel)) (fun _ _ _ _ _ => (pg_name (i := 3) sc_law_weights.nd rfl (Or.inl rfl))) (fun _ _ _ _ _ => pts_nil) (fun _ _ _ _ _ => (pe_op op_add pe_int (pv 3)))))))), ?_⟩
    have c0 : 0 ≤ cell % most := Int.emod_nonneg _ (by omega)
    have c1 : cell % most < most := Int.emod_lt_of_pos _ (by omega)
    walk_at "rs"
    refine ite2 (fun c2 => ?_) (fun c2 => ?_)
    · walk_at "rs"
      refine ⟨(by show 1 ≤ sizeLine; decide), fun p hp => ?_⟩
      walk_at "rs"
      refine ⟨p, _, _, rfl, rfl, upd_same, (by show -(2 ^ 63 : Int) ≤ 1 + cell % most; omega), (by show 1 + cell % most < (2 ^ 63 : Int); omega), (by rw [sizeLine_eq]; show 1 * (1 + cell % most).toNat ≤ _; omega), fun q hq => ?_⟩
      refine k q (List.replicate (1 + cell % most).toNat 1) _ (same_upd (same_new hp) (Same.free (same_new hp) hq)) (by rw [upd_same]; simp) ⟨by rw [List.length_replicate]; omega, by rw [List.length_replicate]; omega, fun x hx => ?_⟩ (by rw [List.length_replicate]; omega)
      rw [(List.mem_replicate.mp hx).2]
      decide
    · walk_at "rs"
      refine ⟨_, _, _, rfl, by omega, by omega, by decide, by decide, fun p row H1 s1 hrow hlen hb hp => ?_⟩
      refine ⟨p, rfl, ⟨_, SqL.of hrow⟩, fun D hD => ?_⟩
      have nDp : D ≠ p := (ne_of_none hrow hD).symm
      refine lc_list (K := K) (a := p) (xs := row.map V.int) (fun i H2 => Same H1 H2 ∧ H2 D = some (.lst (((row.take i).map (1 + ·)).map V.int))) ⟨same_new hD, upd_same⟩ (fun i H2 _ ⟨s2, _⟩ => SqL.of (s2 _ _ hrow)) ?_ ?_
      · rintro i x H2 hx ⟨s2, hd⟩
        have hi : i < row.length := by
          have e := (List.getElem?_eq_some_iff.mp hx).1
          rwa [List.length_map] at e
        rw [at_ints hi] at hx
        cases hx
        refine ⟨rfl, ?_⟩
        walk_at "rs"
        refine ⟨_, hd, by simp only [List.length_map, List.length_take]; exact small1000 (by omega), same_upd s2 hD, ?_⟩
        rw [upd_same, List.take_add_one, List.getElem?_eq_getElem hi, List.getD_eq_getElem?_getD, List.getElem?_eq_getElem hi]
        simp only [Option.toList_some, Option.getD_some, List.map_append, List.map_cons, List.map_nil]
      · rintro H2 ⟨s2, hd⟩
        have e : row.take (row.map V.int).length = row := by rw [List.length_map, List.take_length]
        rw [e] at hd
        refine k D _ H2 (fun b o z => s2 _ _ (s1 _ _ z)) hd ⟨by rw [List.length_map]; omega, by rw [List.length_map]; omega, fun x hx => ?_⟩ (by rw [List.length_map]; omega)
        obtain ⟨y, hy, rfl⟩ := List.mem_map.mp hx
        have := hb y hy
        omega

theorem nu_tl {i : Int} (h : NOk i) : TL.tl (nu i) = TL.numL i.toNat := by
  unfold nu
  rw [← TL.tl_num, Int.toNat_of_nonneg h.1]
theorem nu_neg {n : Nat} : TL.tl (nu (Int.negSucc n)) = 45 :: TL.numL (n + 1) := by
  unfold nu
  rw [TL.tl_ofString]
  show (("-" ++ (n + 1).repr).toList.map Char.toNat) = _
  rw [String.toList_append, List.map_append]
  unfold TL.numL Nat.repr
  simp
theorem nu_len {i : Int} (h : WOk i) : (nu i).length ≤ 7 := by
  obtain ⟨h0, h1⟩ := id h
  rw [TL.len_tl]
  cases i with
  | ofNat n =>
    show (TL.tl (Str.ofString (toString ((n : Nat) : Int)))).length ≤ 7
    rw [TL.tl_num]
    exact TL.numL_len (k := 7) (by decide) (by have : ((n : Nat) : Int) ≤ 2000000 := h1; omega)
  | negSucc n =>
    rw [nu_neg, List.length_cons]
    have : n + 1 ≤ 1000 := by omega
    have := TL.numL_len (n := n + 1) (k := 4) (by decide) (by omega)
    omega
theorem nu_log {i : Int} (h : WOk i) : i.natAbs.log2 < 1920 := by
  obtain ⟨h0, h1⟩ := h
  rcases Nat.eq_zero_or_pos i.natAbs with z | z
  · rw [z]
    decide
  · have : i.natAbs.log2 < 30 := (Nat.log2_lt (Nat.ne_of_gt z)).mpr (by omega)
    omega

theorem ok_Reader_init (T : Txt K mg a) : ∃ fd, FnOk P w K mg base CX0 1 a.d_Reader_init fd ["self", "text"] (spRInit a.C_Reader) ∧ Binds K fd ["self", "text"] [] := by
  obtain ⟨fd, F, b⟩ := T.d_Reader_init.F
  refine ⟨fd, F.ok sc_Reader_init (fun vs H Q E h => ?_) (fun cdv A outer s H vs Q E hr h => ?_), b⟩
  · obtain ⟨_, _, _, rfl, _⟩ := h
    rfl
  · obtain ⟨p, dx, z, rfl, hp, k⟩ := h
    refine ⟨_, (pss_cons (ps_fld (pv 0) (pv 1) rfl)
      (pss_one (ps_fld (pv 0) pe_int rfl))), ?_⟩
    walk_at "rs"
    refine ⟨p, _, dx, [], rfl, hp, T.cl_Reader, T.a_Reader_text, (by show 0 < 1000; decide), ?_⟩
    walk_at "rs"
    refine ⟨p, _, dx, _, rfl, upd_same, T.cl_Reader, T.a_Reader_at, (by show 1 < 1000; decide), ?_⟩
    rw [upd_upd]
    walk_at "rs"
    refine k _ ⟨dx, ?_⟩ (fun b o n e => by rw [upd_ne n]; exact e)
    rw [upd_same]
    rfl
theorem ok_Reader_read_signs (T : Txt K mg a) : ∃ fd, FnOk P w K mg base CX0 1 a.d_Reader_read_signs fd ["self", "allowed"] (spSigns a.C_Reader) ∧ Binds K fd ["self", "allowed"] [] := by
  obtain ⟨fd, F, b⟩ := T.d_Reader_read_signs.F
  refine ⟨fd, F.ok sc_Reader_read_signs (fun vs H Q E h => ?_) (fun cdv A outer s H vs Q E hr h => ?_), b⟩
  · obtain ⟨_, _, _, _, rfl, _⟩ := h
    rfl
  · obtain ⟨p, z, al, i, rfl, ⟨dx, hp⟩, lz, li, k⟩ := h
    refine ⟨_, (pss_cons (ps_set (i := 2) sc_Reader_read_signs.nd rfl (Or.inl rfl) (pe_fld (pv 0) rfl))
      (pss_cons (ps_while PassesOwn.never (PW.pt (pw_and (pt_cmpR op_lt (pe_fld (pv 0) rfl) (pe_callB call_len_str (by rfl) T.n_len PySem.boot_len (pa_cons (pe_fld (pv 0) rfl) pa_nil)) (nomark _)) (pw_and1 (pt_cmpR op_in_sign (pe_ix ix_str (pe_fld (pv 0) rfl) (pe_fld (pv 0) rfl) (fun _ _ => rfl)) (pv 1) (by rfl)))))
      (pss_one (ps_fldaug (pv 0) pe_int in_add)))
      (pss_one (ps_ret (pe_slice sl_str (pe_fld (pv 0) rfl) (po_some (pv 2)) (po_some (pe_fld (pv 0) rfl))))))), ?_⟩
    walk_at "rs"
    refine ⟨p, _, dx, _, .int (i : Int), rfl, hp, T.cl_Reader, T.a_Reader_at, rfl, ?_⟩
    walk_at "rs"
    refine ⟨fun m σ H2 => ∃ j : Nat, m = z.length - j ∧ σ = [some (.ref p), some (.str al), some (.int (i : Int))] ∧ H2 p = some (.ins a.C_Reader dx [("text", .str z), ("at", .int (j : Int))]) ∧ (∀ b o, b ≠ p → H b = some o → H2 b = some o) ∧ i ≤ j ∧ j ≤ z.length ∧ i + runL (TL.tl al) ((TL.tl z).drop i) = j + runL (TL.tl al) ((TL.tl z).drop j),
      ⟨_, i, rfl, rfl, hp, fun b o _ e => e, Nat.le_refl _, li, rfl⟩, ?_⟩
    rintro m σ H2 ⟨j, rfl, rfl, h2, k2, ij, jz, ej⟩
    walk_at "rs"
    refine ⟨p, _, dx, _, .int (j : Int), rfl, h2, T.cl_Reader, T.a_Reader_at, rfl, ?_⟩
    walk_at "rs"
    refine ⟨p, _, dx, _, .str z, rfl, h2, T.cl_Reader, T.a_Reader_text, rfl, ?_⟩
    walk_at "rs"
    refine ⟨(by rw [sizeLine_eq]; omega), ?_⟩
    walk_at "rs"
    have fin : runL (TL.tl al) ((TL.tl z).drop j) = 0 → Q (V.str (cutS z (some (i : Int)) (some (j : Int)))) H2 := fun e0 => by
      have ejj : j = i + runL (TL.tl al) ((TL.tl z).drop i) := by omega
      have ec : cutS z (some (i : Int)) (some (j : Int)) = ⟨(((TL.tl z).drop i).take (runL (TL.tl al) ((TL.tl z).drop i))).toArray⟩ := by
        unfold cutS
        rw [HT.sIx_nat, HT.sIx_nat, Nat.min_eq_left li, Nat.min_eq_left jz, show j - i = runL (TL.tl al) ((TL.tl z).drop i) by omega]
      rw [ec]
      refine k H2 ⟨dx, ?_⟩ k2
      rw [← ejj]
      exact h2
    refine ite2 (fun c1 => ?_) (fun c1 => ?_)
    · have c1 : j < z.length := by
        have := of_decide_eq_true c1
        omega
      have c1' : j < (TL.tl z).length := by rw [← TL.len_tl]; exact c1
      walk_at "rs"
      refine ⟨p, _, dx, _, .str z, rfl, h2, T.cl_Reader, T.a_Reader_text, rfl, ?_⟩
      walk_at "rs"
      refine ⟨p, _, dx, _, .int (j : Int), rfl, h2, T.cl_Reader, T.a_Reader_at, rfl, ?_⟩
      walk_at "rs"
      obtain ⟨c, rest, ed⟩ : ∃ c rest, (TL.tl z).drop j = c :: rest := by
        cases e : (TL.tl z).drop j with
        | nil =>
          have := congrArg List.length e
          rw [List.length_drop, List.length_nil] at this
          omega
        | cons c rest => exact ⟨c, rest, rfl⟩
      have eg : (TL.tl z)[j]? = some c := by
        have : ((TL.tl z).drop j)[0]? = some c := by rw [ed]; rfl
        rw [List.getElem?_drop] at this
        simpa using this
      have er : (TL.tl z).drop (j + 1) = rest := by
        rw [← List.drop_drop, ed]
        rfl
      refine ⟨z, j, c, rfl, rfl, (by rw [sizeLine_eq]; omega), atI_nat eg, ?_⟩
      walk_at "rs"
      refine ite2 (fun c2 => ?_) (fun c2 => ?_)
      · have c2 : c ∈ TL.tl al := of_decide_eq_true c2
        have e1 : runL (TL.tl al) ((TL.tl z).drop j) = runL (TL.tl al) ((TL.tl z).drop (j + 1)) + 1 := by
          rw [ed, er, runL, if_pos c2]
        refine ⟨fun σ' H' => σ' = [some (.ref p), some (.str al), some (.int (i : Int))] ∧ H' = upd H2 p (.ins a.C_Reader dx [("text", .str z), ("at", .int ((j + 1 : Nat) : Int))]), fun σ' H' w => ?_, ?_⟩
        · obtain ⟨rfl, rfl⟩ := w
          exact ⟨z.length - (j + 1), by omega, j + 1, rfl, rfl, upd_same, fun b o n e => by rw [upd_ne n]; exact k2 b o n e, by omega, by omega, by omega⟩
        walk_at "rs"
        refine ⟨p, _, dx, _, .int (j : Int), rfl, h2, T.cl_Reader, T.a_Reader_at, rfl, ?_⟩
        walk_at "rs"
        exact ⟨dx, _, h2, (by show 2 < 1000; decide), rfl, rfl⟩
      · have c2 : ¬ c ∈ TL.tl al := fun h => c2 (decide_eq_true h)
        have e0 : runL (TL.tl al) ((TL.tl z).drop j) = 0 := by
          rw [ed, runL, if_neg c2]
        walk_at "rs"
        refine ⟨p, _, dx, _, .str z, rfl, h2, T.cl_Reader, T.a_Reader_text, rfl, ?_⟩
        walk_at "rs"
        refine ⟨p, _, dx, _, .int (j : Int), rfl, h2, T.cl_Reader, T.a_Reader_at, rfl, ?_⟩
        walk_at "rs"
        exact ⟨(by rw [sizeLine_eq]; omega), fin e0⟩
    · have c1 : ¬ j < z.length := fun h => c1 (decide_eq_true (by omega))
      have e0 : runL (TL.tl al) ((TL.tl z).drop j) = 0 := by
        rw [List.drop_eq_nil_of_le (by rw [← TL.len_tl]; omega)]
        rfl
      walk_at "rs"
      refine ⟨p, _, dx, _, .str z, rfl, h2, T.cl_Reader, T.a_Reader_text, rfl, ?_⟩
      walk_at "rs"
      refine ⟨p, _, dx, _, .int (j : Int), rfl, h2, T.cl_Reader, T.a_Reader_at, rfl, ?_⟩
      walk_at "rs"
      exact ⟨(by rw [sizeLine_eq]; omega), fin e0⟩

theorem starts_one {z : Str} {c i : Nat} (li : i ≤ z.length) : Txt.startswith3 z ⟨#[c]⟩ (i : Int) = decide ((TL.tl z)[i]? = some c) := by
  have ef : PySem.fromIndex z.length (i : Int) = i := by
    unfold PySem.fromIndex
    rw [if_neg (by omega)]
    omega
  unfold Txt.startswith3
  rw [ef]
  have h := PySem.StrLaws.subAt_one z c i
  rw [Bool.eq_iff_iff, Bool.and_eq_true, decide_eq_true_iff, decide_eq_true_iff]
  exact h
theorem ok_Reader_skip (TE : TxtE P w K mg a) (T : Txt K mg a) : ∃ fd, FnOk P w K mg base (L2.CX P w) 1 a.d_Reader_skip fd ["self", "mark"] (spSkip a.C_Reader a.C_BadCommand) ∧ Binds K fd ["self", "mark"] [] := by
  obtain ⟨fd, F, b⟩ := T.d_Reader_skip.F
  refine ⟨fd, F.okX sc_Reader_skip (fun vs H Q E h => ?_) (fun cdv A outer s H vs Q E hr h => ?_), b⟩
  · obtain ⟨_, _, _, _, rfl, _⟩ := h
    rfl
  · obtain ⟨p, z, c, i, rfl, ⟨dx, hp⟩, lz, li, k1, k2⟩ := h
    refine ⟨_, (pss_cons (ps_if (pt_not (pt_val (pe_bm PySem.F.plainAttrs_str PySem.F.slot_str_startswith PySem.F.type_str_startswith mt_startswith3 (pe_fld (pv 0) rfl) (pa_cons (pv 1) (pa_cons (pe_fld (pv 0) rfl) pa_nil)))))
      (pss_one (ps_raise rfl (takes_of rfl rfl rfl rfl) (pmk_own PySem.F.excBase_ValueError TE.x_BadCommand TE.g_BadCommand TE.kc_BadCommand (raises_own TE.b_BadCommand TE.t_BadCommand) rfl)))
      pss_nil)
      (pss_one (ps_fldaug (pv 0) pe_int in_add))), ?_⟩
    walk_at "rs"
    refine ⟨p, _, dx, _, .str z, rfl, hp, T.cl_Reader, T.a_Reader_text, rfl, ?_⟩
    walk_at "rs"
    refine ⟨p, _, dx, _, .int (i : Int), rfl, hp, T.cl_Reader, T.a_Reader_at, rfl, ?_⟩
    walk_at "rs"
    refine ⟨z, _, _, rfl, rfl, ?_⟩
    rw [starts_one li]
    by_cases c0 : (TL.tl z)[i]? = some c
    · rw [decide_eq_true c0]
      walk_at "rs"
      refine ⟨p, _, dx, _, .int (i : Int), rfl, hp, T.cl_Reader, T.a_Reader_at, rfl, ?_⟩
      walk_at "rs"
      refine ⟨dx, _, hp, (by show 2 < 1000; decide), ?_⟩
      exact k1 c0 _ ⟨dx, upd_same⟩ fun b o n e => by rw [upd_ne n]; exact e
    · rw [decide_eq_false c0]
      walk_at "rs"
      exact k2 c0

theorem run_le (al : List Nat) : ∀ l : List Nat, runL al l ≤ l.length
  | [] => Nat.le_refl _
  | c :: r => by
    have := run_le al r
    rw [runL]
    split
    · rw [List.length_cons]
      omega
    · exact Nat.zero_le _
theorem run_mem (al : List Nat) : ∀ (l : List Nat), ∀ n ∈ l.take (runL al l), n ∈ al
  | [], n, h => by cases h
  | c :: r, n, h => by
    rw [runL] at h
    split at h
    · rename_i hc
      rw [List.take_succ_cons] at h
      rcases List.mem_cons.mp h with rfl | h
      · exact hc
      · exact run_mem al r n h
    · rw [List.take_zero] at h
      cases h
theorem digs_len (z : Str) (i : Nat) : (digsAt z i).length = runL (TL.tl "0123456789") ((TL.tl z).drop i) := by
  unfold digsAt
  rw [List.length_take]
  exact Nat.min_eq_left (run_le _ _)
theorem digs_all (z : Str) (i : Nat) : NumText.AllDigits (digsAt z i) := fun n hn => by
  have h := run_mem _ _ n hn
  have e : TL.tl "0123456789" = [48, 49, 50, 51, 52, 53, 54, 55, 56, 57] := by decide +kernel
  rw [e] at h
  simp only [List.mem_cons, List.not_mem_nil, or_false] at h
  omega
theorem ok_Reader_read_number (TE : TxtE P w K mg a) (T : Txt K mg a) : ∃ fd, FnOk P w K mg base (L2.CX P w) 2 a.d_Reader_read_number fd ["self"] (spNumR a.C_Reader a.C_BadCommand) ∧ Binds K fd ["self"] [] := by
  obtain ⟨fd, F, b⟩ := T.d_Reader_read_number.F
  obtain ⟨fd_Reader_read_signs, G_Reader_read_signs, b_Reader_read_signs⟩ := ok_Reader_read_signs (P := P) (w := w) (base := base) T
  refine ⟨fd, F.okX sc_Reader_read_number (fun vs H Q E h => ?_) (fun cdv A outer s H vs Q E hr h => ?_), b⟩
  · obtain ⟨_, _, _, rfl, _⟩ := h
    rfl
  · obtain ⟨p, z, i, rfl, ⟨dx, hp⟩, lz, li, k1, k2⟩ := h
    refine ⟨_, (pss_cons (ps_set (i := 1) sc_Reader_read_number.nd rfl (Or.inl rfl) (pe_meth (pv 0) T.cl_Reader T.me_Reader_read_signs G_Reader_read_signs (hr.mono (by decide)) b_Reader_read_signs .nil pass0 (pa_cons (pe_glob (v := (.str "0123456789")) rfl T.c_DIGITS.choose_spec ⟨_, rfl⟩) pa_nil)))
      (pss_cons (ps_if (PW.pt (pw_or (pt_cmpR op_lt (pe_callB call_len_str (by rfl) T.n_len PySem.boot_len (pa_cons (pv 1) pa_nil)) pe_int (nomark _)) (pw_or (pt_cmpR op_gt (pe_callB call_len_str (by rfl) T.n_len PySem.boot_len (pa_cons (pv 1) pa_nil)) (pe_glob (v := (.int 6)) rfl T.c_MOST_DIGITS_commands.choose_spec ⟨_, rfl⟩) (nomark _)) (pw_or1 (PW.pt (pw_and (pt_cmpR op_eq (pe_ix ix_str (pv 1) pe_int (fun _ _ => rfl)) pe_str (nomark _)) (pw_and1 (pt_cmpR op_ne (pv 1) pe_str (nomark _)))))))))
      (pss_one (ps_raise rfl (takes_of rfl rfl rfl rfl) (pmk_own PySem.F.excBase_ValueError TE.x_BadCommand TE.g_BadCommand TE.kc_BadCommand (raises_own TE.b_BadCommand TE.t_BadCommand) rfl)))
      pss_nil)
      (pss_one (ps_ret (pe_callTy call_int_str (by rfl) T.n_int (by decide +kernel) (pa_cons (pv 1) pa_nil)))))), ?_⟩
    walk_at "rs"
    refine ⟨p, dx, _, rfl, hp, rfl, ?_⟩
    walk_at "rs"
    refine ⟨p, z, _, i, rfl, ⟨dx, hp⟩, lz, li, fun H1 h1 kp => ?_⟩
    rw [show (⟨(((TL.tl z).drop i).take (runL (TL.tl "0123456789") ((TL.tl z).drop i))).toArray⟩ : Str) = ⟨(digsAt z i).toArray⟩ from rfl]
    rw [← digs_len] at h1
    have hall := digs_all z i
    have lw : (digsAt z i).length ≤ 1000 := by
      rw [digs_len]
      have := run_le (TL.tl "0123456789") ((TL.tl z).drop i)
      rw [List.length_drop, ← TL.len_tl] at this
      omega
    have k1 := fun g => k1 g H1 h1 kp
    have k2 := fun g => k2 g H1 kp
    generalize digsAt z i = dg at hall lw k1 k2 ⊢
    have el : (⟨dg.toArray⟩ : Str).length = dg.length := by
      rw [TL.len_tl, TL.tl_mk]
    walk_at "rs"
    refine ⟨(by rw [el, sizeLine_eq]; omega), ?_⟩
    walk_at "rs"
    refine ite2 (fun c1 => ?_) (fun c1 => ?_)
    · have c1 := of_decide_eq_true c1
      refine k2 fun g => ?_
      have := g.1
      rw [el] at c1
      omega
    · have c1 : ¬ dg.length < 1 := fun h => c1 (decide_eq_true (by rw [el]; omega))
      walk_at "rs"
      refine ⟨(by rw [el, sizeLine_eq]; omega), ?_⟩
      walk_at "rs"
      refine ite2 (fun c2 => ?_) (fun c2 => ?_)
      · have c2 := of_decide_eq_true c2
        refine k2 fun g => ?_
        have := g.2.1
        rw [el] at c2
        omega
      · have c2 : ¬ 6 < dg.length := fun h => c2 (decide_eq_true (by rw [el]; omega))
        cases dg with
        | nil => exact absurd (by decide) c1
        | cons d r =>
          walk_at "rs"
          refine ⟨_, 0, d, rfl, rfl, (by rw [el, sizeLine_eq]; omega), atI_nat (j := 0) rfl, ?_⟩
          walk_at "rs"
          have z48 : (Str.ofString "0") = ⟨#[48]⟩ := rfl
          have fin : NumW (d :: r) → (∃ (x : Str) (n : Int), [V.str ⟨(d :: r).toArray⟩] = [V.str x] ∧ PySem.intText? x = some n ∧ x.length ≤ 640 ∧ Q (.int n) H1) := fun g =>
            ⟨_, _, rfl, PySem.intText_digits (x := ⟨(d :: r).toArray⟩) hall (fun e => nomatch e) (by rw [el]; have := g.2.1; omega), by rw [el]; have := g.2.1; omega, k1 g⟩
          refine ite2 (fun c3 => ?_) (fun c3 => ?_)
          · have c3 : d = 48 := by
              have := of_decide_eq_true c3
              rw [z48] at this
              simpa using this
            walk_at "rs"
            refine ite2 (fun c4 => ?_) (fun c4 => ?_)
            · refine k2 fun g => g.2.2 ⟨by rw [c3]; rfl, fun e => ?_⟩
              rw [e, z48] at c4
              simp at c4
            · have e : d :: r = [48] := by
                rw [z48] at c4
                simp at c4
                rw [c4.1, c4.2]
              walk_at "rs"
              exact fin ⟨by rw [e]; decide, by rw [e]; decide, fun g => g.2 e⟩
          · have c3 : d ≠ 48 := fun e => c3 (by rw [e, z48]; simp)
            walk_at "rs"
            exact fin ⟨by simp, by omega, fun g => c3 (by simpa using g.1)⟩

/-- the signs of a program that stand at i -/
def codeAt (z : Str) (i : Nat) : List Nat := ((TL.tl z).drop i).take (runL (TL.tl "0123456789ginasmtcehlujfyo") ((TL.tl z).drop i))
def spCodeR (C CE : Addr) : Sp := fun vs H Q E => ∃ (p : Addr) (z : Str) (i : Nat), vs = [.ref p] ∧ RdAt C H p z i ∧ z.length ≤ 1000 ∧ i ≤ z.length ∧
  ((TL.tl z)[i + (codeAt z i).length]? = some 122 → ∀ H', RdAt C H' p z (i + (codeAt z i).length + 1) → (∀ b o, b ≠ p → H b = some o → H' b = some o) → Q (.str ⟨(codeAt z i).toArray⟩) H') ∧
  ((TL.tl z)[i + (codeAt z i).length]? ≠ some 122 → ∀ H', (∀ b o, b ≠ p → H b = some o → H' b = some o) → E (.ref CE) none H')
theorem code_len (z : Str) (i : Nat) : (codeAt z i).length = runL (TL.tl "0123456789ginasmtcehlujfyo") ((TL.tl z).drop i) := by
  unfold codeAt
  rw [List.length_take]
  exact Nat.min_eq_left (run_le _ _)
theorem ok_Reader_read_code (TE : TxtE P w K mg a) (T : Txt K mg a) : ∃ fd, FnOk P w K mg base (L2.CX P w) 2 a.d_Reader_read_code fd ["self"] (spCodeR a.C_Reader a.C_BadCommand) ∧ Binds K fd ["self"] [] := by
  obtain ⟨fd, F, b⟩ := T.d_Reader_read_code.F
  obtain ⟨fd_Reader_read_signs, G_Reader_read_signs, b_Reader_read_signs⟩ := ok_Reader_read_signs (P := P) (w := w) (base := base) T
  obtain ⟨fd_Reader_skip, G_Reader_skip, b_Reader_skip⟩ := ok_Reader_skip (P := P) (w := w) (base := base) TE T
  refine ⟨fd, F.okX sc_Reader_read_code (fun vs H Q E h => ?_) (fun cdv A outer s H vs Q E hr h => ?_), b⟩
  · obtain ⟨_, _, _, rfl, _⟩ := h
    rfl
  · obtain ⟨p, z, i, rfl, ⟨dx, hp⟩, lz, li, k1, k2⟩ := h
    refine ⟨_, (pss_cons (ps_set (i := 1) sc_Reader_read_code.nd rfl (Or.inl rfl) (pe_meth (pv 0) T.cl_Reader T.me_Reader_read_signs G_Reader_read_signs (hr.mono (by decide)) b_Reader_read_signs .nil pass0 (pa_cons (pe_glob (v := (.str "0123456789ginasmtcehlujfyo")) rfl T.c_SIGNS.choose_spec ⟨_, rfl⟩) pa_nil)))
      (pss_cons (ps_expr (pe_meth (pv 0) T.cl_Reader T.me_Reader_skip G_Reader_skip (hr.mono (by decide)) b_Reader_skip .nil (L2.passes_call (W := fun c d _ H => E c d H) (E := E) (L2.takes_of rfl rfl rfl rfl) (fun _ _ _ _ h => h)) (pa_cons (pe_glob (v := (.str "z")) rfl T.c_CODE_END.choose_spec ⟨_, rfl⟩) pa_nil)))
      (pss_one (ps_ret (pv 1))))), ?_⟩
    walk_at "rs"
    refine ⟨p, dx, _, rfl, hp, rfl, ?_⟩
    walk_at "rs"
    refine ⟨p, z, _, i, rfl, ⟨dx, hp⟩, lz, li, fun H1 h1 kp => ?_⟩
    rw [show (⟨(((TL.tl z).drop i).take (runL (TL.tl "0123456789ginasmtcehlujfyo") ((TL.tl z).drop i))).toArray⟩ : Str) = ⟨(codeAt z i).toArray⟩ from rfl]
    rw [← code_len] at h1
    have lc : i + (codeAt z i).length ≤ z.length := by
      rw [code_len]
      have := run_le (TL.tl "0123456789ginasmtcehlujfyo") ((TL.tl z).drop i)
      rw [List.length_drop, ← TL.len_tl] at this
      omega
    obtain ⟨dx1, hp1⟩ := id h1
    walk_at "rs"
    refine ⟨p, dx1, _, rfl, hp1, rfl, ?_⟩
    walk_at "rs"
    refine ⟨p, z, 122, _, rfl, h1, lz, lc, fun e H2 h2 kp2 => ?_, fun e => k2 e H1 kp⟩
    walk_at "rs"
    exact k1 e H2 h2 fun b o n q => kp2 b o n (kp b o n q)

/-! ### the reader's model -/
theorem dig10 : TL.tl "0123456789" = [48, 49, 50, 51, 52, 53, 54, 55, 56, 57] := by decide +kernel
theorem run_app {al : List Nat} : ∀ {v : List Nat} {r : List Nat}, (∀ n ∈ v, n ∈ al) → runL al (v ++ r) = v.length + runL al r
  | [], r, _ => by simp
  | c :: v, r, h => by
    rw [List.cons_append, runL, if_pos (h c List.mem_cons_self), run_app fun n hn => h n (List.mem_cons_of_mem _ hn), List.length_cons]
    omega
theorem run_stop {al : List Nat} : ∀ {r : List Nat}, (∀ c, r.head? = some c → c ∉ al) → runL al r = 0
  | [], _ => rfl
  | c :: r, h => by rw [runL, if_neg (h c rfl)]
theorem run_cut {al v r : List Nat} (h : ∀ n ∈ v, n ∈ al) (hr : ∀ c, r.head? = some c → c ∉ al) : runL al (v ++ r) = v.length := by
  rw [run_app h, run_stop hr]
  rfl
instance decNumW (v : List Nat) : Decidable (NumW v) := by unfold NumW; infer_instance
def numP (l : List Nat) : Option (V × List Nat) :=
  if NumW (l.take (runL (TL.tl "0123456789") l)) then some (.int (NumText.digitsVal (l.take (runL (TL.tl "0123456789") l)) : Nat), l.drop (runL (TL.tl "0123456789") l)) else none
def codeP (l : List Nat) : Option (V × List Nat) :=
  if l[runL (TL.tl "0123456789ginasmtcehlujfyo") l]? = some 122 then some (.str ⟨(l.take (runL (TL.tl "0123456789ginasmtcehlujfyo") l)).toArray⟩, l.drop (runL (TL.tl "0123456789ginasmtcehlujfyo") l + 1)) else none
def partP (m : Nat) : List Nat → Option (V × List Nat)
  | [] => none
  | c :: r => if c = m then (if m = 122 then codeP r else numP r) else none
def partsP : List Nat → List Nat → Option (List V × List Nat)
  | [], l => some ([], l)
  | m :: ms, l => match partP m l with
    | none => none
    | some (v, r) => match partsP ms r with
      | none => none
      | some (vs, q) => some (v :: vs, q)
theorem numL_head2 : ∀ (n : Nat), 0 < n → (TL.numL n).head? ≠ some 48
  | n, h => by
    rcases Nat.lt_or_ge n 10 with z | z
    · rw [TL.numL_lt z]
      simp
      omega
    · rw [TL.numL_step z]
      have ih := numL_head2 (n / 10) (by omega)
      have ne := TL.numL_ne (n / 10)
      cases e : TL.numL (n / 10) with
      | nil => exact absurd e ne
      | cons c l =>
        rw [e] at ih
        exact ih
theorem numL_long : ∀ (k n : Nat), 10 ^ k ≤ n → k < (TL.numL n).length
  | 0, n, _ => List.length_pos_iff.mpr (TL.numL_ne n)
  | k + 1, n, h => by
    have p : 0 < 10 ^ k := Nat.pow_pos (by decide)
    rw [Nat.pow_succ] at h
    have := numL_long k (n / 10) (by omega)
    rw [TL.numL_step (by omega), List.length_append, List.length_singleton]
    omega
theorem digs_toNat : ∀ {v : List Nat}, NumText.AllDigits v → (v.map Char.ofNat).map Char.toNat = v
  | [], _ => rfl
  | c :: v, h => by
    have hc := h c List.mem_cons_self
    have ih := digs_toNat (v := v) fun n hn => h n (List.mem_cons_of_mem _ hn)
    rw [List.map_cons, List.map_cons, ih]
    congr 1
    have : ∀ i : Fin 58, (Char.ofNat i.val).toNat = i.val := by decide +kernel
    exact this ⟨c, by omega⟩
theorem num_back {v : List Nat} (h : NumW v) (d : NumText.AllDigits v) : NOk (NumText.digitsVal v : Nat) ∧ TL.tl (nu (NumText.digitsVal v : Nat)) = v := by
  obtain ⟨h1, h2, h3⟩ := h
  have e : TL.numL (NumText.digitsVal v) = v := by
    unfold TL.numL
    rw [NumText.toDigits_digitsVal (v.length - 1) v (by omega) d, digs_toNat d]
    rcases Nat.lt_or_ge 1 v.length with z | z
    · right
      cases v with
      | nil => simp at h1
      | cons c r =>
        refine ⟨c, r, rfl, ?_⟩
        have hc := d c List.mem_cons_self
        rcases Nat.lt_or_ge c 49 with y | y
        · exfalso
          refine h3 ⟨?_, fun q => ?_⟩
          · have : c = 48 := by omega
            rw [this]
            rfl
          · rw [q] at z
            simp at z
        · exact y
    · left
      omega
  refine ⟨⟨Int.natCast_nonneg _, ?_⟩, ?_⟩
  · rcases Nat.lt_or_ge (NumText.digitsVal v) (10 ^ 6) with z | z
    · have : (10 : Nat) ^ 6 = 1000000 := by decide
      omega
    · have := numL_long 6 _ z
      rw [e] at this
      omega
  · show TL.tl (Str.ofString (toString ((NumText.digitsVal v : Nat) : Int))) = v
    rw [TL.tl_num, e]
theorem take_run_digits (l : List Nat) : NumText.AllDigits (l.take (runL (TL.tl "0123456789") l)) := fun n hn => by
  have h := run_mem _ _ n hn
  rw [dig10] at h
  simp only [List.mem_cons, List.not_mem_nil, or_false] at h
  omega
theorem numP_ok {l : List Nat} {v : V} {r : List Nat} (h : numP l = some (v, r)) : ∃ i, v = .int i ∧ NOk i ∧ TL.tl (nu i) ++ r = l := by
  unfold numP at h
  split at h
  · rename_i c
    cases h
    obtain ⟨h1, h2⟩ := num_back c (take_run_digits l)
    refine ⟨_, rfl, h1, ?_⟩
    rw [h2]
    exact List.take_append_drop _ _
  · cases h
theorem codeP_ok {l : List Nat} {v : V} {r : List Nat} (h : codeP l = some (v, r)) : ∃ s : Str, v = .str s ∧ Sgn s ∧ TL.tl s ++ 122 :: r = l := by
  unfold codeP at h
  split at h
  · rename_i c
    cases h
    refine ⟨_, rfl, fun n hn => run_mem _ _ n hn, ?_⟩
    rw [TL.tl_mk]
    have hlt := (List.getElem?_eq_some_iff.mp c).1
    have e : l.drop (runL (TL.tl "0123456789ginasmtcehlujfyo") l) = 122 :: l.drop (runL (TL.tl "0123456789ginasmtcehlujfyo") l + 1) := by
      rw [List.drop_eq_getElem_cons hlt, (List.getElem?_eq_some_iff.mp c).2]
    rw [← e]
    exact List.take_append_drop _ _
  · cases h
theorem partP_ok {m : Nat} {l : List Nat} {v : V} {r : List Nat} (h : partP m l = some (v, r)) : (m ≠ 122 ∧ ∃ i, v = .int i ∧ NOk i ∧ m :: (TL.tl (nu i) ++ r) = l) ∨ (m = 122 ∧ ∃ s : Str, v = .str s ∧ Sgn s ∧ 122 :: (TL.tl s ++ 122 :: r) = l) := by
  cases l with
  | nil => cases h
  | cons c q =>
    rw [partP] at h
    split at h
    · rename_i e
      subst e
      split at h
      · rename_i e
        obtain ⟨s, h1, h2, h3⟩ := codeP_ok h
        exact .inr ⟨e, s, h1, h2, by rw [h3, e]⟩
      · rename_i e
        obtain ⟨i, h1, h2, h3⟩ := numP_ok h
        exact .inl ⟨e, i, h1, h2, by rw [h3]⟩
    · cases h
theorem partP_int {m : Nat} {l : List Nat} {v : V} {r : List Nat} (hm : m ≠ 122) (h : partP m l = some (v, r)) : ∃ i, v = .int i ∧ NOk i ∧ m :: (TL.tl (nu i) ++ r) = l := by
  rcases partP_ok h with ⟨_, h⟩ | ⟨h, _⟩
  · exact h
  · exact absurd h hm
theorem partP_code {l : List Nat} {v : V} {r : List Nat} (h : partP 122 l = some (v, r)) : ∃ s : Str, v = .str s ∧ Sgn s ∧ 122 :: (TL.tl s ++ 122 :: r) = l := by
  rcases partP_ok h with ⟨h, _⟩ | ⟨_, h⟩
  · exact absurd rfl h
  · exact h
theorem partsP_cons {m : Nat} {ms l : List Nat} {vs : List V} {q : List Nat} (h : partsP (m :: ms) l = some (vs, q)) : ∃ v r us, partP m l = some (v, r) ∧ partsP ms r = some (us, q) ∧ vs = v :: us := by
  rw [partsP] at h
  split at h
  · cases h
  · rename_i v r e
    split at h
    · cases h
    · rename_i us q' e2
      cases h
      exact ⟨v, r, us, e, e2, rfl⟩
theorem partsP_nil {l : List Nat} {vs : List V} {q : List Nat} (h : partsP [] l = some (vs, q)) : vs = [] ∧ q = l := by
  cases h
  exact ⟨rfl, rfl⟩
def ckOf (c : Nat) : Option (List Nat) := if c = 112 then some [112, 113, 114] else if c = 119 then some [119, 120] else if c = 100 then some [100, 122] else if c = 107 then some [107, 98, 118] else none
def mkC (c : Nat) : List V → Cm
  | [.int a, .int b, .int d] => if c = 112 then .p a b d else .k a b d
  | [.int a, .int b] => .w a b
  | [.int a, .str s] => .d a s
  | _ => default
def cmdP : List Nat → Option (Cm × List Nat)
  | [] => none
  | c :: r => match ckOf c with
    | none => none
    | some ms => match partsP ms (c :: r) with
      | none => none
      | some (vs, q) => some (mkC c vs, q)
theorem tl1 {c : Nat} : TL.tl ⟨#[c]⟩ = [c] := rfl
theorem mk_ok {c : Nat} {ms r : List Nat} {vs : List V} {q : List Nat} (hk : ckOf c = some ms) (h : partsP ms (c :: r) = some (vs, q)) :
    (mkC c vs).ki = ⟨#[c]⟩ ∧ (mkC c vs).ps = vs ∧ TL.tl (mkC c vs).txt ++ q = c :: r ∧ (mkC c vs).right := by
  unfold ckOf at hk
  split at hk
  · rename_i e
    cases hk
    subst e
    obtain ⟨v1, r1, u1, a1, b1, rfl⟩ := partsP_cons h
    obtain ⟨v2, r2, u2, a2, b2, rfl⟩ := partsP_cons b1
    obtain ⟨v3, r3, u3, a3, b3, rfl⟩ := partsP_cons b2
    obtain ⟨rfl, rfl⟩ := partsP_nil b3
    obtain ⟨i1, rfl, o1, e1⟩ := partP_int (by decide) a1
    obtain ⟨i2, rfl, o2, e2⟩ := partP_int (by decide) a2
    obtain ⟨i3, rfl, o3, e3⟩ := partP_int (by decide) a3
    refine ⟨rfl, rfl, ?_, o1, o2, o3⟩
    rw [← e1, ← e2, ← e3]
    show TL.tl ("p" ++ nu i1 ++ "q" ++ nu i2 ++ "r" ++ nu i3) ++ q = _
    simp only [TL.tl_append, List.append_assoc]
    rfl
  · split at hk
    · rename_i e
      cases hk
      subst e
      obtain ⟨v1, r1, u1, a1, b1, rfl⟩ := partsP_cons h
      obtain ⟨v2, r2, u2, a2, b2, rfl⟩ := partsP_cons b1
      obtain ⟨rfl, rfl⟩ := partsP_nil b2
      obtain ⟨i1, rfl, o1, e1⟩ := partP_int (by decide) a1
      obtain ⟨i2, rfl, o2, e2⟩ := partP_int (by decide) a2
      refine ⟨rfl, rfl, ?_, o1, o2⟩
      rw [← e1, ← e2]
      show TL.tl ("w" ++ nu i1 ++ "x" ++ nu i2) ++ q = _
      simp only [TL.tl_append, List.append_assoc]
      rfl
    · split at hk
      · rename_i e
        cases hk
        subst e
        obtain ⟨v1, r1, u1, a1, b1, rfl⟩ := partsP_cons h
        obtain ⟨v2, r2, u2, a2, b2, rfl⟩ := partsP_cons b1
        obtain ⟨rfl, rfl⟩ := partsP_nil b2
        obtain ⟨i1, rfl, o1, e1⟩ := partP_int (by decide) a1
        obtain ⟨i2, rfl, o2, e2⟩ := partP_code a2
        refine ⟨rfl, rfl, ?_, o1, o2⟩
        rw [← e1, ← e2]
        show TL.tl ("d" ++ nu i1 ++ "z" ++ i2 ++ "z") ++ q = _
        simp only [TL.tl_append, List.append_assoc]
        rfl
      · split at hk
        · rename_i e
          cases hk
          subst e
          obtain ⟨v1, r1, u1, a1, b1, rfl⟩ := partsP_cons h
          obtain ⟨v2, r2, u2, a2, b2, rfl⟩ := partsP_cons b1
          obtain ⟨v3, r3, u3, a3, b3, rfl⟩ := partsP_cons b2
          obtain ⟨rfl, rfl⟩ := partsP_nil b3
          obtain ⟨i1, rfl, o1, e1⟩ := partP_int (by decide) a1
          obtain ⟨i2, rfl, o2, e2⟩ := partP_int (by decide) a2
          obtain ⟨i3, rfl, o3, e3⟩ := partP_int (by decide) a3
          refine ⟨rfl, rfl, ?_, o1, o2, o3⟩
          rw [← e1, ← e2, ← e3]
          show TL.tl ("k" ++ nu i1 ++ "b" ++ nu i2 ++ "v" ++ nu i3) ++ q = _
          simp only [TL.tl_append, List.append_assoc]
          rfl
        · cases hk
theorem cmdP_ok {l : List Nat} {x : Cm} {q : List Nat} (h : cmdP l = some (x, q)) : TL.tl x.txt ++ q = l ∧ x.right := by
  cases l with
  | nil => cases h
  | cons c r =>
    rw [cmdP] at h
    split at h
    · cases h
    · rename_i ms hk
      split at h
      · cases h
      · rename_i vs q' hp
        cases h
        exact (mk_ok hk hp).2.2
def NoDig (r : List Nat) : Prop := ∀ c, r.head? = some c → c ∉ TL.tl "0123456789"
theorem num_w {i : Int} (h : NOk i) : NumW (TL.tl (nu i)) := by
  obtain ⟨h0, h1⟩ := id h
  rw [nu_tl h]
  refine ⟨List.length_pos_iff.mpr (TL.numL_ne _), TL.numL_len (by decide) (by omega), fun ⟨g1, g2⟩ => ?_⟩
  rcases Nat.eq_zero_or_pos i.toNat with z | z
  · rw [z] at g2
    exact g2 (by decide +kernel)
  · exact numL_head2 _ z g1
theorem numP_nu {i : Int} (h : NOk i) {r : List Nat} (hr : NoDig r) : numP (TL.tl (nu i) ++ r) = some (.int i, r) := by
  have hd : ∀ n ∈ TL.tl (nu i), n ∈ TL.tl "0123456789" := fun n hn => by
    rw [nu_tl h] at hn
    have := TL.numL_digits _ n hn
    rw [dig10]
    simp only [List.mem_cons, List.not_mem_nil, or_false]
    omega
  have er : runL (TL.tl "0123456789") (TL.tl (nu i) ++ r) = (TL.tl (nu i)).length := run_cut hd hr
  unfold numP
  rw [er, List.take_left', List.drop_left', if_pos (num_w h)]
  · rw [nu_tl h, TL.numL_val, Int.toNat_of_nonneg h.1]
  · rfl
  · rfl
theorem codeP_s {s : Str} (h : Sgn s) {r : List Nat} : codeP (TL.tl s ++ 122 :: r) = some (.str s, r) := by
  have er : runL (TL.tl "0123456789ginasmtcehlujfyo") (TL.tl s ++ 122 :: r) = (TL.tl s).length := run_cut h fun c hc => by
    cases hc
    decide +kernel
  unfold codeP
  have e1 : (TL.tl s ++ 122 :: r).drop ((TL.tl s).length + 1) = r := by
    rw [← List.drop_drop, List.drop_left' rfl]
    rfl
  have e2 : (TL.tl s ++ 122 :: r)[(TL.tl s).length]? = some 122 := by
    rw [List.getElem?_append_right (Nat.le_refl _), Nat.sub_self]
    rfl
  rw [er, if_pos e2, List.take_left' rfl, e1]
theorem partP_nu {m : Nat} (hm : m ≠ 122) {i : Int} (h : NOk i) {r : List Nat} (hr : NoDig r) : partP m (m :: (TL.tl (nu i) ++ r)) = some (.int i, r) := by
  rw [partP, if_pos rfl, if_neg hm]
  exact numP_nu h hr
theorem partP_s {s : Str} (h : Sgn s) {r : List Nat} : partP 122 (122 :: (TL.tl s ++ 122 :: r)) = some (.str s, r) := by
  rw [partP, if_pos rfl, if_pos rfl]
  exact codeP_s h
theorem noDig_cons {c : Nat} {r : List Nat} (h : c ∉ TL.tl "0123456789") : NoDig (c :: r) := fun d hd => by
  cases hd
  exact h
theorem partsP_step {m : Nat} {ms l : List Nat} {v : V} {r : List Nat} {us : List V} {q : List Nat} (h1 : partP m l = some (v, r)) (h2 : partsP ms r = some (us, q)) : partsP (m :: ms) l = some (v :: us, q) := by
  rw [partsP, h1]
  dsimp only
  rw [h2]
theorem partsP_end (r : List Nat) : partsP [] r = some ([], r) := rfl
theorem cmdP_txt {x : Cm} (h : x.right) {r : List Nat} (hr : NoDig r) : cmdP (TL.tl x.txt ++ r) = some (x, r) := by
  cases x with
  | p a b c =>
    obtain ⟨o1, o2, o3⟩ := h
    have e : TL.tl (Cm.p a b c).txt ++ r = 112 :: (TL.tl (nu a) ++ 113 :: (TL.tl (nu b) ++ 114 :: (TL.tl (nu c) ++ r))) := by
      show TL.tl ("p" ++ nu a ++ "q" ++ nu b ++ "r" ++ nu c) ++ r = _
      simp only [TL.tl_append, List.append_assoc]
      rfl
    have hp := partsP_step (partP_nu (m := 112) (by decide) o1 (noDig_cons (by decide +kernel))) (partsP_step (partP_nu (m := 113) (by decide) o2 (noDig_cons (by decide +kernel))) (partsP_step (partP_nu (m := 114) (by decide) o3 hr) (partsP_end r)))
    have hk : ckOf 112 = some [112, 113, 114] := rfl
    rw [e, cmdP, hk]
    dsimp only
    rw [hp]
    rfl
  | w a b =>
    obtain ⟨o1, o2⟩ := h
    have e : TL.tl (Cm.w a b).txt ++ r = 119 :: (TL.tl (nu a) ++ 120 :: (TL.tl (nu b) ++ r)) := by
      show TL.tl ("w" ++ nu a ++ "x" ++ nu b) ++ r = _
      simp only [TL.tl_append, List.append_assoc]
      rfl
    have hp := partsP_step (partP_nu (m := 119) (by decide) o1 (noDig_cons (by decide +kernel))) (partsP_step (partP_nu (m := 120) (by decide) o2 hr) (partsP_end r))
    have hk : ckOf 119 = some [119, 120] := rfl
    rw [e, cmdP, hk]
    dsimp only
    rw [hp]
    rfl
  | k a b c =>
    obtain ⟨o1, o2, o3⟩ := h
    have e : TL.tl (Cm.k a b c).txt ++ r = 107 :: (TL.tl (nu a) ++ 98 :: (TL.tl (nu b) ++ 118 :: (TL.tl (nu c) ++ r))) := by
      show TL.tl ("k" ++ nu a ++ "b" ++ nu b ++ "v" ++ nu c) ++ r = _
      simp only [TL.tl_append, List.append_assoc]
      rfl
    have hp := partsP_step (partP_nu (m := 107) (by decide) o1 (noDig_cons (by decide +kernel))) (partsP_step (partP_nu (m := 98) (by decide) o2 (noDig_cons (by decide +kernel))) (partsP_step (partP_nu (m := 118) (by decide) o3 hr) (partsP_end r)))
    have hk : ckOf 107 = some [107, 98, 118] := rfl
    rw [e, cmdP, hk]
    dsimp only
    rw [hp]
    rfl
  | d a s =>
    obtain ⟨o1, o2⟩ := h
    have e : TL.tl (Cm.d a s).txt ++ r = 100 :: (TL.tl (nu a) ++ 122 :: (TL.tl s ++ 122 :: r)) := by
      show TL.tl ("d" ++ nu a ++ "z" ++ s ++ "z") ++ r = _
      simp only [TL.tl_append, List.append_assoc]
      rfl
    have hp := partsP_step (partP_nu (m := 100) (by decide) o1 (noDig_cons (by decide +kernel))) (partsP_step (partP_s o2 (r := r)) (partsP_end r))
    have hk : ckOf 100 = some [100, 122] := rfl
    rw [e, cmdP, hk]
    dsimp only
    rw [hp]
    rfl
def cmdsP : Nat → List Nat → Option (List Cm)
  | _, [] => some []
  | 0, _ :: _ => none
  | n + 1, c :: r => match cmdP (c :: r) with
    | none => none
    | some (x, q) => match cmdsP n q with
      | none => none
      | some xs => some (x :: xs)
def cmdsOf (z : Str) : List Cm := (cmdsP z.length (TL.tl z)).getD []
def catL (xs : List Cm) : List Nat := (xs.map fun c => TL.tl c.txt).flatten
theorem tl_cat : ∀ xs : List Cm, TL.tl (cat xs) = catL xs := fun xs => by
  have h : ∀ (xs : List Cm) (z : Str), TL.tl (xs.foldl (fun z c => z ++ c.txt) z) = TL.tl z ++ catL xs := fun xs => by
    induction xs with
    | nil => intro z; simp [catL]
    | cons c xs ih =>
      intro z
      rw [List.foldl_cons, ih, TL.tl_append]
      simp [catL, List.append_assoc]
  have := h xs Str.empty
  have e : TL.tl Str.empty = [] := rfl
  rw [e, List.nil_append] at this
  exact this
theorem cmdsP_ok : ∀ (n : Nat) (l : List Nat) (xs : List Cm), cmdsP n l = some xs → catL xs = l ∧ ∀ x ∈ xs, x.right
  | n, [], xs, h => by
    have : xs = [] := by cases n <;> (cases h; rfl)
    subst this
    exact ⟨rfl, fun x hx => absurd hx List.not_mem_nil⟩
  | 0, c :: r, xs, h => by cases h
  | n + 1, c :: r, xs, h => by
    rw [cmdsP] at h
    split at h
    · cases h
    · rename_i x q hx
      split at h
      · cases h
      · rename_i ys hy
        cases h
        obtain ⟨e1, g1⟩ := cmdP_ok hx
        obtain ⟨e2, g2⟩ := cmdsP_ok n q ys hy
        refine ⟨?_, fun y hy => ?_⟩
        · rw [← e1, ← e2]
          simp [catL]
        · rcases List.mem_cons.mp hy with rfl | hy
          · exact g1
          · exact g2 y hy
theorem txt_first (x : Cm) : ∃ c r, TL.tl x.txt = c :: r ∧ c ∉ TL.tl "0123456789" := by
  cases x with
  | p a b c => exact ⟨112, _, by show TL.tl ("p" ++ nu a ++ "q" ++ nu b ++ "r" ++ nu c) = _; simp only [TL.tl_append, List.append_assoc]; rfl, by decide +kernel⟩
  | w a b => exact ⟨119, _, by show TL.tl ("w" ++ nu a ++ "x" ++ nu b) = _; simp only [TL.tl_append, List.append_assoc]; rfl, by decide +kernel⟩
  | k a b c => exact ⟨107, _, by show TL.tl ("k" ++ nu a ++ "b" ++ nu b ++ "v" ++ nu c) = _; simp only [TL.tl_append, List.append_assoc]; rfl, by decide +kernel⟩
  | d a s => exact ⟨100, _, by show TL.tl ("d" ++ nu a ++ "z" ++ s ++ "z") = _; simp only [TL.tl_append, List.append_assoc]; rfl, by decide +kernel⟩
theorem catL_cons (x : Cm) (xs : List Cm) : catL (x :: xs) = TL.tl x.txt ++ catL xs := by simp [catL]
theorem catL_noDig : ∀ xs : List Cm, NoDig (catL xs)
  | [] => fun c h => by cases h
  | x :: xs => by
    obtain ⟨c, r, e, h⟩ := txt_first x
    rw [catL_cons, e]
    exact noDig_cons h
theorem cmdsP_cat : ∀ (xs : List Cm) (n : Nat), (∀ x ∈ xs, x.right) → xs.length ≤ n → cmdsP n (catL xs) = some xs
  | [], n, _, _ => by cases n <;> rfl
  | x :: xs, 0, _, h => by simp at h
  | x :: xs, n + 1, g, h => by
    have ih := cmdsP_cat xs n (fun y hy => g y (List.mem_cons_of_mem _ hy)) (by simpa using h)
    have hx := cmdP_txt (g x List.mem_cons_self) (catL_noDig xs)
    obtain ⟨c, r, e, _⟩ := txt_first x
    rw [catL_cons]
    rw [e, List.cons_append] at hx ⊢
    rw [cmdsP, hx]
    dsimp only
    rw [ih]
theorem cat_long : ∀ xs : List Cm, xs.length ≤ (catL xs).length
  | [] => Nat.le_refl _
  | x :: xs => by
    have := cat_long xs
    obtain ⟨c, r, e, _⟩ := txt_first x
    rw [catL_cons, List.length_append, e, List.length_cons, List.length_cons]
    omega
theorem cmdsOf_cat {xs : List Cm} (g : ∀ x ∈ xs, x.right) : cmdsOf (cat xs) = xs := by
  unfold cmdsOf
  rw [TL.len_tl, tl_cat, cmdsP_cat xs _ g (cat_long xs)]
  rfl
theorem cat_one (x : Cm) : cat [x] = x.txt := by
  refine TL.ext_tl ?_
  rw [tl_cat]
  simp [catL]
theorem cmdsOf_one {x : Cm} (g : x.right) : cmdsOf x.txt = [x] := by
  have := cmdsOf_cat (xs := [x]) fun y hy => by rw [List.mem_singleton.mp hy]; exact g
  rwa [cat_one] at this
theorem cmdsOf_right {z : Str} : ∀ x ∈ cmdsOf z, x.right := by
  unfold cmdsOf
  cases e : cmdsP z.length (TL.tl z) with
  | none => intro x hx; cases hx
  | some xs => exact (cmdsP_ok _ _ _ e).2
theorem cmdsOf_text {z : Str} : cmdsOf z = [] ∨ cat (cmdsOf z) = z := by
  unfold cmdsOf
  cases e : cmdsP z.length (TL.tl z) with
  | none => exact .inl rfl
  | some xs =>
    refine .inr (TL.ext_tl ?_)
    rw [tl_cat]
    exact (cmdsP_ok _ _ _ e).1
theorem cmdsOf_iff {x : Cm} : cmdsOf x.txt = [x] ↔ x.right := ⟨fun h => cmdsOf_right x (by rw [h]; exact List.mem_singleton.mpr rfl), cmdsOf_one⟩
theorem cmdsOf_long (z : Str) : (cmdsOf z).length ≤ z.length := by
  rcases cmdsOf_text (z := z) with h | h
  · rw [h]
    exact Nat.zero_le _
  · have := cat_long (cmdsOf z)
    rw [← tl_cat, h, ← TL.len_tl] at this
    exact this

def spReadC (C CE : Addr) : Sp := fun vs H Q E => ∃ (p : Addr) (z : Str) (i : Nat), vs = [.ref p] ∧ RdAt C H p z i ∧ z.length ≤ 1000 ∧ i < z.length ∧
  (∀ c q, cmdP ((TL.tl z).drop i) = some (c, q) → q = (TL.tl z).drop (i + c.txt.length) → i + c.txt.length ≤ z.length → ∀ t H', RdAt C H' p z (i + c.txt.length) → (∀ b o, b ≠ p → H b = some o → H' b = some o) → H t = none → CmAt H' t c → Q (.ref t) H') ∧
  (cmdP ((TL.tl z).drop i) = none → ∀ H', (∀ b o, b ≠ p → H b = some o → H' b = some o) → E (.ref CE) none H')
/-- what stands before each part, by its sign -/
def mksV (ms : List Nat) : List V := ms.map fun m => V.str ⟨#[m]⟩
theorem sign_ne {c d : Nat} (h : c ≠ d) : ((⟨#[c]⟩ : Str) == ⟨#[d]⟩) = false := beq_eq_false_iff_ne.mpr fun e => h (by simpa using e)
theorem marks_get (TE : TxtE P w K mg a) (c : Nat) : (ckOf c = none ∧ [(("p" : Str), a.M_MARKS_p), ("w", a.M_MARKS_w), ("d", a.M_MARKS_d), ("k", a.M_MARKS_k)].lookup ⟨#[c]⟩ = none) ∨
    ∃ ms M, ckOf c = some ms ∧ [(("p" : Str), a.M_MARKS_p), ("w", a.M_MARKS_w), ("d", a.M_MARKS_d), ("k", a.M_MARKS_k)].lookup ⟨#[c]⟩ = some M ∧ (∀ H, SqT K H M (mksV ms)) ∧ ms.length ≤ 3 := by
  by_cases h1 : c = 112
  · subst h1
    exact .inr ⟨_, _, rfl, rfl, fun H => TE.s_MARKS_p H, by decide⟩
  by_cases h2 : c = 119
  · subst h2
    exact .inr ⟨_, _, rfl, rfl, fun H => TE.s_MARKS_w H, by decide⟩
  by_cases h3 : c = 100
  · subst h3
    exact .inr ⟨_, _, rfl, rfl, fun H => TE.s_MARKS_d H, by decide⟩
  by_cases h4 : c = 107
  · subst h4
    exact .inr ⟨_, _, rfl, rfl, fun H => TE.s_MARKS_k H, by decide⟩
  refine .inl ⟨by rw [ckOf, if_neg h1, if_neg h2, if_neg h3, if_neg h4], ?_⟩
  show [((⟨#[112]⟩ : Str), a.M_MARKS_p), (⟨#[119]⟩, a.M_MARKS_w), (⟨#[100]⟩, a.M_MARKS_d), (⟨#[107]⟩, a.M_MARKS_k)].lookup ⟨#[c]⟩ = none
  simp only [List.lookup, sign_ne h1, sign_ne h2, sign_ne h3, sign_ne h4]
/-- what is to come, behind the parts read so far -/
def contP (us : List V) (o : Option (List V × List Nat)) : Option (List V × List Nat) := o.map fun x => (us ++ x.1, x.2)
theorem contP_step {us : List V} {m : Nat} {ms l : List Nat} {v : V} {r : List Nat} (h : partP m l = some (v, r)) : contP us (partsP (m :: ms) l) = contP (us ++ [v]) (partsP ms r) := by
  rw [partsP, h]
  dsimp only
  cases partsP ms r with
  | none => rfl
  | some x => simp [contP]
theorem ok_Reader_read_command (TE : TxtE P w K mg a) (T : Txt K mg a) : ∃ fd, FnOk P w K mg base (L2.CX P w) 3 a.d_Reader_read_command fd ["self"] (spReadC a.C_Reader a.C_BadCommand) ∧ Binds K fd ["self"] [] := by
  obtain ⟨fd, F, b⟩ := T.d_Reader_read_command.F
  obtain ⟨fd_Reader_skip, G_Reader_skip, b_Reader_skip⟩ := ok_Reader_skip (P := P) (w := w) (base := base) TE T
  obtain ⟨fd_Reader_read_code, G_Reader_read_code, b_Reader_read_code⟩ := ok_Reader_read_code (P := P) (w := w) (base := base) TE T
  obtain ⟨fd_Reader_read_number, G_Reader_read_number, b_Reader_read_number⟩ := ok_Reader_read_number (P := P) (w := w) (base := base) TE T
  refine ⟨fd, F.okX sc_Reader_read_command (fun vs H Q E h => ?_) (fun cdv A outer s H vs Q E hr h => ?_), b⟩
  · obtain ⟨_, _, _, rfl, _⟩ := h
    rfl
  · obtain ⟨p, z, i, rfl, ⟨dx, hp⟩, lz, li, k1, k2⟩ := h
    refine ⟨_, (pss_cons (ps_set (i := 1) sc_Reader_read_command.nd rfl (Or.inl rfl) (pe_ix ix_str (pe_fld (pv 0) rfl) (pe_fld (pv 0) rfl) (fun _ _ => rfl)))
      (pss_cons (ps_if (pt_cmpR op_notInKd (pv 1) (pe_glob (v := .ref a.P_MARKS) rfl TE.g_MARKS rfl) (by rfl))
      (pss_one (ps_raise rfl (takes_of rfl rfl rfl rfl) (pmk_own PySem.F.excBase_ValueError TE.x_BadCommand TE.g_BadCommand TE.kc_BadCommand (raises_own TE.b_BadCommand TE.t_BadCommand) rfl)))
      pss_nil)
      (pss_cons (ps_set (i := 2) sc_Reader_read_command.nd rfl (Or.inl rfl) (pe_lst pa_nil))
      (pss_cons (ps_for (passes_of rfl) rfl (pi_tup (pe_ix ix_kdict (pe_glob (v := .ref a.P_MARKS) rfl TE.g_MARKS rfl) (pv 1) (fun _ _ => rfl))) (pg_name (i := 3) sc_Reader_read_command.nd rfl (Or.inl rfl))
      (pss_cons (ps_expr (pe_meth (pv 0) T.cl_Reader T.me_Reader_skip G_Reader_skip (hr.mono (by decide)) b_Reader_skip .nil (L2.passes_call (W := fun c d _ H => E c d H) (E := E) (L2.takes_of rfl rfl rfl rfl) (fun _ _ _ _ h => h)) (pa_cons (pv 3) pa_nil)))
        (pss_cons (ps_set (i := 4) sc_Reader_read_command.nd rfl (Or.inl rfl) (pe_ifExp (pt_cmpR op_eq (pv 3) (pe_glob (v := (.str "z")) rfl T.c_CODE_END.choose_spec ⟨_, rfl⟩) (nomark _)) (pe_meth0 (pv 0) T.cl_Reader T.me_Reader_read_code G_Reader_read_code (hr.mono (by decide)) b_Reader_read_code .nil (L2.passes_call (W := fun c d _ H => E c d H) (E := E) (L2.takes_of rfl rfl rfl rfl) (fun _ _ _ _ h => h))) (pe_meth0 (pv 0) T.cl_Reader T.me_Reader_read_number G_Reader_read_number (hr.mono (by decide)) b_Reader_read_number .nil (L2.passes_call (W := fun c d _ H => E c d H) (E := E) (L2.takes_of rfl rfl rfl rfl) (fun _ _ _ _ h => h)))))
        (pss_one (ps_expr (pe_bm PySem.F.plainAttrs_list PySem.F.slot_list_append PySem.F.type_list_append mt_append (pv 2) (pa_cons (pv 4) pa_nil)))))))
      (pss_one (ps_ret (pe_tup (pa_cons (pv 1) (StX.pa_star (pv 2) pa_nil))))))))), ?_⟩
    walk_at "rs"
    refine ⟨p, _, dx, _, .str z, rfl, hp, T.cl_Reader, T.a_Reader_text, rfl, ?_⟩
    walk_at "rs"
    refine ⟨p, _, dx, _, .int (i : Int), rfl, hp, T.cl_Reader, T.a_Reader_at, rfl, ?_⟩
    walk_at "rs"
    obtain ⟨c, rest, ed⟩ : ∃ c rest, (TL.tl z).drop i = c :: rest := by
      cases e : (TL.tl z).drop i with
      | nil =>
        have := congrArg List.length e
        rw [List.length_drop, List.length_nil, ← TL.len_tl] at this
        omega
      | cons c rest => exact ⟨c, rest, rfl⟩
    have eg : (TL.tl z)[i]? = some c := by
      have : ((TL.tl z).drop i)[0]? = some c := by rw [ed]; rfl
      rw [List.getElem?_drop] at this
      simpa using this
    refine ⟨z, i, c, rfl, rfl, (by rw [sizeLine_eq]; omega), atI_nat eg, ?_⟩
    walk_at "rs"
    refine ⟨_, _, _, rfl, rfl, TE.tab_MARKS.has _, ?_⟩
    rcases marks_get TE c with ⟨hk, hm⟩ | ⟨ms, M, hk, hm, hM, lm⟩
    · have ex : cmdP ((TL.tl z).drop i) = none := by rw [ed, cmdP, hk]
      rw [hm]
      walk_at "rs"
      exact k2 ex H fun b o _ e => e
    have ex : ∀ vs q, partsP ms ((TL.tl z).drop i) = some (vs, q) → cmdP ((TL.tl z).drop i) = some (mkC c vs, q) := fun vs q e => by
      rw [ed] at e ⊢
      rw [cmdP, hk]
      dsimp only
      rw [e]
    have ex0 : partsP ms ((TL.tl z).drop i) = none → cmdP ((TL.tl z).drop i) = none := fun e => by
      rw [ed] at e ⊢
      rw [cmdP, hk]
      dsimp only
      rw [e]
    rw [hm]
    walk_at "rs"
    refine iteF ?_
    walk_at "rs"
    refine ⟨(by show 0 ≤ sizeLine; decide), fun L hL => ?_⟩
    have pL : p ≠ L := fun e => by rw [← e, hp] at hL; cases hL
    walk_at "rs"
    refine ⟨_, _, _, rfl, rfl, TE.tab_MARKS.get hm, ?_⟩
    refine ⟨_, rfl, ⟨_, hM _⟩, for_tup (K := K) (a := M) (xs := mksV ms) (fun n σ H2 => ∃ (v3 v4 : Option V) (j : Nat) (us : List V), σ = [some (.ref p), some (.str ⟨#[c]⟩), some (.ref L), v3, v4] ∧ RdAt a.C_Reader H2 p z j ∧ j ≤ z.length ∧ H2 L = some (.lst us) ∧ us.length = n ∧
        (∀ b o, b ≠ p → H b = some o → H2 b = some o) ∧ partsP ms ((TL.tl z).drop i) = contP us (partsP (ms.drop n) ((TL.tl z).drop j)))
      ⟨none, none, i, [], rfl, ⟨dx, by rw [upd_ne pL]; exact hp⟩, Nat.le_of_lt li, upd_same, rfl, fun b o _ e => by rw [upd_ne (fun q => by rw [q, hL] at e; cases e)]; exact e, by
        rw [List.drop_zero]
        cases partsP ms ((TL.tl z).drop i) <;> rfl⟩ (fun _ _ _ _ _ => hM _) ?_ ?_⟩
    · rintro n y σ H2 hy ⟨v3, v4, j, us, rfl, ⟨dx2, hp2⟩, lj, hL2, lu, kp, er⟩
      obtain ⟨m, hm2, rfl⟩ : ∃ m, ms[n]? = some m ∧ y = V.str ⟨#[m]⟩ := by
        unfold mksV at hy
        rw [List.getElem?_map] at hy
        cases e : ms[n]? with
        | none => rw [e] at hy; cases hy
        | some m => rw [e] at hy; cases hy; exact ⟨m, rfl, rfl⟩
      have hn := (List.getElem?_eq_some_iff.mp hm2).1
      have em : ms.drop n = m :: ms.drop (n + 1) := by
        rw [List.drop_eq_getElem_cons hn, (List.getElem?_eq_some_iff.mp hm2).2]
      rw [em] at er
      have bad : partP m ((TL.tl z).drop j) = none → cmdP ((TL.tl z).drop i) = none := fun e => ex0 (by
        rw [er, partsP, e]
        rfl)
      walk_at "rs"
      refine ⟨p, dx2, _, rfl, hp2, rfl, ?_⟩
      walk_at "rs"
      refine ⟨p, z, m, j, rfl, ⟨dx2, hp2⟩, lz, lj, fun e H3 h3 kp3 => ?_, fun e => ?_⟩
      · have lj1 : j < z.length := by
          rw [TL.len_tl]
          exact (List.getElem?_eq_some_iff.mp e).1
        have ej : (TL.tl z).drop j = m :: (TL.tl z).drop (j + 1) := by
          rw [List.drop_eq_getElem_cons (by rw [← TL.len_tl]; exact lj1), (List.getElem?_eq_some_iff.mp e).2]
        rw [ej, partP, if_pos rfl] at bad
        obtain ⟨dx3, hp3⟩ := id h3
        have kp23 : ∀ b o, b ≠ p → H b = some o → H3 b = some o := fun b o q e => kp3 b o q (kp b o q e)
        walk_at "rs"
        have hL3 := kp3 _ _ (fun q => pL q.symm) hL2
        have partP_mk : ∀ {v : V} {r : List Nat}, (if m = 122 then codeP ((TL.tl z).drop (j + 1)) else numP ((TL.tl z).drop (j + 1))) = some (v, r) → partP m ((TL.tl z).drop j) = some (v, r) := fun q => by
          rw [ej, partP, if_pos rfl]
          exact q
        refine ite2 (fun c1 => ?_) (fun c1 => ?_)
        · have c1 : m = 122 := by
            have := of_decide_eq_true c1
            have z122 : (Str.ofString "z") = ⟨#[122]⟩ := rfl
            rw [z122] at this
            simpa using this
          rw [if_pos c1] at bad partP_mk
          have ec : codeP ((TL.tl z).drop (j + 1)) = if (TL.tl z)[j + 1 + (codeAt z (j + 1)).length]? = some 122 then some (.str ⟨(codeAt z (j + 1)).toArray⟩, (TL.tl z).drop (j + 1 + (codeAt z (j + 1)).length + 1)) else none := by
            unfold codeP
            rw [code_len, List.getElem?_drop, List.drop_drop]
            rfl
          walk_at "rs"
          refine ⟨p, dx3, _, rfl, hp3, rfl, ?_⟩
          walk_at "rs"
          refine ⟨p, z, j + 1, rfl, h3, lz, lj1, fun e H4 ⟨dx4, hp4⟩ kp4 => ?_, fun e H4 kp4 => ?_⟩
          · rw [if_pos e] at ec
            have hL4 := kp4 _ _ (fun q => pL q.symm) hL3
            have lj4 : j + 1 + (codeAt z (j + 1)).length + 1 ≤ z.length := by
              rw [TL.len_tl]
              exact (List.getElem?_eq_some_iff.mp e).1
            walk_at "rs"
            refine ⟨.inl ⟨rfl, _, SqL.of hL4⟩, ?_⟩
            walk_at "rs"
            refine ⟨L, _, _, rfl, rfl, hL4, small1000 (by omega), ?_⟩
            refine ⟨_, _, j + 1 + (codeAt z (j + 1)).length + 1, us ++ [V.str ⟨(codeAt z (j + 1)).toArray⟩], rfl, ⟨dx4, by rw [upd_ne pL]; exact hp4⟩, lj4, upd_same, by rw [List.length_append, lu]; rfl, fun b o q e => ?_, ?_⟩
            · rw [upd_ne (fun q => by rw [q, hL] at e; cases e)]
              exact kp4 b o q (kp23 b o q e)
            · rw [er, contP_step (partP_mk (ec))]
          · rw [if_neg e] at ec
            exact k2 (bad ec) H4 fun b o q e => kp4 b o q (kp23 b o q e)
        · have c1 : ¬ m = 122 := fun q => c1 (decide_eq_true (by rw [q]; rfl))
          rw [if_neg c1] at bad partP_mk
          have ec : numP ((TL.tl z).drop (j + 1)) = if NumW (digsAt z (j + 1)) then some (.int (NumText.digitsVal (digsAt z (j + 1)) : Nat), (TL.tl z).drop (j + 1 + (digsAt z (j + 1)).length)) else none := by
            unfold numP
            rw [digs_len, List.drop_drop]
            rfl
          walk_at "rs"
          refine ⟨p, dx3, _, rfl, hp3, rfl, ?_⟩
          walk_at "rs"
          refine ⟨p, z, j + 1, rfl, h3, lz, lj1, fun e H4 ⟨dx4, hp4⟩ kp4 => ?_, fun e H4 kp4 => ?_⟩
          · rw [if_pos e] at ec
            have hL4 := kp4 _ _ (fun q => pL q.symm) hL3
            have lj4 : j + 1 + (digsAt z (j + 1)).length ≤ z.length := by
              rw [digs_len]
              have := run_le (TL.tl "0123456789") ((TL.tl z).drop (j + 1))
              rw [List.length_drop, ← TL.len_tl] at this
              omega
            walk_at "rs"
            refine ⟨.inl ⟨rfl, _, SqL.of hL4⟩, ?_⟩
            walk_at "rs"
            refine ⟨L, _, _, rfl, rfl, hL4, small1000 (by omega), ?_⟩
            refine ⟨_, _, j + 1 + (digsAt z (j + 1)).length, us ++ [V.int (NumText.digitsVal (digsAt z (j + 1)) : Nat)], rfl, ⟨dx4, by rw [upd_ne pL]; exact hp4⟩, lj4, upd_same, by rw [List.length_append, lu]; rfl, fun b o q e => ?_, ?_⟩
            · rw [upd_ne (fun q => by rw [q, hL] at e; cases e)]
              exact kp4 b o q (kp23 b o q e)
            · rw [er, contP_step (partP_mk (ec))]
          · rw [if_neg e] at ec
            exact k2 (bad ec) H4 fun b o q e => kp4 b o q (kp23 b o q e)
      · refine k2 (bad ?_) H2 kp
        cases ed2 : (TL.tl z).drop j with
        | nil => rfl
        | cons d r =>
          rw [partP, if_neg]
          intro q
          refine e ?_
          have : ((TL.tl z).drop j)[0]? = some d := by rw [ed2]; rfl
          rw [List.getElem?_drop] at this
          rw [← q]
          simpa using this
    · rintro σ H2 ⟨v3, v4, j, us, rfl, ⟨dx2, hp2⟩, lj, hL2, lu, kp, er⟩
      have ln : (mksV ms).length = ms.length := List.length_map _
      rw [ln, List.drop_length] at er
      have er : partsP ms ((TL.tl z).drop i) = some (us ++ [], (TL.tl z).drop j) := er
      rw [List.append_nil] at er
      have em := ex _ _ er
      have hmk := mk_ok hk (by rw [← ed]; exact er)
      have et := hmk.2.2.1
      rw [← ed] at et
      have ej : j = i + (mkC c us).txt.length := by
        have := congrArg List.length et
        rw [List.length_append, List.length_drop, List.length_drop, ← TL.len_tl, ← TL.len_tl] at this
        omega
      walk_at "rs"
      refine ⟨L, us, rfl, .inr (SqL.of hL2), ?_⟩
      walk_at "rs"
      refine ⟨by rw [sizeLine_eq]; simp; omega, fun t ht => ?_⟩
      refine k1 _ _ em (by rw [ej]) (by omega) t _ ⟨dx2, ?_⟩ ?_ ?_ ?_
      · rw [upd_ne (fun q => by rw [← q, hp2] at ht; cases ht), ← ej]
        exact hp2
      · intro b o q e
        rw [upd_ne (fun q => by rw [← q, kp b o ‹_› e] at ht; cases ht)]
        exact kp b o q e
      · cases e : H t with
        | none => rfl
        | some o =>
          by_cases q : t = p
          · rw [q, hp2] at ht
            cases ht
          · rw [kp t o q e] at ht
            cases ht
      · show upd H2 t _ t = _
        rw [upd_same, hmk.1, hmk.2.1]
        simp

/-- o.m() within a try: what the method lets out is wished for at the slots -/
def tMethT0 (C : Addr) (m : Str) (sp : Sp) (E : L2.St → XK) (ta : TE) : TE := fun σ H Q => ta σ H fun x H1 => ∃ (j dx : Addr) (fs : List (Str × V)), x = V.ref j ∧ H1 j = some (HO.ins C dx fs) ∧ fs.lookup m = Option.none ∧ sp [x] H1 Q (E σ)
theorem pe_methT0 {X : Cx} {CX : CXT} {k : Nat} {f C : Addr} {fd : FuncData} {ps : List Str} {sp : Sp} {E : L2.St → XK} {m : Str} {apos pos : Pos} {o : Expr} {ta : TE} {pl : Sem Bool} (he : PE X o ta) (c : L2.Cls X.K C) (hm : L2.Meth X.K C m f) (F : FnOk X.prog X.w X.K X.mg X.base CX k f fd ps sp)
    (hr : Room k X.A) (hb : Binds X.K fd ps []) (hx : ∀ σ, PassesAt CX X σ (E σ))
    (text : eval (.Call (.Attribute o m apos) [] [] pos) X.env = (do let ov ← eval o X.env; standAt apos.atName; let (f, first) ← holding [ov] (getMethod ov m pl); callWith pos f first (backTo pos (starEach [] X.env)) (backToKw pos (keywordEach [] X.env))) := by rfl) :
    PE X (.Call (.Attribute o m apos) [] [] pos) (tMethT0 C m sp E ta) := by
  constructor
  intro pins s σ H Q I hyp
  refine PySem.W.methodCall_KW (pl := pl) (thn (he.run pins s σ H _ I hyp) fun u s1 got => ?_) text
  obtain ⟨x, H1, I1, rx, j, dx, fs, ex, ej, nf, q⟩ := got
  subst ex
  have eu : u = Value.ref j := rx
  subst eu
  refine getmeth_ok I1 ej c hm nf ?_
  exact PySem.W.callWith_K0 (first := [Value.ref j]) I1.kIn hm.kp (run_fnS (us := [Value.ref j]) (vs := [V.ref j]) F hr hb (hx σ) I1 (.cons rfl .nil) q)

def spCof (K : PySem.W.Frag) : Sp := fun vs H Q _ => ∃ z : Str, vs = [.str z] ∧ z.length ≤ 1000 ∧ ∀ (q : Addr) (ps : List Addr) H', Same H H' → H q = none → H' q = some (.lst (ps.map V.ref)) → CmsAt H' ps (cmdsOf z) → Q (.ref q) H'
theorem CmsAt.snoc {H : Hp} {ps : List Addr} {cs : List Cm} {p : Addr} {c : Cm} (h : CmsAt H ps cs) (e : CmAt H p c) : CmsAt H (ps ++ [p]) (cs ++ [c]) := by
  refine ⟨by rw [List.length_append, List.length_append, h.1]; rfl, fun i hi => ?_⟩
  rw [List.length_append, List.length_singleton] at hi
  rw [List.getD_eq_getElem?_getD, List.getD_eq_getElem?_getD]
  rcases Nat.lt_or_ge i cs.length with z | z
  · rw [List.getElem?_append_left (by rw [h.1]; exact z), List.getElem?_append_left z, ← List.getD_eq_getElem?_getD, ← List.getD_eq_getElem?_getD]
    exact h.2 i z
  · have ei : i = cs.length := by omega
    rw [ei, List.getElem?_append_right (Nat.le_of_eq h.1), List.getElem?_append_right (Nat.le_refl _), h.1, Nat.sub_self]
    exact e
theorem ok_commands_of (TE : TxtE P w K mg a) (T : Txt K mg a) : ∃ fd, FnOk P w K mg base CX0 4 a.d_commands_of fd ["block"] (spCof K) ∧ Binds K fd ["block"] [] := by
  obtain ⟨fd, F, b⟩ := T.d_commands_of.F
  obtain ⟨fd_Reader_init, G_Reader_init, b_Reader_init⟩ := ok_Reader_init (P := P) (w := w) (base := base) T
  obtain ⟨fd_Reader_read_command, G_Reader_read_command, b_Reader_read_command⟩ := ok_Reader_read_command (P := P) (w := w) (base := base) TE T
  refine ⟨fd, F.ok sc_commands_of (fun vs H Q E h => ?_) (fun cdv A outer s H vs Q E hr h => ?_), b⟩
  · obtain ⟨_, rfl, _⟩ := h
    rfl
  · obtain ⟨z, rfl, lz, k⟩ := h
    refine ⟨_, (pss_cons (ps_set (i := 1) sc_commands_of.nd rfl (Or.inl rfl) (pe_make T.m_Reader G_Reader_init (hr.mono (by decide)) (by rfl) T.g_Reader b_Reader_init .nil pass0 (pa_cons (pv 0) pa_nil)))
      (pss_cons (ps_set (i := 2) sc_commands_of.nd rfl (Or.inl rfl) (pe_lst pa_nil))
      (pss_cons (ps_try_only rfl rfl ⟨rfl, by decide, .inl TE.g_BadCommand⟩ takes0 (fun W pn xe tk po => (pss_one (ps_while po (pt_cmpR op_lt (pe_fldK (K := K) rfl (pv 1) rfl) (pe_callB call_len_str (by rfl) T.n_len PySem.boot_len (pa_cons (pv 0) pa_nil)) (nomark _)) (pss_one (ps_expr (pe_bmK (K := K) rfl PySem.F.plainAttrs_list PySem.F.slot_list_append PySem.F.type_list_append mt_append (pv 2) (pa_cons (pe_methT0 (pv 1) T.cl_Reader T.me_Reader_read_command G_Reader_read_command (hr.mono (by decide)) b_Reader_read_command (E := fun σ cls d H => W cls d σ H) (fun σ => passAt tk σ)) pa_nil))))))) (fun ae oe cls d pn hz hf => (pss_one (ps_ret (pe_lst pa_nil)))))
      (pss_one (ps_ret (pv 2)))))), ?_⟩
    walk_at "rs"
    intro rd dx hrd hdx ndx
    refine ⟨rd, dx, z, rfl, upd_same, fun H1 h1 keep => ?_⟩
    have s1 : Same H H1 := fun b o e => keep b o (fun q => by rw [q, hrd] at e; cases e) (by rw [upd_ne (fun q => by rw [q, hrd] at e; cases e), upd_ne (fun q => by rw [q, hdx] at e; cases e)]; exact e)
    refine ⟨rfl, ?_⟩
    clear keep
    walk_at "rs"
    refine ⟨(by show 0 ≤ sizeLine; decide), fun L hL => ?_⟩
    have hL0 := s1.free hL
    have rL : rd ≠ L := fun e => by
      obtain ⟨d, h⟩ := h1
      rw [e, hL] at h
      cases h
    have s2 := same_new (o := .lst []) hL
    walk_at "rs"
    refine ⟨fun m σ H2 => ∃ (j n : Nat) (ps : List Addr) (cs : List Cm), m = z.length - j ∧ σ = [some (.str z), some (.ref rd), some (.ref L)] ∧ RdAt a.C_Reader H2 rd z j ∧ j ≤ z.length ∧ H2 L = some (.lst (ps.map V.ref)) ∧ CmsAt H2 ps cs ∧ Same H H2 ∧ z.length - j ≤ n ∧ cs.length ≤ j ∧
        cmdsP z.length (TL.tl z) = (cmdsP n ((TL.tl z).drop j)).map (cs ++ ·),
      ⟨_, 0, z.length, [], [], rfl, rfl, h1.elim fun d h => ⟨d, by rw [upd_ne rL]; exact h⟩, Nat.zero_le _, upd_same, ⟨rfl, fun i hi => absurd hi (Nat.not_lt_zero i)⟩, s1.trans s2, Nat.le_of_eq (Nat.sub_zero _), Nat.le_refl _, by
        rw [List.drop_zero]
        cases cmdsP z.length (TL.tl z) <;> rfl⟩, ?_⟩
    clear s2 h1
    rintro m σ H2 ⟨j, n, ps, cs, rfl, rfl, ⟨dx2, h2⟩, lj, hL2, hc, s2, ln, lcs, er⟩
    walk_at "rs"
    refine ⟨rd, _, dx2, _, .int (j : Int), rfl, h2, T.cl_Reader, T.a_Reader_at, rfl, ?_⟩
    walk_at "rs"
    refine ⟨(by rw [sizeLine_eq]; omega), ?_⟩
    walk_at "rs"
    refine ite2 (fun c1 => ?_) (fun c1 => ?_)
    · have c1 : j < z.length := by
        have := of_decide_eq_true c1
        omega
      obtain ⟨n, rfl⟩ : ∃ k, n = k + 1 := ⟨n - 1, by omega⟩
      obtain ⟨d, rest, ed⟩ : ∃ c rest, (TL.tl z).drop j = c :: rest := by
        cases e : (TL.tl z).drop j with
        | nil =>
          have := congrArg List.length e
          rw [List.length_drop, List.length_nil, ← TL.len_tl] at this
          omega
        | cons c rest => exact ⟨c, rest, rfl⟩
      refine ⟨fun σ' H' => ∃ (t : Addr) (x : Cm) (q : List Nat), cmdP ((TL.tl z).drop j) = some (x, q) ∧ q = (TL.tl z).drop (j + x.txt.length) ∧ j + x.txt.length ≤ z.length ∧ σ' = [some (.str z), some (.ref rd), some (.ref L)] ∧ RdAt a.C_Reader H' rd z (j + x.txt.length) ∧ H' L = some (.lst ((ps ++ [t]).map V.ref)) ∧ CmsAt H' (ps ++ [t]) (cs ++ [x]) ∧ Same H H', ?_, ?_⟩
      · rintro σ' H' ⟨t, x, q, e1, e2, e3, rfl, h4, hL4, hc4, s4⟩
        have lx : 0 < x.txt.length := by
          obtain ⟨c, r, e, _⟩ := txt_first x
          rw [TL.len_tl, e]
          exact Nat.succ_pos _
        refine ⟨z.length - (j + x.txt.length), by omega, j + x.txt.length, n, ps ++ [t], cs ++ [x], rfl, rfl, h4, e3, hL4, hc4, s4, by omega, by rw [List.length_append]; show cs.length + 1 ≤ _; omega, ?_⟩
        rw [er, ← e2]
        rw [ed] at e1 ⊢
        rw [cmdsP, e1]
        dsimp only
        cases cmdsP n q with
        | none => rfl
        | some xs => simp
      walk_at "rs"
      refine ⟨.inl ⟨rfl, _, SqL.of hL2⟩, ?_⟩
      walk_at "rs"
      refine ⟨rd, dx2, _, rfl, h2, rfl, ?_⟩
      have Lr : L ≠ rd := fun e => rL e.symm
      refine ⟨rd, z, j, rfl, ⟨dx2, h2⟩, lz, c1, fun x q e1 e2 e3 t H4 h4 kp ht ct => ?_, fun e H4 kp => ?_⟩
      · have s4 : Same H H4 := fun b o e => kp b o (fun q => by rw [q, hrd] at e; cases e) (s2 b o e)
        have tL : t ≠ L := fun e => by rw [e, hL2] at ht; cases ht
        walk_at "rs"
        refine ⟨L, _, _, rfl, rfl, kp _ _ Lr hL2, by rw [List.length_map, hc.1]; exact small1000 (by omega), ?_⟩
        refine ⟨t, x, q, e1, e2, e3, rfl, ?_, by rw [upd_same, List.map_append]; rfl, ?_, same_upd s4 hL0⟩
        · obtain ⟨d4, h4⟩ := h4
          exact ⟨d4, by rw [upd_ne rL]; exact h4⟩
        · have hne : ∀ {b : Addr} {y : Cm}, CmAt H2 b y → b ≠ rd ∧ b ≠ L := fun {b y} h => by
            have h : H2 b = some (.tup _) := h
            constructor
            · intro e
              rw [e, h2] at h
              cases h
            · intro e
              rw [e, hL2] at h
              cases h
          refine CmsAt.snoc ⟨hc.1, fun i hi => ?_⟩ ?_
          · have h := hc.2 i hi
            obtain ⟨n1, n2⟩ := hne h
            show upd H4 L _ _ = _
            rw [upd_ne n2]
            exact kp _ _ n1 h
          · show upd H4 L _ _ = _
            rw [upd_ne tL]
            exact ct
      · have s4 : Same H H4 := fun b o e => kp b o (fun q => by rw [q, hrd] at e; cases e) (s2 b o e)
        have eall : cmdsOf z = [] := by
          unfold cmdsOf
          rw [er]
          rw [ed] at e ⊢
          rw [cmdsP, e]
          rfl
        refine ⟨true, TE.exm_BadCommand_BadCommand, fun _ ex hex => ?_, fun z => nomatch z⟩
        walk_at "rs"
        refine ⟨(by show 0 ≤ sizeLine; decide), fun R hR => ?_⟩
        refine k R [] _ (s4.trans (same_new hR)) (s4.free hR) upd_same ?_
        rw [eall]
        exact ⟨rfl, fun i hi => absurd hi (Nat.not_lt_zero i)⟩
    · have c1 : j = z.length := by
        have : ¬ j < z.length := fun h => c1 (decide_eq_true (by omega))
        omega
      have eall : cmdsOf z = cs := by
        unfold cmdsOf
        rw [er, List.drop_of_length_le (by rw [← TL.len_tl]; omega)]
        cases n <;> simp [cmdsP]
      walk_at "rs"
      exact k L ps H2 s2 hL0 hL2 (by rw [eall]; exact hc)

/-! ### a committee made of a tuple -/
theorem seqT_same {H H' : Hp} {b : Addr} {xs : List V} (e : Same H H') (h : SqT K H b xs) : SqT K H' b xs := by
  rcases h with (h | ⟨o, h⟩) | h
  · exact .inl (.inl (e _ _ h))
  · exact .inl (.inr ⟨o, e _ _ h⟩)
  · exact .inr h
def spFirstT (K : PySem.W.Frag) : Sp := fun vs H Q _ => ∃ (p : Addr) (ws : List Int), vs = [.ref p] ∧ SqT K H p (ws.map V.int) ∧ GoodW ws ∧ ∀ H', Same H H' → Q .non H'
def spInitT (K : PySem.W.Frag) (C : Addr) : Sp := fun vs H Q _ => ∃ (p dx t : Addr) (ws : List Int), vs = [.ref p, .ref t] ∧ H p = some (.ins C dx []) ∧ H t = some (.tup (ws.map V.int)) ∧ GoodW ws ∧
  ∀ H' : Hp, CommAt C H' p ws → (∀ b o, H b = some o → b ≠ p → H' b = some o) → Q .non H'
theorem ok_first_wrongT (T : Txt K mg a) : ∃ fd, FnOk P w K mg base CX0 1 a.d_first_wrong fd ["weights"] (spFirstT K) ∧ Binds K fd ["weights"] [] := by
  obtain ⟨fd, F, b⟩ := T.d_first_wrong.F
  refine ⟨fd, F.ok sc_first_wrong (fun vs H Q E h => ?_) (fun cdv A outer s H vs Q E hr h => ?_), b⟩
  · obtain ⟨_, _, rfl, _⟩ := h
    rfl
  · obtain ⟨p, ws, rfl, hp, gw, k⟩ := h
    refine ⟨_, (pss_cons (ps_for PassesOwn.never rfl (pi_enumT (by rfl) T.n_enumerate (pa_cons (pv 0) pa_nil)) (pg_tup rfl (pgs_cons (pg_name (i := 1) sc_first_wrong.nd rfl (Or.inl rfl)) (pgs_cons (pg_name (i := 2) sc_first_wrong.nd rfl (Or.inl rfl)) pgs_nil)))
      (pss_one (ps_if (PW.pt (pw_or (pt_cmpR op_ge (pv 1) (pe_glob (v := (.int 16)) rfl T.c_MOST_MEMBERS.choose_spec ⟨_, rfl⟩) (nomark _)) (pw_or (pt_cmpR op_lt (pv 2) pe_int (nomark _)) (pw_or1 (pt_cmpR op_gt (pv 2) (pe_glob (v := (.int 1000000000000)) rfl T.c_MOST_WEIGHT.choose_spec ⟨_, rfl⟩) (nomark _))))))
        (pss_one (ps_ret (pv 1)))
        pss_nil)))
      (pss_cons (ps_if (pt_cmpR op_eq (pe_callB call_len_seq (by rfl) T.n_len PySem.boot_len (pa_cons (pv 0) pa_nil)) pe_int (nomark _))
      (pss_one (ps_ret pe_int))
      pss_nil)
      (pss_one (ps_ret pe_non)))), ?_⟩
    walk_at "rs"
    refine ⟨p, _, rfl, hp, ?_⟩
    refine for_enumT (K := K) (a := p) (ys := ws.map V.int) (fun i σ H2 => ∃ v1 v2 : Option V, σ = [some (.ref p), v1, v2] ∧ Same H H2) ⟨_, _, rfl, Same.refl H⟩ (fun i σ H2 _ ⟨_, _, _, s2⟩ => seqT_same s2 hp) ?_ ?_
    · rintro i y σ H2 q hy ⟨v1, v2, rfl, s2⟩ hq
      have hi : i < ws.length := by
        have e := (List.getElem?_eq_some_iff.mp hy).1
        rwa [List.length_map] at e
      rw [at_ints hi] at hy
      cases hy
      have g1 := gw.2.2 _ (getD_mem hi)
      have g2 := gw.2.1
      walk_at "rs"
      refine ⟨q, _, rfl, SqT.of upd_same, rfl, ?_⟩
      refine ⟨_, _, rfl, _, _, rfl, rfl, ?_⟩
      walk_at "rs"
      refine ite2 (fun c1 => ?_) (fun c1 => ?_)
      · exfalso
        have := of_decide_eq_true c1
        omega
      walk_at "rs"
      refine ite2 (fun c2 => ?_) (fun c2 => ?_)
      · exfalso
        have := of_decide_eq_true c2
        omega
      walk_at "rs"
      refine ite2 (fun c3 => ?_) (fun c3 => ?_)
      · exfalso
        have := of_decide_eq_true c3
        omega
      exact ⟨_, _, rfl, same_upd s2 (s2.free hq)⟩
    · rintro σ H2 ⟨v1, v2, rfl, s2⟩
      walk_at "rs"
      refine ⟨p, _, rfl, .inr (seqT_same s2 hp), ?_⟩
      walk_at "rs"
      refine ite2 (fun c1 => ?_) (fun c1 => ?_)
      · exfalso
        have g0 := gw.1
        simp at c1
        simp [c1] at g0
      exact k H2 s2
theorem ok_Committee_initT (T : Txt K mg a) : ∃ fd, FnOk P w K mg base CX0 2 a.d_Committee_init fd ["self", "weights"] (spInitT K a.C_Committee) ∧ Binds K fd ["self", "weights"] [] := by
  obtain ⟨fd, F, b⟩ := T.d_Committee_init.F
  obtain ⟨fd_first_wrong, G_first_wrong, b_first_wrong⟩ := ok_first_wrongT (P := P) (w := w) (base := base) T
  refine ⟨fd, F.ok sc_Committee_init (fun vs H Q E h => ?_) (fun cdv A outer s H vs Q E hr h => ?_), b⟩
  · obtain ⟨_, _, _, _, rfl, _⟩ := h
    rfl
  · obtain ⟨p, dx, t, ws, rfl, hp, ht, gw, k⟩ := h
    refine ⟨_, (pss_cons (ps_set (i := 2) sc_Committee_init.nd rfl (Or.inl rfl) (pe_call G_first_wrong (hr.mono (by decide)) rfl T.d_first_wrong.g T.d_first_wrong.kp b_first_wrong .nil pass0 (pa_cons (pv 1) pa_nil)))
      (pss_cons (ps_if (pt_cmpR op_notN (pv 2) pe_non (nomark _))
      (pss_one ps_never)
      pss_nil)
      (pss_cons (ps_fld (pv 0) (pe_callTy call_tuple_of (by rfl) T.n_tuple (by decide +kernel) (pa_cons (pv 1) pa_nil)) rfl)
      (pss_cons (ps_fld (pv 0) (pe_callB call_len_seq (by rfl) T.n_len PySem.boot_len (pa_cons (pe_fld (pv 0) rfl) pa_nil)) rfl)
      (pss_one (ps_fld (pv 0) (pe_callB (cr_sumT rfl) (by rfl) T.n_sum (by decide +kernel) (pa_cons (pe_fld (pv 0) rfl) pa_nil)) rfl)))))), ?_⟩
    walk_at "rs"
    refine ⟨t, ws, rfl, SqT.of ht, gw, fun H1 s1 => ?_⟩
    walk_at "rs"
    have hp1 := s1 _ _ hp
    have ht1 := s1 _ _ ht
    refine ⟨t, _, rfl, .inr ⟨SqT.of ht1, ?_⟩⟩
    have npt : p ≠ t := fun e => by rw [e, ht] at hp; cases hp
    walk_at "rs"
    refine ⟨p, _, dx, [], rfl, hp1, T.cl_Committee, T.a_Committee_weights, (by show 0 < 1000; decide), ?_⟩
    have ht3 : ∀ o : HO, (upd H1 p o) t = some (.tup (ws.map V.int)) := fun o => by rw [upd_ne npt.symm]; exact ht1
    walk_at "rs"
    refine ⟨p, _, dx, _, .ref t, rfl, upd_same, T.cl_Committee, T.a_Committee_weights, by rw [lookup_putF, if_pos rfl], ?_⟩
    walk_at "rs"
    refine ⟨t, _, rfl, .inr (SqT.of (ht3 _)), ?_⟩
    walk_at "rs"
    refine ⟨p, _, dx, _, rfl, upd_same, T.cl_Committee, T.a_Committee_size, (by show 1 < 1000; decide), ?_⟩
    rw [upd_upd]
    walk_at "rs"
    refine ⟨p, _, dx, _, .ref t, rfl, upd_same, T.cl_Committee, T.a_Committee_weights, by rw [lookup_putF, if_neg ne_ws, lookup_putF, if_pos rfl], ?_⟩
    walk_at "rs"
    refine ⟨t, ws, rfl, SqT.of (ht3 _), ?_⟩
    walk_at "rs"
    refine ⟨p, _, dx, _, rfl, upd_same, T.cl_Committee, T.a_Committee_total, (Nat.lt_of_le_of_lt (length_putF _ _ _) (Nat.lt_of_le_of_lt (Nat.add_le_add_right (length_putF _ _ _) 1) (by show 2 < 1000; decide))), ?_⟩
    rw [upd_upd, List.length_map]
    exact k _ ⟨dx, t, upd_same, ht3 _⟩ fun b o e hb => by
      rw [upd_ne hb]
      exact s1 _ _ e

/-! ### ledgers that stay -/
def LdAt (C : Addr) (H : Hp) (p t : Addr) : Prop := ∃ dx c2 c3, H p = some (.ins C dx [("balances", .ref t), ("codes", c2), ("stores", c3)])
theorem LdAt.same {C : Addr} {H H' : Hp} {p t : Addr} (h : LdAt C H p t) (s : Same H H') : LdAt C H' p t := by
  obtain ⟨dx, c2, c3, h⟩ := h
  exact ⟨dx, c2, c3, s _ _ h⟩
def spLInit (C : Addr) : Sp := fun vs H Q _ => ∃ (p dx : Addr) (v1 v2 v3 : V), vs = [.ref p, v1, v2, v3] ∧ H p = some (.ins C dx []) ∧
  ∀ H', H' p = some (.ins C dx [("balances", v1), ("codes", v2), ("stores", v3)]) → (∀ b o, b ≠ p → H b = some o → H' b = some o) → Q .non H'
theorem ok_Ledger_init (T : Txt K mg a) : ∃ fd, FnOk P w K mg base CX0 1 a.d_Ledger_init fd ["self", "balances", "codes", "stores"] (spLInit a.C_Ledger) ∧ Binds K fd ["self", "balances", "codes", "stores"] [] := by
  obtain ⟨fd, F, b⟩ := T.d_Ledger_init.F
  refine ⟨fd, F.ok sc_Ledger_init (fun vs H Q E h => ?_) (fun cdv A outer s H vs Q E hr h => ?_), b⟩
  · obtain ⟨_, _, _, _, _, rfl, _⟩ := h
    rfl
  · obtain ⟨p, dx, v1, v2, v3, rfl, hp, k⟩ := h
    refine ⟨_, (pss_cons (ps_fld (pv 0) (pv 1) rfl)
      (pss_cons (ps_fld (pv 0) (pv 2) rfl)
      (pss_one (ps_fld (pv 0) (pv 3) rfl)))), ?_⟩
    walk_at "rs"
    refine ⟨p, _, dx, [], rfl, hp, T.cl_Ledger, T.a_Ledger_balances, (by show 0 < 1000; decide), ?_⟩
    walk_at "rs"
    refine ⟨p, _, dx, _, rfl, upd_same, T.cl_Ledger, T.a_Ledger_codes, (by show 1 < 1000; decide), ?_⟩
    rw [upd_upd]
    walk_at "rs"
    refine ⟨p, _, dx, _, rfl, upd_same, T.cl_Ledger, T.a_Ledger_stores, (by show 2 < 1000; decide), ?_⟩
    rw [upd_upd]
    refine k _ ?_ (fun b o n e => by rw [upd_ne n]; exact e)
    rw [upd_same]
    rfl
def spFirstL (K : PySem.W.Frag) (C : Addr) : Sp := fun vs H Q _ => ∃ (g : Addr) (x y : Int), vs = [.ref g] ∧ SqL K H g [] ∧
  ∀ p t H', Same H H' → H p = none → LdAt C H' p t → H' t = some (.tup []) → Q (.ref p) H'
theorem ok_first_ledger (T : Txt K mg a) : ∃ fd, FnOk P w K mg base CX0 3 a.d_first_ledger fd ["grants"] (spFirstL K a.C_Ledger) ∧ Binds K fd ["grants"] [] := by
  obtain ⟨fd, F, b⟩ := T.d_first_ledger.F
  obtain ⟨fd_Ledger_init, G_Ledger_init, b_Ledger_init⟩ := ok_Ledger_init (P := P) (w := w) (base := base) T
  refine ⟨fd, F.ok sc_first_ledger (fun vs H Q E h => ?_) (fun cdv A outer s H vs Q E hr h => ?_), b⟩
  · obtain ⟨_, _, _, rfl, _⟩ := h
    rfl
  · obtain ⟨g, x, y, rfl, hg, k⟩ := h
    refine ⟨_, (pss_cons (ps_set (i := 1) sc_first_ledger.nd rfl (Or.inl rfl) (pe_callTy call_tuple_of (by rfl) T.n_tuple (by decide +kernel) (pa_cons (pv 0) pa_nil)))
      (pss_one (ps_ret (pe_make T.m_Ledger G_Ledger_init (hr.mono (by decide)) (by rfl) T.g_Ledger b_Ledger_init .nil pass0 (pa_cons (pv 1) (pa_cons (pe_op op_repT0 (pe_tup (pa_cons pe_str pa_nil)) (pe_callB call_len_seq (by rfl) T.n_len PySem.boot_len (pa_cons (pv 1) pa_nil))) (pa_cons (pe_op op_repT0 (pe_tup (pa_cons (pe_tup pa_nil) pa_nil)) (pe_callB call_len_seq (by rfl) T.n_len PySem.boot_len (pa_cons (pv 1) pa_nil))) pa_nil))))))), ?_⟩
    walk_at "rs"
    refine ⟨g, _, rfl, .inl ⟨hg, fun t ht => ?_⟩⟩
    have s1 := same_new (o := .tup []) ht
    have ht1 : (upd H t (.tup [])) t = some (.tup []) := upd_same
    generalize upd H t (.tup []) = H1 at s1 ht1 ⊢
    walk_at "rs"
    refine ⟨(by show 1 ≤ sizeLine; decide), fun q1 hq1 => ?_⟩
    have s2 := same_new (o := .tup [V.str ""]) hq1
    have h2 : (upd H1 q1 (.tup [V.str ""])) q1 = some (.tup [V.str ""]) := upd_same
    generalize upd H1 q1 (.tup [V.str ""]) = H2 at s2 h2 ⊢
    walk_at "rs"
    refine ⟨t, _, rfl, .inr (SqT.of (s2 _ _ ht1)), ?_⟩
    refine ⟨q1, _, rfl, rfl, SqT.of h2, (fun e => nomatch e), fun q2 hq2 => ?_⟩
    have s3 := same_new (o := .tup []) hq2
    generalize upd H2 q2 (.tup []) = H3 at s3 ⊢
    walk_at "rs"
    refine ⟨(by show 0 ≤ sizeLine; decide), fun q3 hq3 => ?_⟩
    have s4 := same_new (o := .tup []) hq3
    generalize upd H3 q3 (.tup []) = H4 at s4 ⊢
    walk_at "rs"
    refine ⟨(by show 1 ≤ sizeLine; decide), fun q4 hq4 => ?_⟩
    have s5 := same_new (o := .tup [V.ref q3]) hq4
    have h5 : (upd H4 q4 (.tup [V.ref q3])) q4 = some (.tup [V.ref q3]) := upd_same
    generalize upd H4 q4 (.tup [V.ref q3]) = H5 at s5 h5 ⊢
    walk_at "rs"
    have s25 := s2.trans (s3.trans (s4.trans s5))
    refine ⟨t, _, rfl, .inr (SqT.of (s25 _ _ ht1)), ?_⟩
    refine ⟨q4, _, rfl, rfl, SqT.of h5, (fun e => nomatch e), fun q5 hq5 => ?_⟩
    have s6 := same_new (o := .tup []) hq5
    generalize upd H5 q5 (.tup []) = H6 at s6 ⊢
    have s16 := s1.trans (s25.trans s6)
    have ht6 := s6 _ _ (s25 _ _ ht1)
    walk_at "rs"
    intro p dx hp hdx ndx
    have hdx1 := same_new (o := .own p) hdx
    refine ⟨p, dx, _, _, _, rfl, upd_same, fun H7 h7 keep => ⟨rfl, ?_⟩⟩
    have s7 : Same H6 H7 := fun b o e => keep b o (fun q => by rw [q, hp] at e; cases e) (by rw [upd_ne (fun q => by rw [q, hp] at e; cases e), upd_ne (fun q => by rw [q, hdx] at e; cases e)]; exact e)
    exact k p t H7 (s16.trans s7) (s16.free hp) ⟨dx, _, _, h7⟩ (s7 _ _ ht6)
/-! ### chains -/
/-- what stands where in a chain -/
structure CnP where
  B : Addr
  R : Addr
  D : Addr
  L : Addr
/-- blocks, the addresses of receipts and committees, the weights, the ledgers -/
structure CnV where
  zs : List Str
  rs : List Addr
  ps : List Addr
  ws : List (List Int)
  ls : List Addr
structure CnAt (C1 C2 C3 : Addr) (H : Hp) (p : Addr) (q : CnP) (v : CnV) (x y : Int) : Prop where
  ins : ∃ dx, H p = some (.ins C1 dx [("blocks", .ref q.B), ("receipts", .ref q.R), ("committees", .ref q.D), ("ledgers", .ref q.L)])
  hB : H q.B = some (.lst (v.zs.map V.str))
  hR : H q.R = some (.lst (v.rs.map V.ref))
  hD : H q.D = some (.lst (v.ps.map V.ref))
  hL : H q.L = some (.lst (v.ls.map V.ref))
  nr : v.rs.length = v.zs.length
  np : v.ps.length = v.zs.length + 1
  nw : v.ws.length = v.zs.length + 1
  nl : v.ls.length = v.zs.length + 1
  ne1 : q.B ≠ q.R
  ne2 : q.B ≠ q.D
  ne3 : q.B ≠ q.L
  ne4 : q.R ≠ q.D
  ne5 : q.R ≠ q.L
  ne6 : q.D ≠ q.L
  cm : ∀ i, i < v.ws.length → CommAt C2 H (v.ps.getD i 0) (v.ws.getD i []) ∧ GoodW (v.ws.getD i [])
  ld : ∀ l ∈ v.ls, ∃ t, LdAt C3 H l t ∧ H t = some (.tup [])
theorem CnAt.same {C1 C2 C3 : Addr} {H H' : Hp} {p : Addr} {q : CnP} {v : CnV} {x y : Int} (c : CnAt C1 C2 C3 H p q v x y) (s : Same H H') : CnAt C1 C2 C3 H' p q v x y :=
  { c with
    ins := c.ins.elim fun d h => ⟨d, s _ _ h⟩
    hB := s _ _ c.hB
    hR := s _ _ c.hR
    hD := s _ _ c.hD
    hL := s _ _ c.hL
    cm := fun i hi => ⟨(c.cm i hi).1.same s, (c.cm i hi).2⟩
    ld := fun l hl => let ⟨t, h1, h2⟩ := c.ld l hl; ⟨t, h1.same s, s _ _ h2⟩ }
def But1 (p : Addr) (H H' : Hp) : Prop := ∀ b o, b ≠ p → H b = some o → H' b = some o
theorem But1.trans {p : Addr} {H H' H'' : Hp} (h : But1 p H H') (g : But1 p H' H'') : But1 p H H'' := fun b o n e => g b o n (h b o n e)
theorem But1.seq {p : Addr} {H H' : Hp} {C dx : Addr} {fs : List (Str × V)} {l : Addr} {xs : List V} (h : But1 p H H') (hp : H p = some (.ins C dx fs)) (s : SqL K H l xs) : SqL K H' l xs := by
  rcases s with (s | ⟨o, s⟩) | s
  · exact .inl (.inl (h _ _ (fun e => by rw [e, hp] at s; cases s) s))
  · exact .inl (.inr ⟨o, h _ _ (fun e => by rw [e, hp] at s; cases s) s⟩)
  · exact .inr s
theorem CommAt.but {C : Addr} {p : Addr} {H H' : Hp} {C1 dx : Addr} {fs : List (Str × V)} {c : Addr} {ws : List Int} (h : CommAt C H c ws) (k : But1 p H H') (n : c ≠ p) (hp : H p = some (.ins C1 dx fs)) : CommAt C H' c ws := by
  obtain ⟨d, t, h1, h2⟩ := h
  exact ⟨d, t, k _ _ n h1, k _ _ (fun e => by rw [e, hp] at h2; cases h2) h2⟩
def spCInit (K : PySem.W.Frag) (C1 C2 C3 : Addr) : Sp := fun vs H Q _ => ∃ (p dx l g : Addr) (ws : List Int) (x y : Int), vs = [.ref p, .ref l, .ref g] ∧ H p = some (.ins C1 dx []) ∧ SqL K H l (ws.map V.int) ∧ GoodW ws ∧ SqL K H g [] ∧
  ∀ q c d H', CnAt C1 C2 C3 H' p q ⟨[], [], [c], [ws], [d]⟩ x y → H q.B = none → H q.R = none → H q.D = none → H q.L = none → (∀ b o, b ≠ p → H b = some o → H' b = some o) → Q .non H'
theorem ok_Chain_init (T : Txt K mg a) : ∃ fd, FnOk P w K mg base CX0 4 a.d_Chain_init fd ["self", "weights", "grants"] (spCInit K a.C_Chain a.C_Committee a.C_Ledger) ∧ Binds K fd ["self", "weights", "grants"] [] := by
  obtain ⟨fd, F, b⟩ := T.d_Chain_init.F
  obtain ⟨fd_Committee_init, G_Committee_init, b_Committee_init⟩ := ok_Committee_init (P := P) (w := w) (base := base) T
  obtain ⟨fd_first_ledger, G_first_ledger, b_first_ledger⟩ := ok_first_ledger (P := P) (w := w) (base := base) T
  refine ⟨fd, F.ok sc_Chain_init (fun vs H Q E h => ?_) (fun cdv A outer s H vs Q E hr h => ?_), b⟩
  · obtain ⟨_, _, _, _, _, _, _, rfl, _⟩ := h
    rfl
  · obtain ⟨p, dx, l, g, ws, x, y, rfl, hp, hl, gw, hg, k⟩ := h
    refine ⟨_, (pss_cons (ps_fld (pv 0) (pe_lst pa_nil) rfl)
      (pss_cons (ps_fld (pv 0) (pe_lst pa_nil) rfl)
      (pss_cons (ps_fld (pv 0) (pe_lst (pa_cons (pe_make T.m_Committee G_Committee_init (hr.mono (by decide)) (by rfl) T.g_Committee b_Committee_init .nil pass0 (pa_cons (pv 1) pa_nil)) pa_nil)) rfl)
      (pss_one (ps_fld (pv 0) (pe_lst (pa_cons (pe_call G_first_ledger (hr.mono (by decide)) rfl T.d_first_ledger.g T.d_first_ledger.kp b_first_ledger .nil pass0 (pa_cons (pv 2) pa_nil)) pa_nil)) rfl))))), ?_⟩
    walk_at "rs"
    refine ⟨(by show 0 ≤ sizeLine; decide), fun B hB => ?_⟩
    have pB : p ≠ B := fun e => by rw [e, hB] at hp; cases hp
    walk_at "rs"
    refine ⟨p, _, dx, [], rfl, (by rw [upd_ne pB]; exact hp), T.cl_Chain, T.a_Chain_blocks, (by show 0 < 1000; decide), ?_⟩
    have k1 : But1 p H (upd (upd H B (.lst [])) p (.ins a.C_Chain dx (putF "blocks" (.ref B) []))) := fun b o n e => by
      rw [upd_ne n, upd_ne (fun q => by rw [q, hB] at e; cases e)]
      exact e
    have hB1 : (upd (upd H B (.lst [])) p (.ins a.C_Chain dx (putF "blocks" (.ref B) []))) B = some (.lst []) := by rw [upd_ne pB.symm, upd_same]
    have hp1 : (upd (upd H B (.lst [])) p (.ins a.C_Chain dx (putF "blocks" (.ref B) []))) p = some (.ins a.C_Chain dx [("blocks", .ref B)]) := by rw [upd_same]; rfl
    generalize (upd (upd H B (.lst [])) p (.ins a.C_Chain dx (putF "blocks" (.ref B) []))) = H1 at k1 hB1 hp1 ⊢
    walk_at "rs"
    refine ⟨(by show 0 ≤ sizeLine; decide), fun R hR => ?_⟩
    have pR : p ≠ R := fun e => by rw [e, hR] at hp1; cases hp1
    have BR : B ≠ R := fun e => by rw [e, hR] at hB1; cases hB1
    walk_at "rs"
    refine ⟨p, _, dx, _, rfl, (by rw [upd_ne pR]; exact hp1), T.cl_Chain, T.a_Chain_receipts, (by show 1 < 1000; decide), ?_⟩
    have k2 : But1 p H1 (upd (upd H1 R (.lst [])) p (.ins a.C_Chain dx (putF "receipts" (.ref R) [("blocks", .ref B)]))) := fun b o n e => by
      rw [upd_ne n, upd_ne (fun q => by rw [q, hR] at e; cases e)]
      exact e
    have hR2 : (upd (upd H1 R (.lst [])) p (.ins a.C_Chain dx (putF "receipts" (.ref R) [("blocks", .ref B)]))) R = some (.lst []) := by rw [upd_ne pR.symm, upd_same]
    have hp2 : (upd (upd H1 R (.lst [])) p (.ins a.C_Chain dx (putF "receipts" (.ref R) [("blocks", .ref B)]))) p = some (.ins a.C_Chain dx [("blocks", .ref B), ("receipts", .ref R)]) := by rw [upd_same]; rfl
    generalize (upd (upd H1 R (.lst [])) p (.ins a.C_Chain dx (putF "receipts" (.ref R) [("blocks", .ref B)]))) = H2 at k2 hR2 hp2 ⊢
    have k12 := k1.trans k2
    have hB2 := k2 _ _ pB.symm hB1
    walk_at "rs"
    intro c dc hc hdc ndc
    have sM : Same H2 (upd (upd H2 dc (.own c)) c (.ins a.C_Committee dc [])) := same_upd (same_new hdc) hc
    refine ⟨c, dc, l, ws, rfl, upd_same, sM.seq (k12.seq hp hl), gw, fun H3 hcm keep => ⟨rfl, ?_⟩⟩
    have s3 : Same H2 H3 := fun b o e => keep b o (sM _ _ e) (fun q => by rw [q, hc] at e; cases e)
    walk_at "rs"
    refine ⟨(by show 1 ≤ sizeLine; decide), fun D hD => ?_⟩
    have hp3 := s3 _ _ hp2
    have pD : p ≠ D := fun e => by rw [e, hD] at hp3; cases hp3
    have BD : B ≠ D := fun e => by rw [← e, s3 _ _ hB2] at hD; cases hD
    have RD : R ≠ D := fun e => by rw [← e, s3 _ _ hR2] at hD; cases hD
    walk_at "rs"
    refine ⟨p, _, dx, _, rfl, (by rw [upd_ne pD]; exact hp3), T.cl_Chain, T.a_Chain_committees, (by show 2 < 1000; decide), ?_⟩
    have k4 : But1 p H3 (upd (upd H3 D (.lst [V.ref c])) p (.ins a.C_Chain dx (putF "committees" (.ref D) [("blocks", .ref B), ("receipts", .ref R)]))) := fun b o n e => by
      rw [upd_ne n, upd_ne (fun q => by rw [q, hD] at e; cases e)]
      exact e
    have hD4 : (upd (upd H3 D (.lst [V.ref c])) p (.ins a.C_Chain dx (putF "committees" (.ref D) [("blocks", .ref B), ("receipts", .ref R)]))) D = some (.lst [V.ref c]) := by rw [upd_ne pD.symm, upd_same]
    have hp4 : (upd (upd H3 D (.lst [V.ref c])) p (.ins a.C_Chain dx (putF "committees" (.ref D) [("blocks", .ref B), ("receipts", .ref R)]))) p = some (.ins a.C_Chain dx [("blocks", .ref B), ("receipts", .ref R), ("committees", .ref D)]) := by rw [upd_same]; rfl
    have pc : c ≠ p := fun e => by rw [e, hp2] at hc; cases hc
    have hcm4 := hcm.but k4 pc hp3
    generalize (upd (upd H3 D (.lst [V.ref c])) p (.ins a.C_Chain dx (putF "committees" (.ref D) [("blocks", .ref B), ("receipts", .ref R)]))) = H4 at k4 hD4 hp4 hcm4 ⊢
    have k3 : But1 p H2 H3 := fun b o _ e => s3 _ _ e
    have k14 := (k12.trans k3).trans k4
    have hB4 := k4 _ _ pB.symm (s3 _ _ hB2)
    have hR4 := k4 _ _ pR.symm (s3 _ _ hR2)
    walk_at "rs"
    refine ⟨g, x, y, rfl, k14.seq hp hg, fun d t H5 s5 hd0 hld ht => ?_⟩
    walk_at "rs"
    refine ⟨(by show 1 ≤ sizeLine; decide), fun L hL => ?_⟩
    have hp5 := s5 _ _ hp4
    have pL : p ≠ L := fun e => by rw [e, hL] at hp5; cases hp5
    have BL : B ≠ L := fun e => by rw [← e, s5 _ _ hB4] at hL; cases hL
    have RL : R ≠ L := fun e => by rw [← e, s5 _ _ hR4] at hL; cases hL
    have DL : D ≠ L := fun e => by rw [← e, s5 _ _ hD4] at hL; cases hL
    walk_at "rs"
    refine ⟨p, _, dx, _, rfl, (by rw [upd_ne pL]; exact hp5), T.cl_Chain, T.a_Chain_ledgers, (by show 3 < 1000; decide), ?_⟩
    have k6 : But1 p H5 (upd (upd H5 L (.lst [V.ref d])) p (.ins a.C_Chain dx (putF "ledgers" (.ref L) [("blocks", .ref B), ("receipts", .ref R), ("committees", .ref D)]))) := fun b o n e => by
      rw [upd_ne n, upd_ne (fun q => by rw [q, hL] at e; cases e)]
      exact e
    have hL6 : (upd (upd H5 L (.lst [V.ref d])) p (.ins a.C_Chain dx (putF "ledgers" (.ref L) [("blocks", .ref B), ("receipts", .ref R), ("committees", .ref D)]))) L = some (.lst [V.ref d]) := by rw [upd_ne pL.symm, upd_same]
    have hp6 : (upd (upd H5 L (.lst [V.ref d])) p (.ins a.C_Chain dx (putF "ledgers" (.ref L) [("blocks", .ref B), ("receipts", .ref R), ("committees", .ref D)]))) p = some (.ins a.C_Chain dx [("blocks", .ref B), ("receipts", .ref R), ("committees", .ref D), ("ledgers", .ref L)]) := by rw [upd_same]; rfl
    generalize (upd (upd H5 L (.lst [V.ref d])) p (.ins a.C_Chain dx (putF "ledgers" (.ref L) [("blocks", .ref B), ("receipts", .ref R), ("committees", .ref D)]))) = H6 at k6 hL6 hp6 ⊢
    have k5 : But1 p H4 H5 := fun b o _ e => s5 _ _ e
    have kAll := (k14.trans k5).trans k6
    have hcm6 := (hcm4.same s5).but k6 pc hp5
    have dp : d ≠ p := fun e => by rw [e, hp4] at hd0; cases hd0
    have fr : ∀ {b : Addr} {Hx : Hp}, But1 p H Hx → b ≠ p → Hx b = none → H b = none := fun {b Hx} kx n e => by
      cases q : H b with
      | none => rfl
      | some o => rw [kx _ _ n q] at e; cases e
    refine k ⟨B, R, D, L⟩ c d H6 ⟨⟨dx, hp6⟩, k6 _ _ pB.symm (s5 _ _ hB4), k6 _ _ pR.symm (s5 _ _ hR4), k6 _ _ pD.symm (s5 _ _ hD4), hL6, rfl, rfl, rfl, rfl, BR, BD, BL, RD, RL, DL, fun i hi => ?_, fun z hz => ?_⟩ hB (fr k1 pR.symm hR) (fr (k12.trans k3) pD.symm hD) (fr (k14.trans k5) pL.symm hL) kAll
    · have : i = 0 := Nat.lt_one_iff.mp hi
      rw [this]
      exact ⟨hcm6, gw⟩
    · rw [List.mem_singleton.mp hz]
      obtain ⟨dd, c2, c3, h⟩ := hld
      exact ⟨t, ⟨dd, c2, c3, k6 _ _ dp h⟩, k6 _ _ (fun e => by rw [e, hp5] at ht; cases ht) ht⟩
def spCHeight (C1 C2 C3 : Addr) : Sp := fun vs H Q _ => ∃ (p : Addr) (q : CnP) (v : CnV) (x y : Int), vs = [.ref p] ∧ CnAt C1 C2 C3 H p q v x y ∧ Q (.int v.zs.length) H
theorem ok_Chain_height (T : Txt K mg a) : ∃ fd, FnOk P w K mg base CX0 1 a.d_Chain_height fd ["self"] (spCHeight a.C_Chain a.C_Committee a.C_Ledger) ∧ Binds K fd ["self"] [] := by
  obtain ⟨fd, F, b⟩ := T.d_Chain_height.F
  refine ⟨fd, F.ok sc_Chain_height (fun vs H Q E h => ?_) (fun cdv A outer s H vs Q E hr h => ?_), b⟩
  · obtain ⟨_, _, _, _, _, rfl, _⟩ := h
    rfl
  · obtain ⟨p, q, v, x, y, rfl, c, k⟩ := h
    obtain ⟨dx, hp⟩ := c.ins
    refine ⟨_, (pss_one (ps_ret (pe_callB call_len_seq (by rfl) T.n_len PySem.boot_len (pa_cons (pe_fld (pv 0) rfl) pa_nil)))), ?_⟩
    walk_at "rs"
    refine ⟨p, _, dx, _, .ref q.B, rfl, hp, T.cl_Chain, T.a_Chain_blocks, rfl, ?_⟩
    walk_at "rs"
    refine ⟨q.B, _, rfl, .inl (SqL.of c.hB), ?_⟩
    rw [List.length_map]
    exact k
def spCComm (C1 C2 C3 : Addr) : Sp := fun vs H Q _ => ∃ (p : Addr) (q : CnP) (v : CnV) (x y : Int), vs = [.ref p] ∧ CnAt C1 C2 C3 H p q v x y ∧ Q (.ref (v.ps.getD v.zs.length 0)) H
theorem at_last {α : Type} {xs : List α} {d : α} {n : Nat} (h : xs.length = n + 1) : atI xs (-1) = some (xs.getD n d) := by
  have ne : xs ≠ [] := fun e => by rw [e] at h; cases h
  have e := List.dropLast_concat_getLast ne
  rw [← e, atI_last]
  congr 1
  have l : xs.dropLast.length = n := by rw [List.length_dropLast]; omega
  rw [List.getD_eq_getElem?_getD, List.getElem?_append_right (Nat.le_of_eq l), l, Nat.sub_self]
  rfl
theorem map_getD {ps : List Addr} {n : Nat} (h : n < ps.length) : (ps.map V.ref).getD n .non = .ref (ps.getD n 0) := by
  rw [List.getD_eq_getElem?_getD, List.getD_eq_getElem?_getD, List.getElem?_map, List.getElem?_eq_getElem h]
  rfl
theorem ok_Chain_committee (T : Txt K mg a) : ∃ fd, FnOk P w K mg base CX0 1 a.d_Chain_committee fd ["self"] (spCComm a.C_Chain a.C_Committee a.C_Ledger) ∧ Binds K fd ["self"] [] := by
  obtain ⟨fd, F, b⟩ := T.d_Chain_committee.F
  refine ⟨fd, F.ok sc_Chain_committee (fun vs H Q E h => ?_) (fun cdv A outer s H vs Q E hr h => ?_), b⟩
  · obtain ⟨_, _, _, _, _, rfl, _⟩ := h
    rfl
  · obtain ⟨p, q, v, x, y, rfl, c, k⟩ := h
    obtain ⟨dx, hp⟩ := c.ins
    refine ⟨_, (pss_one (ps_ret (pe_ix ix_list (pe_fld (pv 0) rfl) (pe_un un_neg pe_int) (fun _ _ => rfl)))), ?_⟩
    walk_at "rs"
    refine ⟨p, _, dx, _, .ref q.D, rfl, hp, T.cl_Chain, T.a_Chain_committees, rfl, ?_⟩
    walk_at "rs"
    have e : atI (v.ps.map V.ref) (-1) = some (.ref (v.ps.getD v.zs.length 0)) := by
      rw [at_last (d := .non) (n := v.zs.length) (by rw [List.length_map]; exact c.np), map_getD (by have := c.np; omega)]
    refine ⟨q.D, _, _, _, rfl, rfl, SqL.of c.hD, e, ?_⟩
    exact k

def afterW (ws : List Int) (m v : Int) : List Int := if (ws.length : Int) ≤ m ∨ v < 1 then ws else ws.set m.toNat v
theorem afterW_len (ws : List Int) (m v : Int) : (afterW ws m v).length = ws.length := by
  unfold afterW
  split
  · rfl
  · rw [List.length_set]
theorem afterW_good {ws : List Int} {m v : Int} (g : GoodW ws) (hv : NOk v) : GoodW (afterW ws m v) := by
  unfold afterW
  split
  · exact g
  · rename_i c
    refine ⟨by rw [List.length_set]; exact g.1, by rw [List.length_set]; exact g.2.1, fun x hx => ?_⟩
    rcases List.mem_or_eq_of_mem_set hx with h | h
    · exact g.2.2 x h
    · rw [h]
      have := hv.2
      omega
def spAW (K : PySem.W.Frag) : Sp := fun vs H Q _ => ∃ (t c : Addr) (ws : List Int) (m v : Int), vs = [.ref t, .ref c] ∧ H t = some (.tup (ws.map V.int)) ∧ GoodW ws ∧ CmAt H c (.w m v) ∧ NOk m ∧ NOk v ∧
  ∀ q t' b H', Same H H' → H' q = some (.tup [.ref t', .bl b]) → H' t' = some (.tup ((afterW ws m v).map V.int)) → Q (.ref q) H'
theorem ok_after_weight (T : Txt K mg a) : ∃ fd, FnOk P w K mg base CX0 1 a.d_after_weight fd ["weights", "command"] (spAW K) ∧ Binds K fd ["weights", "command"] [] := by
  obtain ⟨fd, F, b⟩ := T.d_after_weight.F
  refine ⟨fd, F.ok sc_after_weight (fun vs H Q E h => ?_) (fun cdv A outer s H vs Q E hr h => ?_), b⟩
  · obtain ⟨_, _, _, _, _, rfl, _⟩ := h
    rfl
  · obtain ⟨t, c, ws, m, v, rfl, ht, gw, hc, om, ov, k⟩ := h
    have hc' : H c = some (.tup [.str "w", .int m, .int v]) := hc
    refine ⟨_, (pss_cons (ps_asg (pv 1) (pg_tup rfl (pgs_cons (pg_name (i := 2) sc_after_weight.nd rfl (Or.inl rfl)) (pgs_cons (pg_name (i := 3) sc_after_weight.nd rfl (Or.inl rfl)) (pgs_cons (pg_name (i := 4) sc_after_weight.nd rfl (Or.inl rfl)) pgs_nil)))))
      (pss_cons (ps_if (PW.pt (pw_or (pt_cmpR op_ge (pv 3) (pe_callB call_len_seq (by rfl) T.n_len PySem.boot_len (pa_cons (pv 0) pa_nil)) (nomark _)) (pw_or1 (pt_cmpR op_lt (pv 4) pe_int (nomark _)))))
      (pss_one (ps_ret (pe_tup (pa_cons (pv 0) (pa_cons pe_bl pa_nil)))))
      pss_nil)
      (pss_one (ps_ret (pe_tup (pa_cons (pe_op op_catA (pe_op op_catA (pe_slice sl_tup (pv 0) po_none (po_some (pv 3))) (pe_tup (pa_cons (pv 4) pa_nil))) (pe_slice sl_tup (pv 0) (po_some (pe_op op_add (pv 3) pe_int)) po_none)) (pa_cons pe_bl pa_nil))))))), ?_⟩
    walk_at "rs"
    refine ⟨c, _, rfl, SqT.of hc', rfl, ?_⟩
    refine ⟨_, _, rfl, _, _, rfl, _, _, rfl, rfl, ?_⟩
    walk_at "rs"
    refine ⟨t, _, rfl, .inr (SqT.of ht), ?_⟩
    have ln : (ws.map V.int).length = ws.length := List.length_map _
    rw [ln]
    have g2 := gw.2.1
    have no : (ws.length : Int) ≤ m ∨ v < 1 → ∀ q, H q = none → Q (.ref q) (upd H q (.tup [.ref t, .bl false])) := fun h q hq => by
      refine k q t false _ (same_new hq) upd_same ?_
      unfold afterW
      rw [if_pos h]
      exact same_new hq _ _ ht
    walk_at "rs"
    refine ite2 (fun c1 => ?_) (fun c1 => ?_)
    · have c1 : (ws.length : Int) ≤ m := by simpa using c1
      walk_at "rs"
      exact ⟨(by show 2 ≤ sizeLine; decide), no (.inl c1)⟩
    have c1 : ¬ (ws.length : Int) ≤ m := by simpa using c1
    walk_at "rs"
    refine ite2 (fun c2 => ?_) (fun c2 => ?_)
    · have c2 : v < 1 := by simpa using c2
      walk_at "rs"
      exact ⟨(by show 2 ≤ sizeLine; decide), no (.inr c2)⟩
    have c2 : ¬ v < 1 := by simpa using c2
    clear no
    have ea : afterW ws m v = ws.set m.toNat v := by
      unfold afterW
      rw [if_neg (by omega)]
    rw [ea] at k
    obtain ⟨j, rfl⟩ : ∃ j : Nat, m = (j : Int) := ⟨m.toNat, by have := om.1; omega⟩
    rw [Int.toNat_natCast] at k
    have hj : j < ws.length := by omega
    have nw1 : ¬ (HT.sIx (ws.map V.int).length 0 none = 0 ∧ HT.sIx (ws.map V.int).length (ws.map V.int).length (some (j : Int)) = (ws.map V.int).length) := by
      rw [HT.sIx_nat]
      omega
    have nw2 : ¬ (HT.sIx (ws.map V.int).length 0 (some ((j : Int) + 1)) = 0 ∧ HT.sIx (ws.map V.int).length (ws.map V.int).length none = (ws.map V.int).length) := by
      rw [show (j : Int) + 1 = ((j + 1 : Nat) : Int) from rfl, HT.sIx_nat]
      omega
    have hput : cutV (ws.map V.int) none (some (j : Int)) ++ [V.int v] ++ cutV (ws.map V.int) (some ((j : Int) + 1)) none = (ws.set j v).map V.int := by
      unfold cutV
      rw [show (j : Int) + 1 = ((j + 1 : Nat) : Int) from rfl, HT.sIx_nat, HT.sIx_nat, HT.sIx_none, HT.sIx_none, ln, Nat.min_eq_left (Nat.le_of_lt hj), Nat.min_eq_left hj, Nat.sub_zero, List.drop_zero, List.take_of_length_le (l := (ws.map V.int).drop (j + 1)) (by rw [List.length_drop, ln]; exact Nat.le_refl _), List.map_set, List.set_eq_take_append_cons_drop, if_pos (by rw [ln]; exact hj), List.append_assoc]
      rfl
    have lA := cutV_length (ws.map V.int) none (some (j : Int))
    have lC := cutV_length (ws.map V.int) (some ((j : Int) + 1)) none
    rw [ln] at lA lC
    walk_at "rs"
    refine ⟨t, _, rfl, SqT.of ht, nw1, fun q1 hq1 => ?_⟩
    generalize cutV (ws.map V.int) none (some (j : Int)) = A at hput lA
    have s1 := same_new (o := .tup A) hq1
    have h1 : (upd H q1 (.tup A)) q1 = some (.tup A) := upd_same
    generalize upd H q1 (.tup A) = H1 at s1 h1 ⊢
    walk_at "rs"
    refine ⟨(by show 1 ≤ sizeLine; decide), fun q2 hq2 => ?_⟩
    have s2 := same_new (o := .tup [V.int v]) hq2
    have h2 : (upd H1 q2 (.tup [V.int v])) q2 = some (.tup [V.int v]) := upd_same
    have h12 := s2 _ _ h1
    generalize upd H1 q2 (.tup [V.int v]) = H2 at s2 h2 h12 ⊢
    refine ⟨q1, q2, _, _, rfl, rfl, SqT.of h12, SqT.of h2, by rw [sizeLine_eq]; show A.length + 1 ≤ _; omega, fun h => ?_, fun _ h => (nomatch h), fun _ _ q3 hq3 => ?_⟩
    · have h3 : H2 q2 = some (.tup (A ++ [V.int v])) := by rw [h]; exact h2
      have s3 : Same H H2 := s1.trans s2
      generalize H2 = H3 at s3 h3 ⊢
      walk_at "rs"
      refine ⟨t, _, rfl, SqT.of (s3 _ _ ht), nw2, fun q4 hq4 => ?_⟩
      generalize cutV (ws.map V.int) (some ((j : Int) + 1)) none = C at hput lC
      have s4 := same_new (o := .tup C) hq4
      have h4 : (upd H3 q4 (.tup C)) q4 = some (.tup C) := upd_same
      have h34 := s4 _ _ h3
      generalize upd H3 q4 (.tup C) = H4 at s4 h4 h34 ⊢
      have s04 := s3.trans s4
      refine ⟨q2, q4, A ++ [V.int v], C, rfl, rfl, SqT.of h34, SqT.of h4, by rw [List.length_append, sizeLine_eq]; show A.length + 1 + C.length ≤ _; omega, fun h => absurd (congrArg List.length h) (by simp), fun _ h => ?_, fun _ _ q5 hq5 => ?_⟩
      · rw [h, List.append_nil] at hput
        rw [hput] at h34
        walk_at "rs"
        refine ⟨(by show 2 ≤ sizeLine; decide), fun r hr => ?_⟩
        exact k r q2 true _ (s04.trans (same_new hr)) upd_same (same_new hr _ _ h34)
      · have s5 := same_new (o := .tup (A ++ [V.int v] ++ C)) hq5
        have h5 : (upd H4 q5 (.tup (A ++ [V.int v] ++ C))) q5 = some (.tup (A ++ [V.int v] ++ C)) := upd_same
        generalize upd H4 q5 (.tup (A ++ [V.int v] ++ C)) = H5 at s5 h5 ⊢
        rw [hput] at h5
        walk_at "rs"
        refine ⟨(by show 2 ≤ sizeLine; decide), fun r hr => ?_⟩
        exact k r q5 true _ ((s04.trans s5).trans (same_new hr)) upd_same (same_new hr _ _ h5)
    · have h3 : (upd H2 q3 (.tup (A ++ [V.int v]))) q3 = some (.tup (A ++ [V.int v])) := upd_same
      have s3 : Same H (upd H2 q3 (.tup (A ++ [V.int v]))) := (s1.trans s2).trans (same_new hq3)
      generalize upd H2 q3 (.tup (A ++ [V.int v])) = H3 at s3 h3 ⊢
      walk_at "rs"
      refine ⟨t, _, rfl, SqT.of (s3 _ _ ht), nw2, fun q4 hq4 => ?_⟩
      generalize cutV (ws.map V.int) (some ((j : Int) + 1)) none = C at hput lC
      have s4 := same_new (o := .tup C) hq4
      have h4 : (upd H3 q4 (.tup C)) q4 = some (.tup C) := upd_same
      have h34 := s4 _ _ h3
      generalize upd H3 q4 (.tup C) = H4 at s4 h4 h34 ⊢
      have s04 := s3.trans s4
      refine ⟨q3, q4, A ++ [V.int v], C, rfl, rfl, SqT.of h34, SqT.of h4, by rw [List.length_append, sizeLine_eq]; show A.length + 1 + C.length ≤ _; omega, fun h => absurd (congrArg List.length h) (by simp), fun _ h => ?_, fun _ _ q5 hq5 => ?_⟩
      · rw [h, List.append_nil] at hput
        rw [hput] at h34
        walk_at "rs"
        refine ⟨(by show 2 ≤ sizeLine; decide), fun r hr => ?_⟩
        exact k r q3 true _ (s04.trans (same_new hr)) upd_same (same_new hr _ _ h34)
      · have s5 := same_new (o := .tup (A ++ [V.int v] ++ C)) hq5
        have h5 : (upd H4 q5 (.tup (A ++ [V.int v] ++ C))) q5 = some (.tup (A ++ [V.int v] ++ C)) := upd_same
        generalize upd H4 q5 (.tup (A ++ [V.int v] ++ C)) = H5 at s5 h5 ⊢
        rw [hput] at h5
        walk_at "rs"
        refine ⟨(by show 2 ≤ sizeLine; decide), fun r hr => ?_⟩
        exact k r q5 true _ ((s04.trans s5).trans (same_new hr)) upd_same (same_new hr _ _ h5)
/-- the weights behind commands -/
def rew (ws : List Int) (cs : List Cm) : List Int := cs.foldl (fun u c => match c with | .w m v => afterW u m v | _ => u) ws
def onlyW (cs : List Cm) : Prop := ∀ c ∈ cs, ∃ m v, c = .w m v ∧ NOk m ∧ NOk v
theorem rew_snoc (ws : List Int) (cs : List Cm) (m v : Int) : rew ws (cs ++ [.w m v]) = afterW (rew ws cs) m v := by
  unfold rew
  rw [List.foldl_append]
  rfl
theorem rew_good {ws : List Int} (g : GoodW ws) : ∀ {cs : List Cm}, onlyW cs → GoodW (rew ws cs) := by
  intro cs
  induction cs generalizing ws with
  | nil => exact fun _ => g
  | cons c cs ih =>
    intro o
    obtain ⟨m, v, rfl, _, hv⟩ := o c List.mem_cons_self
    exact ih (afterW_good g hv) fun x hx => o x (List.mem_cons_of_mem _ hx)
/-- all but what a chain may change stays -/
def ButC (q : CnP) (H H' : Hp) : Prop := ∀ b o, b ≠ q.B → b ≠ q.R → b ≠ q.D → b ≠ q.L → H b = some o → H' b = some o
theorem getD_memC {α : Type} {d : α} {xs : List α} {i : Nat} (h : i < xs.length) : xs.getD i d ∈ xs := by
  rw [List.getD_eq_getElem?_getD, List.getElem?_eq_getElem h]
  exact List.getElem_mem h
theorem take_snocC {α : Type} {d : α} {xs : List α} {i : Nat} (h : i < xs.length) : xs.take (i + 1) = xs.take i ++ [xs.getD i d] := by
  rw [List.take_add_one, List.getElem?_eq_getElem h, List.getD_eq_getElem?_getD, List.getElem?_eq_getElem h]
  rfl
theorem getD_app {α : Type} {d : α} {xs ys : List α} {i : Nat} (h : i < xs.length) : (xs ++ ys).getD i d = xs.getD i d := by
  rw [List.getD_eq_getElem?_getD, List.getD_eq_getElem?_getD, List.getElem?_append_left h]
theorem getD_end {α : Type} {d x : α} {xs : List α} : (xs ++ [x]).getD xs.length d = x := by
  rw [List.getD_eq_getElem?_getD, List.getElem?_append_right (Nat.le_refl _), Nat.sub_self]
  rfl
def NL (o : HO) : Prop := ∀ xs, o ≠ .lst xs
theorem ButC.nl {C1 C2 C3 : Addr} {H H' : Hp} {p : Addr} {q : CnP} {v : CnV} {x y : Int} (k : ButC q H H') (c : CnAt C1 C2 C3 H p q v x y) {b : Addr} {o : HO} (h : H b = some o) (n : NL o) : H' b = some o := by
  refine k b o (fun e => ?_) (fun e => ?_) (fun e => ?_) (fun e => ?_) h
  · rw [e, c.hB] at h; exact n _ (Option.some.inj h).symm
  · rw [e, c.hR] at h; exact n _ (Option.some.inj h).symm
  · rw [e, c.hD] at h; exact n _ (Option.some.inj h).symm
  · rw [e, c.hL] at h; exact n _ (Option.some.inj h).symm
def spExtend (C1 C2 C3 : Addr) : Sp := fun vs H Q _ => ∃ (p : Addr) (q : CnP) (v : CnV) (x y : Int) (z : Str), vs = [.ref p, .str z] ∧ CnAt C1 C2 C3 H p q v x y ∧ z.length ≤ 1000 ∧ onlyW (cmdsOf z) ∧ v.zs.length ≤ 900 ∧
  ∀ r c H', CnAt C1 C2 C3 H' p q ⟨v.zs ++ [z], v.rs ++ [r], v.ps ++ [c], v.ws ++ [rew (v.ws.getD v.zs.length []) (cmdsOf z)], v.ls ++ [v.ls.getD v.zs.length 0]⟩ x y → ButC q H H' → Q .non H'
theorem ok_Chain_extend (TE : TxtE P w K mg a) (T : Txt K mg a) : ∃ fd, FnOk P w K mg base CX0 5 a.d_Chain_extend fd ["self", "block"] (spExtend a.C_Chain a.C_Committee a.C_Ledger) ∧ Binds K fd ["self", "block"] [] := by
  obtain ⟨fd, F, b⟩ := T.d_Chain_extend.F
  obtain ⟨fd_commands_of, G_commands_of, b_commands_of⟩ := ok_commands_of (P := P) (w := w) (base := base) TE T
  obtain ⟨fd_Chain_committee, G_Chain_committee, b_Chain_committee⟩ := ok_Chain_committee (P := P) (w := w) (base := base) T
  obtain ⟨fd_Committee_init, G_Committee_init, b_Committee_init⟩ := ok_Committee_initT (P := P) (w := w) (base := base) T
  obtain ⟨fd_after_weight, G_after_weight, b_after_weight⟩ := ok_after_weight (P := P) (w := w) (base := base) T
  refine ⟨fd, F.ok sc_Chain_extend (fun vs H Q E h => ?_) (fun cdv A outer s H vs Q E hr h => ?_), b⟩
  · obtain ⟨_, _, _, _, _, _, rfl, _⟩ := h
    rfl
  · obtain ⟨p, q, v, x, y, z, rfl, c, lz, ow, few, k⟩ := h
    obtain ⟨dx, hp⟩ := id c.ins
    refine ⟨_, (pss_cons (ps_set (i := 2) sc_Chain_extend.nd rfl (Or.inl rfl) (pe_fld (pe_meth0 (pv 0) T.cl_Chain T.me_Chain_committee G_Chain_committee (hr.mono (by decide)) b_Chain_committee .nil pass0) rfl))
      (pss_cons (ps_set (i := 3) sc_Chain_extend.nd rfl (Or.inl rfl) (pe_ix ix_list (pe_fld (pv 0) rfl) (pe_un un_neg pe_int) (fun _ _ => rfl)))
      (pss_cons (ps_set (i := 4) sc_Chain_extend.nd rfl (Or.inl rfl) (pe_lst pa_nil))
      (pss_cons (ps_for PassesOwn.never rfl (pi_list (pe_call G_commands_of (hr.mono (by decide)) rfl T.d_commands_of.g T.d_commands_of.kp b_commands_of .nil pass0 (pa_cons (pv 1) pa_nil))) (pg_name (i := 5) sc_Chain_extend.nd rfl (Or.inl rfl))
      (pss_cons (ps_if (pt_cmpR op_eq (pe_ix ix_tup (pv 5) pe_int (fun _ _ => rfl)) pe_str (nomark _))
        (pss_one (ps_asg (pe_call G_after_weight (hr.mono (by decide)) rfl T.d_after_weight.g T.d_after_weight.kp b_after_weight .nil pass0 (pa_cons (pv 2) (pa_cons (pv 5) pa_nil))) (pg_tup rfl (pgs_cons (pg_name (i := 2) sc_Chain_extend.nd rfl (Or.inl rfl)) (pgs_cons (pg_name (i := 6) sc_Chain_extend.nd rfl (Or.inl rfl)) pgs_nil)))))
        (pss_one ps_never))
        (pss_one (ps_expr (pe_bm PySem.F.plainAttrs_list PySem.F.slot_list_append PySem.F.type_list_append mt_append (pv 4) (pa_cons (pv 6) pa_nil))))))
      (pss_cons (ps_expr (pe_bm PySem.F.plainAttrs_list PySem.F.slot_list_append PySem.F.type_list_append mt_append (pe_fld (pv 0) rfl) (pa_cons (pv 1) pa_nil)))
      (pss_cons (ps_expr (pe_bm PySem.F.plainAttrs_list PySem.F.slot_list_append PySem.F.type_list_append mt_append (pe_fld (pv 0) rfl) (pa_cons (pe_callTy call_tuple_of (by rfl) T.n_tuple (by decide +kernel) (pa_cons (pv 4) pa_nil)) pa_nil)))
      (pss_cons (ps_expr (pe_bm PySem.F.plainAttrs_list PySem.F.slot_list_append PySem.F.type_list_append mt_append (pe_fld (pv 0) rfl) (pa_cons (pe_make T.m_Committee G_Committee_init (hr.mono (by decide)) (by rfl) T.g_Committee b_Committee_init .nil pass0 (pa_cons (pv 2) pa_nil)) pa_nil)))
      (pss_one (ps_expr (pe_bm PySem.F.plainAttrs_list PySem.F.slot_list_append PySem.F.type_list_append mt_append (pe_fld (pv 0) rfl) (pa_cons (pv 3) pa_nil))))))))))), ?_⟩
    walk_at "rs"
    refine ⟨p, dx, _, rfl, hp, rfl, ?_⟩
    walk_at "rs"
    refine ⟨p, q, v, x, y, rfl, c, ?_⟩
    obtain ⟨⟨dc, t, hc1, hc2⟩, gw⟩ := c.cm v.zs.length (by have := c.nw; omega)
    walk_at "rs"
    refine ⟨_, _, dc, _, .ref t, rfl, hc1, T.cl_Committee, T.a_Committee_weights, cfs_w _ _, ?_⟩
    walk_at "rs"
    refine ⟨p, _, dx, _, .ref q.L, rfl, hp, T.cl_Chain, T.a_Chain_ledgers, rfl, ?_⟩
    walk_at "rs"
    have eL : atI (v.ls.map V.ref) (-1) = some (.ref (v.ls.getD v.zs.length 0)) := by
      rw [at_last (d := .non) (n := v.zs.length) (by rw [List.length_map]; exact c.nl), map_getD (by have := c.nl; omega)]
    refine ⟨q.L, _, _, _, rfl, rfl, SqL.of c.hL, eL, ?_⟩
    walk_at "rs"
    refine ⟨(by show 0 ≤ sizeLine; decide), fun rl hrl => ?_⟩
    have s1 := same_new (o := .lst []) hrl
    have hrl1 : (upd H rl (.lst [])) rl = some (.lst (([] : List Bool).map V.bl)) := upd_same
    generalize upd H rl (.lst []) = H1 at s1 hrl1 ⊢
    walk_at "rs"
    refine ⟨lz, fun u cps H2 s2 hu0 hu hcs => ?_⟩
    have ncs := hcs.1
    have lcs := cmdsOf_long z
    have url : u ≠ rl := fun e => by rw [e, hrl1] at hu0; cases hu0
    generalize cmdsOf z = cs at ow hcs ncs lcs k
    generalize hw0 : v.ws.getD v.zs.length [] = ws0 at gw hc2 k
    refine ⟨u, rfl, ⟨_, SqL.of hu⟩, for_list (K := K) (a := u) (xs := cps.map V.ref) (fun i σ H3 => ∃ (t' : Addr) (v5 v6 : Option V) (bs : List Bool), σ = [some (.ref p), some (.str z), some (.ref t'), some (.ref (v.ls.getD v.zs.length 0)), some (.ref rl), v5, v6] ∧ Same H H3 ∧ H3 rl = some (.lst (bs.map V.bl)) ∧ bs.length = i ∧
        H3 u = some (.lst (cps.map V.ref)) ∧ CmsAt H3 cps cs ∧ H3 t' = some (.tup ((rew ws0 (cs.take i)).map V.int)))
      ⟨t, _, _, [], rfl, s1.trans s2, s2 _ _ hrl1, rfl, hu, hcs, s2 _ _ (s1 _ _ hc2)⟩ (fun i σ H3 _ ⟨_, _, _, _, _, _, _, _, h, _⟩ => SqL.of h) ?_ ?_⟩
    · rintro i y' σ H3 hy ⟨t', v5, v6, bs, rfl, s3, hr3, lb, hu3, hc3, ht3⟩
      have hi : i < cps.length := by
        have e := (List.getElem?_eq_some_iff.mp hy).1
        rwa [List.length_map] at e
      rw [List.getElem?_map, List.getElem?_eq_getElem hi] at hy
      cases hy
      have hi' : i < cs.length := by omega
      have hcm := hc3.2 i hi'
      obtain ⟨m, vv, ec, om, ov⟩ := ow _ (getD_memC (d := default) hi')
      have et : cs.take (i + 1) = cs.take i ++ [.w m vv] := by rw [take_snocC (d := default) hi', ec]
      have ea : cps.getD i 0 = cps[i] := by rw [List.getD_eq_getElem?_getD, List.getElem?_eq_getElem hi]; rfl
      rw [ec, ea] at hcm
      have hcm' : H3 cps[i] = some (.tup [.str "w", .int m, .int vv]) := hcm
      have gi : GoodW (rew ws0 (cs.take i)) := rew_good gw fun c hc => ow c (List.mem_of_mem_take hc)
      walk_at "rs"
      refine ⟨_, _, _, _, rfl, rfl, SqT.of hcm', atI_nat (j := 0) rfl, ?_⟩
      walk_at "rs"
      refine ⟨t', cps[i], _, m, vv, rfl, ht3, gi, hcm', om, ov, fun q5 t5 b5 H4 s4 hq5 ht5 => ?_⟩
      refine ⟨q5, _, rfl, SqT.of hq5, rfl, ?_⟩
      refine ⟨_, _, rfl, _, _, rfl, rfl, ?_⟩
      walk_at "rs"
      have hr4 := s4 _ _ hr3
      refine ⟨.inl ⟨rfl, _, SqL.of hr4⟩, ?_⟩
      walk_at "rs"
      refine ⟨rl, _, _, rfl, rfl, hr4, by rw [List.length_map]; exact small1000 (by omega), ?_⟩
      have nrl : ∀ {b : Addr} {xs : List V}, H4 b = some (.tup xs) → b ≠ rl := fun {b xs} h e => by
        rw [e, hr4] at h
        cases h
      refine ⟨t5, _, _, bs ++ [b5], rfl, same_upd (s3.trans s4) hrl, by rw [upd_same, List.map_append]; rfl, by rw [List.length_append, lb]; rfl, by rw [upd_ne url]; exact s4 _ _ hu3, ⟨hc3.1, fun i' hi2 => ?_⟩, ?_⟩
      · have h := s4 _ _ (hc3.2 i' hi2)
        show upd H4 rl _ _ = _
        rw [upd_ne (nrl h)]
        exact h
      · rw [upd_ne (nrl ht5), et, rew_snoc]
        exact ht5
    · rintro σ H3 ⟨t', v5, v6, bs, rfl, s3, hr3, lb, hu3, hc3, ht3⟩
      rw [List.length_map, ncs, List.take_length] at ht3
      have gwn := rew_good gw ow
      generalize rew ws0 cs = wn at ht3 gwn k
      have c3 := c.same s3
      have lzs : v.zs.length ≤ 900 := few
      clear hcs hc3 hu3 hu hu0
      walk_at "rs"
      refine ⟨p, _, dx, _, .ref q.B, rfl, s3 _ _ hp, T.cl_Chain, T.a_Chain_blocks, rfl, ?_⟩
      refine ⟨.inl ⟨rfl, _, SqL.of c3.hB⟩, ?_⟩
      walk_at "rs"
      refine ⟨q.B, _, _, rfl, rfl, c3.hB, by rw [List.length_map]; exact small1000 (by omega), ?_⟩
      have hpB : p ≠ q.B := fun e => by rw [e, c.hB] at hp; cases hp
      have hpR : p ≠ q.R := fun e => by rw [e, c.hR] at hp; cases hp
      have hpD : p ≠ q.D := fun e => by rw [e, c.hD] at hp; cases hp
      have hpL : p ≠ q.L := fun e => by rw [e, c.hL] at hp; cases hp
      have u4 : ∀ {b : Addr} {o : HO}, b ≠ q.B → H3 b = some o → (upd H3 q.B (.lst (v.zs.map V.str ++ [V.str z]))) b = some o := fun n e => by rw [upd_ne n]; exact e
      have hB4 : (upd H3 q.B (.lst (v.zs.map V.str ++ [V.str z]))) q.B = some (.lst ((v.zs ++ [z]).map V.str)) := by rw [upd_same]; simp
      have rlB : rl ≠ q.B := fun e => by rw [e, c.hB] at hrl; cases hrl
      have rlR : rl ≠ q.R := fun e => by rw [e, c.hR] at hrl; cases hrl
      have tB : t' ≠ q.B := fun e => by rw [e, c3.hB] at ht3; cases ht3
      have tR : t' ≠ q.R := fun e => by rw [e, c3.hR] at ht3; cases ht3
      have hp4 := u4 hpB (s3 _ _ hp)
      have hr4 := u4 rlB hr3
      have ht4 := u4 tB ht3
      have hR4 := u4 c.ne1.symm c3.hR
      have hD4 := u4 c.ne2.symm c3.hD
      have hL4 := u4 c.ne3.symm c3.hL
      generalize upd H3 q.B (.lst (v.zs.map V.str ++ [V.str z])) = H4 at u4 hB4 hp4 hr4 ht4 hR4 hD4 hL4 ⊢
      walk_at "rs"
      refine ⟨p, _, dx, _, .ref q.R, rfl, hp4, T.cl_Chain, T.a_Chain_receipts, rfl, ?_⟩
      refine ⟨.inl ⟨rfl, _, SqL.of hR4⟩, ?_⟩
      walk_at "rs"
      refine ⟨rl, _, rfl, .inl ⟨SqL.of hr4, fun r hr => ?_⟩⟩
      have s5 := same_new (o := .tup (bs.map V.bl)) hr
      generalize upd H4 r (.tup (bs.map V.bl)) = H5 at s5 ⊢
      walk_at "rs"
      refine ⟨q.R, _, _, rfl, rfl, s5 _ _ hR4, by rw [List.length_map, c.nr]; exact small1000 (by omega), ?_⟩
      have u6 : ∀ {b : Addr} {o : HO}, b ≠ q.R → H5 b = some o → (upd H5 q.R (.lst (v.rs.map V.ref ++ [V.ref r]))) b = some o := fun n e => by rw [upd_ne n]; exact e
      have hR6 : (upd H5 q.R (.lst (v.rs.map V.ref ++ [V.ref r]))) q.R = some (.lst ((v.rs ++ [r]).map V.ref)) := by rw [upd_same]; simp
      have hp6 := u6 hpR (s5 _ _ hp4)
      have ht6 := u6 tR (s5 _ _ ht4)
      have hB6 := u6 c.ne1 (s5 _ _ hB4)
      have hD6 := u6 c.ne4.symm (s5 _ _ hD4)
      have hL6 := u6 c.ne5.symm (s5 _ _ hL4)
      generalize upd H5 q.R (.lst (v.rs.map V.ref ++ [V.ref r])) = H6 at u6 hR6 hp6 ht6 hB6 hD6 hL6 ⊢
      walk_at "rs"
      refine ⟨p, _, dx, _, .ref q.D, rfl, hp6, T.cl_Chain, T.a_Chain_committees, rfl, ?_⟩
      refine ⟨.inl ⟨rfl, _, SqL.of hD6⟩, ?_⟩
      walk_at "rs"
      intro cn dn hcn hdn ndn
      have sM : Same H6 (upd (upd H6 dn (.own cn)) cn (.ins a.C_Committee dn [])) := same_upd (same_new hdn) hcn
      refine ⟨cn, dn, t', wn, rfl, upd_same, sM _ _ ht6, gwn, fun H7 hcm keep => ⟨rfl, ?_⟩⟩
      have s7 : Same H6 H7 := fun b o e => keep b o (sM _ _ e) (fun q => by rw [q, hcn] at e; cases e)
      clear keep sM
      walk_at "rs"
      refine ⟨q.D, _, _, rfl, rfl, s7 _ _ hD6, by rw [List.length_map, c.np]; exact small1000 (by omega), ?_⟩
      have u8 : ∀ {b : Addr} {o : HO}, b ≠ q.D → H7 b = some o → (upd H7 q.D (.lst (v.ps.map V.ref ++ [V.ref cn]))) b = some o := fun n e => by rw [upd_ne n]; exact e
      have hD8 : (upd H7 q.D (.lst (v.ps.map V.ref ++ [V.ref cn]))) q.D = some (.lst ((v.ps ++ [cn]).map V.ref)) := by rw [upd_same]; simp
      have hp8 := u8 hpD (s7 _ _ hp6)
      have hB8 := u8 c.ne2 (s7 _ _ hB6)
      have hR8 := u8 c.ne4 (s7 _ _ hR6)
      have hL8 := u8 c.ne6.symm (s7 _ _ hL6)
      have hD7 := s7 _ _ hD6
      have hcm8 : CommAt a.C_Committee (upd H7 q.D (.lst (v.ps.map V.ref ++ [V.ref cn]))) cn wn := by
        obtain ⟨d1, t1, e1, e2⟩ := hcm
        exact ⟨d1, t1, u8 (fun e => by rw [e, hD7] at e1; cases e1) e1, u8 (fun e => by rw [e, hD7] at e2; cases e2) e2⟩
      generalize upd H7 q.D (.lst (v.ps.map V.ref ++ [V.ref cn])) = H8 at u8 hD8 hp8 hB8 hR8 hL8 hcm8 ⊢
      walk_at "rs"
      refine ⟨p, _, dx, _, .ref q.L, rfl, hp8, T.cl_Chain, T.a_Chain_ledgers, rfl, ?_⟩
      refine ⟨.inl ⟨rfl, _, SqL.of hL8⟩, ?_⟩
      walk_at "rs"
      refine ⟨q.L, _, _, rfl, rfl, hL8, by rw [List.length_map, c.nl]; exact small1000 (by omega), ?_⟩
      have u9 : ∀ {b : Addr} {o : HO}, b ≠ q.L → H8 b = some o → (upd H8 q.L (.lst (v.ls.map V.ref ++ [V.ref (v.ls.getD v.zs.length 0)]))) b = some o := fun n e => by rw [upd_ne n]; exact e
      have hL9 : (upd H8 q.L (.lst (v.ls.map V.ref ++ [V.ref (v.ls.getD v.zs.length 0)]))) q.L = some (.lst ((v.ls ++ [v.ls.getD v.zs.length 0]).map V.ref)) := by rw [upd_same]; simp
      have hcm9 : CommAt a.C_Committee (upd H8 q.L (.lst (v.ls.map V.ref ++ [V.ref (v.ls.getD v.zs.length 0)]))) cn wn := by
        obtain ⟨d1, t1, e1, e2⟩ := hcm8
        exact ⟨d1, t1, u9 (fun e => by rw [e, hL8] at e1; cases e1) e1, u9 (fun e => by rw [e, hL8] at e2; cases e2) e2⟩
      have hp9 := u9 hpL hp8
      have hB9 := u9 c.ne3 hB8
      have hR9 := u9 c.ne5 hR8
      have hD9 := u9 c.ne6 hD8
      generalize upd H8 q.L (.lst (v.ls.map V.ref ++ [V.ref (v.ls.getD v.zs.length 0)])) = H9 at u9 hL9 hcm9 hp9 hB9 hR9 hD9 ⊢
      have kq : ButC q H H9 := fun b o n1 n2 n3 n4 e => u9 n4 (u8 n3 (s7 _ _ (u6 n2 (s5 _ _ (u4 n1 (s3 _ _ e))))))
      have l1 := c.nr
      have l2 := c.np
      have l3 := c.nw
      have l4 := c.nl
      refine k r cn H9 ⟨⟨dx, hp9⟩, hB9, hR9, hD9, hL9, ?_, ?_, ?_, ?_, c.ne1, c.ne2, c.ne3, c.ne4, c.ne5, c.ne6, fun i hi => ?_, fun l hl => ?_⟩ kq
      · show (v.rs ++ [r]).length = (v.zs ++ [z]).length
        rw [List.length_append, List.length_append, l1]
        rfl
      · show (v.ps ++ [cn]).length = (v.zs ++ [z]).length + 1
        rw [List.length_append, List.length_append, l2]
        rfl
      · show (v.ws ++ [wn]).length = (v.zs ++ [z]).length + 1
        rw [List.length_append, List.length_append, l3]
        rfl
      · show (v.ls ++ [_]).length = (v.zs ++ [z]).length + 1
        rw [List.length_append, List.length_append, l4]
        rfl
      · have hi : i < (v.ws ++ [wn]).length := hi
        rw [List.length_append, List.length_singleton] at hi
        show CommAt _ _ ((v.ps ++ [cn]).getD i 0) ((v.ws ++ [wn]).getD i []) ∧ GoodW ((v.ws ++ [wn]).getD i [])
        rcases Nat.lt_or_ge i v.ws.length with z1 | z1
        · rw [getD_app (by omega), getD_app z1]
          obtain ⟨⟨d1, t1, e1, e2⟩, g1⟩ := c.cm i z1
          exact ⟨⟨d1, t1, kq.nl c e1 (fun _ e => nomatch e), kq.nl c e2 (fun _ e => nomatch e)⟩, g1⟩
        · have ei : i = v.ws.length := by omega
          rw [ei, getD_end, show v.ws.length = v.ps.length by omega, getD_end]
          exact ⟨hcm9, gwn⟩
      · have hl' : l ∈ v.ls := by
          rcases List.mem_append.mp hl with h | h
          · exact h
          · rw [List.mem_singleton.mp h]
            exact getD_memC (by omega)
        obtain ⟨t1, ⟨d1, c1, c2, e1⟩, e2⟩ := c.ld l hl'
        exact ⟨t1, ⟨d1, c1, c2, kq.nl c e1 (fun _ e => nomatch e)⟩, kq.nl c e2 (fun _ e => nomatch e)⟩

theorem good_pos {ws : List Int} (gw : GoodW ws) (k : Nat) : 0 ≤ ws.getD k 0 := by
  rcases Nat.lt_or_ge k ws.length with h | h
  · have := gw.2.2 _ (getD_mem h)
    omega
  · rw [List.getD_eq_getElem?_getD, List.getElem?_eq_none h]
    exact Int.le_refl _
theorem wt_mono2 {ws : List Int} {f g : Int → Bool} (pos : ∀ k : Nat, 0 ≤ ws.getD k 0) (h : ∀ k : Int, f k = true → g k = true) : ∀ n, wt ws f n ≤ wt ws g n
  | 0 => Int.le_refl _
  | n + 1 => by
    have ih := wt_mono2 pos h n
    have p := pos n
    have q := h n
    rw [wt_succ, wt_succ]
    cases e : f (n : Int) with
    | true =>
      rw [q e, if_pos rfl]
      omega
    | false =>
      rw [if_neg Bool.false_ne_true]
      split <;> omega
theorem qrm_mono {ws ms ns : List Int} (pos : ∀ k : Nat, 0 ≤ ws.getD k 0) (h : ∀ k ∈ ms, k ∈ ns) (q : qrm ws ms = true) : qrm ws ns = true := by
  have q := of_decide_eq_true q
  have : wOf ws ms ≤ wOf ws ns := wt_mono2 pos (fun k hk => decide_eq_true (h k (of_decide_eq_true hk))) _
  exact decide_eq_true (by omega)
theorem mem_mono {xs ys : List Lt} {h t : Int} {b : Option Str} {L M : List Int} (hxy : ∀ x ∈ xs, x ∈ ys) (hL : ∀ k ∈ L, k ∈ M) : ∀ k ∈ memM xs h t b L, k ∈ memM ys h t b M := fun k hk => by
  unfold memM at hk ⊢
  obtain ⟨x, hx, rfl⟩ := List.mem_map.mp hk
  obtain ⟨h1, h2⟩ := List.mem_filter.mp hx
  refine List.mem_map.mpr ⟨x, List.mem_filter.mpr ⟨hxy x h1, ?_⟩, rfl⟩
  unfold cnt at h2 ⊢
  rw [Bool.and_eq_true_iff] at h2 ⊢
  refine ⟨h2.1, ?_⟩
  have h3 := h2.2
  cases e : x.m.l with
  | none => rfl
  | some l =>
    rw [e] at h3
    have h3 : (decide (l ∈ L) && decide (l < t)) = true := h3
    rw [Bool.and_eq_true_iff] at h3
    show (decide (l ∈ M) && decide (l < t)) = true
    rw [decide_eq_true (hL l (of_decide_eq_true h3.1)), h3.2]
    rfl
theorem lns_mono {ws : List Int} {xs ys : List Lt} {h : Int} {b : Option Str} (pos : ∀ k : Nat, 0 ≤ ws.getD k 0) (hxy : ∀ x ∈ xs, x ∈ ys) : ∀ n, ∀ k ∈ lns ws xs h b n, k ∈ lns ws ys h b n
  | 0, k, hk => hk
  | n + 1, k, hk => by
    have ih := lns_mono (h := h) (b := b) pos hxy n
    by_cases c : certM ws xs h b n = true
    · have c2 : certM ws ys h b n = true := qrm_mono pos (mem_mono hxy ih) c
      rw [lns_yes c] at hk
      rw [lns_yes c2]
      rcases List.mem_append.mp hk with hk | hk
      · exact List.mem_append_left _ (ih k hk)
      · exact List.mem_append_right _ hk
    · rw [lns_no c] at hk
      by_cases c2 : certM ws ys h b n = true
      · rw [lns_yes c2]
        exact List.mem_append_left _ (ih k hk)
      · rw [lns_no c2]
        exact ih k hk
theorem comm_mono {ws : List Int} {xs ys : List Lt} {h : Int} {b : Option Str} {n : Nat} (pos : ∀ k : Nat, 0 ≤ ws.getD k 0) (hxy : ∀ x ∈ xs, x ∈ ys) (c : commM ws xs h b n = true) : commM ws ys h b n = true := by
  unfold commM at c ⊢
  rw [Bool.and_eq_true_iff] at c ⊢
  refine ⟨qrm_mono pos (fun k hk => ?_) c.1, qrm_mono pos (mem_mono hxy (lns_mono pos hxy n)) c.2⟩
  unfold comS at hk ⊢
  obtain ⟨x, hx, rfl⟩ := List.mem_map.mp hk
  obtain ⟨h1, h2⟩ := List.mem_filter.mp hx
  exact List.mem_map.mpr ⟨x, List.mem_filter.mpr ⟨hxy x h1, h2⟩, rfl⟩
theorem sh_some {ws : List Int} {xs : List Lt} {h : Int} {b : Str} : shM ws xs h (some b) = true ↔ ∃ t : Nat, t < 60 ∧ commM ws xs h (some b) t = true := by
  have key : ∀ u, u ∈ cmL ws xs h (some b) ↔ (0 ≤ u ∧ u < 60) ∧ commM ws xs h (some b) u.toNat = true := fun u => by
    show u ∈ (lns ws xs h (some b) 60).filter (fun t => qrm ws (comS xs h t (some b))) ↔ _
    rw [List.mem_filter, mem_lnsI]
    unfold commM
    rw [Bool.and_eq_true_iff]
    constructor
    · rintro ⟨⟨h1, h2, h3⟩, h4⟩
      have et : ((u.toNat : Nat) : Int) = u := Int.toNat_of_nonneg h1
      rw [et]
      exact ⟨⟨h1, h2⟩, h4, h3⟩
    · rintro ⟨⟨h1, h2⟩, h4, h3⟩
      have et : ((u.toNat : Nat) : Int) = u := Int.toNat_of_nonneg h1
      rw [et] at h4
      exact ⟨⟨h1, h2, h3⟩, h4⟩
  unfold shM
  constructor
  · intro z
    cases e : cmL ws xs h (some b) with
    | nil => rw [e] at z; cases z
    | cons y ys =>
      have := (key y).mp (by rw [e]; exact List.mem_cons_self)
      exact ⟨y.toNat, by omega, this.2⟩
  · rintro ⟨t, ht, c⟩
    have := (key (t : Int)).mpr ⟨⟨by omega, by omega⟩, by rw [Int.toNat_natCast]; exact c⟩
    cases e : cmL ws xs h (some b) with
    | nil => rw [e] at this; cases this
    | cons y ys => rfl
theorem sh_four {ws : List Int} {xs : List Lt} {h : Int} {b : Str} (g : GoodW ws) (four : ∀ x ∈ xs, 0 ≤ x.m.t ∧ x.m.t < 4) : shM ws xs h (some b) = true ↔ ∃ t : Nat, t < 5 ∧ commM ws xs h (some b) t = true := by
  rw [sh_some]
  constructor
  · rintro ⟨t, _, c⟩
    refine ⟨t, ?_, c⟩
    refine Nat.lt_of_not_le fun z => ?_
    have : certM ws xs h (some b) t = false := cert_none g (fun z => nomatch z) fun ⟨x, hx, y⟩ => by
      have h1 := inT_t y
      have h2 := four x hx
      omega
    unfold commM at c
    rw [this, Bool.and_false] at c
    cases c
  · rintro ⟨t, h1, c⟩
    exact ⟨t, by omega, c⟩

theorem sh_three {ws : List Int} {xs : List Lt} {h : Int} {b : Str} (g : GoodW ws) (three : ∀ x ∈ xs, 0 ≤ x.m.t ∧ x.m.t < 3) : shM ws xs h (some b) = true ↔ ∃ t : Nat, t < 3 ∧ commM ws xs h (some b) t = true := by
  rw [sh_some]
  constructor
  · rintro ⟨t, _, c⟩
    refine ⟨t, ?_, c⟩
    refine Nat.lt_of_not_le fun z => ?_
    have : certM ws xs h (some b) t = false := cert_none g (fun z => nomatch z) fun ⟨x, hx, y⟩ => by
      have h1 := inT_t y
      have h2 := three x hx
      omega
    unfold commM at c
    rw [this, Bool.and_false] at c
    cases c
  · rintro ⟨t, h1, c⟩
    exact ⟨t, by omega, c⟩
/-! ### clients -/
def ClAt (C : Addr) (H : Hp) (k p : Addr) : Prop := ∃ dx, H k = some (.ins C dx [("chain", .ref p)])
def spClInit (K : PySem.W.Frag) (C0 C1 C2 C3 : Addr) : Sp := fun vs H Q _ => ∃ (k dx l g : Addr) (ws : List Int) (x y : Int), vs = [.ref k, .ref l, .ref g] ∧ H k = some (.ins C0 dx []) ∧ SqL K H l (ws.map V.int) ∧ GoodW ws ∧ SqL K H g [] ∧
  ∀ p q c d H', ClAt C0 H' k p → CnAt C1 C2 C3 H' p q ⟨[], [], [c], [ws], [d]⟩ x y → H p = none → H q.B = none → H q.R = none → H q.D = none → H q.L = none → But1 k H H' → Q .non H'
theorem CnAt.but {C1 C2 C3 : Addr} {H H' : Hp} {p k : Addr} {q : CnP} {v : CnV} {x y : Int} {C dx : Addr} {fs : List (Str × V)} (c : CnAt C1 C2 C3 H p q v x y) (s : But1 k H H') (hk : H k = some (.ins C dx fs)) (n : p ≠ k) (hC3 : ∀ l ∈ v.ls, l ≠ k) (hC2 : ∀ z ∈ v.ps, z ≠ k) : CnAt C1 C2 C3 H' p q v x y := by
  have L : ∀ {b : Addr} {xs : List V}, H b = some (.lst xs) → H' b = some (.lst xs) := fun {b xs} h => s _ _ (fun e => by rw [e, hk] at h; cases h) h
  have Tt : ∀ {b : Addr} {xs : List V}, H b = some (.tup xs) → H' b = some (.tup xs) := fun {b xs} h => s _ _ (fun e => by rw [e, hk] at h; cases h) h
  exact { c with
    ins := c.ins.elim fun d h => ⟨d, s _ _ n h⟩
    hB := L c.hB
    hR := L c.hR
    hD := L c.hD
    hL := L c.hL
    cm := fun i hi => by
      obtain ⟨⟨d1, t1, e1, e2⟩, g⟩ := c.cm i hi
      have : v.ps.getD i 0 ∈ v.ps := getD_memC (by have := c.np; have := c.nw; omega)
      exact ⟨⟨d1, t1, s _ _ (hC2 _ this) e1, Tt e2⟩, g⟩
    ld := fun l hl => by
      obtain ⟨t, ⟨d1, c2, c3, h1⟩, h2⟩ := c.ld l hl
      exact ⟨t, ⟨d1, c2, c3, s _ _ (hC3 l hl) h1⟩, Tt h2⟩ }
theorem ok_Client_init (T : Txt K mg a) : ∃ fd, FnOk P w K mg base CX0 6 a.d_Client_init fd ["self", "weights", "grants"] (spClInit K a.C_Client a.C_Chain a.C_Committee a.C_Ledger) ∧ Binds K fd ["self", "weights", "grants"] [] := by
  obtain ⟨fd, F, b⟩ := T.d_Client_init.F
  obtain ⟨fd_Chain_init, G_Chain_init, b_Chain_init⟩ := ok_Chain_init (P := P) (w := w) (base := base) T
  refine ⟨fd, F.ok sc_Client_init (fun vs H Q E h => ?_) (fun cdv A outer s H vs Q E hr h => ?_), b⟩
  · obtain ⟨_, _, _, _, _, _, _, rfl, _⟩ := h
    rfl
  · obtain ⟨k, dx, l, g, ws, x, y, rfl, hk, hl, gw, hg, kk⟩ := h
    refine ⟨_, (pss_one (ps_fld (pv 0) (pe_make T.m_Chain G_Chain_init (hr.mono (by decide)) (by rfl) T.g_Chain b_Chain_init .nil pass0 (pa_cons (pv 1) (pa_cons (pv 2) pa_nil))) rfl)), ?_⟩
    walk_at "rs"
    intro p dp hp hdp ndp
    have sM : Same H (upd (upd H dp (.own p)) p (.ins a.C_Chain dp [])) := same_upd (same_new hdp) hp
    refine ⟨p, dp, l, g, ws, x, y, rfl, upd_same, sM.seq hl, gw, sM.seq hg, fun q c d H1 hc f1 f2 f3 f4 keep => ⟨rfl, ?_⟩⟩
    have s1 : Same H H1 := fun b o e => keep b o (fun q => by rw [q, hp] at e; cases e) (sM _ _ e)
    have fr : ∀ {b : Addr}, (upd (upd H dp (.own p)) p (.ins a.C_Chain dp [])) b = none → H b = none := fun h => sM.free h
    have hk1 := s1 _ _ hk
    have pk : p ≠ k := fun e => by rw [e, hk] at hp; cases hp
    walk_at "rs"
    refine ⟨k, _, dx, [], rfl, hk1, T.cl_Client, T.a_Client_chain, (by show 0 < 1000; decide), ?_⟩
    have ck : ∀ z ∈ [c], z ≠ k := fun z hz e => by
      rw [List.mem_singleton.mp hz] at e
      obtain ⟨⟨d1, t1, e1, e2⟩, _⟩ := hc.cm 0 (by show 0 < 1; decide)
      have e1 : H1 c = some (.ins a.C_Committee d1 (cfs t1 ws)) := e1
      rw [e, hk1] at e1
      have e3 := (congrArg (fun o : Option HO => match o with | some (.ins _ _ fs) => fs.length | _ => 0) e1)
      have e4 : (cfs t1 ws).length = 0 := e3.symm
      have e5 := cfs_w t1 ws
      rw [List.length_eq_zero_iff.mp e4] at e5
      cases e5
    have dk : ∀ z ∈ [d], z ≠ k := fun z hz e => by
      rw [List.mem_singleton.mp hz] at e
      obtain ⟨t, ⟨d1, c2, c3, h1⟩, h2⟩ := hc.ld d (List.mem_singleton.mpr rfl)
      rw [e, hk1] at h1
      have e3 := (congrArg (fun o : Option HO => match o with | some (.ins _ _ fs) => fs.length | _ => 0) h1)
      exact absurd (show (0 : Nat) = 3 from e3) (by decide)
    have kp : But1 k H1 (upd H1 k (.ins a.C_Client dx (putF "chain" (.ref p) []))) := fun b o n e => by rw [upd_ne n]; exact e
    refine kk p q c d _ ⟨dx, by rw [upd_same]; rfl⟩ (hc.but kp hk1 pk dk ck) hp (fr f1) (fr f2) (fr f3) (fr f4) fun b o n e => kp b o n (s1 _ _ e)
def spFollow (C0 C1 C2 C3 CB : Addr) : Sp := fun vs H Q E => ∃ (k p l : Addr) (z : Str) (q : CnP) (v : CnV) (x y : Int) (ps : List Addr) (xs : List Lt), vs = [.ref k, .str z, .ref l] ∧ ClAt C0 H k p ∧ CnAt C1 C2 C3 H p q v x y ∧ z.length ≤ 1000 ∧ onlyW (cmdsOf z) ∧ v.zs.length ≤ 800 ∧
  H l = some (.lst (ps.map V.ref)) ∧ LsAt H ps xs ∧ xs.length ≤ 900 ∧ TB xs ∧
  (shM (v.ws.getD v.zs.length []) xs v.zs.length (some z) = true → ∀ r c H', CnAt C1 C2 C3 H' p q ⟨v.zs ++ [z], v.rs ++ [r], v.ps ++ [c], v.ws ++ [rew (v.ws.getD v.zs.length []) (cmdsOf z)], v.ls ++ [v.ls.getD v.zs.length 0]⟩ x y → ButC q H H' → Q (.int ((v.zs.length : Int) + 1)) H') ∧
  (shM (v.ws.getD v.zs.length []) xs v.zs.length (some z) = false → ∀ H', Same H H' → E (.ref CB) none H')
theorem ButC.of_same {q : CnP} {H H' H'' : Hp} (s : Same H H') (k : ButC q H' H'') : ButC q H H'' := fun b o n1 n2 n3 n4 e => k b o n1 n2 n3 n4 (s _ _ e)
theorem ok_Client_follow (TE : TxtE P w K mg a) (T : Txt K mg a) : ∃ fd, FnOk P w K mg base (L2N.CX P w) 7 a.d_Client_follow fd ["self", "block", "paper"] (spFollow a.C_Client a.C_Chain a.C_Committee a.C_Ledger a.C_BadPaper) ∧ Binds K fd ["self", "block", "paper"] [] := by
  obtain ⟨fd, F, b⟩ := T.d_Client_follow.F
  obtain ⟨fd_Chain_extend, G_Chain_extend, b_Chain_extend⟩ := ok_Chain_extend (P := P) (w := w) (base := base) TE T
  obtain ⟨fd_Chain_height, G_Chain_height, b_Chain_height⟩ := ok_Chain_height (P := P) (w := w) (base := base) T
  obtain ⟨fd_shows, G_shows, b_shows⟩ := ok_shows (P := P) (w := w) (base := base) T
  obtain ⟨fd_Chain_committee, G_Chain_committee, b_Chain_committee⟩ := ok_Chain_committee (P := P) (w := w) (base := base) T
  refine ⟨fd, fun_okN F sc_Client_follow (fun vs H Q E h => ?_) (fun cdv A outer s H vs Q E hr h => ?_), b⟩
  · obtain ⟨_, _, _, _, _, _, _, _, _, _, rfl, _⟩ := h
    rfl
  · obtain ⟨k, p, l, z, q, v, x, y, ps, xs, rfl, ⟨dk, hk⟩, hc, lz, ow, few, hl, hx, fx, tb, k1, k2⟩ := h
    obtain ⟨dp, hp⟩ := id hc.ins
    obtain ⟨cm, gw⟩ := hc.cm v.zs.length (by have := hc.nw; omega)
    refine ⟨_, (pss_cons (ps_if (pt_not (pt_val (pe_call G_shows (hr.mono (by decide)) rfl T.d_shows.g T.d_shows.kp b_shows .nil pass0 (pa_cons (pe_meth0 (pe_fld (pv 0) rfl) T.cl_Chain T.me_Chain_committee G_Chain_committee (hr.mono (by decide)) b_Chain_committee .nil pass0) (pa_cons (pe_meth0 (pe_fld (pv 0) rfl) T.cl_Chain T.me_Chain_height G_Chain_height (hr.mono (by decide)) b_Chain_height .nil pass0) (pa_cons (pv 1) (pa_cons (pv 2) pa_nil)))))))
      (pss_one (L2N.ps_raise rfl (L2N.takes_of rfl rfl rfl rfl) (L2N.pmk_own PySem.F.excBase_ValueError TE.x_BadPaper TE.g_BadPaper TE.kc_BadPaper (raises_own TE.b_BadPaper TE.t_BadPaper) rfl)))
      pss_nil)
      (pss_cons (ps_expr (pe_meth (pe_fld (pv 0) rfl) T.cl_Chain T.me_Chain_extend G_Chain_extend (hr.mono (by decide)) b_Chain_extend .nil pass0 (pa_cons (pv 1) pa_nil)))
      (pss_one (ps_ret (pe_meth0 (pe_fld (pv 0) rfl) T.cl_Chain T.me_Chain_height G_Chain_height (hr.mono (by decide)) b_Chain_height .nil pass0))))), ?_⟩
    walk_at "rs"
    refine ⟨k, _, dk, _, .ref p, rfl, hk, T.cl_Client, T.a_Client_chain, rfl, ?_⟩
    walk_at "rs"
    refine ⟨p, dp, _, rfl, hp, rfl, ?_⟩
    walk_at "rs"
    refine ⟨p, q, v, x, y, rfl, hc, ?_⟩
    walk_at "rs"
    refine ⟨k, _, dk, _, .ref p, rfl, hk, T.cl_Client, T.a_Client_chain, rfl, ?_⟩
    walk_at "rs"
    refine ⟨p, dp, _, rfl, hp, rfl, ?_⟩
    walk_at "rs"
    refine ⟨p, q, v, x, y, rfl, hc, ?_⟩
    walk_at "rs"
    refine ⟨_, l, _, ps, xs, _, some z, rfl, cm, gw, hl, hx, fx, tb, fun H1 s1 => ?_⟩
    cases e : shM (v.ws.getD v.zs.length []) xs v.zs.length (some z) with
    | false =>
      walk_at "rs"
      exact k2 e H1 s1
    | true =>
      have k1 := k1 e
      walk_at "rs"
      refine ⟨k, _, dk, _, .ref p, rfl, s1 _ _ hk, T.cl_Client, T.a_Client_chain, rfl, ?_⟩
      walk_at "rs"
      refine ⟨p, dp, _, rfl, s1 _ _ hp, rfl, ?_⟩
      walk_at "rs"
      refine ⟨p, q, v, x, y, z, rfl, hc.same s1, lz, ow, by omega, fun r c H2 hc2 kq => ?_⟩
      have hk2 := kq.nl (hc.same s1) (s1 _ _ hk) (fun _ e => nomatch e)
      have hp2 := kq.nl (hc.same s1) (s1 _ _ hp) (fun _ e => nomatch e)
      walk_at "rs"
      refine ⟨k, _, dk, _, .ref p, rfl, hk2, T.cl_Client, T.a_Client_chain, rfl, ?_⟩
      walk_at "rs"
      refine ⟨p, dp, _, rfl, hp2, rfl, ?_⟩
      walk_at "rs"
      refine ⟨p, q, _, x, y, rfl, hc2, ?_⟩
      have := k1 r c H2 hc2 (kq.of_same s1)
      show Q (.int (((v.zs ++ [z]).length : Nat) : Int)) H2
      rw [List.length_append]
      exact this

/-! ### a list of letters that is being made -/
structure PLg (H Hc : Hp) (pl : Addr) (G : Lt → Prop) (n : Nat) (ps : List Addr) (xs : List Lt) : Prop where
  same : Same H Hc
  free : H pl = none
  at' : Hc pl = some (.lst (ps.map V.ref))
  ls : LsAt Hc ps xs
  good : ∀ x ∈ xs, G x
  few : xs.length ≤ n
theorem PLg.start {H Hc : Hp} {pl : Addr} {G : Lt → Prop} (s : Same H Hc) (f : Hc pl = none) : PLg H (upd Hc pl (.lst [])) pl G 0 [] [] :=
  ⟨s.trans (same_new f), s.free f, upd_same, LsAt.nil, fun x hx => (nomatch hx), Nat.le_refl _⟩
theorem PLg.more {H Hc : Hp} {pl : Addr} {G : Lt → Prop} {n n' : Nat} {ps : List Addr} {xs : List Lt} (I : PLg H Hc pl G n ps xs) (h : n ≤ n') : PLg H Hc pl G n' ps xs := { I with few := Nat.le_trans I.few h }
theorem PLg.go {H Hc H' : Hp} {pl : Addr} {G : Lt → Prop} {n : Nat} {ps : List Addr} {xs : List Lt} (I : PLg H Hc pl G n ps xs) (s : Same Hc H') : PLg H H' pl G n ps xs :=
  { I with same := I.same.trans s, at' := s _ _ I.at', ls := I.ls.same s }
theorem PLg.push {H Hc : Hp} {pl t : Addr} {G : Lt → Prop} {n : Nat} {ps : List Addr} {xs : List Lt} {x : Lt} (I : PLg H Hc pl G n ps xs) (e : LtAt Hc t x) (g : G x) : PLg H (upd Hc pl (.lst (ps.map V.ref ++ [V.ref t]))) pl G (n + 1) (ps ++ [t]) (xs ++ [x]) where
  same := same_upd I.same I.free
  free := I.free
  at' := by
    rw [upd_same]
    simp
  ls := (I.ls.snoc e).upd I.at'
  good := fun y hy => by
    rcases List.mem_append.mp hy with hy | hy
    · exact I.good y hy
    · rw [List.mem_singleton.mp hy]
      exact g
  few := by
    have := I.few
    rw [List.length_append, List.length_singleton]
    omega
theorem PLg.fit {H Hc : Hp} {pl : Addr} {G : Lt → Prop} {n : Nat} {ps : List Addr} {xs : List Lt} (I : PLg H Hc pl G n ps xs) (h : n < 1000) : (ps.map V.ref).length < sizeLine := by
  have := I.few
  rw [List.length_map, I.ls.1]
  exact small1000 (by omega)
/-- a fresh statement in a fresh letter -/
theorem lt_new {H : Hp} {q t : Addr} {w : Int} {m : Sm} {vs : List V} (hq : H q = none) (ev : vs = m.vals) (ht : upd H q (.tup vs) t = none) : LtAt (upd (upd H q (.tup vs)) t (.tup [.int w, .ref q])) t ⟨w, m⟩ ∧ Same H (upd (upd H q (.tup vs)) t (.tup [.int w, .ref q])) := by
  have s1 : Same H (upd H q (.tup vs)) := same_new hq
  have s2 : Same (upd H q (.tup vs)) (upd (upd H q (.tup vs)) t (.tup [.int w, .ref q])) := same_new ht
  refine ⟨⟨q, upd_same, s2 _ _ ?_⟩, s1.trans s2⟩
  rw [upd_same, ev]
theorem upd_row {H : Hp} {pl pd : Addr} {o r : HO} (n : pd ≠ pl) (h : H pd = some r) : upd H pl o pd = some r := by
  rw [upd_ne n]
  exact h
/-- a letter of a paper that the law makes -/
def PapL (h : Int) (z : Str) (x : Lt) : Prop := x.m.b = some z ∧ x.m.h = h ∧ 0 ≤ x.m.t ∧ x.m.t < 12 ∧ x.m.k ≠ .prop ∧ 0 ≤ x.w ∧ x.w < 16 ∧ x.m.l = none
def BlkOk (z : Str) : Prop := z.length ≤ 60 ∧ PyData.strOk z = true ∧ ((∃ m v : Int, z = (Cm.w m v).txt ∧ 0 ≤ m ∧ m < 5 ∧ 1 ≤ v ∧ v < 10) ∨ ((∃ c r, TL.tl z = c :: r ∧ (c = 98 ∨ c = 99))))
theorem BlkOk.cmds {z : Str} (h : BlkOk z) : (∃ m v : Int, z = (Cm.w m v).txt ∧ 0 ≤ m ∧ m < 5 ∧ 1 ≤ v ∧ v < 10 ∧ cmdsOf z = [.w m v]) ∨ ((∃ c r, TL.tl z = c :: r ∧ (c = 98 ∨ c = 99)) ∧ cmdsOf z = []) := by
  rcases h.2.2 with ⟨m, v, e, m0, m1, v0, v1⟩ | ⟨c, r, e, hc⟩
  · refine .inl ⟨m, v, e, m0, m1, v0, v1, ?_⟩
    rw [e]
    exact cmdsOf_one ⟨⟨m0, by omega⟩, ⟨by omega, by omega⟩⟩
  · refine .inr ⟨⟨c, r, e, hc⟩, ?_⟩
    unfold cmdsOf
    rw [TL.len_tl, e, List.length_cons, cmdsP, cmdP]
    have : ckOf c = none := by rcases hc with rfl | rfl <;> rfl
    rw [this]
    rfl
theorem BlkOk.only {z : Str} (h : BlkOk z) : onlyW (cmdsOf z) := by
  rcases h.cmds with ⟨m, v, _, m0, m1, v0, v1, e⟩ | ⟨_, e⟩
  · rw [e]
    intro c hc
    rw [List.mem_singleton.mp hc]
    exact ⟨m, v, rfl, ⟨m0, by omega⟩, ⟨by omega, by omega⟩⟩
  · rw [e]
    exact fun c hc => absurd hc List.not_mem_nil
theorem nu_ok {i : Int} (h : NOk i) : ∀ c ∈ TL.tl (nu i), c < 1114112 := fun c hc => by
  rw [nu_tl h] at hc
  have := TL.numL_digits _ c hc
  omega
theorem nu_len6 {i : Int} (h : NOk i) : (nu i).length ≤ 6 := by
  obtain ⟨h0, h1⟩ := id h
  rw [TL.len_tl, nu_tl h]
  exact TL.numL_len (k := 6) (by decide) (by omega)
theorem nu_log2 {i : Int} (h : NOk i) : i.natAbs.log2 < 1920 := by
  obtain ⟨h0, h1⟩ := h
  rcases Nat.eq_zero_or_pos i.natAbs with z | z
  · rw [z]
    decide
  · have : i.natAbs.log2 < 30 := (Nat.log2_lt (Nat.ne_of_gt z)).mpr (by omega)
    omega
theorem isA_digit : ∀ c : _root_.Fin 10, isA (48 + c.val) = true := by decide +kernel
theorem nu_isA {i : Int} (h : NOk i) : (TL.tl (nu i)).all isA = true := by
  rw [nu_tl h]
  refine List.all_eq_true.mpr fun c hc => ?_
  have := TL.numL_digits _ c hc
  have e := isA_digit ⟨c - 48, by omega⟩
  rwa [show 48 + (c - 48) = c by omega] at e
theorem blk_mk4 {A B : Str} {p q : Nat} (hA : TL.tl A = [p]) (hB : TL.tl B = [q]) (lp : isL p = true) (ap : isA p = true) (aq : isA q = true) {i j : Int} (hi : NOk i) (hj : NOk j) : blkB (((A ++ nu i) ++ B) ++ nu j) = true := by
  have l1 := nu_len6 hi
  have l2 := nu_len6 hj
  rw [TL.len_tl] at l1 l2
  have e : TL.tl (((A ++ nu i) ++ B) ++ nu j) = p :: (TL.tl (nu i) ++ q :: TL.tl (nu j)) := by
    rw [TL.tl_append, TL.tl_append, TL.tl_append, hA, hB]
    simp
  unfold blkB
  rw [e]
  show (decide ((TL.tl (nu i) ++ q :: TL.tl (nu j)).length + 1 ≤ 60) && (isL p && (p :: (TL.tl (nu i) ++ q :: TL.tl (nu j))).all isA)) = true
  rw [decide_eq_true (by rw [List.length_append, List.length_cons]; omega), lp, List.all_cons, ap, List.all_append, nu_isA hi, List.all_cons, aq, nu_isA hj]
  rfl

/-! ### archives: the head line -/
def wrd (ws : List Str) (k : Nat) : Str := ws.getD k ""
def headM (line : Str) : Option (Str × Int) :=
  if (Txt.split line " ").length = 3 ∧ wrd (Txt.split line " ") 0 = "block" ∧ blkB (wrd (Txt.split line " ") 1) = true ∧ numB (wrd (Txt.split line " ") 2) = true then some (wrd (Txt.split line " ") 1, numV (wrd (Txt.split line " ") 2)) else none
def spHead (K : PySem.W.Frag) : Sp := fun vs H Q _ => ∃ line : Str, vs = [.str line] ∧ line.length + 2 ≤ 16777216 ∧
  (headM line = none → ∀ H', Same H H' → Q .non H') ∧ (∀ z n, headM line = some (z, n) → ∀ q H', Same H H' → H' q = some (.tup [.str z, .int n]) → Q (.ref q) H')
theorem wrd_at {ws : List Str} {k : Nat} (h : k < ws.length) : (ws.map V.str)[k]? = some (.str (wrd ws k)) := by
  unfold wrd
  rw [List.getElem?_map, List.getD_eq_getElem?_getD, List.getElem?_eq_getElem h]
  rfl
theorem ok_read_head (T : Txt K mg a) : ∃ fd, FnOk P w K mg base CX0 2 a.d_read_head fd ["line"] (spHead K) ∧ Binds K fd ["line"] [] := by
  obtain ⟨fd, F, b⟩ := T.d_read_head.F
  obtain ⟨fd_is_block, G_is_block, b_is_block⟩ := ok_is_block (P := P) (w := w) (base := base) T
  obtain ⟨fd_is_number, G_is_number, b_is_number⟩ := ok_is_number (P := P) (w := w) (base := base) T
  refine ⟨fd, F.ok sc_read_head (fun vs H Q E h => ?_) (fun cdv A outer s H vs Q E hr h => ?_), b⟩
  · obtain ⟨_, rfl, _⟩ := h
    rfl
  · obtain ⟨line, rfl, ll, kn, ky⟩ := h
    refine ⟨_, (pss_cons (ps_set (i := 1) sc_read_head.nd rfl (Or.inl rfl) (pe_split (pv 0) pe_str))
      (pss_cons (ps_if (PW.pt (pw_or (pt_cmpR op_ne (pe_callB call_len_seq (by rfl) T.n_len PySem.boot_len (pa_cons (pv 1) pa_nil)) pe_int (nomark _)) (pw_or (pt_cmpR op_ne (pe_ix ix_list (pv 1) pe_int (fun _ _ => rfl)) (pe_glob (v := (.str "block")) rfl T.c_HEAD.choose_spec ⟨_, rfl⟩) (nomark _)) (pw_or (pt_not (pt_val (pe_call G_is_block (hr.mono (by decide)) rfl T.d_is_block.g T.d_is_block.kp b_is_block .nil pass0 (pa_cons (pe_ix ix_list (pv 1) pe_int (fun _ _ => rfl)) pa_nil)))) (pw_or1 (pt_not (pt_val (pe_call G_is_number (hr.mono (by decide)) rfl T.d_is_number.g T.d_is_number.kp b_is_number .nil pass0 (pa_cons (pe_ix ix_list (pv 1) pe_int (fun _ _ => rfl)) pa_nil)))))))))
      (pss_one (ps_ret pe_non))
      pss_nil)
      (pss_one (ps_ret (pe_tup (pa_cons (pe_ix ix_list (pv 1) pe_int (fun _ _ => rfl)) (pa_cons (pe_callTy call_int_str (by rfl) T.n_int (by decide +kernel) (pa_cons (pe_ix ix_list (pv 1) pe_int (fun _ _ => rfl)) pa_nil)) pa_nil))))))), ?_⟩
    walk_at "rs"
    refine ⟨⟨_, rfl⟩, _, _, rfl, rfl, by decide +kernel, ll, fun W hW0 => ?_⟩
    have s0 := same_new (o := .lst ((Txt.split line " ").map V.str)) hW0
    have hW := (upd_same : upd H W (.lst ((Txt.split line " ").map V.str)) W = _)
    have sw : ∀ w ∈ Txt.split line " ", w.length ≤ 16777216 := fun w hw => by
      have := PyProof.Rows.part_short hw
      omega
    unfold headM at kn ky
    generalize upd H W (.lst ((Txt.split line " ").map V.str)) = H0 at s0 hW ⊢
    generalize Txt.split line " " = ws at hW sw kn ky
    walk_at "rs"
    refine ⟨W, _, rfl, .inl (SqL.of hW), ?_⟩
    rw [List.length_map]
    walk_at "rs"
    refine ite2 (fun c1 => ?_) (fun c1 => ?_)
    · have n3 : ws.length ≠ 3 := by
        intro e
        rw [e] at c1
        simp at c1
      walk_at "rs"
      exact kn (if_neg fun z => n3 z.1) H0 s0
    have n3 : ws.length = 3 := by
      have : (ws.length : Int) = 3 := by simpa using c1
      omega
    walk_at "rs"
    refine ⟨W, _, _, _, rfl, rfl, SqL.of hW, at_of (j := 0) rfl (wrd_at (by omega)), ?_⟩
    walk_at "rs"
    refine ite2 (fun c2 => ?_) (fun c2 => ?_)
    · walk_at "rs"
      refine kn (if_neg fun z => ?_) H0 s0
      rw [z.2.1] at c2
      simp at c2
    have w0 : wrd ws 0 = "block" := by simpa using c2
    walk_at "rs"
    refine ⟨W, _, _, _, rfl, rfl, SqL.of hW, at_of (j := 1) rfl (wrd_at (by omega)), ?_⟩
    have mem : ∀ k, k < 3 → wrd ws k ∈ ws := fun k hk => by
      unfold wrd
      rw [List.getD_eq_getElem?_getD, List.getElem?_eq_getElem (by omega)]
      exact List.getElem_mem _
    walk_at "rs"
    refine ⟨sw _ (mem 1 (by decide)), fun H1 s1 => ?_⟩
    walk_at "rs"
    refine ite2 (fun c3 => ?_) (fun c3 => ?_)
    · walk_at "rs"
      refine kn (if_neg fun z => ?_) H1 (s0.trans s1)
      rw [z.2.2.1] at c3
      simp at c3
    have b1 : blkB (wrd ws 1) = true := by simpa using c3
    walk_at "rs"
    refine ⟨W, _, _, _, rfl, rfl, SqL.of (s1 _ _ hW), at_of (j := 2) rfl (wrd_at (by omega)), ?_⟩
    walk_at "rs"
    refine ⟨sw _ (mem 2 (by decide)), fun H2 s2 => ?_⟩
    walk_at "rs"
    have t2 := s0.trans (s1.trans s2)
    have hW2 := s2 _ _ (s1 _ _ hW)
    refine ite2 (fun c4 => ?_) (fun c4 => ?_)
    · walk_at "rs"
      refine kn (if_neg fun z => ?_) H2 t2
      rw [z.2.2.2] at c4
      simp at c4
    have b2 : numB (wrd ws 2) = true := by simpa using c4
    obtain ⟨e1, e2⟩ := num_int b2
    walk_at "rs"
    refine ⟨W, _, _, _, rfl, rfl, SqL.of hW2, at_of (j := 1) rfl (wrd_at (by omega)), ?_⟩
    walk_at "rs"
    refine ⟨W, _, _, _, rfl, rfl, SqL.of hW2, at_of (j := 2) rfl (wrd_at (by omega)), ?_⟩
    walk_at "rs"
    refine ⟨_, _, rfl, e1, by omega, ?_⟩
    walk_at "rs"
    refine ⟨(by show 2 ≤ sizeLine; decide), fun q hq => ?_⟩
    exact ky _ _ (if_pos ⟨n3, w0, b1, b2⟩) q _ (t2.trans (same_new hq)) upd_same
/-! ### the lines of an archive -/
def headS (z : Str) (n : Nat) : Str := ((((Str.empty ++ ("block" : Str)) ++ (" " : Str)) ++ z) ++ (" " : Str)) ++ (toString (n : Int) : Str)
def archM : List (Str × List Lt) → List Str
  | [] => []
  | (z, xs) :: r => headS z xs.length :: (xs.map fun x => lineS x.w x.m) ++ archM r
theorem archM_len : ∀ {es : List (Str × List Lt)}, (∀ e ∈ es, e.2.length ≤ 100) → (archM es).length ≤ 101 * es.length
  | [], _ => Nat.le_refl _
  | (z, xs) :: r, h => by
    have h1 := h (z, xs) List.mem_cons_self
    have h2 := archM_len (es := r) fun e he => h e (List.mem_cons_of_mem _ he)
    have h1 : xs.length ≤ 100 := h1
    simp only [archM, List.length_cons, List.length_append, List.length_map]
    omega
theorem archM_snoc : ∀ (es : List (Str × List Lt)) (z : Str) (xs : List Lt), archM (es ++ [(z, xs)]) = (archM es ++ [headS z xs.length]) ++ xs.map fun x => lineS x.w x.m
  | [], z, xs => by simp [archM]
  | (y, ys) :: r, z, xs => by simp [archM, archM_snoc r z xs]
def LnOk (x : Lt) : Prop := 0 ≤ x.w ∧ x.w < 1000000000 ∧ SmallM x.m
structure Ae where
  z : Str
  l : Addr
  ps : List Addr
  xs : List Lt
instance : Inhabited Ae := ⟨⟨Str.empty, 0, [], []⟩⟩
structure AeOk (H : Hp) (n : Ae) : Prop where
  hl : H n.l = some (.lst (n.ps.map V.ref))
  hx : LsAt H n.ps n.xs
  few : n.xs.length ≤ 100
  ok : ∀ x ∈ n.xs, LnOk x
  lz : n.z.length ≤ 100
theorem AeOk.same {H H' : Hp} {n : Ae} (h : AeOk H n) (s : Same H H') : AeOk H' n := { h with hl := s _ _ h.hl, hx := h.hx.same s }
def spArch (K : PySem.W.Frag) : Sp := fun vs H Q _ => ∃ (p q : Addr) (es : List Ae), vs = [.ref p, .ref q] ∧ H p = some (.lst ((es.map (·.z)).map V.str)) ∧ H q = some (.lst ((es.map (·.l)).map V.ref)) ∧ es.length ≤ 10 ∧ (∀ n ∈ es, AeOk H n) ∧
  ∀ R H', Same H H' → H R = none → H' R = some (.lst ((archM (es.map fun n => (n.z, n.xs))).map V.str)) → Q (.ref R) H'
theorem ok_archive_lines (T : Txt K mg a) : ∃ fd, FnOk P w K mg base CX0 3 a.d_archive_lines fd ["blocks", "papers"] (spArch K) ∧ Binds K fd ["blocks", "papers"] [] := by
  obtain ⟨fd, F, b⟩ := T.d_archive_lines.F
  obtain ⟨fd_letter_line, G_letter_line, b_letter_line⟩ := ok_letter_line (P := P) (w := w) (base := base) T
  refine ⟨fd, F.ok sc_archive_lines (fun vs H Q E h => ?_) (fun cdv A outer s H vs Q E hr h => ?_), b⟩
  · obtain ⟨_, _, _, rfl, _⟩ := h
    rfl
  · obtain ⟨p, q, es, rfl, hp, hq, few, ok, k⟩ := h
    refine ⟨_, (pss_cons (ps_set (i := 2) sc_archive_lines.nd rfl (Or.inl rfl) (pe_lst pa_nil))
      (pss_cons (ps_for PassesOwn.never rfl (pi_zip (by rfl) T.n_zip (pa_cons (pv 0) (pa_cons (pv 1) pa_nil))) (pg_tup rfl (pgs_cons (pg_name (i := 3) sc_archive_lines.nd rfl (Or.inl rfl)) (pgs_cons (pg_name (i := 4) sc_archive_lines.nd rfl (Or.inl rfl)) pgs_nil)))
      (pss_cons (ps_expr (pe_bm PySem.F.plainAttrs_list PySem.F.slot_list_append PySem.F.type_list_append mt_append (pv 2) (pa_cons (pe_joined (PJ.cons (pe_fmt (pe_glob (v := (.str "block")) rfl T.c_HEAD.choose_spec ⟨_, rfl⟩)) (PJ.cons pe_str (PJ.cons (pe_fmt (pv 3)) (PJ.cons pe_str (PJ.cons (pe_fmt (pe_callB call_len_seq (by rfl) T.n_len PySem.boot_len (pa_cons (pv 4) pa_nil))) PJ.nil)))))) pa_nil)))
        (pss_one (ps_expr (pe_bm PySem.F.plainAttrs_list PySem.F.slot_list_extend PySem.F.type_list_extend mt_extend (pv 2) (pa_cons (pe_lc (own := [("letter", 5)]) (g := (gName 5)) (tt := tYes) rfl sc_archive_lines.nd (pi_list (pv 4)) (blkOk_by (own := [("letter", 5)]) (N := sc_archive_lines_N) (sc := defScope s_archive_lines) (by decide +kernel)) (fun _ _ _ _ _ => (pg_name (i := 5) sc_archive_lines.nd rfl (Or.inl rfl))) (fun _ _ _ _ _ => pts_nil) (fun _ _ _ _ _ => (pe_call G_letter_line (hr.mono (by decide)) rfl T.d_letter_line.g T.d_letter_line.kp b_letter_line .nil pass0 (pa_cons (pv 5) pa_nil)))) pa_nil))))))
      (pss_one (ps_ret (pv 2))))), ?_⟩
    walk_at "rs"
    refine ⟨(by show 0 ≤ sizeLine; decide), fun R hR => ?_⟩
    have s1 := same_new (o := .lst []) hR
    have hR1 : (upd H R (.lst [])) R = some (.lst (([] : List Str).map V.str)) := upd_same
    generalize upd H R (.lst []) = H1 at s1 hR1 ⊢
    walk_at "rs"
    refine ⟨p, q, _, _, rfl, SqL.of (s1 _ _ hp), SqL.of (s1 _ _ hq), ?_⟩
    refine RZ.for_zipL (K := K) (a := p) (b := q) (xs := (es.map (·.z)).map V.str) (ys := (es.map (·.l)).map V.ref) (by simp) (fun i σ Hx => ∃ v3 v4 v5 : Option V, σ = [some (.ref p), some (.ref q), some (.ref R), v3, v4, v5] ∧ Same H Hx ∧ Hx R = some (.lst ((archM ((es.take i).map fun n => (n.z, n.xs))).map V.str)))
      ⟨_, _, _, rfl, s1, hR1⟩ (fun i σ Hx ⟨_, _, _, _, sx, _⟩ => ⟨SqL.of (sx _ _ hp), SqL.of (sx _ _ hq)⟩) ?_ ?_
    · rintro i x y t σ Hx hx hy ⟨v3, v4, v5, rfl, sx, hRx⟩ ht
      obtain ⟨n, hn, rfl, rfl⟩ : ∃ n, es[i]? = some n ∧ x = V.str n.z ∧ y = V.ref n.l := by
        rw [List.getElem?_map, List.getElem?_map] at hx hy
        cases e : es[i]? with
        | none =>
          rw [e] at hx
          cases hx
        | some n =>
          rw [e] at hx hy
          cases hx
          cases hy
          exact ⟨n, rfl, rfl, rfl⟩
      have hi := (List.getElem?_eq_some_iff.mp hn).1
      have et : es.take (i + 1) = es.take i ++ [n] := by
        rw [List.take_add_one, hn]
        rfl
      have N := (ok n (List.mem_of_getElem? hn)).same sx
      have s2 := same_new (o := .tup [V.str n.z, V.ref n.l]) ht
      have t2 : (upd Hx t (.tup [V.str n.z, V.ref n.l])) t = some (.tup [V.str n.z, V.ref n.l]) := upd_same
      generalize upd Hx t (.tup [V.str n.z, V.ref n.l]) = H2 at s2 t2 ⊢
      have N := N.same s2
      have hR2 := s2 _ _ hRx
      refine ⟨t, _, rfl, SqT.of t2, rfl, ?_⟩
      refine ⟨_, _, rfl, _, _, rfl, rfl, ?_⟩
      walk_at "rs"
      refine ⟨.inl ⟨rfl, _, SqL.of hR2⟩, ?_⟩
      walk_at "rs"
      have q1 : (Str.ofString "block").length = 5 := rfl
      have q2 : (Str.ofString " ").length = 1 := rfl
      have q0 : Str.empty.length = 0 := rfl
      have lz := N.lz
      have n1 := N.hx.1
      have few' := N.few
      have q3 : (toString ((n.xs.length : Nat) : Int) : Str).length ≤ 60 := (num_ok (Int.natCast_nonneg _) (by omega)).1
      refine ⟨by rw [sizeLine_eq]; omega, _, rfl, by simp only [PySem.Str.length_append]; rw [sizeLine_eq]; omega, ?_⟩
      refine ⟨_, rfl, by simp only [PySem.Str.length_append]; rw [sizeLine_eq]; omega, ?_⟩
      walk_at "rs"
      refine ⟨by rw [sizeLine_eq]; omega, _, rfl, by simp only [PySem.Str.length_append]; rw [sizeLine_eq]; omega, ?_⟩
      refine ⟨_, rfl, by simp only [PySem.Str.length_append]; rw [sizeLine_eq]; omega, ?_⟩
      walk_at "rs"
      refine ⟨n.l, _, rfl, .inl (SqL.of N.hl), ?_⟩
      rw [List.length_map, n1]
      refine .inr ⟨_, rfl, log_small (Int.natCast_nonneg _) (by omega), _, rfl, by simp only [PySem.Str.length_append]; rw [sizeLine_eq]; omega, ?_⟩
      have al : (archM ((es.take i).map fun n => (n.z, n.xs))).length ≤ 1010 := by
        have := archM_len (es := (es.take i).map fun n => (n.z, n.xs)) fun e he => by
          obtain ⟨m, hm, rfl⟩ := List.mem_map.mp he
          exact (ok m (List.mem_of_mem_take hm)).few
        rw [List.length_map, List.length_take] at this
        omega
      generalize hL0 : archM ((es.take i).map fun n => (n.z, n.xs)) = L0 at hR2 al hRx
      refine ⟨R, _, _, rfl, rfl, hR2, by rw [List.length_map, sizeLine_eq]; omega, ?_⟩
      have s3 : Same H (upd H2 R (.lst (L0.map V.str ++ [V.str (headS n.z n.xs.length)]))) := same_upd (sx.trans s2) hR
      have hR3 : (upd H2 R (.lst (L0.map V.str ++ [V.str (headS n.z n.xs.length)]))) R = some (.lst ((L0 ++ [headS n.z n.xs.length]).map V.str)) := by rw [upd_same]; simp
      have e0 : upd H2 R (.lst (L0.map V.str ++ [V.str (headS n.z n.xs.length)])) = upd H2 R (.lst (L0.map V.str ++ [V.str (Str.empty ++ Str.ofString "block" ++ Str.ofString " " ++ n.z ++ Str.ofString " " ++ Str.ofString (toString ((n.xs.length : Nat) : Int)))])) := rfl
      rw [← e0]
      generalize upd H2 R (.lst (L0.map V.str ++ [V.str (headS n.z n.xs.length)])) = H3 at s3 hR3 ⊢
      clear e0 N hR2
      have N := (ok n (List.mem_of_getElem? hn)).same s3
      walk_at "rs"
      refine ⟨.inl ⟨rfl, _, SqL.of hR3⟩, ?_⟩
      walk_at "rs"
      refine ⟨⟨_, SqL.of N.hl⟩, fun D hD => ?_⟩
      refine lc_list (K := K) (a := n.l) (xs := n.ps.map V.ref) (fun j Hj => Same H3 Hj ∧ Hj D = some (.lst (((n.xs.take j).map fun x => lineS x.w x.m).map V.str))) ⟨same_new hD, upd_same⟩ (fun j Hj _ ⟨sj, _⟩ => SqL.of (sj _ _ N.hl)) ?_ ?_
      · rintro j y Hj hy ⟨sj, hDj⟩
        have hj : j < n.ps.length := by
          have e := (List.getElem?_eq_some_iff.mp hy).1
          rwa [List.length_map] at e
        have hj' : j < n.xs.length := by omega
        rw [at_refs hj] at hy
        cases hy
        have hlt := (N.hx.2 j hj').same sj
        have hok := N.ok _ (getD_mem2 (d := default) hj')
        refine ⟨rfl, ?_⟩
        walk_at "rs"
        refine ⟨_, _, rfl, hlt, hok.1, hok.2.1, hok.2.2, fun H' s' => ?_⟩
        refine ⟨_, s' _ _ hDj, by rw [List.length_map, List.length_map, List.length_take]; exact small1000 (by omega), ?_, ?_⟩
        · exact same_upd (sj.trans s') hD
        · rw [upd_same, take_succ_getD (d := default) hj']
          simp
      · rintro H4 ⟨s4, hD4⟩
        rw [List.length_map, n1, List.take_length] at hD4
        refine ⟨R, D, _, _, rfl, rfl, s4 _ _ hR3, hD4, by rw [List.length_map, List.length_map, List.length_map, List.length_append, List.length_singleton, sizeLine_eq]; omega, ?_⟩
        refine ⟨_, _, _, rfl, same_upd (s3.trans s4) hR, ?_⟩
        have ea : archM ((es.take i ++ [n]).map fun n => (n.z, n.xs)) = (L0 ++ [headS n.z n.xs.length]) ++ n.xs.map fun x => lineS x.w x.m := by
          rw [List.map_append]
          show archM (_ ++ [(n.z, n.xs)]) = _
          rw [archM_snoc, hL0]
        rw [upd_same, et, ea]
        simp
    · rintro σ Hx ⟨v3, v4, v5, rfl, sx, hRx⟩
      walk_at "rs"
      rw [List.length_map, List.length_map, List.take_length] at hRx
      exact k R Hx sx hR hRx
/-! ### a line of an archive is refused -/
theorem msgA (i : Int) (h0 : 0 ≤ i) (h1 : i < 1000000000) : (((Str.empty ++ ("no right line of an archive at index " : Str)) ++ (toString i : Str)) : Str).length ≤ 1000 := by
  have a := (num_ok h0 h1).1
  have e : (((Str.empty ++ ("no right line of an archive at index " : Str)) ++ (toString i : Str)) : Str).length = (Str.empty ++ ("no right line of an archive at index " : Str)).length + (toString i : Str).length := by
    rw [TL.len_tl, TL.tl_append, List.length_append, ← TL.len_tl, ← TL.len_tl]
  rw [e]
  have c : (Str.empty ++ ("no right line of an archive at index " : Str)).length = 37 := by decide +kernel
  omega
theorem ok_BadArchive_init (TE : TxtE P w K mg a) (T : Txt K mg a) : ∃ fd, FnOk P w K mg base CX0 1 a.d_BadArchive_init fd ["self", "at"] (spSup a.C_BadArchive "at" fun v => ∃ i : Int, v = .int i ∧ 0 ≤ i ∧ i < 1000000000) ∧ Binds K fd ["self", "at"] [] := by
  obtain ⟨fd, S, b⟩ := TE.sup_BadArchive
  have T0 : SupTxt "at" "at" s_BadArchive_init _ _ _ _ _ _ _ _ _ _ := ⟨rfl, rfl, rfl, rfl, rfl, rfl, rfl, rfl, by decide +kernel, ⟨_, rfl, rfl⟩⟩
  refine ⟨fd, ok_sup S T0 (by decide +kernel) (by decide) (by decide) T.n_super ?_ (fun _ => rfl) (fun _ _ _ _ => rfl) (fun _ _ _ _ => rfl) (fun _ _ _ _ => rfl) _ (fun _ => rfl), b⟩
  rintro cd cc A outer s H E e v ⟨i, rfl, i0, i1⟩
  refine ⟨_, pa_cons (pe_joined (.cons pe_str (.cons (pe_fmt (pv 1)) .nil))) pa_nil, fun H1 Q q => ?_⟩
  have len := msgA i i0 i1
  refine ⟨_, rfl, by rw [sizeLine_eq]; decide +kernel, _, rfl, .inr ⟨i, rfl, log_small i0 i1, _, rfl, ?_, q _⟩⟩
  rw [sizeLine_eq]
  exact Nat.le_trans len (by decide)
theorem okh_BadArchive_init (TE : TxtE P w K mg a) (T : Txt K mg a) : ∃ fd, L2H.FnH P w K mg base CX0 1 a.d_BadArchive_init fd ["self", "at"] (spSup a.C_BadArchive "at" fun v => ∃ i : Int, v = .int i ∧ 0 ≤ i ∧ i < 1000000000) ∧ Binds K fd ["self", "at"] [] := by
  obtain ⟨fd, S, b⟩ := TE.sup_BadArchive
  have T0 : SupTxt "at" "at" s_BadArchive_init _ _ _ _ _ _ _ _ _ _ := ⟨rfl, rfl, rfl, rfl, rfl, rfl, rfl, rfl, by decide +kernel, ⟨_, rfl, rfl⟩⟩
  refine ⟨fd, ok_supH S T0 (by decide +kernel) (by decide) (by decide) T.n_super ?_ (fun _ => rfl) (fun _ _ _ _ => rfl) (fun _ _ _ _ => rfl) (fun _ _ _ _ => rfl) _ (fun _ => rfl), b⟩
  rintro cd cc A outer s H E p e v ⟨i, rfl, i0, i1⟩
  refine ⟨_, pa_cons (pe_joined (.cons pe_str (.cons (pe_fmt (pv 1)) .nil))) pa_nil, fun H1 Q q => ?_⟩
  have len := msgA i i0 i1
  refine ⟨_, rfl, by rw [sizeLine_eq]; decide +kernel, _, rfl, .inr ⟨i, rfl, log_small i0 i1, _, rfl, ?_, q _⟩⟩
  rw [sizeLine_eq]
  exact Nat.le_trans len (by decide)
def spRef (C : Addr) : Sp := fun vs H Q E => ∃ (l : Addr) (ls : List Str) (i : Int), vs = [.ref l, .int i] ∧ H l = some (.lst (ls.map V.str)) ∧ 0 ≤ i ∧ i < 1000000000 ∧
  (i < (ls.length : Int) - 1 → ExR C H E i) ∧ (¬ i < (ls.length : Int) - 1 → ∀ H', Same H H' → Q .non H')
theorem ok_refuse_before_end (TE : TxtE P w K mg a) (T : Txt K mg a) : ∃ fd, FnOk P w K mg base (L2.CX P w) 3 a.d_refuse_before_end fd ["lines", "at"] (spRef a.C_BadArchive) ∧ Binds K fd ["lines", "at"] [] := by
  obtain ⟨fd, F, b⟩ := T.d_refuse_before_end.F
  obtain ⟨fd_BadArchive_init, G_BadArchive_init, b_BadArchive_init⟩ := ok_BadArchive_init (P := P) (w := w) (base := base) TE T
  refine ⟨fd, F.okX sc_refuse_before_end (fun vs H Q E h => ?_) (fun cdv A outer s H vs Q E hr h => ?_), b⟩
  · obtain ⟨_, _, _, rfl, _⟩ := h
    rfl
  · obtain ⟨l, ls, i, rfl, hl, i0, i1, kr, kn⟩ := h
    refine ⟨_, (pss_one (ps_if (pt_cmpR op_lt (pv 1) (pe_op op_sub (pe_callB call_len_seq (by rfl) T.n_len PySem.boot_len (pa_cons (pv 0) pa_nil)) pe_int) (nomark _))
      (pss_one (ps_raise rfl (takes_of rfl rfl rfl rfl) (pmk_weak (pmk_sup TE.oex_BadArchive TE.iC_BadArchive TE.tI_BadArchive G_BadArchive_init (hr.mono (by decide)) b_BadArchive_init rfl TE.g_BadArchive (pa_cons (pv 1) pa_nil)))))
      pss_nil)), ?_⟩
    walk_at "rs"
    refine ⟨l, _, rfl, .inl (SqL.of hl), ?_⟩
    rw [List.length_map]
    walk_at "rs"
    refine ite2 (fun c1 => ?_) (fun c1 => ?_)
    · have c1 : i < (ls.length : Int) - 1 := by simpa using c1
      walk_at "rs"
      refine ⟨⟨_, rfl, i0, i1⟩, fun d hd => ?_⟩
      exact kr c1 d _ (same_new hd) upd_same
    · have c1 : ¬ i < (ls.length : Int) - 1 := by simpa using c1
      walk_at "rs"
      exact kn c1 H (Same.refl H)
theorem fun_okHC {CX : CXT} {x qual : Str} {st : Stmt} {f : Addr} {fd : FuncData} {N ps : List Str} {k : Nat} {sp : Sp} (F : Fun K x qual st f fd) (S : FnScope N ps (defScope st)) (len : ∀ vs H Q E, sp vs H Q E → vs.length = ps.length)
    (hbody : ∀ (cdv : Value) (A : Around) (outer : List Env) (s : Shared) (H : Hp) (vs : List V) (Q : VK) (E : XK) (p : Addr × Obj), L2H.Hot1 A p → L2H.RoomH k (A.deeper (PyProof.Rows.envOfC qual (defScope st) s.heap.objs.size f cdv)) → sp vs H Q E →
      ∃ t, PSs (L2H.cxH CX P w K mg base N qual (defScope st) f cdv A outer s H E p) (defBody st) t ∧ t { nx := fun _ H' => Q .non H', rt := Q } (start N vs) H) : L2H.FnH P w K mg base CX (k + 1) f fd ps sp := by
  obtain ⟨oc, od, kV, doc, pm, an, cdv, ct, osl, rfl, lk, hcd⟩ := F.ex
  exact L2H.fn_ofH lk hcd S len fun A outer s H vs Q E p hot hr hsp => hbody cdv A outer s H vs Q E p hot hr hsp
theorem okh_refuse_before_end (TE : TxtE P w K mg a) (T : Txt K mg a) : ∃ fd, L2H.FnH P w K mg base (L2.CX P w) 3 a.d_refuse_before_end fd ["lines", "at"] (spRef a.C_BadArchive) ∧ Binds K fd ["lines", "at"] [] := by
  obtain ⟨fd, F, b⟩ := T.d_refuse_before_end.F
  obtain ⟨fdH, GH, bH⟩ := okh_BadArchive_init (P := P) (w := w) (base := base) TE T
  refine ⟨fd, fun_okHC F sc_refuse_before_end (fun vs H Q E h => ?_) (fun cdv A outer s H vs Q E p hot1 hr h => ?_), b⟩
  · obtain ⟨_, _, _, rfl, _⟩ := h
    rfl
  · obtain ⟨l, ls, i, rfl, hl, i0, i1, kr, kn⟩ := h
    have hc : ∀ N, L2H.HotC (L2H.cxH (L2.CX P w) P w K mg base N "_refuse_before_end" (defScope s_refuse_before_end) a.d_refuse_before_end cdv A outer s H E p) := fun N => ⟨p, hot1, List.mem_singleton.mpr rfl⟩
    refine ⟨_, (pss_one (ps_if (pt_cmpR op_lt (pv 1) (pe_op op_sub (pe_callB (id := "len") (r := rLenOf K) (cr_lenK rfl) (by rfl) T.n_len PySem.boot_len (pa_cons (pv 0) pa_nil)) pe_int) (nomark _)) (pss_one (L2H.ps_raiseH (hc sc_refuse_before_end_N) (takes_of rfl rfl rfl rfl) (L2H.PMk5.pmk (L2H.pmk5_oexH (x := "BadArchive") TE.oex_BadArchive TE.iC_BadArchive TE.tI_BadArchive GH (hr.mono (by decide)) (hc sc_refuse_before_end_N) bH pass0 rfl TE.g_BadArchive (pa_cons (pv 1) pa_nil))))) pss_nil)), ?_⟩
    walk_at "rs"
    refine ⟨l, _, rfl, .inl (SqL.of hl), ?_⟩
    rw [List.length_map]
    walk_at "rs"
    refine ite2 (fun c1 => ?_) (fun c1 => ?_)
    · have c1 : i < (ls.length : Int) - 1 := by simpa using c1
      have kr' := kr c1
      walk_at "rs"
      refine ⟨by show 1 ≤ 1000; decide, fun b hb => ⟨b, _, rfl, upd_same, ⟨i, rfl, i0, i1⟩, fun dx3 hdx3 ndx3 => ?_⟩⟩
      have fd : H dx3 = none := by rwa [upd_ne ndx3] at hdx3
      refine ⟨rfl, dx3, _, upd_same, by rw [upd_ne ndx3, upd_same], fd, ?_⟩
      rw [sup_heap hb ndx3]
      exact kr' _ _ (same_new fd) upd_same
    · have c1 : ¬ i < (ls.length : Int) - 1 := by simpa using c1
      walk_at "rs"
      exact kn c1 H (Same.refl H)

/-! ### an entry of an archive -/
theorem bindE_ok {α β : Type} {r : Except Int α} {f : α → Except Int β} {y : β} (h : bindE r f = .ok y) : ∃ x, r = .ok x ∧ f x = .ok y := by
  cases r with
  | error e => cases h
  | ok x => exact ⟨x, rfl, h⟩
theorem blockAt_ok {ws : List Str} {k : Nat} {d : Kd} {b : Option Str} (h : blockAt ws k d = .ok b) : (∀ x, b = some x → blkB x = true) ∧ (d = .prop → b ≠ none) := by
  unfold blockAt at h
  split at h
  · cases h
  · split at h
    · rename_i c
      cases h
      exact ⟨fun x z => (nomatch z), fun z => absurd z c.2⟩
    · split at h
      · rename_i c
        cases h
        exact ⟨fun x z => by cases z; exact c, fun _ z => nomatch z⟩
      · cases h
theorem digitsVal_lt : ∀ (l : List Nat) (a : Nat), (∀ c ∈ l, 48 ≤ c ∧ c ≤ 57) → l.foldl (fun acc c => acc * 10 + (c - 48)) a < (a + 1) * 10 ^ l.length
  | [], a, _ => by simp
  | c :: l, a, h => by
    have h1 := h c List.mem_cons_self
    have h2 := digitsVal_lt l (a * 10 + (c - 48)) fun d hd => h d (List.mem_cons_of_mem _ hd)
    rw [List.foldl_cons, List.length_cons, Nat.pow_succ]
    refine Nat.lt_of_lt_of_le h2 ?_
    rw [Nat.mul_comm (10 ^ l.length) 10, ← Nat.mul_assoc]
    exact Nat.mul_le_mul_right _ (by omega)
theorem numV_lt {w : Str} (h : numB w = true) : numV w < 1000000000 := by
  obtain ⟨h1, h2, h3⟩ := num_all h
  have := digitsVal_lt (TL.tl w) 0 h1
  have e : (10 : Nat) ^ (TL.tl w).length ≤ 10 ^ 9 := Nat.pow_le_pow_right (by decide) h3
  have v : numV w = (((TL.tl w).foldl (fun acc c => acc * 10 + (c - 48)) 0 : Nat) : Int) := rfl
  rw [v]
  omega
theorem numAt_ok {ws : List Str} {k : Nat} {n : Int} (h : numAt ws k = .ok n) : 0 ≤ n ∧ n < 1000000000 := by
  unfold numAt at h
  split at h
  · cases h
  · split at h
    · rename_i c
      cases h
      exact ⟨numV_nonneg _, numV_lt c⟩
    · cases h
theorem leanAt_ok {ws : List Str} {k : Nat} {t : Int} {l : Option Int} (h : leanAt ws k t = .ok l) : ∀ x, l = some x → 0 ≤ x ∧ x < t := by
  unfold leanAt at h
  split at h
  · cases h
  · split at h
    · cases h
      exact fun x z => nomatch z
    · split at h
      · split at h
        · rename_i c
          cases h
          exact fun x z => by cases z; exact ⟨numV_nonneg _, c⟩
        · cases h
      · cases h
theorem read_good {line : Str} {x : Lt} (h : readL line = .ok x) : GoodM x.m ∧ 0 ≤ x.w ∧ x.w < 1000000000 := by
  unfold readL readW at h
  obtain ⟨w, h1, h⟩ := bindE_ok h
  obtain ⟨k, h2, h⟩ := bindE_ok h
  obtain ⟨ht, h3, h⟩ := bindE_ok h
  obtain ⟨t, h4, h⟩ := bindE_ok h
  obtain ⟨b, h5, h⟩ := bindE_ok h
  have a3 := numAt_ok h3
  have a4 := numAt_ok h4
  have a5 := blockAt_ok h5
  unfold readEnd at h
  split at h
  · rename_i ek
    obtain ⟨l, h6, h⟩ := bindE_ok h
    obtain ⟨_, h7, h⟩ := bindE_ok h
    cases h
    exact ⟨⟨a3.1, a3.2, a4.1, a4.2, a5.1, fun z => (nomatch z), leanAt_ok h6, fun z => absurd rfl z⟩, numAt_ok h1⟩
  · rename_i ek
    obtain ⟨_, h7, h⟩ := bindE_ok h
    cases h
    exact ⟨⟨a3.1, a3.2, a4.1, a4.2, a5.1, a5.2, fun x z => (nomatch z), fun _ => rfl⟩, numAt_ok h1⟩

inductive Er where
  | bad (k : Nat)
  | torn
  | ok (z : Str) (xs : List Lt)
def rdM (ls : List Str) : Nat → Nat → List Lt → Except Nat (List Lt)
  | _, 0, acc => .ok acc
  | p, n + 1, acc => match readL (wrd ls p) with
    | .error _ => .error p
    | .ok x => rdM ls (p + 1) n (acc ++ [x])
def entR (ls : List Str) (z : Str) (r : Except Nat (List Lt)) : Er := match r with
  | .error p => if p + 1 < ls.length then .bad p else .torn
  | .ok xs => .ok z xs
def entM (ls : List Str) (i : Nat) : Er := match headM (wrd ls i) with
  | none => if i + 1 < ls.length then .bad i else .torn
  | some (z, n) => if ls.length ≤ i + n.toNat then .torn else entR ls z (rdM ls (i + 1) n.toNat [])
theorem head_lim {line z : Str} {n : Int} (h : headM line = some (z, n)) : 0 ≤ n ∧ n < 1000000000 := by
  unfold headM at h
  split at h
  · rename_i c
    cases h
    exact ⟨numV_nonneg _, numV_lt c.2.2.2⟩
  · cases h
def spEnt (C : Addr) : Sp := fun vs H Q E => ∃ (l : Addr) (ls : List Str) (i : Nat), vs = [.ref l, .int (i : Int)] ∧ H l = some (.lst (ls.map V.str)) ∧ i < ls.length ∧ ls.length ≤ 2000 ∧ (∀ x ∈ ls, x.length + 2 ≤ 16777216) ∧
  (∀ k, entM ls i = .bad k → ExR C H E (k : Int)) ∧ (entM ls i = .torn → ∀ H', Same H H' → Q .non H') ∧
  (∀ z xs, entM ls i = .ok z xs → ∀ (t p : Addr) (ps : List Addr) H', Same H H' → H p = none → H t = none → H' t = some (.tup [.str z, .ref p]) → H' p = some (.lst (ps.map V.ref)) → LsAt H' ps xs → Q (.ref t) H')
theorem wrd_mem {ws : List Str} {k : Nat} (h : k < ws.length) : wrd ws k ∈ ws := by
  unfold wrd
  rw [List.getD_eq_getElem?_getD, List.getElem?_eq_getElem h]
  exact List.getElem_mem _
theorem LsAt.snocA {H : Hp} {ps : List Addr} {xs : List Lt} {p : Addr} {x : Lt} (h : LsAt H ps xs) (e : LtAt H p x) : LsAt H (ps ++ [p]) (xs ++ [x]) := by
  refine ⟨by rw [List.length_append, List.length_append, h.1]; rfl, fun i hi => ?_⟩
  rw [List.length_append, List.length_singleton] at hi
  rcases Nat.lt_or_ge i xs.length with z | z
  · rw [getD_left (by rw [h.1]; exact z), getD_left z]
    exact h.2 i z
  · have ei : i = xs.length := by omega
    subst ei
    rw [getD_last]
    have : (ps ++ [p]).getD xs.length 0 = p := by rw [← h.1, getD_last]
    rw [this]
    exact e
theorem upd_tup {H : Hp} {b : Addr} {ys : List V} {o : HO} (hb : H b = some (.lst ys)) {a : Addr} {zs : List V} (h : H a = some (.tup zs)) : upd H b o a = some (.tup zs) := by
  rw [upd_ne (fun e => by rw [e, hb] at h; cases h)]
  exact h
theorem lsat_updL {H : Hp} {ps : List Addr} {xs : List Lt} {b : Addr} {ys : List V} {o : HO} (h : LsAt H ps xs) (hb : H b = some (.lst ys)) : LsAt (upd H b o) ps xs :=
  ⟨h.1, fun i hi => let ⟨r, h1, h2⟩ := h.2 i hi; ⟨r, upd_tup hb h1, upd_tup hb h2⟩⟩
theorem ok_entry_at (TE : TxtE P w K mg a) (T : Txt K mg a) : ∃ fd, FnOk P w K mg base (L2.CX P w) 7 a.d_entry_at fd ["lines", "at"] (spEnt a.C_BadArchive) ∧ Binds K fd ["lines", "at"] [] := by
  obtain ⟨fd, F, b⟩ := T.d_entry_at.F
  obtain ⟨fd_read_head, G_read_head, b_read_head⟩ := ok_read_head (P := P) (w := w) (base := base) T
  obtain ⟨fd_refuse_before_end, G_refuse_before_end, b_refuse_before_end⟩ := ok_refuse_before_end (P := P) (w := w) (base := base) TE T
  obtain ⟨fd_read_letter, G_read_letter, b_read_letter⟩ := ok_read_letter (P := P) (w := w) (base := base) TE T
  obtain ⟨fdH, GH_refuse, bH_refuse⟩ := okh_refuse_before_end (P := P) (w := w) (base := base) TE T
  refine ⟨fd, F.okX sc_entry_at (fun vs H Q E h => ?_) (fun cdv A outer s H vs Q E hr h => ?_), b⟩
  · obtain ⟨_, _, _, rfl, _⟩ := h
    rfl
  · obtain ⟨l, ls, i, rfl, hl, hi, few, lim, kb, kt, ko⟩ := h
    refine ⟨_, (pss_cons (ps_set (i := 2) sc_entry_at.nd rfl (Or.inl rfl) (pe_call G_read_head (hr.mono (by decide)) rfl T.d_read_head.g T.d_read_head.kp b_read_head .nil pass0 (pa_cons (pe_ix ix_list (pv 0) (pv 1) (fun _ _ => rfl)) pa_nil)))
      (pss_cons (ps_if (pt_cmpR op_isN (pv 2) pe_non (nomark _))
      (pss_cons (ps_expr (pe_call G_refuse_before_end (hr.mono (by decide)) rfl T.d_refuse_before_end.g T.d_refuse_before_end.kp b_refuse_before_end .nil (L2.passes_call (W := fun c d _ H => E c d H) (E := E) (L2.takes_of rfl rfl rfl rfl) (fun _ _ _ _ h => h)) (pa_cons (pv 0) (pa_cons (pv 1) pa_nil))))
        (pss_one (ps_ret pe_non)))
      pss_nil)
      (pss_cons (ps_asg (pv 2) (pg_tup rfl (pgs_cons (pg_name (i := 3) sc_entry_at.nd rfl (Or.inl rfl)) (pgs_cons (pg_name (i := 4) sc_entry_at.nd rfl (Or.inl rfl)) pgs_nil))))
      (pss_cons (ps_set (i := 5) sc_entry_at.nd rfl (Or.inl rfl) (pe_op op_add (pv 1) (pv 4)))
      (pss_cons (ps_if (pt_cmpR op_ge (pv 5) (pe_callB call_len_seq (by rfl) T.n_len PySem.boot_len (pa_cons (pv 0) pa_nil)) (nomark _))
      (pss_one (ps_ret pe_non))
      pss_nil)
      (pss_cons (ps_set (i := 6) sc_entry_at.nd rfl (Or.inl rfl) (pe_lst pa_nil))
      (pss_cons (ps_for (passes_of rfl) rfl (pi_range2 rfl T.n_range (pa_cons (pe_op op_add (pv 1) pe_int) (pa_cons (pe_op op_add (pv 5) pe_int) pa_nil))) (pg_name (i := 7) sc_entry_at.nd rfl (Or.inl rfl))
      (pss_one (ps_whole (L2H.ps_try_onlyX rfl rfl ⟨rfl, by decide, .inl TE.g_BadLine⟩ (fun hd => L2H.passesAt_of rfl hd) (takes_of rfl rfl rfl rfl) (fun W pn xe tk tk2 po => (pss_one (ps_expr (pe_bmK (K := K) rfl PySem.F.plainAttrs_list PySem.F.slot_list_append PySem.F.type_list_append mt_append (pv 6) (pa_cons (pe_callS G_read_letter (hr.mono (by decide)) rfl T.d_read_letter.g T.d_read_letter.kp b_read_letter (fun σ => L2N.passAt tk σ) (pa_cons (pe_ix (r := rIxL K) ix_list (pv 0) (pv 7) (fun _ _ => rfl)) pa_nil)) pa_nil))))) (fun ae oe cls d pn hz hf tkS hot => (pss_cons (ps_expr (L2H.pe_callH GH_refuse ((L2H.roomH_mark hr _).mono (by decide)) hot rfl T.d_refuse_before_end.g T.d_refuse_before_end.kp bH_refuse (fun σ => L2.passAt tkS σ) (pa_cons (pv 0) (pa_cons (pv 7) pa_nil)))) (pss_one (ps_ret pe_non))))))))
      (pss_one (ps_ret (pe_tup (pa_cons (pv 3) (pa_cons (pv 6) pa_nil)))))))))))), ?_⟩
    unfold entM at kb kt ko
    walk_at "rs"
    refine ⟨l, _, _, _, rfl, rfl, SqL.of hl, at_of (j := i) rfl (wrd_at hi), ?_⟩
    walk_at "rs"
    refine ⟨by have := lim _ (wrd_mem hi); omega, fun e1 H1 s1 => ?_, fun z n e1 q H1 s1 hq => ?_⟩
    · rw [e1] at kb kt
      dsimp only at kb kt
      walk_at "rs"
      refine ⟨l, ls, i, rfl, s1 _ _ hl, by omega, by omega, fun c d H2 s2 hd => ?_, fun c H2 s2 => ?_⟩
      · exact kb i (if_pos (by omega)) d H2 (s1.trans s2) hd
      · walk_at "rs"
        exact kt (if_neg (by omega)) H2 (s1.trans s2)
    · rw [e1] at kb kt ko
      dsimp only at kb kt ko
      obtain ⟨n0, n1⟩ := head_lim e1
      walk_at "rs"
      refine ⟨q, _, rfl, SqT.of hq, rfl, ?_⟩
      refine ⟨_, _, rfl, _, _, rfl, rfl, ?_⟩
      walk_at "rs"
      refine ⟨l, _, rfl, .inl (SqL.of (s1 _ _ hl)), ?_⟩
      rw [List.length_map]
      walk_at "rs"
      refine ite2 (fun c1 => ?_) (fun c1 => ?_)
      · have c1 : (ls.length : Int) ≤ (i : Int) + n := by simpa using c1
        walk_at "rs"
        exact kt (if_pos (by omega)) H1 s1
      have c1 : ¬ (ls.length : Int) ≤ (i : Int) + n := by simpa using c1
      rw [if_neg (by omega)] at kb kt ko
      walk_at "rs"
      refine ⟨(by show 0 ≤ sizeLine; decide), fun L hL => ?_⟩
      have hL0 := s1.free hL
      have s2 := s1.trans (same_new (o := .lst []) hL)
      have hL2 : (upd H1 L (.lst [])) L = some (.lst (([] : List Addr).map V.ref)) := upd_same
      have hq2 := (same_new (o := .lst []) hL) _ _ hq
      generalize upd H1 L (.lst []) = H2 at s2 hL2 hq2 ⊢
      clear s1 hL
      walk_at "rs"
      refine ⟨_, _, rfl, ⟨by omega, by omega, by omega, by omega⟩, ?_⟩
      have en : ((i : Int) + n + 1 - ((i : Int) + 1)).toNat = n.toNat := by omega
      rw [en]
      obtain ⟨N, rfl⟩ : ∃ N : Nat, n = (N : Int) := ⟨n.toNat, by omega⟩
      rw [Int.toNat_natCast] at kb kt ko ⊢
      have hN : i + N < ls.length := by omega
      clear en n0 n1 c1
      refine for_range (lo := (i : Int) + 1) (n := N) (fun j σ Hx => ∃ (v7 : Option V) (ps : List Addr) (xs : List Lt), σ = [some (.ref l), some (.int (i : Int)), some (.ref q), some (.str z), some (.int (N : Int)), some (.int ((i : Int) + (N : Int))), some (.ref L), v7] ∧ Same H Hx ∧ Hx L = some (.lst (ps.map V.ref)) ∧ LsAt Hx ps xs ∧ xs.length = j ∧ rdM ls (i + 1) N [] = rdM ls (i + 1 + j) (N - j) xs)
        ⟨_, [], [], rfl, s2, hL2, ⟨rfl, fun k hk => absurd hk (Nat.not_lt_zero k)⟩, rfl, rfl⟩ ?_ ?_
      · rintro j σ Hx hj ⟨v7, ps, xs, rfl, sx, hLx, hx, lx, er⟩
        have n1 := hx.1
        have ej : (i : Int) + 1 + (j : Int) = ((i + 1 + j : Nat) : Int) := by omega
        rw [ej]
        have hij : i + 1 + j < ls.length := by omega
        obtain ⟨m, em⟩ : ∃ m, N - j = m + 1 := ⟨N - j - 1, by omega⟩
        rw [em, rdM] at er
        walk_at "rs"
        refine ⟨.inl ⟨rfl, _, SqL.of hLx⟩, ?_⟩
        walk_at "rs"
        refine ⟨l, _, _, _, rfl, rfl, SqL.of (sx _ _ hl), at_of (j := i + 1 + j) rfl (wrd_at hij), ?_⟩
        walk_at "rs"
        refine ⟨lim _ (wrd_mem hij), fun e he => ?_, fun x hx' t H4 s4 ht => ?_⟩
        · intro d H4 s4 hd
          refine ⟨true, TE.exm_BadLine_BadLine, fun _ ex hex => ?_, fun z => nomatch z⟩
          have s14 := sx.trans s4
          rw [he] at er
          rw [er] at kb kt
          unfold entR at kb kt
          dsimp only at kb kt
          walk_at "rs"
          refine ⟨l, ls, ((i + 1 + j : Nat) : Int), rfl, s14 _ _ hl, by omega, by omega, fun c d2 H5 s5 hd5 => ?_, fun c H5 s5 => ?_⟩
          · exact kb _ (if_pos (by omega)) d2 H5 (s14.trans s5) hd5
          · walk_at "rs"
            exact kt (if_neg (by omega)) H5 (s14.trans s5)
        · rw [hx'] at er
          walk_at "rs"
          refine ⟨L, _, _, rfl, rfl, s4 _ _ hLx, by rw [List.length_map, n1, sizeLine_eq]; omega, ?_⟩
          refine ⟨_, ps ++ [t], xs ++ [x], rfl, same_upd (sx.trans s4) hL0, by rw [upd_same]; simp, ?_, by rw [List.length_append, lx]; rfl, ?_⟩
          · have hx4 := hx.same s4
            exact lsat_updL (LsAt.snocA hx4 ht) (s4 _ _ hLx)
          · rw [er]
            show rdM ls (i + 1 + j + 1) m (xs ++ [x]) = _
            rw [show N - (j + 1) = m by omega]
            rfl
      · rintro σ Hx ⟨v7, ps, xs, rfl, sx, hLx, hx, lx, er⟩
        rw [Nat.sub_self, rdM] at er
        rw [er] at ko
        walk_at "rs"
        refine ⟨(by show 2 ≤ sizeLine; decide), fun t ht => ?_⟩
        have s3 := same_new (o := .tup [V.str z, V.ref L]) ht
        exact ko z xs rfl t L ps _ (sx.trans s3) hL0 (sx.free ht) upd_same (s3 _ _ hLx) (hx.same s3)

/-- the blocks that are followed -/
def folE : List (Str × List Lt) → Nat → List Int → List Str
  | [], _, _ => []
  | (z, xs) :: r, n, ws => if shM ws xs n (some z) = true then z :: folE r (n + 1) (rew ws (cmdsOf z)) else []
structure En where
  e : Addr
  z : Str
  l : Addr
  ps : List Addr
  xs : List Lt
instance : Inhabited En := ⟨⟨0, Str.empty, 0, [], []⟩⟩
structure EnOk (H : Hp) (q : CnP) (n : En) : Prop where
  he : H n.e = some (.tup [.str n.z, .ref n.l])
  hl : H n.l = some (.lst (n.ps.map V.ref))
  hx : LsAt H n.ps n.xs
  few : n.xs.length ≤ 100
  tb : TB n.xs
  lz : n.z.length ≤ 1000
  ow : onlyW (cmdsOf n.z)
  n1 : n.l ≠ q.B
  n2 : n.l ≠ q.R
  n3 : n.l ≠ q.D
  n4 : n.l ≠ q.L
theorem EnOk.same {H H' : Hp} {q : CnP} {n : En} (h : EnOk H q n) (s : Same H H') : EnOk H' q n := { h with he := s _ _ h.he, hl := s _ _ h.hl, hx := h.hx.same s }
theorem LtAt.butC {C1 C2 C3 : Addr} {H H' : Hp} {p : Addr} {q : CnP} {v : CnV} {x y : Int} (k : ButC q H H') (c : CnAt C1 C2 C3 H p q v x y) {t : Addr} {m : Lt} (h : LtAt H t m) : LtAt H' t m := by
  obtain ⟨r, h1, h2⟩ := h
  exact ⟨r, k.nl c h1 (fun _ e => nomatch e), k.nl c h2 (fun _ e => nomatch e)⟩
theorem EnOk.butC {C1 C2 C3 : Addr} {H H' : Hp} {p : Addr} {q : CnP} {v : CnV} {x y : Int} {n : En} (h : EnOk H q n) (k : ButC q H H') (c : CnAt C1 C2 C3 H p q v x y) : EnOk H' q n :=
  { h with he := k.nl c h.he (fun _ e => nomatch e), hl := k _ _ h.n1 h.n2 h.n3 h.n4 h.hl, hx := ⟨h.hx.1, fun i hi => LtAt.butC k c (h.hx.2 i hi)⟩ }
theorem ButC.trans {q : CnP} {H H' H'' : Hp} (h : ButC q H H') (g : ButC q H' H'') : ButC q H H'' := fun b o n1 n2 n3 n4 e => g b o n1 n2 n3 n4 (h b o n1 n2 n3 n4 e)
theorem ButC.snd_same {q : CnP} {H H' H'' : Hp} (h : ButC q H H') (s : Same H' H'') : ButC q H H'' := fun b o n1 n2 n3 n4 e => s _ _ (h b o n1 n2 n3 n4 e)
/-! ### what is followed, entry by entry -/
def rwE (ws : List Int) : List (Str × List Lt) → List Int
  | [] => ws
  | e :: r => rwE (rew ws (cmdsOf e.1)) r
theorem rwE_snoc : ∀ (es : List (Str × List Lt)) (ws : List Int) (e : Str × List Lt), rwE ws (es ++ [e]) = rew (rwE ws es) (cmdsOf e.1)
  | [], _, _ => rfl
  | f :: r, ws, e => rwE_snoc r (rew ws (cmdsOf f.1)) e
theorem folE_le : ∀ (es : List (Str × List Lt)) (n : Nat) (ws : List Int), (folE es n ws).length ≤ es.length
  | [], _, _ => Nat.le_refl _
  | (z, xs) :: r, n, ws => by
    have := folE_le r (n + 1) (rew ws (cmdsOf z))
    rw [folE]
    split
    · rw [List.length_cons, List.length_cons]
      omega
    · exact Nat.zero_le _
theorem folE_open : ∀ (es : List (Str × List Lt)) (n : Nat) (ws : List Int) (e : Str × List Lt), (folE es n ws).length = es.length →
    folE (es ++ [e]) n ws = folE es n ws ++ (if shM (rwE ws es) e.2 ((n + es.length : Nat) : Int) (some e.1) = true then [e.1] else [])
  | [], n, ws, (z, xs), _ => by
    show (if shM ws xs (n : Int) (some z) = true then z :: folE [] (n + 1) _ else []) = [] ++ _
    rw [List.nil_append]
    rfl
  | (z, xs) :: r, n, ws, e, h => by
    rw [folE] at h
    rw [List.cons_append, folE, folE]
    by_cases c : shM ws xs (n : Int) (some z) = true
    · rw [if_pos c] at h ⊢
      rw [if_pos c, List.cons_append, folE_open r (n + 1) _ e (by simpa using h)]
      have : n + 1 + r.length = n + ((z, xs) :: r).length := by rw [List.length_cons]; omega
      rw [this]
      rfl
    · rw [if_neg c] at h
      simp at h
theorem folE_closed : ∀ (es : List (Str × List Lt)) (n : Nat) (ws : List Int) (e : Str × List Lt), (folE es n ws).length < es.length → folE (es ++ [e]) n ws = folE es n ws
  | [], n, ws, e, h => absurd h (Nat.not_lt_zero _)
  | (z, xs) :: r, n, ws, e, h => by
    rw [folE] at h
    rw [List.cons_append, folE, folE]
    by_cases c : shM ws xs (n : Int) (some z) = true
    · rw [if_pos c] at h ⊢
      rw [if_pos c, folE_closed r (n + 1) _ e (by simpa using h)]
    · rw [if_neg c, if_neg c]
theorem sh_height {ws : List Int} {xs : List Lt} {h : Int} {b : Str} (g : GoodW ws) (c : shM ws xs h (some b) = true) : ∃ x ∈ xs, x.m.h = h := by
  obtain ⟨t, _, ct⟩ := sh_some.mp c
  unfold commM at ct
  have q := (Bool.and_eq_true_iff.mp ct).1
  cases e : comS xs h t (some b) with
  | nil => rw [e, qrm_nil g] at q; cases q
  | cons k r =>
    have hk : k ∈ comS xs h t (some b) := by rw [e]; exact List.mem_cons_self
    unfold comS at hk
    obtain ⟨x, hx, _⟩ := List.mem_map.mp hk
    obtain ⟨h1, h2⟩ := List.mem_filter.mp hx
    exact ⟨x, h1, (of_decide_eq_true h2).2.1⟩
/-! ### two chains beside each other -/
def NQ (q : CnP) (b : Addr) : Prop := b ≠ q.B ∧ b ≠ q.R ∧ b ≠ q.D ∧ b ≠ q.L
def Dis (q1 q2 : CnP) : Prop := NQ q1 q2.B ∧ NQ q1 q2.R ∧ NQ q1 q2.D ∧ NQ q1 q2.L
theorem ButC.at {q : CnP} {H H' : Hp} (k : ButC q H H') {b : Addr} {o : HO} (n : NQ q b) (h : H b = some o) : H' b = some o := k b o n.1 n.2.1 n.2.2.1 n.2.2.2 h
theorem CnAt.butC2 {C1 C2 C3 : Addr} {H H' : Hp} {p1 p2 : Addr} {q1 q2 : CnP} {v1 v2 : CnV} {x y x2 y2 : Int} (k : ButC q1 H H') (c1 : CnAt C1 C2 C3 H p1 q1 v1 x y) (c2 : CnAt C1 C2 C3 H p2 q2 v2 x2 y2) (d : Dis q1 q2) : CnAt C1 C2 C3 H' p2 q2 v2 x2 y2 :=
  { c2 with
    ins := c2.ins.elim fun dd h => ⟨dd, k.nl c1 h (fun _ e => nomatch e)⟩
    hB := k.at d.1 c2.hB
    hR := k.at d.2.1 c2.hR
    hD := k.at d.2.2.1 c2.hD
    hL := k.at d.2.2.2 c2.hL
    cm := fun i hi => let ⟨⟨d1, t1, e1, e2⟩, g⟩ := c2.cm i hi; ⟨⟨d1, t1, k.nl c1 e1 (fun _ e => nomatch e), k.nl c1 e2 (fun _ e => nomatch e)⟩, g⟩
    ld := fun l hl => let ⟨t, ⟨d1, c2', c3, h1⟩, h2⟩ := c2.ld l hl; ⟨t, ⟨d1, c2', c3, k.nl c1 h1 (fun _ e => nomatch e)⟩, k.nl c1 h2 (fun _ e => nomatch e)⟩ }
theorem upd_nl {H : Hp} {b : Addr} {ys : List V} {o : HO} (hb : H b = some (.lst ys)) {a : Addr} {u : HO} (h : H a = some u) (n : NL u) : upd H b o a = some u := by
  rw [upd_ne (fun e => by rw [e, hb] at h; exact n _ (Option.some.inj h).symm)]
  exact h
theorem CnAt.updL {C1 C2 C3 : Addr} {H : Hp} {p b : Addr} {q : CnP} {v : CnV} {x y : Int} {ys : List V} {o : HO} (c : CnAt C1 C2 C3 H p q v x y) (hb : H b = some (.lst ys)) (n : NQ q b) : CnAt C1 C2 C3 (upd H b o) p q v x y :=
  { c with
    ins := c.ins.elim fun dd h => ⟨dd, upd_nl hb h (fun _ e => nomatch e)⟩
    hB := by rw [upd_ne n.1.symm]; exact c.hB
    hR := by rw [upd_ne n.2.1.symm]; exact c.hR
    hD := by rw [upd_ne n.2.2.1.symm]; exact c.hD
    hL := by rw [upd_ne n.2.2.2.symm]; exact c.hL
    cm := fun i hi => let ⟨⟨d1, t1, e1, e2⟩, g⟩ := c.cm i hi; ⟨⟨d1, t1, upd_nl hb e1 (fun _ e => nomatch e), upd_nl hb e2 (fun _ e => nomatch e)⟩, g⟩
    ld := fun l hl => let ⟨t, ⟨d1, c2', c3, h1⟩, h2⟩ := c.ld l hl; ⟨t, ⟨d1, c2', c3, upd_nl hb h1 (fun _ e => nomatch e)⟩, upd_nl hb h2 (fun _ e => nomatch e)⟩ }
theorem EnOk.updL {H : Hp} {b : Addr} {q : CnP} {n : En} {ys : List V} {o : HO} (h : EnOk H q n) (hb : H b = some (.lst ys)) (ne : n.l ≠ b) : EnOk (upd H b o) q n :=
  { h with
    he := upd_nl hb h.he (fun _ e => nomatch e)
    hl := by rw [upd_ne ne]; exact h.hl
    hx := ⟨h.hx.1, fun i hi => let ⟨r, h1, h2⟩ := h.hx.2 i hi; ⟨r, upd_nl hb h1 (fun _ e => nomatch e), upd_nl hb h2 (fun _ e => nomatch e)⟩⟩ }
theorem EnOk.butC2 {C1 C2 C3 : Addr} {H H' : Hp} {p : Addr} {q1 q2 : CnP} {v : CnV} {x y : Int} {n : En} (h : EnOk H q2 n) (k : ButC q1 H H') (c : CnAt C1 C2 C3 H p q1 v x y) (ne : NQ q1 n.l) : EnOk H' q2 n :=
  { h with he := k.nl c h.he (fun _ e => nomatch e), hl := k.at ne h.hl, hx := ⟨h.hx.1, fun i hi => LtAt.butC k c (h.hx.2 i hi)⟩ }
/-- a new object is none of a chain's -/
theorem CnAt.fresh {C1 C2 C3 : Addr} {H : Hp} {p : Addr} {q : CnP} {v : CnV} {x y : Int} (c : CnAt C1 C2 C3 H p q v x y) {b : Addr} (h : H b = none) : NQ q b :=
  ⟨fun e => (by rw [e, c.hB] at h; cases h), fun e => (by rw [e, c.hR] at h; cases h), fun e => (by rw [e, c.hD] at h; cases h), fun e => (by rw [e, c.hL] at h; cases h)⟩

/-! ### an archive is read -/
def posE : List (Str × List Lt) → Nat
  | [] => 0
  | e :: r => 1 + e.2.length + posE r
theorem posE_snoc : ∀ (es : List (Str × List Lt)) (e : Str × List Lt), posE (es ++ [e]) = posE es + e.2.length + 1
  | [], e => by simp [posE]; omega
  | f :: r, e => by
    have := posE_snoc r e
    simp only [List.cons_append, posE] at this ⊢
    omega
structure GoodE (e : Str × List Lt) : Prop where
  lz : e.1.length ≤ 1000
  ow : onlyW (cmdsOf e.1)
  tb : TB e.2
  few : e.2.length ≤ 100
structure EnR (H : Hp) (n : En) : Prop where
  he : H n.e = some (.tup [.str n.z, .ref n.l])
  hl : H n.l = some (.lst (n.ps.map V.ref))
  hx : LsAt H n.ps n.xs
def En.pr (n : En) : Str × List Lt := (n.z, n.xs)
def ResA (H : Hp) (es : List (Str × List Lt)) (Q : VK) : Prop := ∀ (en : List En) (r : Addr) H', Same H H' → H r = none → H' r = some (.lst ((en.map (·.e)).map V.ref)) → en.map En.pr = es → (∀ n ∈ en, EnR H' n) → Q (.ref r) H'
def spRA (K : PySem.W.Frag) (C : Addr) : Sp := fun vs H Q E => ∃ (pw g l : Addr) (ws : List Int) (ls : List Str) (es : List (Str × List Lt)), vs = [.ref pw, .ref g, .ref l] ∧ SqL K H pw (ws.map V.int) ∧ GoodW ws ∧ SqL K H g [] ∧ H l = some (.lst (ls.map V.str)) ∧ ls.length ≤ 900 ∧ (∀ x ∈ ls, x.length + 2 ≤ 16777216) ∧
  (∀ j, j < es.length → posE (es.take j) < ls.length ∧ entM ls (posE (es.take j)) = .ok (es.getD j default).1 (es.getD j default).2) ∧ (∀ e ∈ es, GoodE e) ∧ es.length ≤ 700 ∧ (∀ j, j < es.length → shM (rwE ws (es.take j)) (es.getD j default).2 (j : Int) (some (es.getD j default).1) = true) ∧
  (ls.length ≤ posE es → ResA H es Q) ∧ (posE es < ls.length → (∀ k, entM ls (posE es) = .bad k → ExR C H E (k : Int)) ∧ (entM ls (posE es) = .torn → ResA H es Q) ∧
    ∀ z xs, entM ls (posE es) = .ok z xs → GoodE (z, xs) ∧ shM (rwE ws es) xs (es.length : Int) (some z) = false ∧ (posE es + xs.length + 1 = ls.length → ResA H es Q) ∧ (posE es + xs.length + 1 ≠ ls.length → ExR C H E (posE es : Int)))
/-- the state of the loop -/
structure RdS (C0 C1 C2 C3 : Addr) (H Hx : Hp) (k p : Addr) (q : CnP) (v : CnV) (R : Addr) (ws : List Int) (en : List En) : Prop where
  s : Same H Hx
  k : ClAt C0 Hx k p
  c : CnAt C1 C2 C3 Hx p q v 0 0
  hR : Hx R = some (.lst ((en.map (·.e)).map V.ref))
  nR : NQ q R
  zs : v.zs.length = en.length
  ws : v.ws.getD v.zs.length [] = rwE ws (en.map En.pr)
  en : ∀ n ∈ en, EnOk Hx q n ∧ n.l ≠ R
theorem RdS.same {C0 C1 C2 C3 : Addr} {H Hx Hy : Hp} {k p : Addr} {q : CnP} {v : CnV} {R : Addr} {ws : List Int} {en : List En} (h : RdS C0 C1 C2 C3 H Hx k p q v R ws en) (s : Same Hx Hy) : RdS C0 C1 C2 C3 H Hy k p q v R ws en :=
  { h with s := h.s.trans s, k := h.k.elim fun d e => ⟨d, s _ _ e⟩, c := h.c.same s, hR := s _ _ h.hR, en := fun n hn => ⟨(h.en n hn).1.same s, (h.en n hn).2⟩ }
theorem ok_read_archive (TE : TxtE P w K mg a) (T : Txt K mg a) : ∃ fd, FnOk P w K mg base (L2.CX P w) 8 a.d_read_archive fd ["weights", "grants", "lines"] (spRA K a.C_BadArchive) ∧ Binds K fd ["weights", "grants", "lines"] [] := by
  obtain ⟨fd, F, b⟩ := T.d_read_archive.F
  obtain ⟨fd_Client_init, G_Client_init, b_Client_init⟩ := ok_Client_init (P := P) (w := w) (base := base) T
  obtain ⟨fd_entry_at, G_entry_at, b_entry_at⟩ := ok_entry_at (P := P) (w := w) (base := base) TE T
  obtain ⟨fd_Client_follow, G_Client_follow, b_Client_follow⟩ := ok_Client_follow (P := P) (w := w) (base := base) TE T
  obtain ⟨fdH, GH_BadArchive_init, bH⟩ := okh_BadArchive_init (P := P) (w := w) (base := base) TE T
  refine ⟨fd, F.okX sc_read_archive (fun vs H Q E h => ?_) (fun cdv A outer s H vs Q E hr h => ?_), b⟩
  · obtain ⟨_, _, _, _, _, _, rfl, _⟩ := h
    rfl
  · obtain ⟨pw, g, l, ws, ls, es, rfl, hw, gw, hg, hl, few, lim, hes, good, fes, sh, k0, k1⟩ := h
    refine ⟨_, (pss_cons (ps_set (i := 3) sc_read_archive.nd rfl (Or.inl rfl) (pe_make T.m_Client G_Client_init (hr.mono (by decide)) (by rfl) T.g_Client b_Client_init .nil pass0 (pa_cons (pv 0) (pa_cons (pv 1) pa_nil))))
      (pss_cons (ps_set (i := 4) sc_read_archive.nd rfl (Or.inl rfl) (pe_lst pa_nil))
      (pss_cons (ps_set (i := 5) sc_read_archive.nd rfl (Or.inl rfl) pe_int)
      (pss_cons (ps_while (passes_of rfl) (pt_cmpR op_lt (pv 5) (pe_callB call_len_seq (by rfl) T.n_len PySem.boot_len (pa_cons (pv 2) pa_nil)) (nomark _))
      (pss_cons (ps_set (i := 6) sc_read_archive.nd rfl (Or.inl rfl) (pe_call G_entry_at (hr.mono (by decide)) rfl T.d_entry_at.g T.d_entry_at.kp b_entry_at .nil (L2.passes_call (W := fun c d _ H => E c d H) (E := E) (L2.takes_of rfl rfl rfl rfl) (fun _ _ _ _ h => h)) (pa_cons (pv 2) (pa_cons (pv 5) pa_nil))))
        (pss_cons (ps_if (pt_cmpR op_isN (pv 6) pe_non (nomark _))
        (pss_one (ps_ret (pv 4)))
        pss_nil)
        (pss_cons (ps_asg (pv 6) (pg_tup rfl (pgs_cons (pg_name (i := 7) sc_read_archive.nd rfl (Or.inl rfl)) (pgs_cons (pg_name (i := 8) sc_read_archive.nd rfl (Or.inl rfl)) pgs_nil))))
        (pss_cons (ps_set (i := 9) sc_read_archive.nd rfl (Or.inl rfl) (pe_op op_add (pv 5) (pe_callB call_len_seq (by rfl) T.n_len PySem.boot_len (pa_cons (pv 8) pa_nil))))
        (pss_cons (ps_whole (L2H.ps_try_onlyX rfl rfl ⟨rfl, by decide, .inl TE.g_BadPaper⟩ (fun hd => L2H.passesAt_of rfl hd) (takes_of rfl rfl rfl rfl) (fun W pn xe tk tk2 po => (pss_one (ps_expr (pe_methT (pv 3) T.cl_Client T.me_Client_follow G_Client_follow (hr.mono (by decide)) b_Client_follow (E := fun σ cls d H => W cls d σ H) (fun σ pins H s u s_ I c => tk u s_ (L2N.XE.of_call I (fun _ _ _ h => h) c)) (pa_cons (pv 7) (pa_cons (pv 8) pa_nil)))))) (fun ae oe cls d pn hz hf tkS hot => (pss_cons (ps_if (pt_cmpR op_eq (pv 9) (pe_op op_sub (pe_callB (id := "len") (r := rLenOf K) (cr_lenK rfl) (by rfl) T.n_len PySem.boot_len (pa_cons (pv 2) pa_nil)) pe_int) (nomark _)) (pss_one (ps_ret (pv 4))) pss_nil) (pss_one (L2H.ps_raiseHN hot tkS (L2H.pmk5_oexH TE.oex_BadArchive TE.iC_BadArchive TE.tI_BadArchive GH_BadArchive_init ((L2H.roomH_mark hr _).mono (by decide)) hot bH pass0 rfl TE.g_BadArchive (pa_cons (pv 5) pa_nil))))))))
        (pss_cons (ps_expr (pe_bm PySem.F.plainAttrs_list PySem.F.slot_list_append PySem.F.type_list_append mt_append (pv 4) (pa_cons (pv 6) pa_nil)))
        (pss_one (ps_set (i := 5) sc_read_archive.nd rfl (Or.inl rfl) (pe_op op_add (pv 9) pe_int))))))))))
      (pss_one (ps_ret (pv 4))))))), ?_⟩
    walk_at "rs"
    intro k dk hk0 hdk ndk
    have sM : Same H (upd (upd H dk (.own k)) k (.ins a.C_Client dk [])) := same_upd (same_new hdk) hk0
    have fr : ∀ {b : Addr}, (upd (upd H dk (.own k)) k (.ins a.C_Client dk [])) b = none → H b = none := fun h => sM.free h
    refine ⟨k, dk, pw, g, ws, 0, 0, rfl, upd_same, sM.seq hw, gw, sM.seq hg, fun p q c d H1 hk hc fp f1 f2 f3 f4 keep => ⟨rfl, ?_⟩⟩
    have s1 : Same H H1 := fun b o e => keep b o (fun z => by rw [z, hk0] at e; cases e) (sM _ _ e)
    have g1 := fr f1
    have g2 := fr f2
    have g3 := fr f3
    have g4 := fr f4
    clear f1 f2 f3 f4 fp keep fr sM hdk ndk hk0
    walk_at "rs"
    refine ⟨(by show 0 ≤ sizeLine; decide), fun R hR => ?_⟩
    have hR0 := s1.free hR
    have S0 : RdS a.C_Client a.C_Chain a.C_Committee a.C_Ledger H (upd H1 R (.lst [])) k p q ⟨[], [], [c], [ws], [d]⟩ R ws [] := by
      have sn := same_new (o := .lst []) hR
      exact { s := s1.trans sn, k := hk.elim fun d e => ⟨d, sn _ _ e⟩, c := hc.same sn, hR := upd_same, nR := hc.fresh hR, zs := rfl, ws := rfl, en := fun n hn => absurd hn List.not_mem_nil }
    generalize upd H1 R (.lst []) = H2 at S0 ⊢
    clear hk hc s1 hR
    walk_at "rs"
    refine ⟨fun m σ H2 => ∃ (v6 v7 v8 v9 : Option V) (v : CnV) (en : List En), m = es.length - en.length ∧ en.length ≤ es.length ∧ σ = [some (.ref pw), some (.ref g), some (.ref l), some (.ref k), some (.ref R), some (.int (posE (es.take en.length) : Nat)), v6, v7, v8, v9] ∧ en.map En.pr = es.take en.length ∧ RdS a.C_Client a.C_Chain a.C_Committee a.C_Ledger H H2 k p q v R ws en,
      ⟨_, _, _, _, _, _, [], rfl, Nat.zero_le _, rfl, rfl, S0⟩, ?_⟩
    clear S0 H2
    rintro m σ H2 ⟨v6, v7, v8, v9, v, en, rfl, le, rfl, een, S⟩
    walk_at "rs"
    refine ⟨l, _, rfl, .inl (SqL.of (S.s _ _ hl)), ?_⟩
    rw [List.length_map]
    walk_at "rs"
    have fin : ∀ Hy, Same H2 Hy → ResA H (es.take en.length) Q → Q (.ref R) Hy := fun Hy sy r => by
      have S := S.same sy
      exact r en R Hy S.s hR0 S.hR een fun n hn => ⟨(S.en n hn).1.he, (S.en n hn).1.hl, (S.en n hn).1.hx⟩
    refine ite2 (fun c1 => ?_) (fun c1 => ?_)
    · have c1 : posE (es.take en.length) < ls.length := by
        have := of_decide_eq_true c1
        omega
      have lim63 : en.length ≤ 700 := by omega
      have A : ∀ k, entM ls (posE (es.take en.length)) = .bad k → ExR a.C_BadArchive H E (k : Int) := fun k e => by
        rcases Nat.lt_or_ge en.length es.length with z | z
        · rw [(hes _ z).2] at e
          cases e
        · rw [List.take_of_length_le z] at e c1
          exact (k1 c1).1 k e
      have B : entM ls (posE (es.take en.length)) = .torn → ResA H (es.take en.length) Q := fun e => by
        rcases Nat.lt_or_ge en.length es.length with z | z
        · rw [(hes _ z).2] at e
          cases e
        · rw [List.take_of_length_le z] at e c1 ⊢
          exact (k1 c1).2.1 e
      have D : ∀ z xs, entM ls (posE (es.take en.length)) = .ok z xs → GoodE (z, xs) ∧ ((en.length < es.length ∧ es.getD en.length default = (z, xs) ∧ shM (rwE ws (es.take en.length)) xs (en.length : Int) (some z) = true) ∨
          (shM (rwE ws (es.take en.length)) xs (en.length : Int) (some z) = false ∧ (posE (es.take en.length) + xs.length + 1 = ls.length → ResA H (es.take en.length) Q) ∧ (posE (es.take en.length) + xs.length + 1 ≠ ls.length → ExR a.C_BadArchive H E (posE (es.take en.length) : Int)))) := fun z xs e => by
        rcases Nat.lt_or_ge en.length es.length with y | y
        · rw [(hes _ y).2] at e
          have e1 : es.getD en.length default = (z, xs) := by
            cases e
            rfl
          have gd : GoodE (es.getD en.length default) := good _ (by rw [List.getD_eq_getElem?_getD, List.getElem?_eq_getElem y]; exact List.getElem_mem _)
          have sh1 := sh _ y
          rw [e1] at gd sh1
          exact ⟨gd, .inl ⟨y, e1, sh1⟩⟩
        · have el : en.length = es.length := by omega
          rw [List.take_of_length_le y] at e c1 ⊢
          obtain ⟨g1, g2, g3, g4⟩ := (k1 c1).2.2 z xs e
          rw [el]
          exact ⟨g1, .inr ⟨g2, g3, g4⟩⟩
      refine ⟨fun σ' H' => ∃ (v6 v7 v8 v9 : Option V) (v : CnV) (en' : List En), en'.length = en.length + 1 ∧ en'.length ≤ es.length ∧ σ' = [some (.ref pw), some (.ref g), some (.ref l), some (.ref k), some (.ref R), some (.int (posE (es.take en'.length) : Nat)), v6, v7, v8, v9] ∧ en'.map En.pr = es.take en'.length ∧ RdS a.C_Client a.C_Chain a.C_Committee a.C_Ledger H H' k p q v R ws en', fun σ' H' ⟨v6, v7, v8, v9, v', en', e1, e2, e3, e4, e5⟩ => ⟨_, by omega, v6, v7, v8, v9, v', en', rfl, e2, e3, e4, e5⟩, ?_⟩
      walk_at "rs"
      refine ⟨l, ls, posE (es.take en.length), rfl, S.s _ _ hl, c1, by omega, lim, fun kk e d H' s' hd => A kk e d H' (S.s.trans s') hd, fun e H3 s3 => ?_, fun z xs e t lp ps H3 s3 fl ft ht hlp hxs => ?_⟩
      · walk_at "rs"
        exact fin H3 s3 (B e)
      have S3 := S.same s3
      have ND : NQ q lp := S.c.fresh fl
      have lR : lp ≠ R := fun e => by rw [e, S.hR] at fl; cases fl
      obtain ⟨gz, alt⟩ := D z xs e
      clear A B D e s3 fl ft
      walk_at "rs"
      refine ⟨t, _, rfl, SqT.of ht, rfl, ?_⟩
      refine ⟨_, _, rfl, _, _, rfl, rfl, ?_⟩
      walk_at "rs"
      refine ⟨lp, _, rfl, .inl (SqL.of hlp), ?_⟩
      have nps := hxs.1
      rw [List.length_map, nps]
      obtain ⟨dk2, hk3⟩ := S3.k
      walk_at "rs"
      refine ⟨k, dk2, _, rfl, hk3, rfl, ?_⟩
      walk_at "rs"
      have few2 : xs.length ≤ 100 := gz.few
      have tkl : (es.take en.length).length = en.length := by rw [List.length_take]; omega
      have ezl : v.zs.length = en.length := S3.zs
      have ews : v.ws.getD v.zs.length [] = rwE ws (es.take en.length) := by rw [S3.ws, een]
      refine ⟨k, p, lp, z, q, v, 0, 0, ps, xs, rfl, ⟨dk2, hk3⟩, S3.c, gz.lz, gz.ow, by omega, hlp, hxs, by omega, gz.tb, fun e r c H4 hc4 kq4 => ?_, fun e H4 s4 => ?_⟩
      · rw [ews] at e hc4
        rw [ezl] at e
        rcases alt with ⟨y, ey, _⟩ | ⟨y, _⟩
        · have hR4 := kq4.at S3.nR S3.hR
          have ht4 := kq4.nl S3.c ht (fun _ e => nomatch e)
          have hlp4 := kq4.at ND hlp
          have hxs4 : LsAt H4 ps xs := ⟨hxs.1, fun i hi => LtAt.butC kq4 S3.c (hxs.2 i hi)⟩
          have tR : t ≠ R := fun e => by rw [e, S3.hR] at ht; cases ht
          walk_at "rs"
          refine ⟨.inl ⟨rfl, _, SqL.of hR4⟩, ?_⟩
          walk_at "rs"
          refine ⟨R, _, _, rfl, rfl, hR4, by rw [List.length_map, List.length_map]; exact small1000 (by omega), ?_⟩
          walk_at "rs"
          have et : es.take (en.length + 1) = es.take en.length ++ [(z, xs)] := by rw [take_succ_getD (d := default) y, ey]
          refine ⟨some (.ref t), some (.str z), some (.ref lp), some (.int ((posE (es.take en.length) : Int) + (xs.length : Int))), ⟨v.zs ++ [z], v.rs ++ [r], v.ps ++ [c], v.ws ++ [rew (rwE ws (es.take en.length)) (cmdsOf z)], v.ls ++ [v.ls.getD v.zs.length 0]⟩, en ++ [⟨t, z, lp, ps, xs⟩], by rw [List.length_append]; rfl, by rw [List.length_append, List.length_singleton]; omega, ?_, ?_, ?_⟩
          · rw [List.length_append, List.length_singleton, et, posE_snoc]
            have e1 : ((posE (es.take en.length) + xs.length + 1 : Nat) : Int) = (posE (es.take en.length) : Int) + (xs.length : Int) + 1 := by omega
            show _ = [some (V.ref pw), some (V.ref g), some (V.ref l), some (V.ref k), some (V.ref R), some (.int ((posE (es.take en.length) + xs.length + 1 : Nat) : Int)), _, _, _, _]
            rw [e1]
            rfl
          · rw [List.length_append, List.length_singleton, et, List.map_append, een]
            rfl
          · have n5 : Same H (upd H4 R (.lst ((en.map (·.e)).map V.ref ++ [V.ref t]))) := fun b o e => by
              rw [upd_ne (fun z => by rw [z, hR0] at e; cases e)]
              exact kq4 b o (fun z => by rw [z, g1] at e; cases e) (fun z => by rw [z, g2] at e; cases e) (fun z => by rw [z, g3] at e; cases e) (fun z => by rw [z, g4] at e; cases e) (S3.s _ _ e)
            refine { s := n5, k := ⟨dk2, upd_nl hR4 (kq4.nl S3.c hk3 (fun _ e => nomatch e)) (fun _ e => nomatch e)⟩, c := hc4.updL hR4 S3.nR, hR := by rw [upd_same]; simp, nR := S3.nR, zs := ?_, ws := ?_, en := fun n hn => ?_ }
            · show (v.zs ++ [z]).length = _
              rw [List.length_append, List.length_append, ezl]
              rfl
            · show (v.ws ++ [rew (rwE ws (es.take en.length)) (cmdsOf z)]).getD (v.zs ++ [z]).length [] = _
              have := S3.c.nw
              rw [List.length_append, List.length_singleton, ← this, getD_end, List.map_append, een]
              exact (rwE_snoc _ _ (z, xs)).symm
            · rcases List.mem_append.mp hn with hn | hn
              · exact ⟨((S3.en n hn).1.butC kq4 S3.c).updL hR4 (S3.en n hn).2, (S3.en n hn).2⟩
              · rw [List.mem_singleton.mp hn]
                exact ⟨⟨upd_nl hR4 ht4 (fun _ e => nomatch e), by show upd _ _ _ lp = _; rw [upd_ne lR]; exact hlp4, lsat_updL hxs4 hR4, few2, gz.tb, gz.lz, gz.ow, ND.1, ND.2.1, ND.2.2.1, ND.2.2.2⟩, lR⟩
        · rw [y] at e
          cases e
      · rw [ews, ezl] at e
        rcases alt with ⟨_, _, y⟩ | ⟨_, y1, y2⟩
        · rw [y] at e
          cases e
        refine ⟨true, TE.exm_BadPaper_BadPaper, fun _ ex hex => ?_, fun z => nomatch z⟩
        have S4 := S3.same s4
        walk_at "rs"
        refine ⟨l, _, rfl, .inl (SqL.of (S4.s _ _ hl)), ?_⟩
        rw [List.length_map]
        walk_at "rs"
        refine ite2 (fun c2 => ?_) (fun c2 => ?_)
        · have c2 : ((posE (es.take en.length) : Nat) : Int) + (xs.length : Int) = (ls.length : Int) - 1 := by simpa using c2
          walk_at "rs"
          exact y1 (by omega) en R H4 S4.s hR0 S4.hR een fun n hn => ⟨(S4.en n hn).1.he, (S4.en n hn).1.hl, (S4.en n hn).1.hx⟩
        · have c2 : ¬ ((posE (es.take en.length) : Nat) : Int) + (xs.length : Int) = (ls.length : Int) - 1 := by simpa using c2
          have kr' := y2 (by omega)
          walk_at "rs"
          refine ⟨by show 1 ≤ 1000; decide, fun b hb => ⟨b, _, rfl, upd_same, ⟨_, rfl, Int.natCast_nonneg _, by omega⟩, fun dx3 hdx3 ndx3 => ?_⟩⟩
          have fd : H4 dx3 = none := by rwa [upd_ne ndx3] at hdx3
          refine ⟨rfl, dx3, _, upd_same, by rw [upd_ne ndx3, upd_same], fd, ?_⟩
          rw [sup_heap hb ndx3]
          exact kr' _ _ (S4.s.trans (same_new fd)) upd_same
    · have c1 : ¬ posE (es.take en.length) < ls.length := by
        intro z
        exact c1 (decide_eq_true (by omega))
      walk_at "rs"
      have : en.length = es.length := by
        refine Nat.le_antisymm le (Nat.le_of_not_lt fun z => c1 (hes _ z).1)
      rw [List.take_of_length_le (by omega)] at fin c1
      exact fin H2 (Same.refl _) (k0 (by omega))

/-! ### words that are joined -/
theorem tl_sp : TL.tl (" " : Str) = [32] := by decide +kernel
theorem sp_split {ws : List Str} (n : ws ≠ []) (f : ∀ p ∈ ws, 32 ∉ TL.tl p) : Txt.split (Txt.join " " ws) " " = ws :=
  TL.split_join (y := " ") (s := 32) (S := []) (by decide +kernel) (by decide +kernel) n f
theorem join_cons {x : Str} {ws : List Str} (n : ws ≠ []) : Txt.join " " (x :: ws) = x ++ (" " : Str) ++ Txt.join " " ws := by
  rw [TL.join_eq, TL.join_eq]
  cases ws with
  | nil => exact absurd rfl n
  | cons y r => rfl
theorem join_snoc {x : Str} : ∀ {ws : List Str}, ws ≠ [] → Txt.join " " (ws ++ [x]) = Txt.join " " ws ++ (" " : Str) ++ x
  | [], n => absurd rfl n
  | [y], _ => by
    rw [List.singleton_append, join_cons (List.cons_ne_nil _ _)]
    rfl
  | y :: z :: r, _ => by
    rw [List.cons_append, join_cons (by simp), join_cons (by simp), join_snoc (List.cons_ne_nil z r)]
    refine TL.ext_tl ?_
    simp only [TL.tl_append, List.append_assoc]
theorem head_of {ws : List Str} {line : Str} (e : Txt.split line " " = ws) : headM line = if ws.length = 3 ∧ wrd ws 0 = "block" ∧ blkB (wrd ws 1) = true ∧ numB (wrd ws 2) = true then some (wrd ws 1, numV (wrd ws 2)) else none := by
  unfold headM
  rw [e]
theorem headS_join (z : Str) (n : Nat) : headS z n = Txt.join " " [("block" : Str), z, (toString (n : Int) : Str)] := by
  rw [join_cons (by simp), join_cons (by simp)]
  refine TL.ext_tl ?_
  show TL.tl (((((Str.empty ++ ("block" : Str)) ++ (" " : Str)) ++ z) ++ (" " : Str)) ++ (toString (n : Int) : Str)) = TL.tl (("block" : Str) ++ (" " : Str) ++ (z ++ (" " : Str) ++ (toString (n : Int) : Str)))
  simp only [TL.tl_append, List.append_assoc]
  rfl
theorem fr_block : 32 ∉ TL.tl ("block" : Str) := by decide +kernel
theorem fr_blk {z : Str} (h : blkB z = true) : 32 ∉ TL.tl z := blk_free h (by decide +kernel)
theorem fr_nat (n : Nat) : 32 ∉ TL.tl (toString (n : Int) : Str) := num_free (Int.natCast_nonneg _) (.inl (by decide))
theorem fr_three {a b c : Str} (ha : 32 ∉ TL.tl a) (hb : 32 ∉ TL.tl b) (hc : 32 ∉ TL.tl c) : ∀ p ∈ [a, b, c], 32 ∉ TL.tl p := by
  intro p hp
  simp only [List.mem_cons, List.not_mem_nil, or_false] at hp
  rcases hp with rfl | rfl | rfl <;> assumption
theorem headS_words {z : Str} (h : blkB z = true) (n : Nat) : Txt.split (headS z n) " " = [("block" : Str), z, (toString (n : Int) : Str)] := by
  rw [headS_join]
  exact sp_split (by simp) (fr_three fr_block (fr_blk h) (fr_nat n))
theorem head_read {z : Str} (h : blkB z = true) {n : Nat} (hn : n < 1000) : headM (headS z n) = some (z, (n : Int)) := by
  have := num_str (i := (n : Int)) (Int.natCast_nonneg _) (by omega)
  rw [head_of (headS_words h n)]
  refine (if_pos ⟨rfl, rfl, h, this.1⟩).trans ?_
  show some (z, numV (toString (n : Int) : Str)) = _
  rw [this.2]
/-- a head line with another word does not read -/
theorem head_bad {a b c : Str} (ha : 32 ∉ TL.tl a) (hb : 32 ∉ TL.tl b) (hc : 32 ∉ TL.tl c) (bad : a ≠ "block" ∨ blkB b = false ∨ numB c = false) : headM (Txt.join " " [a, b, c]) = none := by
  rw [head_of (sp_split (by simp) (fr_three ha hb hc))]
  refine if_neg fun ⟨_, h1, h2, h3⟩ => ?_
  have h2 : blkB b = true := h2
  have h3 : numB c = true := h3
  rcases bad with h | h | h
  · exact h h1
  · rw [h] at h2
    cases h2
  · rw [h] at h3
    cases h3
/-- what is joined behind, or ahead -/
theorem add_x {ws : List Str} (n : ws ≠ []) : Txt.join " " ws ++ (" x" : Str) = Txt.join " " (ws ++ [("x" : Str)]) := by
  rw [join_snoc n]
  refine TL.ext_tl ?_
  simp only [TL.tl_append, List.append_assoc]
  rfl
theorem add_sp {ws : List Str} (n : ws ≠ []) : Txt.join " " ws ++ (" " : Str) = Txt.join " " (ws ++ [("" : Str)]) := by
  rw [join_snoc n]
  refine TL.ext_tl ?_
  simp only [TL.tl_append, List.append_assoc]
  rfl
theorem sp_add {ws : List Str} (n : ws ≠ []) : (" " : Str) ++ Txt.join " " ws = Txt.join " " ("" :: ws) := by
  rw [join_cons n]
  rfl
theorem three_cases {line : Str} {ws : List Str} (e : line = Txt.join " " ws) (n : ws ≠ []) (f : ∀ p ∈ ws, 32 ∉ TL.tl p) {y : Str} (hy : y = line ++ (" x" : Str) ∨ y = line ++ (" " : Str) ∨ y = (" " : Str) ++ line) :
    (∃ u : Str, Txt.split y " " = ws ++ [u]) ∨ Txt.split y " " = ("" : Str) :: ws := by
  have f0 : 32 ∉ TL.tl ("" : Str) := by decide +kernel
  have fx : 32 ∉ TL.tl ("x" : Str) := by decide +kernel
  have fs : ∀ u : Str, 32 ∉ TL.tl u → ∀ p ∈ ws ++ [u], 32 ∉ TL.tl p := fun u hu p hp => by
    rcases List.mem_append.mp hp with hp | hp
    · exact f p hp
    · rw [List.mem_singleton.mp hp]
      exact hu
  rcases hy with rfl | rfl | rfl
  · exact .inl ⟨"x", by rw [e, add_x n]; exact sp_split (by simp) (fs _ fx)⟩
  · exact .inl ⟨"", by rw [e, add_sp n]; exact sp_split (by simp) (fs _ f0)⟩
  · refine .inr ?_
    rw [e, sp_add n]
    refine sp_split (List.cons_ne_nil _ _) fun p hp => ?_
    rcases List.mem_cons.mp hp with rfl | hp
    · exact f0
    · exact f p hp
theorem head_spoilt {z : Str} (h : blkB z = true) {n : Nat} {y : Str} (hy : y = headS z n ++ (" x" : Str) ∨ y = headS z n ++ (" " : Str) ∨ y = (" " : Str) ++ headS z n) : headM y = none := by
  rcases three_cases (headS_join z n) (by simp) (fr_three fr_block (fr_blk h) (fr_nat n)) hy with ⟨u, e⟩ | e
  · rw [head_of e]
    exact if_neg fun q => absurd q.1 (by simp)
  · rw [head_of e]
    exact if_neg fun q => absurd q.1 (by simp)
/-! ### a letter with a word too many -/
theorem wordAt_app {ws : List Str} {k : Nat} (h : k < ws.length) (u : Str) : wordAt (ws ++ [u]) k = wordAt ws k := by
  unfold wordAt
  rw [if_pos h, if_pos (by rw [List.length_append]; omega), getD_left h]
theorem kindAt_app {ws : List Str} {k : Nat} (h : k < ws.length) (u : Str) : kindAt (ws ++ [u]) k = kindAt ws k := by
  unfold kindAt
  rw [wordAt_app h]
theorem wordAt_lt {ws : List Str} {k : Nat} {x : Str} (h : wordAt ws k = .ok x) : k < ws.length := by
  unfold wordAt at h
  split at h
  · assumption
  · cases h
theorem blockAt_lt {ws : List Str} {k : Nat} {d : Kd} {b : Option Str} (h : blockAt ws k d = .ok b) : k < ws.length := by
  unfold blockAt at h
  split at h
  · cases h
  · rename_i e
    exact wordAt_lt e
theorem leanAt_lt {ws : List Str} {k : Nat} {t : Int} {l : Option Int} (h : leanAt ws k t = .ok l) : k < ws.length := by
  unfold leanAt at h
  split at h
  · cases h
  · rename_i e
    exact wordAt_lt e
theorem endAt_le {ws : List Str} {k : Nat} {u : Unit} (h : endAt ws k = .ok u) : ws.length ≤ k := by
  unfold endAt at h
  split at h
  · cases h
  · omega
theorem readW_kind {ws : List Str} {x : Lt} (h : readW ws = .ok x) : ∃ k : Kd, kindAt ws 1 = .ok k ∧ ws.length = if k = .pre then 6 else 5 := by
  unfold readW at h
  obtain ⟨w, h1, h⟩ := bindE_ok h
  obtain ⟨k, h2, h⟩ := bindE_ok h
  obtain ⟨ht, h3, h⟩ := bindE_ok h
  obtain ⟨t, h4, h⟩ := bindE_ok h
  obtain ⟨b, h5, h⟩ := bindE_ok h
  have a5 := blockAt_lt h5
  refine ⟨k, h2, ?_⟩
  unfold readEnd at h
  split at h
  · rename_i ek
    obtain ⟨l, h6, h⟩ := bindE_ok h
    obtain ⟨_, h7, h⟩ := bindE_ok h
    have := leanAt_lt h6
    have := endAt_le h7
    rw [if_pos ek]
    omega
  · rename_i ek
    obtain ⟨_, h7, h⟩ := bindE_ok h
    have := endAt_le h7
    rw [if_neg ek]
    omega
theorem readW_more {ws : List Str} {x : Lt} (h : readW ws = .ok x) (u : Str) : ∃ e, readW (ws ++ [u]) = .error e := by
  cases q : readW (ws ++ [u]) with
  | error e => exact ⟨e, rfl⟩
  | ok y =>
    exfalso
    obtain ⟨k, h1, h2⟩ := readW_kind h
    obtain ⟨k', h3, h4⟩ := readW_kind q
    have l5 : 5 ≤ ws.length := by
      rw [h2]
      split <;> omega
    rw [kindAt_app (by omega), h1] at h3
    cases h3
    rw [List.length_append, List.length_singleton, h2] at h4
    omega
theorem readW_before (ws : List Str) : ∃ e, readW (("" : Str) :: ws) = .error e := by
  refine ⟨0, ?_⟩
  unfold readW
  have e : numAt (("" : Str) :: ws) 0 = .error 0 := by
    unfold numAt
    rw [wordAt_ok (x := "") rfl]
    have : numB ("" : Str) = false := by decide +kernel
    simp only [this]
    rfl
  rw [e]
  rfl
theorem line_free {who : Int} (w0 : 0 ≤ who) {m : Sm} (g : GoodM m) : ∀ p ∈ (toString who : Str) :: m.vals.map wordV, 32 ∉ TL.tl p := fun p hp => by
  rcases List.mem_cons.mp hp with rfl | hp
  · exact num_free w0 (.inl (by decide))
  · obtain ⟨v, hv, rfl⟩ := List.mem_map.mp hp
    exact word_free g v hv
theorem line_spoilt {who : Int} (w0 : 0 ≤ who) (w1 : who < 1000000000) {m : Sm} (g : GoodM m) {y : Str} (hy : y = lineS who m ++ (" x" : Str) ∨ y = lineS who m ++ (" " : Str) ∨ y = (" " : Str) ++ lineS who m) : ∃ e, readL y = .error e := by
  have r := read_line w0 w1 g
  unfold readL at r ⊢
  rw [line_words w0 g] at r
  rcases three_cases (ws := (toString who : Str) :: m.vals.map wordV) rfl (List.cons_ne_nil _ _) (line_free w0 g) hy with ⟨u, e⟩ | e
  · rw [e]
    exact readW_more r u
  · rw [e]
    exact readW_before _

theorem archM_pos : ∀ es : List (Str × List Lt), (archM es).length = posE es
  | [] => rfl
  | (z, xs) :: r => by
    have := archM_pos r
    simp only [archM, posE, List.length_cons, List.length_append, List.length_map]
    omega
structure EnL (H : Hp) (n : En) : Prop where
  r : EnR H n
  few : n.xs.length ≤ 32
  lz : n.z.length ≤ 60
  ok : ∀ x ∈ n.xs, LnOk x
theorem EnR.same {H H' : Hp} {n : En} (h : EnR H n) (s : Same H H') : EnR H' n := ⟨s _ _ h.he, s _ _ h.hl, h.hx.same s⟩
theorem EnL.same {H H' : Hp} {n : En} (h : EnL H n) (s : Same H H') : EnL H' n := { h with r := h.r.same s }
theorem en_at {en : List En} {i : Nat} {y : V} (h : ((en.map (·.e)).map V.ref)[i]? = some y) : ∃ n, en[i]? = some n ∧ y = V.ref n.e ∧ n ∈ en ∧ i < en.length := by
  rw [List.getElem?_map, List.getElem?_map] at h
  cases e : en[i]? with
  | none => rw [e] at h; cases h
  | some n => rw [e] at h; cases h; exact ⟨n, rfl, rfl, List.mem_of_getElem? e, (List.getElem?_eq_some_iff.mp e).1⟩
theorem pr_take {en : List En} {i : Nat} {n : En} (h : en[i]? = some n) : (en.map En.pr).take (i + 1) = (en.map En.pr).take i ++ [(n.z, n.xs)] := by
  rw [List.take_add_one, List.getElem?_map, h]
  rfl

/-! ### what the law's entries are good for -/
structure GoodN (z : Str) (xs : List Lt) : Prop where
  bo : BlkOk z
  bb : blkB z = true
  few : xs.length ≤ 32
  pap : ∀ x ∈ xs, ∃ h : Int, 0 ≤ h ∧ h < 10 ∧ PapL h z x
theorem GoodN.gm {z : Str} {xs : List Lt} (g : GoodN z xs) {x : Lt} (hx : x ∈ xs) : GoodM x.m := by
  obtain ⟨h, h0, h1, p1, p2, p3, p4, p5, p6, p7, p8⟩ := g.pap x hx
  refine ⟨by omega, by omega, p3, by omega, fun y e => ?_, fun e => absurd e p5, fun y e => ?_, fun _ => p8⟩
  · rw [p1] at e
    cases e
    exact g.bb
  · rw [p8] at e
    cases e
theorem GoodN.wh {z : Str} {xs : List Lt} (g : GoodN z xs) {x : Lt} (hx : x ∈ xs) : 0 ≤ x.w ∧ x.w < 1000000000 := by
  obtain ⟨h, h0, h1, p1, p2, p3, p4, p5, p6, p7, p8⟩ := g.pap x hx
  omega
theorem GoodN.ln {z : Str} {xs : List Lt} (g : GoodN z xs) {x : Lt} (hx : x ∈ xs) : LnOk x := ⟨(g.wh hx).1, (g.wh hx).2, (g.gm hx).small⟩
theorem GoodN.three {z : Str} {xs : List Lt} (g : GoodN z xs) : ∀ x ∈ xs, 0 ≤ x.m.t ∧ x.m.t < 12 := fun x hx => by
  obtain ⟨h, h0, h1, p1, p2, p3, p4, p5, p6, p7, p8⟩ := g.pap x hx
  omega
theorem GoodN.okl {z : Str} {xs : List Lt} (g : GoodN z xs) : OkL xs := fun x hx y e => (blk_ok ((g.gm hx).b y e)).2
theorem GoodN.ge {z : Str} {xs : List Lt} (g : GoodN z xs) : GoodE (z, xs) := ⟨Nat.le_trans g.bo.1 (by decide), g.bo.only, fun x hx => by have := g.three x hx; omega, Nat.le_trans g.few (by decide)⟩
theorem GoodN.el {H : Hp} {n : En} (g : GoodN n.z n.xs) (r : EnR H n) : EnL H n := ⟨r, g.few, g.bo.1, fun _ hx => g.ln hx⟩
/-- whether the entry at place j is shown -/
def shE (ws : List Int) (es : List (Str × List Lt)) (j : Nat) : Bool := shM (rwE ws (es.take j)) (es.getD j default).2 (j : Int) (some (es.getD j default).1)
theorem rwE_good {ws : List Int} (g : GoodW ws) : ∀ {es : List (Str × List Lt)}, (∀ e ∈ es, onlyW (cmdsOf e.1)) → GoodW (rwE ws es) := by
  intro es
  induction es generalizing ws with
  | nil => exact fun _ => g
  | cons e r ih => exact fun h => ih (rew_good g (h e List.mem_cons_self)) fun f hf => h f (List.mem_cons_of_mem _ hf)
theorem pr_getD {en : List En} {i : Nat} {n : En} (h : en[i]? = some n) : (en.map En.pr).getD i default = (n.z, n.xs) := by
  rw [List.getD_eq_getElem?_getD, List.getElem?_map, h]
  rfl
theorem ref_at {en : List En} {i : Nat} {n : En} (h : en[i]? = some n) : ((en.map (·.e)).map V.ref)[i]? = some (V.ref n.e) := by
  rw [List.getElem?_map, List.getElem?_map, h]
  rfl

/-! ### lists of entries as data -/
def eD (e : Str × List Lt) : PyData := .tuple [.str e.1, .list (e.2.map Lt.dat)]
theorem dp_eDs {H : Hp} : ∀ {en : List En}, (∀ n ∈ en, EnR H n) → DpAll K H ((en.map (·.e)).map V.ref) ((en.map En.pr).map eD)
  | [], _ => .nil
  | n :: es, h => by
    have r := h n List.mem_cons_self
    exact .cons (.tup (SqT.of r.he) (.cons (.str _) (.cons (.lst (SqL.of r.hl) (dp_lts r.hx)) .nil))) (dp_eDs fun m hm => h m (List.mem_cons_of_mem _ hm))
def OkE (e : Str × List Lt) : Prop := OkL e.2 ∧ PyData.strOk e.1 = true
theorem lay_eD {e : Str × List Lt} (o : OkE e) : PyData.canLay0 (eD e) = true := by
  simp only [eD, PyData.canLay0, PyData.canLayAll0, o.2, lay_lts o.1]
  rfl
theorem lay_eDs : ∀ {es : List (Str × List Lt)}, (∀ e ∈ es, OkE e) → PyData.canLayAll0 (es.map eD) = true
  | [], _ => by simp [PyData.canLayAll0]
  | n :: es, o => by
    simp only [List.map_cons, PyData.canLayAll0]
    rw [lay_eD (o n List.mem_cons_self), lay_eDs fun y hy => o y (List.mem_cons_of_mem _ hy)]
    rfl
theorem depth_eDs : ∀ es : List (Str × List Lt), PyData.depthAll (es.map eD) ≤ 4
  | [] => by simp [PyData.depthAll]
  | n :: es => by
    have := depth_eDs es
    have h := depth_lts n.2
    simp only [List.map_cons, PyData.depthAll, eD, PyData.depth]
    omega
theorem shaped_eDs {es : List (Str × List Lt)} (o : ∀ e ∈ es, OkE e) : SeqAt.shaped (.list (es.map eD)) = true := by
  have h := depth_eDs es
  unfold SeqAt.shaped
  have e : PyData.depth (.list (es.map eD)) = PyData.depthAll (es.map eD) + 1 := by simp only [PyData.depth]
  have l : PyData.canLay0 (.list (es.map eD)) = true := by simp only [PyData.canLay0, lay_eDs o]
  rw [l, e, decide_eq_true (show PyData.depthAll (es.map eD) + 1 ≤ 64 by omega)]
  rfl
theorem eDs_refl {es : List (Str × List Lt)} (o : ∀ e ∈ es, OkE e) : PyData.eqv (.list (es.map eD)) (.list (es.map eD)) = true := SeqAt.eqv_refl _ (by
  simp only [PyData.canLay0, lay_eDs o])
/-! ### what the law reads -/
def IsD (H : Hp) (x : V) (es : List (Str × List Lt)) : Prop := ∃ (D : Addr) (en : List En), x = .ref D ∧ H D = some (.lst ((en.map (·.e)).map V.ref)) ∧ en.map En.pr = es ∧ ∀ n ∈ en, EnR H n

theorem join_len (y : Str) : ∀ parts : List Str, (Str.join y parts).length ≤ (parts.map (·.length)).sum + parts.length * y.length
  | [] => by show (Str.empty).length ≤ _; exact Nat.zero_le _
  | [x] => by
    show x.length ≤ _
    simp
  | x :: z :: r => by
    have h := join_len y (z :: r)
    have e : (Str.join y (x :: z :: r)).length = x.length + y.length + (Str.join y (z :: r)).length := by
      show ((x ++ y) ++ Str.join y (z :: r)).length = _
      rw [TL.len_tl, TL.tl_append, List.length_append, TL.tl_append, List.length_append, ← TL.len_tl, ← TL.len_tl, ← TL.len_tl]
    rw [e]
    simp only [List.map_cons, List.sum_cons, List.length_cons, Nat.add_mul, Nat.one_mul] at h ⊢
    omega
theorem line_len {who : Int} {m : Sm} (w0 : 0 ≤ who) (w1 : who < 1000000000) (h : SmallM m) : (lineS who m).length ≤ 1000 := by
  have l := vals_len m
  have s := sum_small (ys := (toString who : Str) :: m.vals.map wordV) fun y hy => by
    rcases List.mem_cons.mp hy with rfl | hy
    · exact (num_ok w0 w1).1
    · obtain ⟨v, hv, rfl⟩ := List.mem_map.mp hy
      exact (word_ok (h v hv)).1
  have e : (" " : Str).length = 1 := by decide +kernel
  unfold lineS
  rw [TL.join_eq]
  refine Nat.le_trans (join_len _ _) ?_
  simp only [List.length_cons, List.length_map] at s ⊢
  rw [e]
  omega

/-! ### what stands where in an archive -/
theorem archM_app : ∀ (es fs : List (Str × List Lt)), archM (es ++ fs) = archM es ++ archM fs
  | [], _ => rfl
  | (z, xs) :: r, fs => by
    rw [List.cons_append, archM, archM, archM_app r fs]
    simp
theorem wrd_app {A B : List Str} (k : Nat) : wrd (A ++ B) (A.length + k) = wrd B k := by
  unfold wrd
  rw [List.getD_eq_getElem?_getD, List.getD_eq_getElem?_getD, List.getElem?_append_right (Nat.le_add_right _ _), Nat.add_sub_cancel_left]
theorem drop_get {es : List (Str × List Lt)} {j : Nat} (h : j < es.length) : es.drop j = es.getD j default :: es.drop (j + 1) := by
  rw [List.drop_eq_getElem_cons h, List.getD_eq_getElem?_getD, List.getElem?_eq_getElem h]
  rfl
theorem arch_split {es : List (Str × List Lt)} {j : Nat} (h : j < es.length) : archM es = archM (es.take j) ++ (headS (es.getD j default).1 (es.getD j default).2.length :: (((es.getD j default).2.map fun x => lineS x.w x.m) ++ archM (es.drop (j + 1)))) := by
  have e : archM es = archM (es.take j ++ es.drop j) := by rw [List.take_append_drop]
  rw [e, archM_app, drop_get h]
  rfl
theorem wrd_head {es : List (Str × List Lt)} {j : Nat} (h : j < es.length) : wrd (archM es) (posE (es.take j)) = headS (es.getD j default).1 (es.getD j default).2.length := by
  have := wrd_app (A := archM (es.take j)) (B := headS (es.getD j default).1 (es.getD j default).2.length :: (((es.getD j default).2.map fun x => lineS x.w x.m) ++ archM (es.drop (j + 1)))) 0
  rw [← arch_split h, archM_pos] at this
  exact this
theorem wrd_line {es : List (Str × List Lt)} {j i : Nat} (h : j < es.length) (hi : i < (es.getD j default).2.length) : wrd (archM es) (posE (es.take j) + 1 + i) = lineS ((es.getD j default).2.getD i default).w ((es.getD j default).2.getD i default).m := by
  have := wrd_app (A := archM (es.take j)) (B := headS (es.getD j default).1 (es.getD j default).2.length :: (((es.getD j default).2.map fun x => lineS x.w x.m) ++ archM (es.drop (j + 1)))) (1 + i)
  rw [← arch_split h, archM_pos, ← Nat.add_assoc] at this
  rw [this]
  clear this
  generalize es.getD j default = e at hi ⊢
  unfold wrd
  rw [Nat.add_comm 1 i, List.getD_cons_succ, List.getD_eq_getElem?_getD, List.getElem?_append_left (by rw [List.length_map]; exact hi), List.getElem?_map, List.getD_eq_getElem?_getD, List.getElem?_eq_getElem hi]
  rfl
theorem pos_succ {es : List (Str × List Lt)} {j : Nat} (h : j < es.length) : posE (es.take (j + 1)) = posE (es.take j) + (es.getD j default).2.length + 1 := by
  rw [take_succ_getD (d := default) h, posE_snoc]
theorem pos_mono {es : List (Str × List Lt)} : ∀ {i j : Nat}, i ≤ j → posE (es.take i) ≤ posE (es.take j) := by
  intro i j h
  induction j with
  | zero => rw [Nat.le_zero.mp h]; exact Nat.le_refl _
  | succ j ih =>
    rcases Nat.lt_or_ge j i with z | z
    · have : i = j + 1 := by omega
      rw [this]
      exact Nat.le_refl _
    · refine Nat.le_trans (ih z) ?_
      rcases Nat.lt_or_ge j es.length with y | y
      · rw [pos_succ y]
        omega
      · rw [List.take_of_length_le y, List.take_of_length_le (by omega)]
        exact Nat.le_refl _
theorem pos_lt {es : List (Str × List Lt)} {i j : Nat} (h : i < j) (hj : j ≤ es.length) : posE (es.take i) < posE (es.take j) := by
  have h1 := pos_succ (es := es) (j := i) (by omega)
  have h2 := pos_mono (es := es) (show i + 1 ≤ j from h)
  omega
theorem pos_all {es : List (Str × List Lt)} {j : Nat} (h : j < es.length) : posE (es.take j) + (es.getD j default).2.length < posE es := by
  have h1 := pos_succ h
  have h2 := pos_mono (es := es) (show j + 1 ≤ es.length from h)
  rw [List.take_length] at h2
  omega
/-! ### reading what stands there -/
theorem rdM_ok {ls : List Str} : ∀ (xs : List Lt) (p : Nat) (acc : List Lt), (∀ i, i < xs.length → readL (wrd ls (p + i)) = .ok (xs.getD i default)) → rdM ls p xs.length acc = .ok (acc ++ xs)
  | [], _, acc, _ => by rw [List.append_nil]; rfl
  | x :: xs, p, acc, h => by
    have h0 := h 0 (Nat.succ_pos _)
    rw [Nat.add_zero] at h0
    rw [List.length_cons, rdM, h0]
    show rdM ls (p + 1) xs.length (acc ++ [x]) = _
    rw [rdM_ok xs (p + 1) (acc ++ [x]) fun i hi => by
      have := h (i + 1) (Nat.succ_lt_succ hi)
      rw [show p + 1 + i = p + (i + 1) by omega]
      exact this]
    simp
theorem rdM_bad {ls : List Str} : ∀ (d n p : Nat) (acc : List Lt), d < n → (∀ i, i < d → ∃ x, readL (wrd ls (p + i)) = .ok x) → (∃ e, readL (wrd ls (p + d)) = .error e) → rdM ls p n acc = .error (p + d)
  | 0, n + 1, p, acc, _, _, ⟨e, he⟩ => by
    rw [Nat.add_zero] at he
    rw [rdM, he]
    rfl
  | d + 1, n + 1, p, acc, hd, h, he => by
    obtain ⟨x, h0⟩ := h 0 (Nat.succ_pos _)
    rw [Nat.add_zero] at h0
    rw [rdM, h0]
    show rdM ls (p + 1) n (acc ++ [x]) = _
    rw [rdM_bad d n (p + 1) (acc ++ [x]) (by omega) (fun i hi => by
      have := h (i + 1) (Nat.succ_lt_succ hi)
      rwa [show p + 1 + i = p + (i + 1) by omega]) (by rwa [show p + 1 + d = p + (d + 1) by omega])]
    rw [show p + 1 + d = p + (d + 1) by omega]
/-- the entry stands at p, its first d lines -/
structure At (ls : List Str) (p d : Nat) (e : Str × List Lt) : Prop where
  h : 0 < d → wrd ls p = headS e.1 e.2.length
  l : ∀ i, i < e.2.length → i + 1 < d → wrd ls (p + 1 + i) = lineS (e.2.getD i default).w (e.2.getD i default).m
theorem GoodN.rd {z : Str} {xs : List Lt} (g : GoodN z xs) {i : Nat} (hi : i < xs.length) : readL (lineS (xs.getD i default).w (xs.getD i default).m) = .ok (xs.getD i default) := by
  have hm := getD_mem2 (d := default) hi
  exact read_line (g.wh hm).1 (g.wh hm).2 (g.gm hm)
theorem GoodN.hd {z : Str} {xs : List Lt} (g : GoodN z xs) : headM (headS z xs.length) = some (z, (xs.length : Int)) := head_read g.bb (by have := g.few; omega)
theorem entM_ok {ls : List Str} {p : Nat} {e : Str × List Lt} (g : GoodN e.1 e.2) (a : At ls p (e.2.length + 1) e) (h : p + e.2.length < ls.length) : entM ls p = .ok e.1 e.2 := by
  unfold entM
  rw [a.h (Nat.succ_pos _), g.hd]
  dsimp only
  rw [Int.toNat_natCast, if_neg (by omega), rdM_ok e.2 (p + 1) [] fun i hi => by rw [a.l i hi (by omega)]; exact g.rd hi]
  rfl
theorem entM_torn {ls : List Str} {p : Nat} {e : Str × List Lt} (g : GoodN e.1 e.2) (a : At ls p 1 e) (h : ls.length ≤ p + e.2.length) : entM ls p = .torn := by
  unfold entM
  rw [a.h (Nat.succ_pos _), g.hd]
  dsimp only
  rw [Int.toNat_natCast, if_pos h]
theorem entM_head {ls : List Str} {p : Nat} (h : headM (wrd ls p) = none) : entM ls p = if p + 1 < ls.length then .bad p else .torn := by
  unfold entM
  rw [h]
theorem entM_line {ls : List Str} {p d : Nat} {e : Str × List Lt} (g : GoodN e.1 e.2) (a : At ls p (d + 1) e) (h : p + e.2.length < ls.length) (hd : d < e.2.length) (he : ∃ x, readL (wrd ls (p + 1 + d)) = .error x) : entM ls p = if p + 1 + d + 1 < ls.length then .bad (p + 1 + d) else .torn := by
  unfold entM
  rw [a.h (Nat.succ_pos _), g.hd]
  dsimp only
  rw [Int.toNat_natCast, if_neg (by omega), rdM_bad d e.2.length (p + 1) [] hd (fun i hi => ⟨_, by rw [a.l i (by omega) (by omega)]; exact g.rd (by omega)⟩) he]
  rfl
theorem at_arch {es : List (Str × List Lt)} {j d : Nat} (h : j < es.length) : At (archM es) (posE (es.take j)) d (es.getD j default) :=
  ⟨fun _ => wrd_head h, fun i hi _ => wrd_line h hi⟩
theorem At.eq {ls ms : List Str} {p d : Nat} {e : Str × List Lt} (a : At ls p d e) (h : ∀ k, k < p + d → wrd ms k = wrd ls k) : At ms p d e :=
  ⟨fun z => by rw [h p (by omega)]; exact a.h z, fun i h1 h2 => by rw [h (p + 1 + i) (by omega)]; exact a.l i h1 h2⟩
theorem wrd_set_ne {ls : List Str} {k i : Nat} {y : Str} (h : k ≠ i) : wrd (ls.set i y) k = wrd ls k := by
  unfold wrd
  rw [List.getD_eq_getElem?_getD, List.getD_eq_getElem?_getD, List.getElem?_set_ne (fun z => h z.symm)]
theorem wrd_set_eq {ls : List Str} {i : Nat} {y : Str} (h : i < ls.length) : wrd (ls.set i y) i = y := by
  unfold wrd
  rw [List.getD_eq_getElem?_getD, List.getElem?_set_self h]
  rfl
theorem wrd_take {ls : List Str} {k i : Nat} (h : k < i) : wrd (ls.take i) k = wrd ls k := by
  unfold wrd
  rw [List.getD_eq_getElem?_getD, List.getD_eq_getElem?_getD, List.getElem?_take_of_lt h]
/-- the entries ahead of a place, if nothing has changed ahead of it -/
theorem ents_ahead {es : List (Str × List Lt)} (good : ∀ e ∈ es, GoodN e.1 e.2) {ls : List Str} {c n : Nat} (hc : c ≤ es.length) (hn : posE (es.take c) ≤ n) (hl : n ≤ ls.length) (eq : ∀ k, k < n → wrd ls k = wrd (archM es) k) :
    ∀ j, j < (es.take c).length → posE ((es.take c).take j) < ls.length ∧ entM ls (posE ((es.take c).take j)) = .ok ((es.take c).getD j default).1 ((es.take c).getD j default).2 := by
  intro j hj
  rw [List.length_take] at hj
  have hjc : j < c := by omega
  have hje : j < es.length := by omega
  have e1 : (es.take c).take j = es.take j := by rw [List.take_take, Nat.min_eq_left (by omega)]
  have e2 : (es.take c).getD j default = es.getD j default := by rw [List.getD_eq_getElem?_getD, List.getD_eq_getElem?_getD, List.getElem?_take_of_lt hjc]
  rw [e1, e2]
  have p1 := pos_succ hje
  have p2 := pos_mono (es := es) (show j + 1 ≤ c from hjc)
  refine ⟨by omega, entM_ok (good _ (getD_mem2 (d := default) hje)) ((at_arch hje).eq fun k hk => eq k (by omega)) (by omega)⟩
theorem archM_ok {es : List (Str × List Lt)} (good : ∀ e ∈ es, GoodN e.1 e.2) : ∀ l ∈ archM es, l.length ≤ 1000 ∧ PyData.strOk l = true := by
  induction es with
  | nil => exact fun l h => absurd h List.not_mem_nil
  | cons e r ih =>
    obtain ⟨z, xs⟩ := e
    have g := good (z, xs) List.mem_cons_self
    intro l hl
    rw [archM, List.mem_append, List.mem_cons] at hl
    rcases hl with (rfl | hl) | hl
    · have nt := num_ok (i := (xs.length : Int)) (Int.natCast_nonneg _) (by have := g.few; have : xs.length ≤ 32 := this; omega)
      have nb := blk_ok g.bb
      have kb : ("block" : Str).length ≤ 61 ∧ PyData.strOk ("block" : Str) = true := by decide +kernel
      rw [headS_join]
      have e1 : (" " : Str).length = 1 := by decide +kernel
      have e2 : ("block" : Str).length = 5 := by decide +kernel
      have nb1 : z.length ≤ 60 := nb.1
      refine ⟨?_, ?_⟩
      · rw [join_cons (by simp), join_cons (by simp)]
        show (("block" : Str) ++ " " ++ (z ++ " " ++ (toString (xs.length : Int) : Str))).length ≤ 1000
        simp only [PySem.Str.length_append]
        rw [e1, e2]
        omega
      · rw [TL.join_eq]
        refine strOk_join (by decide +kernel) fun x hx => ?_
        simp only [List.mem_cons, List.not_mem_nil, or_false] at hx
        rcases hx with rfl | rfl | rfl
        · exact kb.2
        · exact nb.2
        · exact nt.2
    · obtain ⟨x, hx, rfl⟩ := List.mem_map.mp hl
      have w := g.wh hx
      exact ⟨line_len w.1 w.2 (g.gm hx).small, line_ok w.1 w.2 (g.gm hx).small⟩
    · exact ih (fun e he => good e (List.mem_cons_of_mem _ he)) l hl
theorem eqvAll_len : ∀ {xs ys : List PyData}, PyData.eqvAll xs ys = true → xs.length = ys.length
  | [], [], _ => rfl
  | x :: xs, y :: ys, h => by
    rw [PyData.eqvAll, Bool.and_eq_true] at h
    rw [List.length_cons, List.length_cons, eqvAll_len h.2]
  | [], _ :: _, h => by simp [PyData.eqvAll] at h
  | _ :: _, [], h => by simp [PyData.eqvAll] at h
theorem eD_ne {es : List (Str × List Lt)} {i : Nat} (h : i < es.length) : PyData.eqv (.list ((es.take i).map eD)) (.list (es.map eD)) = false := by
  cases q : PyData.eqv (.list ((es.take i).map eD)) (.list (es.map eD)) with
  | false => rfl
  | true =>
    rw [PyData.eqv] at q
    have := eqvAll_len q
    rw [List.length_map, List.length_map, List.length_take] at this
    omega
theorem pos_le (es : List (Str × List Lt)) (c : Nat) : posE (es.take c) ≤ posE es := by
  rcases Nat.lt_or_ge c es.length with h | h
  · have := pos_mono (es := es) (Nat.le_of_lt h)
    rwa [List.take_length] at this
  · rw [List.take_of_length_le h]
    exact Nat.le_refl _
/-! ### what the law's readings ask -/
def Ahead (ws : List Int) (ls : List Str) (es : List (Str × List Lt)) : Prop := (∀ j, j < es.length → posE (es.take j) < ls.length ∧ entM ls (posE (es.take j)) = .ok (es.getD j default).1 (es.getD j default).2) ∧ (∀ e ∈ es, GoodE e ∧ OkE e) ∧ es.length ≤ 700 ∧ (∀ j, j < es.length → shE ws es j = true)
theorem shE_take {ws : List Int} {es : List (Str × List Lt)} {c j : Nat} (h : j < c) : shE ws (es.take c) j = shE ws es j := by
  unfold shE
  rw [List.take_take, Nat.min_eq_left (by omega), List.getD_eq_getElem?_getD, List.getD_eq_getElem?_getD, List.getElem?_take_of_lt h]
theorem ahead {es : List (Str × List Lt)} (good : ∀ e ∈ es, GoodN e.1 e.2) (few : es.length ≤ 4) {ws : List Int} {ls : List Str} {c n : Nat} (hc : c ≤ es.length) (hn : posE (es.take c) ≤ n) (hl : n ≤ ls.length) (eq : ∀ k, k < n → wrd ls k = wrd (archM es) k) (sh : ∀ j, j < c → shE ws es j = true) : Ahead ws ls (es.take c) := by
  have lc : (es.take c).length = c := by rw [List.length_take]; omega
  refine ⟨ents_ahead good hc hn hl eq, fun e he => ?_, by omega, fun j hj => ?_⟩
  · have g := good e (List.mem_of_mem_take he)
    exact ⟨g.ge, g.okl, g.bo.2.1⟩
  · rw [lc] at hj
    rw [shE_take hj]
    exact sh j hj

/-! ### a text cut -/
theorem cut_take {z : Str} {i : Int} (h : 0 ≤ i) : TL.tl (cutS z none (some i)) = (TL.tl z).take i.toNat := by
  have n : ¬ i < 0 := by omega
  have e1 : HT.sIx z.length 0 none = 0 := rfl
  have e2 : HT.sIx z.length z.length (some i) = min i.toNat z.length := by
    show (if i < 0 then _ else _) = _
    rw [if_neg n]
  show (z.cps.toList.drop (HT.sIx z.length 0 none)).take (HT.sIx z.length z.length (some i) - HT.sIx z.length 0 none) = _
  rw [e1, e2, List.drop_zero, Nat.sub_zero]
  have e3 : z.length = z.cps.toList.length := TL.len_tl z
  rw [e3]
  rcases Nat.le_total i.toNat z.cps.toList.length with q | q
  · rw [Nat.min_eq_left q]
  · rw [Nat.min_eq_right q, List.take_of_length_le (Nat.le_refl _), List.take_of_length_le q]
theorem take_joinL {s : Nat} : ∀ (parts : List (List Nat)), parts ≠ [] → ∀ c, c ≤ (TL.joinL [s] parts).length → ∃ n k, n < parts.length ∧ (TL.joinL [s] parts).take c = TL.joinL [s] (parts.take n ++ [(parts.getD n []).take k])
  | [], h, _, _ => absurd rfl h
  | [x], _, c, _ => ⟨0, c, Nat.succ_pos _, rfl⟩
  | x :: z :: r, _, c, hc => by
    have ej : TL.joinL [s] (x :: z :: r) = x ++ ([s] ++ TL.joinL [s] (z :: r)) := rfl
    rcases Nat.lt_or_ge x.length c with q | q
    · have hc2 : c - (x.length + 1) ≤ (TL.joinL [s] (z :: r)).length := by
        rw [ej] at hc
        simp at hc
        omega
      obtain ⟨n, k, hn, e⟩ := take_joinL (z :: r) (by simp) (c - (x.length + 1)) hc2
      refine ⟨n + 1, k, Nat.succ_lt_succ hn, ?_⟩
      have e2 : (x ++ ([s] ++ TL.joinL [s] (z :: r))).take c = x ++ ([s] ++ (TL.joinL [s] (z :: r)).take (c - (x.length + 1))) := by
        rw [List.take_append, List.take_of_length_le (Nat.le_of_lt q), List.take_append, List.take_of_length_le (by simp; omega)]
        rw [List.length_singleton, Nat.sub_sub]
      rw [ej, e2, e]
      show _ = TL.joinL [s] (x :: ((z :: r).take n ++ [((z :: r).getD n []).take k]))
      cases h : (z :: r).take n ++ [((z :: r).getD n []).take k] with
      | nil => simp at h
      | cons a b => rfl
    · refine ⟨0, c, Nat.succ_pos _, ?_⟩
      rw [ej, List.take_append_of_le_length q]
      rfl
theorem getD_map {α β : Type} {f : α → β} {d : α} {e : β} {xs : List α} {n : Nat} (h : n < xs.length) : (xs.map f).getD n e = f (xs.getD n d) := by
  rw [List.getD_eq_getElem?_getD, List.getElem?_map, List.getD_eq_getElem?_getD, List.getElem?_eq_getElem h]
  rfl

def Pre (q line : Str) : Prop := ∃ k, TL.tl q = (TL.tl line).take k
theorem split_cut {sep : Str} {s : Nat} (et : TL.tl sep = [s]) (hk : sep.cps.all (· < 256) = true) {parts : List Str} (ne : parts ≠ []) (hp : ∀ p ∈ parts, s ∉ TL.tl p) {q : Str} {c : Nat} (eq : TL.tl q = (TL.tl (Txt.join sep parts)).take c) :
    ∃ (n : Nat) (u : Str), n < parts.length ∧ Pre u (parts.getD n "") ∧ Txt.split q sep = parts.take n ++ [u] := by
  have ej : TL.tl (Txt.join sep parts) = TL.joinL [s] (parts.map TL.tl) := by rw [TL.join_eq, TL.tl_join, et]
  have eq2 : TL.tl q = (TL.joinL [s] (parts.map TL.tl)).take (min c (TL.joinL [s] (parts.map TL.tl)).length) := by
    rw [eq, ej]
    rcases Nat.le_total c (TL.joinL [s] (parts.map TL.tl)).length with h | h
    · rw [Nat.min_eq_left h]
    · rw [Nat.min_eq_right h, List.take_length, List.take_of_length_le h]
  obtain ⟨n, k, hn, e⟩ := take_joinL (s := s) (parts.map TL.tl) (by simpa using ne) (min c (TL.joinL [s] (parts.map TL.tl)).length) (Nat.min_le_right _ _)
  rw [List.length_map] at hn
  rw [getD_map (f := TL.tl) (xs := parts) (d := "") (e := []) hn] at e
  have mem : parts.getD n "" ∈ parts := getD_mem2 hn
  refine ⟨n, ⟨((TL.tl (parts.getD n "")).take k).toArray⟩, hn, ⟨k, rfl⟩, ?_⟩
  have eqj : q = Txt.join sep (parts.take n ++ [(⟨((TL.tl (parts.getD n "")).take k).toArray⟩ : Str)]) := by
    refine TL.ext_tl ?_
    rw [eq2, e, TL.join_eq, TL.tl_join, et, List.map_append, List.map_take]
    rfl
  rw [eqj]
  refine TL.split_join (y := sep) (s := s) (S := []) et hk (by simp) fun p h => ?_
  rcases List.mem_append.mp h with h | h
  · exact hp p (List.mem_of_mem_take h)
  · rw [List.mem_singleton.mp h]
    exact fun z => hp _ mem (List.mem_of_mem_take z)
theorem take_app1 {ws : List Str} {u : Str} {n k : Nat} (h : k < n) (hn : n ≤ ws.length) : (ws.take n ++ [u])[k]? = ws[k]? := by
  rw [List.getElem?_append_left (by rw [List.length_take]; omega), List.getElem?_take_of_lt h]
/-- a head line that is cut does not read -/
theorem head_cut {z : Str} (bz : blkB z = true) {n : Nat} (n9 : n < 10) {q : Str} (h : Pre q (headS z n)) : headM q = none ∨ q = headS z n := by
  obtain ⟨c, hc⟩ := h
  rw [headS_join] at hc
  obtain ⟨m, u, hm, ⟨k, hu⟩, es⟩ := split_cut tl_sp (by decide +kernel) (by simp) (fr_three fr_block (fr_blk bz) (fr_nat n)) hc
  have hm : m < 3 := hm
  rcases (show m < 2 ∨ m = 2 by omega) with m2 | rfl
  · refine .inl ?_
    rw [head_of es]
    refine if_neg fun z => ?_
    have := z.1
    rw [List.length_append, List.length_take, List.length_singleton] at this
    omega
  · have hu : TL.tl u = (TL.tl (toString (n : Int) : Str)).take k := hu
    have en : TL.tl (toString (n : Int) : Str) = [48 + n] := by
      rw [TL.tl_num, TL.numL_lt n9]
    rcases Nat.eq_zero_or_pos k with rfl | k0
    · refine .inl ?_
      have eu : u = "" := TL.ext_tl (by rw [hu, List.take_zero]; decide +kernel)
      rw [head_of es]
      refine if_neg fun z => ?_
      have := z.2.2.2
      rw [eu] at this
      have h0 : numB ("" : Str) = false := by decide +kernel
      have h1 : numB ("" : Str) = true := this
      rw [h0] at h1
      cases h1
    · refine .inr ?_
      have eu : u = (toString (n : Int) : Str) := TL.ext_tl (by rw [hu, en, List.take_of_length_le (by rw [List.length_singleton]; exact k0)])
      have := PySem.StrLaws.join_split q (" " : Str)
      rw [es, eu] at this
      rw [headS_join, TL.join_eq]
      exact this.symm
theorem readW_t {ws : List Str} {x : Lt} (h : readW ws = .ok x) : numAt ws 3 = .ok x.m.t := by
  unfold readW at h
  obtain ⟨w, h1, h⟩ := bindE_ok h
  obtain ⟨k, h2, h⟩ := bindE_ok h
  obtain ⟨ht, h3, h⟩ := bindE_ok h
  obtain ⟨t, h4, h⟩ := bindE_ok h
  obtain ⟨b, h5, h⟩ := bindE_ok h
  unfold readEnd at h
  split at h
  · obtain ⟨l, h6, h⟩ := bindE_ok h
    obtain ⟨_, h7, h⟩ := bindE_ok h
    cases h
    exact h4
  · obtain ⟨_, h7, h⟩ := bindE_ok h
    cases h
    exact h4
/-- a cut line that reads keeps its turn -/
theorem line_cut {who : Int} (w0 : 0 ≤ who) {m : Sm} (g : GoodM m) (com : m.k = .com) {q : Str} (h : Pre q (lineS who m)) {x : Lt} (r : readL q = .ok x) : x.m.t = m.t := by
  obtain ⟨c, hc⟩ := h
  unfold lineS at hc
  obtain ⟨n, u, hn, _, es⟩ := split_cut tl_sp (by decide +kernel) (List.cons_ne_nil _ _) (line_free w0 g) hc
  unfold readL at r
  rw [es] at r
  obtain ⟨mk, mh, mt, mb, ml⟩ := m
  have com : mk = .com := com
  subst com
  have ew : (toString who : Str) :: (Sm.vals ⟨.com, mh, mt, mb, ml⟩).map wordV = [(toString who : Str), Kd.com.s, (toString mh : Str), (toString mt : Str), wordV (oS mb)] := rfl
  rw [ew] at hn r
  have hn : n < 5 := hn
  obtain ⟨k, _, hk⟩ := readW_kind r
  rw [List.length_append, List.length_take, List.length_singleton] at hk
  have ln : [(toString who : Str), Kd.com.s, (toString mh : Str), (toString mt : Str), wordV (oS mb)].length = 5 := rfl
  rw [ln] at hk
  have n4 : n = 4 := by
    split at hk <;> omega
  subst n4
  have a := readW_t r
  have nt := num_str g.t0 g.t1
  have e : numAt ([(toString who : Str), Kd.com.s, (toString mh : Str), (toString mt : Str), wordV (oS mb)].take 4 ++ [u]) 3 = .ok mt := by
    unfold numAt
    rw [wordAt_ok (x := (toString mt : Str)) rfl]
    simp only [nt.1, nt.2, if_true]
  rw [e] at a
  cases a
  rfl
/-! ### which entry -/
theorem find_c {es : List (Str × List Lt)} {m : Nat} : ∀ c, c ≤ es.length → m < posE (es.take c) → ∃ d, d < c ∧ posE (es.take d) ≤ m ∧ m < posE (es.take (d + 1))
  | 0, _, h => absurd h (Nat.not_lt_zero m)
  | c + 1, hc, h => by
    rcases Nat.lt_or_ge m (posE (es.take c)) with z | z
    · obtain ⟨d, h1, h2⟩ := find_c c (by omega) z
      exact ⟨d, by omega, h2⟩
    · exact ⟨c, Nat.lt_succ_self c, z, h⟩
/-! ### papers of all members -/
structure FullE (n : Nat) (h : Int) (z : Str) (xs : List Lt) : Prop where
  t : ∃ t : Nat, t < 60 ∧ ∀ k, k < n → (⟨(k : Int), ⟨.pre, h, (t : Int), some z, none⟩⟩ : Lt) ∈ xs ∧ (⟨(k : Int), ⟨.com, h, (t : Int), some z, none⟩⟩ : Lt) ∈ xs
  last : ∃ ys y, xs = ys ++ [y] ∧ y.m.k = .com
theorem wOf_all {ws ms : List Int} (h : ∀ k : Nat, k < ws.length → (k : Int) ∈ ms) : wOf ws ms = ws.sum := by
  unfold wOf
  rw [← wt_all ws]
  exact wt_congr ws _ _ _ fun k hk => decide_eq_true (h k hk)
theorem sum_ge : ∀ {l : List Int}, (∀ w ∈ l, 1 ≤ w) → (l.length : Int) ≤ l.sum
  | [], _ => by simp
  | w :: l, h => by
    have h1 := h w List.mem_cons_self
    have h2 := sum_ge (l := l) fun v hv => h v (List.mem_cons_of_mem _ hv)
    rw [List.length_cons, List.sum_cons]
    omega
theorem good_pos2 {ws : List Int} (g : GoodW ws) : 0 < ws.sum := by
  have h1 := sum_ge fun w hw => (g.2.2 w hw).1
  have h2 := g.1
  omega
theorem qrm_all {ws ms : List Int} (g : GoodW ws) (h : ∀ k : Nat, k < ws.length → (k : Int) ∈ ms) : qrm ws ms = true := by
  unfold qrm
  rw [wOf_all h]
  have : 0 < ws.sum := good_pos2 g
  exact decide_eq_true (by omega)
theorem full_shows {ws : List Int} (g : GoodW ws) {h : Int} {z : Str} {xs : List Lt} (f : FullE ws.length h z xs) : shM ws xs h (some z) = true := by
  obtain ⟨t, t60, hm⟩ := f.t
  refine sh_some.mpr ⟨t, t60, ?_⟩
  unfold commM certM
  have q1 : qrm ws (comS xs h t (some z)) = true := qrm_all g fun k hk => by
    unfold comS
    exact List.mem_map.mpr ⟨_, List.mem_filter.mpr ⟨(hm k hk).2, decide_eq_true ⟨rfl, rfl, rfl, rfl⟩⟩, rfl⟩
  have q2 : qrm ws (memM xs h t (some z) (lns ws xs h (some z) t)) = true := qrm_all g fun k hk => by
    unfold memM
    refine List.mem_map.mpr ⟨_, List.mem_filter.mpr ⟨(hm k hk).1, ?_⟩, rfl⟩
    exact (cnt_t ⟨rfl, rfl, rfl, rfl⟩).trans rfl
  rw [q1, q2]
  rfl
theorem rew_len {ws : List Int} : ∀ {cs : List Cm}, onlyW cs → (rew ws cs).length = ws.length := by
  intro cs
  induction cs generalizing ws with
  | nil => exact fun _ => rfl
  | cons c r ih =>
    intro o
    obtain ⟨m, v, e, _, _⟩ := o c List.mem_cons_self
    subst e
    show (rew (afterW ws m v) r).length = _
    rw [ih fun x hx => o x (List.mem_cons_of_mem _ hx), afterW_len]
theorem rwE_len {ws : List Int} : ∀ {es : List (Str × List Lt)}, (∀ e ∈ es, onlyW (cmdsOf e.1)) → (rwE ws es).length = ws.length := by
  intro es
  induction es generalizing ws with
  | nil => exact fun _ => rfl
  | cons e r ih =>
    intro h
    show (rwE (rew ws (cmdsOf e.1)) r).length = _
    rw [ih fun f hf => h f (List.mem_cons_of_mem _ hf), rew_len (h e List.mem_cons_self)]
/-! ### what is left is read -/
theorem Ahead.snoc {ws : List Int} {ls : List Str} {es : List (Str × List Lt)} (a : Ahead ws ls es) {z : Str} {xs : List Lt} (h : posE es < ls.length) (e : entM ls (posE es) = .ok z xs) (g : GoodE (z, xs)) (o : OkE (z, xs)) (few : es.length < 700) (s : shM (rwE ws es) xs (es.length : Int) (some z) = true) : Ahead ws ls (es ++ [(z, xs)]) := by
  have t1 : ∀ j, j < es.length → (es ++ [(z, xs)]).take j = es.take j := fun j hj => List.take_append_of_le_length (Nat.le_of_lt hj)
  have t2 : (es ++ [(z, xs)]).take es.length = es := by rw [List.take_append_of_le_length (Nat.le_refl _), List.take_length]
  refine ⟨fun j hj => ?_, fun f hf => ?_, by rw [List.length_append]; exact few, fun j hj => ?_⟩
  · rw [List.length_append, List.length_singleton] at hj
    rcases Nat.lt_or_ge j es.length with y | y
    · rw [t1 j y, getD_left y]
      exact a.1 j y
    · have : j = es.length := by omega
      subst this
      rw [t2, getD_last]
      exact ⟨h, e⟩
  · rcases List.mem_append.mp hf with hf | hf
    · exact a.2.1 f hf
    · rw [List.mem_singleton.mp hf]
      exact ⟨g, o⟩
  · rw [List.length_append, List.length_singleton] at hj
    rcases Nat.lt_or_ge j es.length with y | y
    · have := a.2.2.2 j y
      unfold shE at this ⊢
      rw [t1 j y, getD_left y]
      exact this
    · have : j = es.length := by omega
      subst this
      unfold shE
      rw [t2, getD_last]
      exact s
/-- nothing stands behind that is refused -/
def EndOk (ws : List Int) (ls : List Str) (es : List (Str × List Lt)) : Prop := ls.length ≤ posE es ∨ (posE es < ls.length ∧ (entM ls (posE es) = .torn ∨ ∃ z xs, entM ls (posE es) = .ok z xs ∧ GoodE (z, xs) ∧ shM (rwE ws es) xs (es.length : Int) (some z) = false ∧ posE es + xs.length + 1 = ls.length))
/-- what is read of the lines that are left -/
structure CutR (ws : List Int) (es : List (Str × List Lt)) (left : List Str) (c m : Nat) (q : Str) (tl : List (Str × List Lt)) : Prop where
  a : Ahead ws left (es.take c ++ tl)
  e : EndOk ws left (es.take c ++ tl)
  form : tl = [] ∨ ∃ x, tl = [((es.getD c default).1, (es.getD c default).2.dropLast ++ [x])]
  whole : m + 1 = posE (es.take (c + 1)) → q = wrd (archM es) m → tl = [es.getD c default]
theorem cut_read {es : List (Str × List Lt)} (good : ∀ e ∈ es, GoodN e.1 e.2) (few : es.length ≤ 4) {ws : List Int} (sh : ∀ j, j < es.length → shE ws es j = true) (last : ∀ e ∈ es, ∃ ys y, e.2 = ys ++ [y] ∧ y.m.k = .com) (n9 : ∀ e ∈ es, e.2.length < 10)
    {c m : Nat} {q : Str} (hc : c < es.length) (h0 : posE (es.take c) ≤ m) (h1 : m < posE (es.take (c + 1))) (pre : Pre q (wrd (archM es) m)) : ∃ tl, CutR ws es ((archM es).take m ++ [q]) c m q tl := by
  have e := archM_pos es
  have p1 := pos_all hc
  have p2 := pos_succ hc
  have p3 := pos_le es (c + 1)
  have g := good _ (getD_mem2 (d := default) hc)
  have n9 := n9 _ (getD_mem2 (d := default) hc)
  obtain ⟨ys, y, exs, ycom⟩ := last _ (getD_mem2 (d := default) hc)
  have ln : (es.getD c default).2.length = ys.length + 1 := by rw [exs, List.length_append]; rfl
  have lt : ((archM es).take m).length = m := by rw [List.length_take]; omega
  have ll : ((archM es).take m ++ [q]).length = m + 1 := by rw [List.length_append, lt]; rfl
  have same : ∀ k, k < m → wrd ((archM es).take m ++ [q]) k = wrd (archM es) k := fun k hk => by
    unfold wrd
    rw [getD_left (by rw [lt]; exact hk), List.getD_eq_getElem?_getD, List.getD_eq_getElem?_getD, List.getElem?_take_of_lt hk]
  have atm : wrd ((archM es).take m ++ [q]) m = q := by
    have := wrd_app (A := (archM es).take m) (B := [q]) 0
    rw [lt] at this
    exact this
  have lc : (es.take c).length = c := by rw [List.length_take]; omega
  have ah := ahead good few (ws := ws) (ls := (archM es).take m ++ [q]) (c := c) (n := m) (Nat.le_of_lt hc) h0 (by rw [ll]; omega) same (fun j hj => sh j (by omega))
  generalize hl : (archM es).take m ++ [q] = left at ll same atm ah
  have torn : m + 1 ≠ posE (es.take (c + 1)) → entM left (posE (es.take c)) = .torn → ∃ tl, CutR ws es left c m q tl := fun ne t =>
    ⟨[], by rw [List.append_nil]; exact ah, by rw [List.append_nil]; exact .inr ⟨by omega, .inl t⟩, .inl rfl, fun z => absurd z ne⟩
  rcases Nat.eq_or_lt_of_le h0 with z | z
  · -- the head line is cut
    have ew : wrd left (posE (es.take c)) = q := by rw [z]; exact atm
    refine torn (by omega) ?_
    have hw : wrd (archM es) m = headS (es.getD c default).1 (es.getD c default).2.length := by rw [← z]; exact wrd_head hc
    rw [hw] at pre
    rcases head_cut g.bb n9 pre with h | h
    · rw [entM_head (by rw [ew]; exact h)]
      exact if_neg (by omega)
    · exact entM_torn g ⟨fun _ => by rw [ew]; exact h, fun i _ hi => absurd hi (by omega)⟩ (by omega)
  rcases Nat.lt_or_ge (m + 1) (posE (es.take (c + 1))) with y1 | y1
  · refine torn (by omega) (entM_torn g ((at_arch hc).eq fun k hk => same k (by omega)) (by omega))
  -- the last line of the paper is cut
  have em : m = posE (es.take c) + 1 + ys.length := by omega
  have hy : y ∈ (es.getD c default).2 := by rw [exs]; simp
  have hw : wrd (archM es) m = lineS y.w y.m := by
    have := wrd_line (i := ys.length) hc (by omega)
    rw [← em] at this
    rw [this, exs, getD_last]
  have gy := g.gm hy
  have wy := g.wh hy
  rw [hw] at pre
  have at1 : At left (posE (es.take c)) (ys.length + 1) (es.getD c default) := (at_arch hc).eq fun k hk => same k (by omega)
  cases r : readL q with
  | error x =>
    have := entM_line (ls := left) (p := posE (es.take c)) (d := ys.length) g at1 (by omega) (by omega) (by rw [← em, atm, r]; exact ⟨_, rfl⟩)
    refine ⟨[], by rw [List.append_nil]; exact ah, by rw [List.append_nil]; exact .inr ⟨by omega, .inl (this.trans (if_neg (by omega)))⟩, .inl rfl, fun _ eq => ?_⟩
    rw [eq, hw, read_line wy.1 wy.2 gy] at r
    cases r
  | ok x =>
    have ht := line_cut wy.1 gy ycom pre r
    obtain ⟨gx, wx0, wx1⟩ := read_good r
    have dl : (es.getD c default).2.dropLast = ys := by rw [exs, List.dropLast_concat]
    have ent : entM left (posE (es.take c)) = .ok (es.getD c default).1 (ys ++ [x]) := by
      unfold entM
      rw [at1.h (Nat.succ_pos _), g.hd]
      dsimp only
      rw [Int.toNat_natCast, if_neg (by omega)]
      have lx : (ys ++ [x]).length = (es.getD c default).2.length := by rw [ln, List.length_append]; rfl
      rw [← lx, rdM_ok (ys ++ [x]) (posE (es.take c) + 1) [] fun i hi => ?_]
      · rfl
      · rw [lx, ln] at hi
        rcases Nat.lt_or_ge i ys.length with u | u
        · rw [at1.l i (by omega) (by omega), g.rd (by omega), exs, getD_left u, getD_left u]
        · have : i = ys.length := by omega
          subst this
          rw [← em, atm, r, getD_last]
    have ge := g.ge
    have hge : GoodE ((es.getD c default).1, ys ++ [x]) := ⟨ge.lz, ge.ow, fun v hv => by
      rcases List.mem_append.mp hv with hv | hv
      · exact ge.tb v (by rw [exs]; exact List.mem_append_left _ hv)
      · rw [List.mem_singleton.mp hv, ht]
        exact ge.tb y hy, by
        have := ge.few
        show (ys ++ [x]).length ≤ 100
        rw [List.length_append, List.length_singleton]
        have : (es.getD c default).2.length ≤ 100 := this
        omega⟩
    have hok : OkE ((es.getD c default).1, ys ++ [x]) := ⟨fun v hv => by
      have hv : v ∈ ys ++ [x] := hv
      rcases List.mem_append.mp hv with hv | hv
      · exact g.okl v (by rw [exs]; exact List.mem_append_left _ hv)
      · rw [List.mem_singleton.mp hv]
        exact fun b eb => (blk_ok (gx.b b eb)).2, (blk_ok g.bb).2⟩
    have lx : (ys ++ [x]).length = ys.length + 1 := by rw [List.length_append]; rfl
    have full : q = wrd (archM es) m → x = y := fun eq => by
      rw [eq, hw, read_line wy.1 wy.2 gy] at r
      cases r
      rfl
    cases s : shM (rwE ws (es.take c)) (ys ++ [x]) (c : Int) (some (es.getD c default).1) with
    | true =>
      refine ⟨[((es.getD c default).1, ys ++ [x])], ah.snoc (by omega) ent hge hok (by rw [lc]; omega) (by rw [lc]; exact s), .inl ?_, .inr ⟨x, by rw [dl]⟩, fun _ eq => ?_⟩
      · rw [posE_snoc, lx]
        omega
      · rw [full eq, ← exs]
    | false =>
      refine ⟨[], by rw [List.append_nil]; exact ah, by rw [List.append_nil]; exact .inr ⟨by omega, .inr ⟨_, _, ent, hge, by rw [lc]; exact s, by rw [lx]; omega⟩⟩, .inl rfl, fun _ eq => ?_⟩
      have := sh c hc
      unfold shE at this
      rw [exs, ← full eq] at this
      rw [s] at this
      cases this
/-! ### the text of an archive -/
theorem mem_joinL {S : List Nat} {c : Nat} : ∀ {parts : List (List Nat)}, c ∈ TL.joinL S parts → c ∈ S ∨ ∃ p ∈ parts, c ∈ p
  | [], h => nomatch h
  | [x], h => .inr ⟨x, List.mem_singleton.mpr rfl, h⟩
  | x :: z :: r, h => by
    have h : c ∈ x ++ (S ++ TL.joinL S (z :: r)) := h
    rcases List.mem_append.mp h with h | h
    · exact .inr ⟨x, List.mem_cons_self, h⟩
    · rcases List.mem_append.mp h with h | h
      · exact .inl h
      · rcases mem_joinL h with h | ⟨p, hp, h⟩
        · exact .inl h
        · exact .inr ⟨p, List.mem_cons_of_mem _ hp, h⟩
theorem line_free10 {who : Int} (w0 : 0 ≤ who) {m : Sm} (g : GoodM m) : 10 ∉ TL.tl (lineS who m) := fun h => by
  have hd : 10 ∉ TL.tl (wordV V.non) := by decide +kernel
  have hk : 10 ∉ TL.tl (wordV (.str m.k.s)) := by
    show 10 ∉ TL.tl m.k.s
    cases m.k <;> decide +kernel
  have hh : 10 ∉ TL.tl (wordV (.int m.h)) := num_free g.h0 (.inl (by decide))
  have ht : 10 ∉ TL.tl (wordV (.int m.t)) := num_free g.t0 (.inl (by decide))
  have hb : 10 ∉ TL.tl (wordV (oS m.b)) := by
    cases e : m.b with
    | none => exact hd
    | some x => exact blk_free (g.b x e) (by decide +kernel)
  have hl : 10 ∉ TL.tl (wordV (oI m.l)) := by
    cases e : m.l with
    | none => exact hd
    | some x => exact num_free (g.l x e).1 (.inl (by decide))
  unfold lineS at h
  rw [TL.join_eq, TL.tl_join] at h
  rcases mem_joinL h with h | ⟨p, hp, h⟩
  · revert h
    decide +kernel
  · obtain ⟨x, hx, rfl⟩ := List.mem_map.mp hp
    rcases List.mem_cons.mp hx with rfl | hx
    · exact num_free w0 (.inl (by decide)) h
    · obtain ⟨v, hv, rfl⟩ := List.mem_map.mp hx
      revert h
      obtain ⟨mk, mh, mt, mb, ml⟩ := m
      cases mk <;> simp only [Sm.vals, List.mem_cons, List.not_mem_nil, or_false] at hv <;> (rcases hv with rfl | rfl | rfl | rfl | rfl <;> assumption) <;> skip

theorem join_free {c : Nat} (c32 : c ≠ 32) {ws : List Str} (h : ∀ p ∈ ws, c ∉ TL.tl p) : c ∉ TL.tl (Txt.join " " ws) := fun hm => by
  rw [TL.join_eq, TL.tl_join] at hm
  rcases mem_joinL hm with hm | ⟨p, hp, hm⟩
  · rw [tl_sp] at hm
    exact c32 (List.mem_singleton.mp hm)
  · obtain ⟨x, hx, rfl⟩ := List.mem_map.mp hp
    exact h x hx hm
theorem arch_free {es : List (Str × List Lt)} (good : ∀ e ∈ es, GoodN e.1 e.2) : ∀ p ∈ archM es, 10 ∉ TL.tl p := by
  induction es with
  | nil => exact fun l h => absurd h List.not_mem_nil
  | cons e r ih =>
    obtain ⟨z, xs⟩ := e
    have g := good (z, xs) List.mem_cons_self
    intro l hl
    rw [archM, List.mem_append, List.mem_cons] at hl
    rcases hl with (rfl | hl) | hl
    · rw [headS_join]
      refine join_free (by decide) fun p hp => ?_
      simp only [List.mem_cons, List.not_mem_nil, or_false] at hp
      rcases hp with rfl | rfl | rfl
      · decide +kernel
      · exact blk_free g.bb (by decide +kernel)
      · exact num_free (Int.natCast_nonneg _) (.inl (by decide))
    · obtain ⟨x, hx, rfl⟩ := List.mem_map.mp hl
      exact line_free10 (g.wh hx).1 (g.gm hx)
    · exact ih (fun e he => good e (List.mem_cons_of_mem _ he)) l hl
theorem sum_lines : ∀ {ls : List Str}, (∀ l ∈ ls, l.length ≤ 1000) → (ls.map (·.length)).sum ≤ 1000 * ls.length
  | [], _ => by simp
  | l :: ls, h => by
    have a1 := h l List.mem_cons_self
    have a2 := sum_lines (ls := ls) fun m hm => h m (List.mem_cons_of_mem _ hm)
    simp only [List.map_cons, List.sum_cons, List.length_cons]
    omega
theorem left_of {es : List (Str × List Lt)} (good : ∀ e ∈ es, GoodN e.1 e.2) (pos : 0 < es.length) {c : Int} (c0 : 0 ≤ c) : ∃ (m : Nat) (q : Str), m < (archM es).length ∧ Pre q (wrd (archM es) m) ∧ Txt.split (cutS (Txt.join "\n" (archM es)) none (some c)) "\n" = (archM es).take m ++ [q] := by
  have et : TL.tl ("\n" : Str) = [10] := by decide +kernel
  have ne : archM es ≠ [] := fun z => by
    have := archM_pos es
    rw [z] at this
    cases es with
    | nil => cases pos
    | cons e r =>
      simp only [posE, List.length_nil] at this
      omega
  exact split_cut et (by decide +kernel) ne (arch_free good) (cut_take c0)
theorem strOk_ltP {z : Str} (h : PyData.strOk z = true) : ∀ n ∈ TL.tl z, n < 1114112 := by
  intro n hn
  unfold PyData.strOk at h
  rw [← Array.all_toList] at h
  exact of_decide_eq_true (List.all_eq_true.mp h n hn)
theorem pre_len {q l : Str} (h : Pre q l) : q.length ≤ l.length := by
  obtain ⟨k, e⟩ := h
  rw [TL.len_tl, TL.len_tl, e, List.length_take]
  omega
theorem pre_ok {q l : Str} (h : Pre q l) (o : PyData.strOk l = true) : PyData.strOk q = true := by
  obtain ⟨k, e⟩ := h
  exact strOk_of fun c hc => strOk_ltP o c (by rw [e] at hc; exact List.mem_of_mem_take hc)
theorem cut_pre {xs : List V} (i : Nat) : cutV xs none (some (i : Int)) = xs.take i := by
  unfold cutV
  rw [HT.sIx_nat, HT.sIx_none, Nat.sub_zero, List.drop_zero]
  rcases Nat.le_total i xs.length with h | h
  · rw [Nat.min_eq_left h]
  · rw [Nat.min_eq_right h, List.take_length, List.take_of_length_le h]
theorem cut_lst {xs : List V} : cutV xs none (some (-1)) = xs.dropLast := by
  unfold cutV
  have e0 : ((-1 : Int) + (xs.length : Int)).toNat = xs.length - 1 := by omega
  have e1 : HT.sIx xs.length xs.length (some (-1)) = xs.length - 1 := by
    unfold HT.sIx
    dsimp only
    rw [if_pos (by decide)]
    exact e0
  have e2 : HT.sIx xs.length 0 none = 0 := rfl
  rw [e2, e1, Nat.sub_zero, List.drop_zero, List.dropLast_eq_take]
theorem cut_en {en : List En} (i : Nat) : cutV ((en.map (·.e)).map V.ref) none (some (i : Int)) = ((en.take i).map (·.e)).map V.ref := by
  rw [cut_pre, List.map_take, List.map_take]
theorem LsAt.dropLast {H : Hp} {ps : List Addr} {xs : List Lt} (h : LsAt H ps xs) : LsAt H ps.dropLast xs.dropLast := by
  refine ⟨by rw [List.length_dropLast, List.length_dropLast, h.1], fun i hi => ?_⟩
  rw [List.length_dropLast] at hi
  have e1 : ps.dropLast.getD i 0 = ps.getD i 0 := by
    have := h.1
    rw [List.dropLast_eq_take, List.getD_eq_getElem?_getD, List.getD_eq_getElem?_getD, List.getElem?_take_of_lt (by omega)]
  have e2 : xs.dropLast.getD i default = xs.getD i default := by
    rw [List.dropLast_eq_take, List.getD_eq_getElem?_getD, List.getD_eq_getElem?_getD, List.getElem?_take_of_lt (by omega)]
  rw [e1, e2]
  exact h.2 i (by omega)

/-! ### the law's entries -/
def fullL (h t : Int) (z : Str) : Nat → List Lt
  | 0 => []
  | k + 1 => (fullL h t z k ++ [⟨(k : Int), ⟨.pre, h, t, some z, none⟩⟩]) ++ [⟨(k : Int), ⟨.com, h, t, some z, none⟩⟩]
theorem fullL_len (h t : Int) (z : Str) : ∀ n, (fullL h t z n).length = 2 * n
  | 0 => rfl
  | n + 1 => by
    rw [fullL, List.length_append, List.length_append, fullL_len h t z n]
    rfl
theorem fullL_mem {h t : Int} {z : Str} : ∀ {n : Nat} {x : Lt}, x ∈ fullL h t z n → ∃ k : Nat, k < n ∧ (x = ⟨(k : Int), ⟨.pre, h, t, some z, none⟩⟩ ∨ x = ⟨(k : Int), ⟨.com, h, t, some z, none⟩⟩)
  | 0, x, hx => absurd hx List.not_mem_nil
  | n + 1, x, hx => by
    rw [fullL, List.mem_append, List.mem_append, List.mem_singleton, List.mem_singleton] at hx
    rcases hx with (hx | hx) | hx
    · obtain ⟨k, hk, e⟩ := fullL_mem hx
      exact ⟨k, by omega, e⟩
    · exact ⟨n, Nat.lt_succ_self n, .inl hx⟩
    · exact ⟨n, Nat.lt_succ_self n, .inr hx⟩
theorem fullL_has {h t : Int} {z : Str} : ∀ {n k : Nat}, k < n → (⟨(k : Int), ⟨.pre, h, t, some z, none⟩⟩ : Lt) ∈ fullL h t z n ∧ (⟨(k : Int), ⟨.com, h, t, some z, none⟩⟩ : Lt) ∈ fullL h t z n
  | n + 1, k, hk => by
    rw [fullL, List.mem_append, List.mem_append, List.mem_append, List.mem_append, List.mem_singleton, List.mem_singleton, List.mem_singleton, List.mem_singleton]
    rcases Nat.lt_or_ge k n with z' | z'
    · obtain ⟨h1, h2⟩ := fullL_has (h := h) (t := t) (z := z) z'
      exact ⟨.inl (.inl h1), .inl (.inl h2)⟩
    · have : k = n := by omega
      subst this
      exact ⟨.inl (.inr rfl), .inr rfl⟩
theorem full_of {h : Int} {t : Nat} (t60 : t < 60) {z : Str} {n : Nat} (n0 : 0 < n) : FullE n h z (fullL h t z n) := by
  obtain ⟨m, rfl⟩ : ∃ m, n = m + 1 := ⟨n - 1, by omega⟩
  exact ⟨⟨t, t60, fun k hk => fullL_has hk⟩, ⟨_, _, rfl, rfl⟩⟩
def spEntry (K : PySem.W.Frag) : Sp := fun vs H Q _ => ∃ (pw : Addr) (ws : List Int) (c h : Int), vs = [.ref pw, .int c, .int h] ∧ SqL K H pw (ws.map V.int) ∧ GoodW ws ∧ ws.length ≤ 4 ∧ 0 ≤ c ∧ 0 ≤ h ∧ h < 10 ∧
  ∀ (t p : Addr) (z : Str) (ps : List Addr) (xs : List Lt) H', Same H H' → H p = none → H' t = some (.tup [.str z, .ref p]) → H' p = some (.lst (ps.map V.ref)) → LsAt H' ps xs → GoodN z xs → FullE ws.length h z xs → xs.length < 10 → Q (.ref t) H'
theorem w0x {v : Int} (hv : NOk v) : ("w0x" : Str) ++ nu v = (Cm.w 0 v).txt := by
  refine TL.ext_tl ?_
  have e : (Cm.w 0 v).txt = ((("w" : Str) ++ nu 0) ++ ("x" : Str)) ++ nu v := rfl
  rw [e]
  simp only [TL.tl_append]
  have e1 : TL.tl ("w0x" : Str) = [119, 48, 120] := by decide +kernel
  have e2 : TL.tl ("w" : Str) = [119] := by decide +kernel
  have e3 : TL.tl ("x" : Str) = [120] := by decide +kernel
  have e4 : TL.tl (nu 0) = [48] := by decide +kernel
  rw [e1, e2, e3, e4]
  simp
theorem ok_law_entry (T : Txt K mg a) : ∃ fd, FnOk P w K mg base CX0 1 a.d_law_entry fd ["weights", "cell", "height"] (spEntry K) ∧ Binds K fd ["weights", "cell", "height"] [] := by
  obtain ⟨fd, F, b⟩ := T.d_law_entry.F
  refine ⟨fd, F.ok sc_law_entry (fun vs H Q E h => ?_) (fun cdv A outer s H vs Q E hr h => ?_), b⟩
  · obtain ⟨_, _, _, _, rfl, _⟩ := h
    rfl
  · obtain ⟨pw, ws, c, h, rfl, hw, gw, lw, c0, h0, h1, k⟩ := h
    refine ⟨_, (pss_cons (ps_set (i := 3) sc_law_entry.nd rfl (Or.inl rfl) (pe_op op_add_str (pe_op op_add_str (pe_op op_add_str pe_str (pe_callTy cr_strA (by rfl) T.n_str (by decide +kernel) (pa_cons (pv 2) pa_nil))) pe_str) (pe_callTy cr_strA (by rfl) T.n_str (by decide +kernel) (pa_cons (pe_op op_mod (pe_callTy call_int1 (by rfl) T.n_int (by decide +kernel) (pa_cons (pv 1) pa_nil)) pe_int) pa_nil))))
      (C8.pss_cut (ps_if (pt_cmpR op_eq (pe_op op_mod (pe_callTy call_int1 (by rfl) T.n_int (by decide +kernel) (pa_cons (pv 1) pa_nil)) pe_int) pe_int (nomark _))
      (pss_one (ps_set (i := 3) sc_law_entry.nd rfl (Or.inl rfl) (pe_op op_add_str pe_str (pe_callTy cr_strA (by rfl) T.n_str (by decide +kernel) (pa_cons (pe_op op_add pe_int (pe_op op_mod (pe_op op_fdiv (pv 1) pe_int) pe_int)) pa_nil)))))
      pss_nil)
      (pss_cons (ps_set (i := 4) sc_law_entry.nd rfl (Or.inl rfl) (pe_op op_mod (pe_op op_fdiv (pv 1) pe_int) pe_int))
      (pss_cons (ps_set (i := 5) sc_law_entry.nd rfl (Or.inl rfl) (pe_lst pa_nil))
      (pss_cons (ps_for PassesOwn.never rfl (pi_range1 rfl T.n_range (pa_cons (pe_callB call_len_seq (by rfl) T.n_len PySem.boot_len (pa_cons (pv 0) pa_nil)) pa_nil)) (pg_name (i := 6) sc_law_entry.nd rfl (Or.inl rfl))
      (pss_cons (ps_expr (pe_bm PySem.F.plainAttrs_list PySem.F.slot_list_append PySem.F.type_list_append mt_append (pv 5) (pa_cons (pe_tup (pa_cons (pv 6) (pa_cons (pe_tup (pa_cons pe_str (pa_cons (pv 2) (pa_cons (pv 4) (pa_cons (pv 3) (pa_cons pe_non pa_nil)))))) pa_nil))) pa_nil)))
        (pss_one (ps_expr (pe_bm PySem.F.plainAttrs_list PySem.F.slot_list_append PySem.F.type_list_append mt_append (pv 5) (pa_cons (pe_tup (pa_cons (pv 6) (pa_cons (pe_tup (pa_cons pe_str (pa_cons (pv 2) (pa_cons (pv 4) (pa_cons (pv 3) pa_nil))))) pa_nil))) pa_nil))))))
      (pss_one (ps_ret (pe_tup (pa_cons (pv 3) (pa_cons (pv 5) pa_nil)))))))))), ?_⟩
    have t0 := Int.emod_nonneg c (show (1000 : Int) ≠ 0 by decide)
    have t1 := Int.emod_lt_of_pos c (show (0 : Int) < 1000 by decide)
    have v0 := Int.emod_nonneg (c / 5) (show (9 : Int) ≠ 0 by decide)
    have v1 := Int.emod_lt_of_pos (c / 5) (show (0 : Int) < 9 by decide)
    have y0 := Int.emod_nonneg (c / 50) (show (12 : Int) ≠ 0 by decide)
    have y1 := Int.emod_lt_of_pos (c / 50) (show (0 : Int) < 12 by decide)
    have oh : NOk h := ⟨h0, by omega⟩
    have ot : NOk (c % 1000) := ⟨t0, by omega⟩
    have ov : NOk (1 + c / 5 % 9) := ⟨by omega, by omega⟩
    have l1 : (Str.ofString (toString h)).length ≤ 6 := nu_len6 oh
    have l2 : (Str.ofString (toString (c % 1000))).length ≤ 6 := nu_len6 ot
    have l3 : (Str.ofString (toString (1 + c / 5 % 9))).length ≤ 6 := nu_len6 ov
    have q1 : ("w0x" : Str).length = 3 := rfl
    have q3 : ("b" : Str).length = 1 := rfl
    have q4 : ("t" : Str).length = 1 := rfl
    walk_at "rs"
    refine ⟨nu_log2 oh, ?_⟩
    walk_at "rs"
    refine ⟨by rw [sizeLine_eq]; omega, ?_⟩
    walk_at "rs"
    refine ⟨by rw [PySem.Str.length_append, sizeLine_eq]; omega, ?_⟩
    walk_at "rs"
    refine ⟨nu_log2 ot, ?_⟩
    walk_at "rs"
    refine ⟨by simp only [PySem.Str.length_append]; rw [sizeLine_eq]; omega, ?_⟩
    walk_at "rs"
    have bo1 : BlkOk (((("b" : Str) ++ nu h) ++ ("t" : Str)) ++ nu (c % 1000)) := by
      refine ⟨by simp only [PySem.Str.length_append]; show ("b" : Str).length + (nu h).length + ("t" : Str).length + (nu (c % 1000)).length ≤ 60; have e1 : (nu h).length ≤ 6 := l1; have e2 : (nu (c % 1000)).length ≤ 6 := l2; omega, strOk_cps fun n hn => ?_, .inr ⟨98, TL.tl (nu h ++ "t" ++ nu (c % 1000)), ?_, .inl rfl⟩⟩
      · simp only [TL.tl_append, List.mem_append] at hn
        rcases hn with ((hn | hn) | hn) | hn
        · have : ∀ n ∈ TL.tl ("b" : Str), n < 1114112 := by decide +kernel
          exact this n hn
        · exact nu_ok oh n hn
        · have : ∀ n ∈ TL.tl ("t" : Str), n < 1114112 := by decide +kernel
          exact this n hn
        · exact nu_ok ot n hn
      · simp only [TL.tl_append]
        rfl
    have bb1 : blkB (((("b" : Str) ++ nu h) ++ ("t" : Str)) ++ nu (c % 1000)) = true := blk_mk4 (A := "b") (B := "t") (p := 98) (q := 116) (by decide +kernel) (by decide +kernel) (by decide +kernel) (by decide +kernel) (by decide +kernel) oh ot
    walk_at "rs"
    refine ⟨fun σ H' => ∃ z, BlkOk z ∧ blkB z = true ∧ σ = [some (.ref pw), some (.int c), some (.int h), some (.str z), none, none, none] ∧ H = H', ?_, ?_⟩
    · walk_at "rs"
      refine ite2 (fun c1 => ?_) (fun c1 => ?_)
      · walk_at "rs"
        refine ⟨nu_log2 ov, ?_⟩
        walk_at "rs"
        refine ⟨by rw [sizeLine_eq]; omega, ?_⟩
        walk_at "rs"
        have e : ("w0x" : Str) ++ nu (1 + c / 5 % 9) = (Cm.w 0 (1 + c / 5 % 9)).txt := w0x ov
        have bb2 : blkB ((Cm.w 0 (1 + c / 5 % 9)).txt) = true := blk_mk4 (A := "w") (B := "x") (p := 119) (q := 120) (by decide +kernel) (by decide +kernel) (by decide +kernel) (by decide +kernel) (by decide +kernel) (i := 0) ⟨by decide, by decide⟩ ov
        refine ⟨_, ?_, ?_, rfl, rfl⟩
        · show BlkOk (("w0x" : Str) ++ nu (1 + c / 5 % 9))
          rw [e]
          have ok := blk_ok bb2
          exact ⟨ok.1, ok.2, .inl ⟨0, 1 + c / 5 % 9, rfl, by decide, by decide, by omega, by omega⟩⟩
        · show blkB (("w0x" : Str) ++ nu (1 + c / 5 % 9)) = true
          rw [e]
          exact bb2
      · exact ⟨_, bo1, bb1, rfl, rfl⟩
    clear bo1 bb1
    rintro σ _ ⟨z, bo, bb, rfl, rfl⟩
    walk_at "rs"
    refine ⟨(by show 0 ≤ sizeLine; decide), fun pl hpl => ?_⟩
    have I0 : PLg H (upd H pl (.lst [])) pl (fun x => PapL h z x) 0 [] [] := PLg.start (Same.refl H) hpl
    have hw1 := (same_new (o := .lst []) hpl).seq hw
    walk_at "rs"
    refine ⟨pw, _, rfl, .inl hw1, ?_⟩
    rw [List.length_map]
    walk_at "rs"
    refine ⟨(by show -(2 ^ 62 : Int) ≤ _; omega), (by show _ < (2 ^ 62 : Int); omega), ?_⟩
    obtain ⟨t, ht⟩ : ∃ t : Nat, c / 50 % 12 = (t : Int) := ⟨(c / 50 % 12).toNat, by omega⟩
    refine for_range (lo := 0) (n := ((ws.length : Int)).toNat) (fun i σ H2 => ∃ (v6 : Option V) (ps : List Addr), σ = [some (.ref pw), some (.int c), some (.int h), some (.str z), some (.int (c / 50 % 12)), some (.ref pl), v6] ∧ PLg H H2 pl (fun x => PapL h z x) (2 * i) ps (fullL h (c / 50 % 12) z i)) ⟨_, _, rfl, I0⟩ ?_ ?_
    · rintro i σ H2 hi ⟨v6, ps, rfl, I⟩
      have e0 : (0 : Int) + (i : Int) = (i : Int) := Int.zero_add _
      rw [e0]
      have i4 : i < 4 := by omega
      walk_at "rs"
      refine ⟨.inl ⟨rfl, _, SqL.of I.at'⟩, ?_⟩
      walk_at "rs"
      refine ⟨(by show 5 ≤ sizeLine; decide), fun q1 hq1 => ?_⟩
      refine ⟨(by show 2 ≤ sizeLine; decide), fun t1 ht1 => ?_⟩
      obtain ⟨lt1, s1⟩ := lt_new (w := (i : Int)) (m := ⟨.pre, h, c / 50 % 12, some z, none⟩) hq1 rfl ht1
      have J1 := I.go s1
      refine ⟨pl, _, _, rfl, rfl, J1.at', J1.fit (by omega), ?_⟩
      have I1 := J1.push lt1 ⟨rfl, rfl, y0, y1, fun z => (nomatch z), Int.natCast_nonneg i, by show (i : Int) < 16; omega, rfl⟩
      clear I J1 lt1 s1
      walk_at "rs"
      refine ⟨.inl ⟨rfl, _, SqL.of I1.at'⟩, ?_⟩
      walk_at "rs"
      refine ⟨(by show 4 ≤ sizeLine; decide), fun q2 hq2 => ?_⟩
      refine ⟨(by show 2 ≤ sizeLine; decide), fun t2 ht2 => ?_⟩
      obtain ⟨lt2, s2⟩ := lt_new (w := (i : Int)) (m := ⟨.com, h, c / 50 % 12, some z, none⟩) hq2 rfl ht2
      have J2 := I1.go s2
      refine ⟨pl, _, _, rfl, rfl, J2.at', J2.fit (by omega), ?_⟩
      have I2 := J2.push lt2 ⟨rfl, rfl, y0, y1, fun z => (nomatch z), Int.natCast_nonneg i, by show (i : Int) < 16; omega, rfl⟩
      exact ⟨_, _, rfl, I2.more (by omega)⟩
    · rintro σ H2 ⟨v6, ps, rfl, I⟩
      have en : ((ws.length : Int)).toNat = ws.length := Int.toNat_natCast _
      rw [en] at I
      have fl := fullL_len h (c / 50 % 12) z ws.length
      have gl := gw.1
      walk_at "rs"
      refine ⟨(by show 2 ≤ sizeLine; decide), fun t2 ht2 => ?_⟩
      have s3 := same_new (o := .tup [V.str z, V.ref pl]) ht2
      refine k t2 pl z ps _ _ (I.same.trans s3) I.free upd_same (s3 _ _ I.at') (I.ls.same s3) ⟨bo, bb, by omega, fun x hx => ⟨h, h0, h1, I.good x hx⟩⟩ ?_ (by omega)
      rw [ht]
      exact full_of (by omega) gl

def En.ae (n : En) : Ae := ⟨n.z, n.l, n.ps, n.xs⟩
theorem ok_law {f : Addr} {fd : FuncData} (F : Fun K "law" "law" s_law f fd) (TE : TxtE P w K mg a) (T : Txt K mg a) : FnOk P w K mg base CX0 10 f fd ["script"] (spLaw K) := by
  obtain ⟨fd_law_weights, G_law_weights, b_law_weights⟩ := ok_law_weights (P := P) (w := w) (base := base) T
  obtain ⟨fd_archive_lines, G_archive_lines, b_archive_lines⟩ := ok_archive_lines (P := P) (w := w) (base := base) T
  obtain ⟨fd_law_cell, G_law_cell, b_law_cell⟩ := ok_law_cell (P := P) (w := w) (base := base) T
  obtain ⟨fd_read_archive, G_read_archive, b_read_archive⟩ := ok_read_archive (P := P) (w := w) (base := base) TE T
  obtain ⟨fd_law_entry, G_law_entry, b_law_entry⟩ := ok_law_entry (P := P) (w := w) (base := base) T
  refine F.ok sc_law (fun vs H Q E h => ?_) (fun cdv A outer s H vs Q E hr h => ?_)
  · obtain ⟨_, _, rfl, _⟩ := h
    rfl
  · obtain ⟨l, ns, rfl, hS, hl, k⟩ := h
    refine ⟨_, (pss_cons (ps_set (i := 1) sc_law.nd rfl (Or.inl rfl) (pe_call G_law_weights (hr.mono (by decide)) rfl T.d_law_weights.g T.d_law_weights.kp b_law_weights .nil pass0 (pa_cons (pe_call G_law_cell (hr.mono (by decide)) rfl T.d_law_cell.g T.d_law_cell.kp b_law_cell .nil pass0 (pa_cons (pv 0) (pa_cons pe_int pa_nil))) (pa_cons pe_int pa_nil))))
      (pss_cons (ps_set (i := 2) sc_law.nd rfl (Or.inl rfl) (pe_lst pa_nil))
      (pss_cons (ps_for PassesOwn.never rfl (pi_range1 rfl T.n_range (pa_cons (pe_op op_add pe_int (pe_op op_mod (pe_callTy call_int1 (by rfl) T.n_int (by decide +kernel) (pa_cons (pe_call G_law_cell (hr.mono (by decide)) rfl T.d_law_cell.g T.d_law_cell.kp b_law_cell .nil pass0 (pa_cons (pv 0) (pa_cons pe_int pa_nil))) pa_nil)) pe_int)) pa_nil)) (pg_name (i := 3) sc_law.nd rfl (Or.inl rfl))
      (pss_one (ps_expr (pe_bm PySem.F.plainAttrs_list PySem.F.slot_list_append PySem.F.type_list_append mt_append (pv 2) (pa_cons (pe_call G_law_entry (hr.mono (by decide)) rfl T.d_law_entry.g T.d_law_entry.kp b_law_entry .nil pass0 (pa_cons (pv 1) (pa_cons (pe_callB call_abs (by rfl) T.n_abs (by decide +kernel) (pa_cons (pe_call G_law_cell (hr.mono (by decide)) rfl T.d_law_cell.g T.d_law_cell.kp b_law_cell .nil pass0 (pa_cons (pv 0) (pa_cons (pe_op op_add pe_int (pv 3)) pa_nil))) pa_nil)) (pa_cons (pv 3) pa_nil)))) pa_nil)))))
      (pss_cons (ps_set (i := 4) sc_law.nd rfl (Or.inl rfl) (pe_call G_archive_lines (hr.mono (by decide)) rfl T.d_archive_lines.g T.d_archive_lines.kp b_archive_lines .nil pass0 (pa_cons (pe_lc (own := [("entry", 10)]) (g := (gName 10)) (tt := tYes) rfl sc_law.nd (pi_list (pv 2)) (blkOk_by (own := [("entry", 10)]) (N := sc_law_N) (sc := defScope s_law) (by decide +kernel)) (fun _ _ _ _ _ => (pg_name (i := 10) sc_law.nd rfl (Or.inl rfl))) (fun _ _ _ _ _ => pts_nil) (fun _ _ _ _ _ => (pe_ix (r := rIxT K) ix_tup (pv 10) pe_int (fun _ _ => rfl)))) (pa_cons (pe_lc (own := [("entry", 10)]) (g := (gName 10)) (tt := tYes) rfl sc_law.nd (pi_list (pv 2)) (blkOk_by (own := [("entry", 10)]) (N := sc_law_N) (sc := defScope s_law) (by decide +kernel)) (fun _ _ _ _ _ => (pg_name (i := 10) sc_law.nd rfl (Or.inl rfl))) (fun _ _ _ _ _ => pts_nil) (fun _ _ _ _ _ => (pe_ix (r := rIxT K) ix_tup (pv 10) pe_int (fun _ _ => rfl)))) pa_nil))))
      (pss_cons (ps_set (i := 5) sc_law.nd rfl (Or.inl rfl) (pe_join pe_str (pv 4)))
      (pss_cons (ps_set (i := 6) sc_law.nd rfl (Or.inl rfl) (pe_op op_mod (pe_callTy call_int1 (by rfl) T.n_int (by decide +kernel) (pa_cons (pe_call G_law_cell (hr.mono (by decide)) rfl T.d_law_cell.g T.d_law_cell.kp b_law_cell .nil pass0 (pa_cons (pv 0) (pa_cons pe_int pa_nil))) pa_nil)) (pe_op op_add (pe_callB call_len_str (by rfl) T.n_len PySem.boot_len (pa_cons (pv 5) pa_nil)) pe_int)))
      (pss_cons (ps_set (i := 7) sc_law.nd rfl (Or.inl rfl) (pe_split (pe_slice sl_str (pv 5) po_none (po_some (pv 6))) pe_str))
      (pss_cons (ps_set (i := 8) sc_law.nd rfl (Or.inl rfl) pe_int)
      (pss_cons (ps_set (i := 9) sc_law.nd rfl (Or.inl rfl) pe_int)
      (pss_cons (ps_for PassesOwn.never rfl (pi_list (pv 2)) (pg_name (i := 10) sc_law.nd rfl (Or.inl rfl))
      (pss_cons (ps_set (i := 9) sc_law.nd rfl (Or.inl rfl) (pe_op op_add (pe_op op_add (pv 9) pe_int) (pe_callB call_len_seq (by rfl) T.n_len PySem.boot_len (pa_cons (pe_ix ix_tup (pv 10) pe_int (fun _ _ => rfl)) pa_nil))))
        (pss_one (ps_if (PW.pt (pw_or (pt_cmpR op_lt (pv 9) (pe_callB call_len_seq (by rfl) T.n_len PySem.boot_len (pa_cons (pv 7) pa_nil)) (nomark _)) (pw_or1 (PW.pt (pw_and (pt_cmpR op_eq (pv 9) (pe_callB call_len_seq (by rfl) T.n_len PySem.boot_len (pa_cons (pv 7) pa_nil)) (nomark _)) (pw_and1 (pt_cmpR op_eq (pe_ix ix_list (pv 7) (pe_un un_neg pe_int) (fun _ _ => rfl)) (pe_ix ix_list (pv 4) (pe_op op_sub (pv 9) pe_int) (fun _ _ => rfl)) (nomark _))))))))
        (pss_one (ps_set (i := 8) sc_law.nd rfl (Or.inl rfl) (pe_op op_add (pv 8) pe_int)))
        pss_nil))))
      (pss_cons (ps_try_only rfl rfl ⟨rfl, by decide, .inl TE.g_TribunalError⟩ takes0 (fun W pn xe tk po => (pss_one (ps_set (i := 11) sc_law.nd rfl (Or.inl rfl) (pe_callS G_read_archive (hr.mono (by decide)) rfl T.d_read_archive.g T.d_read_archive.kp b_read_archive (fun σ => passAt tk σ) (pa_cons (pe_callTy (T := "list") (r := rListOf K) (cr_listK rfl) (by rfl) T.n_list (by decide +kernel) (pa_cons (pv 1) pa_nil)) (pa_cons (pe_lst pa_nil) (pa_cons (pv 7) pa_nil))))))) (fun ae oe cls d pn hz hf => (pss_one (ps_ret pe_bl))))
      (pss_cons (ps_if (PW.pt (pw_or (pt_cmpR (op_neD hr.units) (pe_slice sl_list (pv 11) po_none (po_some (pv 8))) (pe_slice sl_list (pv 2) po_none (po_some (pv 8))) (nomark _)) (pw_or1 (pt_cmpR op_gt (pe_callB call_len_seq (by rfl) T.n_len PySem.boot_len (pa_cons (pv 11) pa_nil)) (pe_op op_add (pv 8) pe_int) (nomark _)))))
      (pss_one (ps_ret pe_bl))
      pss_nil)
      (pss_cons (ps_if (pt_cmpR op_eq (pe_callB call_len_seq (by rfl) T.n_len PySem.boot_len (pa_cons (pv 11) pa_nil)) (pv 8) (nomark _))
      (pss_one (ps_ret pe_bl))
      pss_nil)
      (pss_one (ps_ret (pe_and (pe_cmpR op_eq (pe_ix ix_tup (pe_ix ix_list (pv 11) (pv 8) (fun _ _ => rfl)) pe_int (fun _ _ => rfl)) (pe_ix ix_tup (pe_ix ix_list (pv 2) (pv 8) (fun _ _ => rfl)) pe_int (fun _ _ => rfl)) (nomark _)) (pe_one (pe_cmpR (op_eqD hr.units) (pe_slice sl_list (pe_ix ix_tup (pe_ix ix_list (pv 11) (pv 8) (fun _ _ => rfl)) pe_int (fun _ _ => rfl)) po_none (po_some (pe_un un_neg pe_int))) (pe_slice sl_list (pe_ix ix_tup (pe_ix ix_list (pv 2) (pv 8) (fun _ _ => rfl)) pe_int (fun _ _ => rfl)) po_none (po_some (pe_un un_neg pe_int))) (nomark _))))))))))))))))))), ?_⟩
    walk_at "rs"
    refine ⟨l, ns, _, rfl, hS, hl, by decide, ?_⟩
    walk_at "rs"
    refine ⟨_, _, rfl, by decide, by decide, fun pw ws H1 s1 hpw gw lw => ?_⟩
    have lw : ws.length ≤ 4 := lw
    have hS1 := s1.seq hS
    walk_at "rs"
    refine ⟨(by show 0 ≤ sizeLine; decide), fun R hR => ?_⟩
    have s2 := same_new (o := .lst []) hR
    have hR2 : (upd H1 R (.lst [])) R = some (.lst []) := upd_same
    have hpw2 := s2 _ _ hpw
    have hS2 := s2.seq hS1
    walk_at "rs"
    refine ⟨l, ns, _, rfl, hS2, hl, by decide, ?_⟩
    walk_at "rs"
    have g0 : 0 ≤ ns.getD (Int.toNat 1) 0 % 4 := Int.emod_nonneg _ (by decide)
    have g1 : ns.getD (Int.toNat 1) 0 % 4 < 4 := Int.emod_lt_of_pos _ (by decide)
    refine ⟨(by show -(2 ^ 62 : Int) ≤ _; omega), (by show _ < (2 ^ 62 : Int); omega), ?_⟩
    refine for_range (lo := 0) (n := (1 + ns.getD (Int.toNat 1) 0 % 4).toNat) (fun i σ Hx => ∃ (v3 : Option V) (en : List En), σ = [some (.ref l), some (.ref pw), some (.ref R), v3, none, none, none, none, none, none, none, none] ∧ en.length = i ∧ Same H1 Hx ∧ Hx R = some (.lst ((en.map (·.e)).map V.ref)) ∧ (∀ n ∈ en, (EnR Hx n ∧ GoodN n.z n.xs ∧ n.xs.length < 10) ∧ n.l ≠ R) ∧ ∀ j, j < en.length → FullE ws.length (j : Int) (en.getD j default).z (en.getD j default).xs)
      ⟨_, [], rfl, rfl, s2, hR2, fun n hn => absurd hn List.not_mem_nil, fun j hj => absurd hj (Nat.not_lt_zero j)⟩ ?_ ?_
    · rintro i σ Hx hi ⟨v3, en, rfl, le, sx, hRx, ok, fu⟩
      have e0 : (0 : Int) + (i : Int) = (i : Int) := Int.zero_add _
      rw [e0]
      have i5 : i < 5 := by omega
      walk_at "rs"
      refine ⟨.inl ⟨rfl, _, SqL.of hRx⟩, ?_⟩
      walk_at "rs"
      refine ⟨l, ns, _, rfl, sx.seq hS1, hl, by omega, ?_⟩
      walk_at "rs"
      refine ⟨pw, ws, _, _, rfl, SqL.of (sx _ _ hpw), gw, lw, by split <;> omega, Int.natCast_nonneg i, by omega, fun t p z ps xs H4 s4 fp ht4 hp4 hx4 gn fe ten => ?_⟩
      have hR4 := s4 _ _ hRx
      have pR : p ≠ R := fun z => by rw [z, hRx] at fp; cases fp
      refine ⟨R, _, _, rfl, rfl, hR4, by rw [List.length_map, List.length_map]; exact small1000 (by omega), ?_⟩
      have hR1 : H1 R = none := hR
      have un : ∀ {n : En}, EnR H4 n → n.l ≠ R → EnR (upd H4 R (.lst ((en.map (·.e)).map V.ref ++ [V.ref t]))) n := fun {n} r ne =>
        ⟨upd_tup hR4 r.he, by rw [upd_ne ne]; exact r.hl, lsat_updL r.hx hR4⟩
      refine ⟨_, en ++ [⟨t, z, p, ps, xs⟩], rfl, by rw [List.length_append, le]; rfl, same_upd (sx.trans s4) hR1, by rw [upd_same]; simp, fun n hn => ?_, fun j hj => ?_⟩
      · rcases List.mem_append.mp hn with hn | hn
        · exact ⟨⟨un ((ok n hn).1.1.same s4) (ok n hn).2, (ok n hn).1.2⟩, (ok n hn).2⟩
        · rw [List.mem_singleton.mp hn]
          exact ⟨⟨un ⟨ht4, hp4, hx4⟩ pR, gn, ten⟩, pR⟩
      · rw [List.length_append, List.length_singleton] at hj
        rcases Nat.lt_or_ge j en.length with y | y
        · rw [getD_left y]
          exact fu j y
        · have : j = en.length := by omega
          subst this
          rw [getD_last, le]
          exact fe
    · rintro σ Hx ⟨v3, en, rfl, le, sx, hRx, ok, fu⟩
      have few : en.length ≤ 4 := by omega
      have pos : 0 < en.length := by omega
      have hSx := sx.seq hS1
      have hpwx := sx _ _ hpw
      have ok2 : ∀ n ∈ en, EnR Hx n ∧ GoodN n.z n.xs := fun n hn => ⟨(ok n hn).1.1, (ok n hn).1.2.1⟩
      have ten : ∀ n ∈ en, n.xs.length < 10 := fun n hn => (ok n hn).1.2.2
      clear le sx s1 s2 hR2 hpw2 hS2 hS1 hS hpw hR ok
      walk_at "rs"
      refine ⟨⟨_, SqL.of hRx⟩, fun ZL hZL => ?_⟩
      refine lc_list (K := K) (a := R) (xs := (en.map (·.e)).map V.ref) (fun j Hj => Same Hx Hj ∧ Hj ZL = some (.lst (((en.take j).map (·.z)).map V.str))) ⟨same_new hZL, upd_same⟩ (fun j Hj _ ⟨sj, _⟩ => SqL.of (sj _ _ hRx)) ?_ ?_
      · rintro j y Hj hy ⟨sj, hZj⟩
        obtain ⟨n, hn, rfl, hm, hj⟩ := en_at hy
        refine ⟨rfl, ?_⟩
        walk_at "rs"
        refine ⟨n.e, _, _, .str n.z, rfl, rfl, SqT.of (sj _ _ (ok2 n hm).1.he), rfl, ?_⟩
        refine ⟨_, hZj, by rw [List.length_map, List.length_map, List.length_take]; exact small1000 (by omega), same_upd sj hZL, ?_⟩
        rw [upd_same, List.take_add_one, hn]
        simp
      rintro H3 ⟨s3, hZ3⟩
      rw [List.length_map, List.length_map, List.take_length] at hZ3
      have hS3 := s3.seq hSx
      have hpw3 := s3 _ _ hpwx
      have hR3 := s3 _ _ hRx
      have ok3 : ∀ n ∈ en, EnR H3 n ∧ GoodN n.z n.xs := fun n hn => ⟨(ok2 n hn).1.same s3, (ok2 n hn).2⟩
      clear s3 hZL hSx hpwx hRx ok2
      walk_at "rs"
      refine ⟨⟨_, SqL.of hR3⟩, fun QL hQL => ?_⟩
      refine lc_list (K := K) (a := R) (xs := (en.map (·.e)).map V.ref) (fun j Hj => Same H3 Hj ∧ Hj QL = some (.lst (((en.take j).map (·.l)).map V.ref))) ⟨same_new hQL, upd_same⟩ (fun j Hj _ ⟨sj, _⟩ => SqL.of (sj _ _ hR3)) ?_ ?_
      · rintro j y Hj hy ⟨sj, hQj⟩
        obtain ⟨n, hn, rfl, hm, hj⟩ := en_at hy
        refine ⟨rfl, ?_⟩
        walk_at "rs"
        refine ⟨n.e, _, _, .ref n.l, rfl, rfl, SqT.of (sj _ _ (ok3 n hm).1.he), rfl, ?_⟩
        refine ⟨_, hQj, by rw [List.length_map, List.length_map, List.length_take]; exact small1000 (by omega), same_upd sj hQL, ?_⟩
        rw [upd_same, List.take_add_one, hn]
        simp
      rintro H4 ⟨s4, hQ4⟩
      rw [List.length_map, List.length_map, List.take_length] at hQ4
      have hZ4 := s4 _ _ hZ3
      have hS4 := s4.seq hS3
      have hpw4 := s4 _ _ hpw3
      have hR4 := s4 _ _ hR3
      have ok4 : ∀ n ∈ en, EnR H4 n ∧ GoodN n.z n.xs := fun n hn => ⟨(ok3 n hn).1.same s4, (ok3 n hn).2⟩
      clear s4 hQL hS3 hpw3 hR3 ok3 hZ3
      have ez : (en.map En.ae).map (·.z) = en.map (·.z) := by rw [List.map_map]; rfl
      have el : (en.map En.ae).map (·.l) = en.map (·.l) := by rw [List.map_map]; rfl
      have ep : ((en.map En.ae).map fun n => (n.z, n.xs)) = en.map En.pr := by rw [List.map_map]; rfl
      refine ⟨ZL, QL, en.map En.ae, rfl, by rw [ez]; exact hZ4, by rw [el]; exact hQ4, by rw [List.length_map]; omega, fun n hn => ?_, fun LS H5 s5 fLS hLS => ?_⟩
      · obtain ⟨m, hm, rfl⟩ := List.mem_map.mp hn
        obtain ⟨r, g⟩ := ok4 m hm
        exact ⟨r.hl, r.hx, Nat.le_trans g.few (by decide), fun x hx => g.ln hx, Nat.le_trans g.bo.1 (by decide)⟩
      rw [ep] at hLS
      have hS5 := s5.seq hS4
      have hpw5 := s5 _ _ hpw4
      have hR5 := s5 _ _ hR4
      have ok5 : ∀ n ∈ en, EnR H5 n ∧ GoodN n.z n.xs := fun n hn => ⟨(ok4 n hn).1.same s5, (ok4 n hn).2⟩
      clear s5 hS4 hpw4 hR4 ok4 hZ4 hQ4 ez el ep
      have goods : ∀ e ∈ en.map En.pr, GoodN e.1 e.2 := fun e he => by
        obtain ⟨m, hm, rfl⟩ := List.mem_map.mp he
        exact (ok5 m hm).2
      have tens : ∀ e ∈ en.map En.pr, e.2.length < 10 := fun e he => by
        obtain ⟨m, hm, rfl⟩ := List.mem_map.mp he
        exact ten m hm
      have getE : ∀ j, j < en.length → (en.map En.pr).getD j default = ((en.getD j default).z, (en.getD j default).xs) := fun j hj => by
        rw [List.getD_eq_getElem?_getD, List.getElem?_map, List.getD_eq_getElem?_getD, List.getElem?_eq_getElem hj]
        rfl
      have lasts : ∀ e ∈ en.map En.pr, ∃ ys y, e.2 = ys ++ [y] ∧ y.m.k = .com := fun e he => by
        obtain ⟨m, hm, rfl⟩ := List.mem_map.mp he
        obtain ⟨j, hj, e⟩ := List.getElem_of_mem hm
        have := (fu j hj).last
        rw [List.getD_eq_getElem?_getD, List.getElem?_eq_getElem hj] at this
        rw [← e]
        exact this
      have sh : ∀ j, j < (en.map En.pr).length → shE ws (en.map En.pr) j = true := fun j hj => by
        rw [List.length_map] at hj
        have ow : ∀ e ∈ (en.map En.pr).take j, onlyW (cmdsOf e.1) := fun e he => (goods e (List.mem_of_mem_take he)).bo.only
        unfold shE
        rw [getE j hj]
        refine full_shows (rwE_good gw ow) ?_
        rw [rwE_len ow]
        exact fu j hj
      have aok := archM_ok goods
      have aln : (archM (en.map En.pr)).length ≤ 40 := by
        have h2 : ∀ es : List (Str × List Lt), (∀ e ∈ es, e.2.length < 10) → (archM es).length ≤ 10 * es.length := by
          intro es
          induction es with
          | nil => exact fun _ => Nat.le_refl _
          | cons e r ih =>
            intro h
            have i1 := ih fun f hf => h f (List.mem_cons_of_mem _ hf)
            have i2 := h e List.mem_cons_self
            rw [archM_pos] at i1 ⊢
            simp only [posE, List.length_cons]
            omega
        have := h2 _ tens
        rw [List.length_map] at this
        omega
      clear fu ten
      generalize hes : en.map En.pr = es at *
      have les : es.length = en.length := by rw [← hes, List.length_map]
      have ee := archM_pos es
      walk_at "rs"
      have s1k := sum_lines fun l hl => (aok l hl).1
      have nl : ("\n" : Str).length = 1 := by decide +kernel
      have ltx : ((archM es).map (·.length)).sum + (archM es).length * ("\n" : Str).length ≤ 100000 := by
        rw [nl]
        omega
      have ltl : (Txt.join "\n" (archM es)).length ≤ 100000 := by
        rw [TL.join_eq]
        exact Nat.le_trans (join_len _ _) ltx
      refine ⟨⟨_, rfl⟩, ?_⟩
      walk_at "rs"
      refine ⟨_, LS, _, rfl, rfl, .inl (SqL.of hLS), Nat.le_trans ltx (by decide), ?_⟩
      walk_at "rs"
      refine ⟨l, ns, _, rfl, hS5, hl, by decide, ?_⟩
      have c0 : 0 ≤ ns.getD (Int.toNat 6) 0 % (((Txt.join "\n" (archM es)).length : Int) + 1) := Int.emod_nonneg _ (by omega)
      obtain ⟨m, q, hm, pre, esp⟩ := left_of goods (by omega) c0
      have lcut := cutS_length (Txt.join "\n" (archM es)) none (some (ns.getD (Int.toNat 6) 0 % (((Txt.join "\n" (archM es)).length : Int) + 1)))
      walk_at "rs"
      refine ⟨by show (Txt.join "\n" (archM es)).length ≤ 16777216; omega, ?_⟩
      walk_at "rs"
      refine ⟨by show (Txt.join "\n" (archM es)).length ≤ 16777216; omega, ?_⟩
      walk_at "rs"
      refine ⟨⟨_, rfl⟩, _, _, rfl, rfl, by decide +kernel, by show (cutS (Txt.join "\n" (archM es)) none (some (ns.getD (Int.toNat 6) 0 % (((Txt.join "\n" (archM es)).length : Int) + 1)))).length + 2 ≤ 16777216; omega, fun Lf hLf => ?_⟩
      rw [esp]
      have s6 := same_new (o := .lst (((archM es).take m ++ [q]).map V.str)) hLf
      have hLf6 : (upd H5 Lf (.lst (((archM es).take m ++ [q]).map V.str))) Lf = some (.lst (((archM es).take m ++ [q]).map V.str)) := upd_same
      generalize upd H5 Lf (.lst (((archM es).take m ++ [q]).map V.str)) = H6 at s6 hLf6 ⊢
      clear esp lcut
      walk_at "rs"
      obtain ⟨c, hc, h0, h1⟩ := find_c es.length (Nat.le_refl _) (show m < posE (es.take es.length) by rw [List.take_length]; omega)
      obtain ⟨bo, hbo⟩ : ∃ bo : Nat, (m + 1 = posE (es.take (c + 1)) ∧ q = wrd (archM es) m ∧ bo = 1) ∨ (¬ (m + 1 = posE (es.take (c + 1)) ∧ q = wrd (archM es) m) ∧ bo = 0) := by
        by_cases z : m + 1 = posE (es.take (c + 1)) ∧ q = wrd (archM es) m
        · exact ⟨1, .inl ⟨z.1, z.2, rfl⟩⟩
        · exact ⟨0, .inr ⟨z, rfl⟩⟩
      have hS6 := s6.seq hS5
      have hpw6 := s6 _ _ hpw5
      have hR6 := s6 _ _ hR5
      have hLS6 := s6 _ _ hLS
      have ok6 : ∀ n ∈ en, EnR H6 n := fun n hn => (ok5 n hn).1.same s6
      clear s6 hS5 hpw5 hR5 hLS ok5 fLS hLf
      have ll : (((archM es).take m ++ [q]).map V.str).length = m + 1 := by
        rw [List.length_map, List.length_append, List.length_take]
        show min m (archM es).length + 1 = m + 1
        omega
      refine ⟨⟨_, SqL.of hR6⟩, for_list (K := K) (a := R) (xs := (en.map (·.e)).map V.ref) (fun i σ Hx => ∃ v10 : Option V, σ = [some (.ref l), some (.ref pw), some (.ref R), v3, some (.ref LS), some (.str (Txt.join "\n" (archM es))), some (.int (ns.getD (Int.toNat 6) 0 % (((Txt.join "\n" (archM es)).length : Int) + 1))), some (.ref Lf), some (.int ((if i ≤ c then i else c + bo : Nat) : Int)), some (.int ((posE (es.take i) : Nat) : Int)), v10, none] ∧ H6 = Hx)
        ⟨_, by rw [if_pos (Nat.zero_le c)]; rfl, rfl⟩ (fun i σ Hx _ ⟨_, _, e⟩ => by rw [← e]; exact SqL.of hR6) ?_ ?_⟩
      · rintro i y σ _ hy ⟨v10, rfl, rfl⟩
        obtain ⟨n, hn, rfl, hmem, hi⟩ := en_at hy
        have r := ok6 n hmem
        have n1 := r.hx.1
        have hie : i < es.length := by omega
        have eget : es.getD i default = (n.z, n.xs) := by rw [← hes, pr_getD hn]
        have p1 := pos_succ hie
        rw [eget] at p1
        have p1 : posE (es.take (i + 1)) = posE (es.take i) + n.xs.length + 1 := p1
        walk_at "rs"
        refine ⟨n.e, _, _, .ref n.l, rfl, rfl, SqT.of r.he, rfl, ?_⟩
        walk_at "rs"
        refine ⟨n.l, _, rfl, .inl (SqL.of r.hl), ?_⟩
        rw [List.length_map, n1]
        walk_at "rs"
        refine ⟨Lf, _, rfl, .inl (SqL.of hLf6), ?_⟩
        rw [ll]
        walk_at "rs"
        have eu : ((posE (es.take i) : Nat) : Int) + 1 + (n.xs.length : Int) = ((posE (es.take (i + 1)) : Nat) : Int) := by omega
        have up : ∀ W' : Nat, ((if i + 1 ≤ c then i + 1 else c + bo : Nat) = W') → ∃ v10 : Option V, [some (V.ref l), some (.ref pw), some (.ref R), v3, some (.ref LS), some (.str (Txt.join "\n" (archM es))), some (.int (ns.getD (Int.toNat 6) 0 % (((Txt.join "\n" (archM es)).length : Int) + 1))), some (.ref Lf), some (.int (W' : Int)), some (.int (((posE (es.take i) : Nat) : Int) + 1 + (n.xs.length : Int))), some (.ref n.e), none] = [some (V.ref l), some (.ref pw), some (.ref R), v3, some (.ref LS), some (.str (Txt.join "\n" (archM es))), some (.int (ns.getD (Int.toNat 6) 0 % (((Txt.join "\n" (archM es)).length : Int) + 1))), some (.ref Lf), some (.int ((if i + 1 ≤ c then i + 1 else c + bo : Nat) : Int)), some (.int ((posE (es.take (i + 1)) : Nat) : Int)), v10, none] ∧ H6 = H6 := fun W' e => ⟨_, by rw [eu, e], rfl⟩
        have pc := pos_succ hc
        refine ite2 (fun c1 => ?_) (fun c1 => ?_)
        · have c1 : ((posE (es.take i) : Nat) : Int) + 1 + (n.xs.length : Int) < ((m + 1 : Nat) : Int) := of_decide_eq_true c1
          have ic : i + 1 ≤ c := by
            refine Nat.le_of_not_lt fun z => ?_
            have := pos_mono (es := es) (show c + 1 ≤ i + 1 by omega)
            omega
          walk_at "rs"
          have e1 : ((if i ≤ c then i else c + bo : Nat) : Int) + 1 = ((i + 1 : Nat) : Int) := by rw [if_pos (by omega)]; omega
          obtain ⟨v, e2, e3⟩ := up (i + 1) (if_pos ic)
          rw [← e1] at e2
          exact ⟨v, e2, e3⟩
        have c1 : ¬ ((posE (es.take i) : Nat) : Int) + 1 + (n.xs.length : Int) < ((m + 1 : Nat) : Int) := fun z => c1 (decide_eq_true z)
        have ic : c ≤ i := by
          refine Nat.le_of_not_lt fun z => ?_
          have := pos_mono (es := es) (show i + 1 ≤ c by omega)
          omega
        walk_at "rs"
        refine ⟨Lf, _, rfl, .inl (SqL.of hLf6), ?_⟩
        rw [ll]
        walk_at "rs"
        refine ite2 (fun c2 => ?_) (fun c2 => ?_)
        · have c2 : ((posE (es.take i) : Nat) : Int) + 1 + (n.xs.length : Int) = ((m + 1 : Nat) : Int) := by simpa using c2
          have ei : i = c := by
            refine Nat.le_antisymm (Nat.le_of_not_lt fun z => ?_) ic
            have := pos_lt (es := es) (show c + 1 < i + 1 by omega) (by omega)
            omega
          walk_at "rs"
          refine ⟨Lf, _, _, .str q, rfl, rfl, SqL.of hLf6, (by rw [List.map_append]; exact atI_last _ _), ?_⟩
          walk_at "rs"
          refine ⟨LS, _, _, .str (wrd (archM es) m), rfl, rfl, SqL.of hLS6, at_of (j := m) (by show ((posE (es.take i) : Nat) : Int) + 1 + (n.xs.length : Int) - 1 = _; omega) (wrd_at hm), ?_⟩
          walk_at "rs"
          refine ite2 (fun c3 => ?_) (fun c3 => ?_)
          · have c3 : q = wrd (archM es) m := by simpa using c3
            have b1 : bo = 1 := by
              rcases hbo with ⟨_, _, z⟩ | ⟨z, _⟩
              · exact z
              · exact absurd ⟨by rw [← ei]; omega, c3⟩ z
            walk_at "rs"
            have e1 : ((if i ≤ c then i else c + bo : Nat) : Int) + 1 = ((c + bo : Nat) : Int) := by rw [if_pos (by omega), b1, ei]; omega
            obtain ⟨v, e2, e3⟩ := up (c + bo) (if_neg (by omega))
            rw [← e1] at e2
            exact ⟨v, e2, e3⟩
          · have c3 : ¬ q = wrd (archM es) m := by simpa using c3
            have b0 : bo = 0 := by
              rcases hbo with ⟨_, z, _⟩ | ⟨_, z⟩
              · exact absurd z c3
              · exact z
            have e1 : (if i ≤ c then i else c + bo) = c + bo := by rw [if_pos (by omega), b0, ei]; rfl
            exact up _ ((if_neg (by omega)).trans e1.symm)
        · have c2 : ¬ ((posE (es.take i) : Nat) : Int) + 1 + (n.xs.length : Int) = ((m + 1 : Nat) : Int) := by simpa using c2
          have e1 : (if i ≤ c then i else c + bo) = c + bo := by
            rcases Nat.lt_or_ge c i with z | z
            · exact if_neg (by omega)
            · have ei : i = c := by omega
              have b0 : bo = 0 := by
                rcases hbo with ⟨z, _⟩ | ⟨_, z⟩
                · rw [← ei] at z
                  omega
                · exact z
              rw [if_pos (by omega), b0, ei]
              rfl
          exact up _ ((if_neg (by omega)).trans e1.symm)
      rintro σ _ ⟨v10, rfl, rfl⟩
      rw [List.length_map, List.length_map, ← les, if_neg (by omega), List.take_length]
      obtain ⟨tl, CR⟩ := cut_read goods (by omega) sh lasts tens hc h0 h1 pre
      walk_at "rs"
      refine ⟨pw, _, rfl, .inl (SqL.of hpw6), fun pw2 hpw2 => ?_⟩
      have s7 := same_new (o := .lst (ws.map V.int)) hpw2
      have hw7 : (upd H6 pw2 (.lst (ws.map V.int))) pw2 = some (.lst (ws.map V.int)) := upd_same
      generalize upd H6 pw2 (.lst (ws.map V.int)) = H7 at s7 hw7 ⊢
      walk_at "rs"
      refine ⟨(by show 0 ≤ sizeLine; decide), fun g hg => ?_⟩
      have s8 := s7.trans (same_new (o := .lst []) hg)
      have hw8 := (same_new (o := .lst []) hg) _ _ hw7
      have hg8 : (upd H7 g (.lst [])) g = some (.lst []) := upd_same
      generalize upd H7 g (.lst []) = H8 at s8 hw8 hg8 ⊢
      walk_at "rs"
      have wm := aok _ (wrd_mem hm)
      have llim : ∀ z ∈ (archM es).take m ++ [q], z.length + 2 ≤ 16777216 := fun z hz => by
        rcases List.mem_append.mp hz with hz | hz
        · have := (aok z (List.mem_of_mem_take hz)).1
          omega
        · rw [List.mem_singleton.mp hz]
          have := pre_len pre
          omega
      have lll : ((archM es).take m ++ [q]).length = m + 1 := by rw [← ll, List.length_map]
      have key : ∀ (Q' : VK) (E' : XK), ResA H8 (es.take c ++ tl) Q' → spRA K a.C_BadArchive [.ref pw2, .ref g, .ref Lf] H8 Q' E' := fun Q' E' ha => by
        refine ⟨pw2, g, Lf, ws, (archM es).take m ++ [q], es.take c ++ tl, rfl, SqL.of hw8, gw, SqL.of hg8, s8 _ _ hLf6, by rw [lll]; omega, llim, CR.a.1, fun e he => (CR.a.2.1 e he).1, CR.a.2.2.1, CR.a.2.2.2, fun _ => ha, fun z => ?_⟩
        rcases CR.e with y | ⟨_, y | ⟨z', xs', y1, y2, y3, y4⟩⟩
        · exact absurd z (by omega)
        · rw [y]
          exact ⟨fun k z => (nomatch z), fun _ => ha, fun z xs z => (nomatch z)⟩
        · rw [y1]
          refine ⟨fun k z => (nomatch z), fun z => (nomatch z), fun z xs z => ?_⟩
          cases z
          exact ⟨y2, y3, fun _ => ha, fun y => absurd y4 y⟩
      refine key _ _ ?_
      rintro en' A H9 s9 fA hA ee' okn'
      have s69 := s8.trans s9
      have hR9 := s69 _ _ hR6
      have ok9 : ∀ n ∈ en, EnR H9 n := fun n hn => (ok6 n hn).same s69
      clear key s7 s8 s9 s69 hw7 hw8 hg8 hg hpw2 fA hR6 ok6 hLf6 hLS6 hS6 hpw6 llim lll
      have oke : ∀ e ∈ es, OkE e := fun e he => ⟨(goods e he).okl, (goods e he).bo.2.1⟩
      have oke' : ∀ e ∈ es.take c ++ tl, OkE e := fun e he => (CR.a.2.1 e he).2
      have lc : (es.take c).length = c := by rw [List.length_take]; omega
      have len' : en'.length = c + tl.length := by
        have := congrArg List.length ee'
        rw [List.length_map, List.length_append, lc] at this
        exact this
      have bole : bo ≤ 1 ∧ (bo = 1 → tl = [es.getD c default]) := by
        rcases hbo with ⟨z1, z2, z3⟩ | ⟨_, z⟩
        · exact ⟨by omega, fun _ => CR.whole z1 z2⟩
        · exact ⟨by omega, fun y => by omega⟩
      have tl1 : tl.length ≤ 1 := by
        rcases CR.form with z | ⟨x, z⟩ <;> rw [z]
        · exact Nat.zero_le _
        · exact Nat.le_refl _
      have eqpre : (es.take c ++ tl).take (c + bo) = es.take (c + bo) := by
        rcases (show bo = 0 ∨ bo = 1 by omega) with z | z
        · rw [z, Nat.add_zero, List.take_append_of_le_length (by omega), List.take_take, Nat.min_self]
        · rw [bole.2 z, z, ← take_succ_getD (d := default) hc, List.take_take, Nat.min_self]
      walk_at "rs"
      refine ⟨A, _, rfl, SqL.of hA, fun B hB => ?_⟩
      rw [cut_en]
      have s10 := same_new (o := .lst (((en'.take (c + bo)).map (·.e)).map V.ref)) hB
      have hB10 : (upd H9 B (.lst (((en'.take (c + bo)).map (·.e)).map V.ref))) B = some (.lst (((en'.take (c + bo)).map (·.e)).map V.ref)) := upd_same
      generalize upd H9 B (.lst (((en'.take (c + bo)).map (·.e)).map V.ref)) = H10 at s10 hB10 ⊢
      walk_at "rs"
      refine ⟨R, _, rfl, SqL.of (s10 _ _ hR9), fun D hD => ?_⟩
      rw [cut_en]
      have s11 := s10.trans (same_new (o := .lst (((en.take (c + bo)).map (·.e)).map V.ref)) hD)
      have hB11 := (same_new (o := .lst (((en.take (c + bo)).map (·.e)).map V.ref)) hD) _ _ hB10
      have hD11 : (upd H10 D (.lst (((en.take (c + bo)).map (·.e)).map V.ref))) D = some (.lst (((en.take (c + bo)).map (·.e)).map V.ref)) := upd_same
      generalize upd H10 D (.lst (((en.take (c + bo)).map (·.e)).map V.ref)) = H11 at s11 hB11 hD11 ⊢
      have okA : ∀ n ∈ en', EnR H11 n := fun n hn => (okn' n hn).same s11
      have okB : ∀ n ∈ en, EnR H11 n := fun n hn => (ok9 n hn).same s11
      have d1 := dp_eDs (K := K) (en := en'.take (c + bo)) fun n hn => okA n (List.mem_of_mem_take hn)
      have d2 := dp_eDs (K := K) (en := en.take (c + bo)) fun n hn => okB n (List.mem_of_mem_take hn)
      have e1 : (en'.take (c + bo)).map En.pr = es.take (c + bo) := by rw [List.map_take, ee', eqpre]
      have e2 : (en.take (c + bo)).map En.pr = es.take (c + bo) := by rw [List.map_take, hes]
      rw [e1] at d1
      rw [e2] at d2
      have okt : ∀ e ∈ es.take (c + bo), OkE e := fun e he => oke e (List.mem_of_mem_take he)
      have hA11 := s11 _ _ hA
      have hR11 := s11 _ _ hR9
      clear s10 hB hD
      refine ⟨_, _, .lst (SqL.of hB11) d1, .lst (SqL.of hD11) d2, shaped_eDs okt, shaped_eDs okt, ?_⟩
      rw [eDs_refl okt]
      refine ⟨_, rfl, ?_⟩
      walk_at "rs"
      refine ⟨A, _, rfl, .inl (SqL.of hA11), ?_⟩
      rw [List.length_map, List.length_map, len']
      walk_at "rs"
      refine ite2 (fun c1 => ?_) (fun c1 => ?_)
      · exfalso
        have c1 : ((c + bo : Nat) : Int) + 1 < ((c + tl.length : Nat) : Int) := of_decide_eq_true c1
        omega
      clear c1
      walk_at "rs"
      refine ⟨A, _, rfl, .inl (SqL.of hA11), ?_⟩
      rw [List.length_map, List.length_map, len']
      walk_at "rs"
      refine ite2 (fun c1 => ?_) (fun c1 => ?_)
      · walk_at "rs"
        exact k _
      have c1 : ¬ ((c + tl.length : Nat) : Int) = ((c + bo : Nat) : Int) := by simpa using c1
      have b0 : bo = 0 := by
        rcases (show bo = 0 ∨ bo = 1 by omega) with z | z
        · exact z
        · exfalso
          rw [bole.2 z, z] at c1
          exact c1 rfl
      subst b0
      obtain ⟨x, etl⟩ : ∃ x, tl = [((es.getD c default).1, (es.getD c default).2.dropLast ++ [x])] := by
        rcases CR.form with z | z
        · rw [z] at c1
          exact absurd rfl c1
        · exact z
      have lc' : c < en'.length := by rw [len', etl]; exact Nat.lt_succ_self c
      obtain ⟨N, hN⟩ : ∃ n, en'[c]? = some n := ⟨_, List.getElem?_eq_getElem lc'⟩
      obtain ⟨M, hM⟩ : ∃ n, en[c]? = some n := ⟨_, List.getElem?_eq_getElem (by omega)⟩
      have eN : (N.z, N.xs) = ((es.getD c default).1, (es.getD c default).2.dropLast ++ [x]) := by
        have := pr_getD hN
        rw [ee', etl] at this
        rw [← this]
        have := getD_last (d := default) (xs := es.take c) (x := ((es.getD c default).1, (es.getD c default).2.dropLast ++ [x]))
        rw [lc] at this
        exact this
      have eM : (M.z, M.xs) = es.getD c default := by rw [← hes, pr_getD hM]
      rw [← eM] at eN
      have z1 : N.z = M.z := congrArg Prod.fst eN
      have z2 : N.xs.dropLast = M.xs.dropLast := by
        have : N.xs = M.xs.dropLast ++ [x] := congrArg Prod.snd eN
        rw [this, List.dropLast_concat]
      have rN := okA N (List.mem_of_getElem? hN)
      have rM := okB M (List.mem_of_getElem? hM)
      have okl : OkL M.xs.dropLast := fun v hv => by
        have h := (oke _ (getD_mem2 (d := default) hc)).1
        rw [← eM] at h
        rw [List.dropLast_eq_take] at hv
        exact h v (List.mem_of_mem_take hv)
      walk_at "rs"
      refine ⟨A, _, _, _, rfl, rfl, SqL.of hA11, at_of (j := c) rfl (ref_at hN), ?_⟩
      walk_at "rs"
      refine ⟨N.e, _, _, .str N.z, rfl, rfl, SqT.of rN.he, rfl, ?_⟩
      walk_at "rs"
      refine ⟨R, _, _, _, rfl, rfl, SqL.of hR11, at_of (j := c) rfl (ref_at hM), ?_⟩
      walk_at "rs"
      refine ⟨M.e, _, _, .str M.z, rfl, rfl, SqT.of rM.he, rfl, ?_⟩
      walk_at "rs"
      refine ite2 (fun _ => ?_) (fun y => ?_)
      rotate_left
      · exfalso
        rw [z1] at y
        simp at y
      walk_at "rs"
      refine ⟨A, _, _, _, rfl, rfl, SqL.of hA11, at_of (j := c) rfl (ref_at hN), ?_⟩
      walk_at "rs"
      refine ⟨N.e, _, _, .ref N.l, rfl, rfl, SqT.of rN.he, rfl, ?_⟩
      walk_at "rs"
      refine ⟨N.l, _, rfl, SqL.of rN.hl, fun P1 hP1 => ?_⟩
      have n1 := rN.hx.1
      have n2 := rM.hx.1
      rw [cut_lst, ← List.map_dropLast]
      have s12 := same_new (o := .lst (N.ps.dropLast.map V.ref)) hP1
      have hP12 : (upd H11 P1 (.lst (N.ps.dropLast.map V.ref))) P1 = some (.lst (N.ps.dropLast.map V.ref)) := upd_same
      generalize upd H11 P1 (.lst (N.ps.dropLast.map V.ref)) = H12 at s12 hP12 ⊢
      walk_at "rs"
      refine ⟨R, _, _, _, rfl, rfl, SqL.of (s12 _ _ hR11), at_of (j := c) rfl (ref_at hM), ?_⟩
      walk_at "rs"
      refine ⟨M.e, _, _, .ref M.l, rfl, rfl, SqT.of (s12 _ _ rM.he), rfl, ?_⟩
      walk_at "rs"
      refine ⟨M.l, _, rfl, SqL.of (s12 _ _ rM.hl), fun P2 hP2 => ?_⟩
      rw [cut_lst, ← List.map_dropLast]
      have s13 := same_new (o := .lst (M.ps.dropLast.map V.ref)) hP2
      have hP22 : (upd H12 P2 (.lst (M.ps.dropLast.map V.ref))) P2 = some (.lst (M.ps.dropLast.map V.ref)) := upd_same
      have hP13 := s13 _ _ hP12
      generalize upd H12 P2 (.lst (M.ps.dropLast.map V.ref)) = H13 at s13 hP13 hP22 ⊢
      have x1 := ((rN.hx.same s12).same s13).dropLast
      have x2 := ((rM.hx.same s12).same s13).dropLast
      rw [z2] at x1
      refine ⟨_, _, .lst (SqL.of hP13) (dp_lts x1), .lst (SqL.of hP22) (dp_lts x2), shaped_lts okl, shaped_lts okl, ?_⟩
      rw [eqv_lts okl]
      exact k _

end

theorem all_mk {l : PySem.W.OpenLaw} {w : World} {K : PySem.W.Frag} {h : Heap} {mg : Str → Option Value} {fa : Addr} (X : K.In h) (G : h.Ns mainGlobals mg) (hfa : mg "law" = some (.ref fa))
    {t_SIGNS : Tok} {t_DIGITS : Tok} {t_CODE_END : Tok} {t_MOST_DIGITS_wire : Tok} {t_MOST_DIGITS_commands : Tok} {t_MOST_SIGNS : Tok} {t_LETTERS : Tok} {t_BLOCK_SIGNS : Tok} {t_NONE : Tok} {t_HEAD : Tok} {t_KIND : Tok} {t_HEIGHT : Tok} {t_TURN : Tok} {t_BLOCK : Tok} {t_LEAN : Tok} {t_MOST_MEMBERS : Tok} {t_MOST_WEIGHT : Tok} {C_Reader : Addr} {C_Committee : Addr} {C_Ledger : Addr} {C_Chain : Addr} {C_Client : Addr} {f_prevote : Addr} {od_prevote an_prevote : Option Addr} {sl_prevote : Array (Option Value)} {oc_prevote kV_prevote dc_prevote pm_prevote cd_prevote ct_prevote : Value} {f_precommit : Addr} {od_precommit an_precommit : Option Addr} {sl_precommit : Array (Option Value)} {oc_precommit kV_precommit dc_precommit pm_precommit cd_precommit ct_precommit : Value} {f_is_number : Addr} {od_is_number an_is_number : Option Addr} {sl_is_number : Array (Option Value)} {oc_is_number kV_is_number dc_is_number pm_is_number cd_is_number ct_is_number : Value} {f_is_block : Addr} {od_is_block an_is_block : Option Addr} {sl_is_block : Array (Option Value)} {oc_is_block kV_is_block dc_is_block pm_is_block cd_is_block ct_is_block : Value} {f_word_at : Addr} {od_word_at an_word_at : Option Addr} {sl_word_at : Array (Option Value)} {oc_word_at kV_word_at dc_word_at pm_word_at cd_word_at ct_word_at : Value} {f_number_at : Addr} {od_number_at an_number_at : Option Addr} {sl_number_at : Array (Option Value)} {oc_number_at kV_number_at dc_number_at pm_number_at cd_number_at ct_number_at : Value} {f_kind_at : Addr} {od_kind_at an_kind_at : Option Addr} {sl_kind_at : Array (Option Value)} {oc_kind_at kV_kind_at dc_kind_at pm_kind_at cd_kind_at ct_kind_at : Value} {f_block_at : Addr} {od_block_at an_block_at : Option Addr} {sl_block_at : Array (Option Value)} {oc_block_at kV_block_at dc_block_at pm_block_at cd_block_at ct_block_at : Value} {f_lean_at : Addr} {od_lean_at an_lean_at : Option Addr} {sl_lean_at : Array (Option Value)} {oc_lean_at kV_lean_at dc_lean_at pm_lean_at cd_lean_at ct_lean_at : Value} {f_end_at : Addr} {od_end_at an_end_at : Option Addr} {sl_end_at : Array (Option Value)} {oc_end_at kV_end_at dc_end_at pm_end_at cd_end_at ct_end_at : Value} {f_read_letter : Addr} {od_read_letter an_read_letter : Option Addr} {sl_read_letter : Array (Option Value)} {oc_read_letter kV_read_letter dc_read_letter pm_read_letter cd_read_letter ct_read_letter : Value} {f_proposal : Addr} {od_proposal an_proposal : Option Addr} {sl_proposal : Array (Option Value)} {oc_proposal kV_proposal dc_proposal pm_proposal cd_proposal ct_proposal : Value} {f_word : Addr} {od_word an_word : Option Addr} {sl_word : Array (Option Value)} {oc_word kV_word dc_word pm_word cd_word ct_word : Value} {f_letter_line : Addr} {od_letter_line an_letter_line : Option Addr} {sl_letter_line : Array (Option Value)} {oc_letter_line kV_letter_line dc_letter_line pm_letter_line cd_letter_line ct_letter_line : Value} {f_first_wrong : Addr} {od_first_wrong an_first_wrong : Option Addr} {sl_first_wrong : Array (Option Value)} {oc_first_wrong kV_first_wrong dc_first_wrong pm_first_wrong cd_first_wrong ct_first_wrong : Value} {f_Committee_init : Addr} {od_Committee_init an_Committee_init : Option Addr} {sl_Committee_init : Array (Option Value)} {oc_Committee_init kV_Committee_init dc_Committee_init pm_Committee_init cd_Committee_init ct_Committee_init : Value} {f_Committee_weight_of : Addr} {od_Committee_weight_of an_Committee_weight_of : Option Addr} {sl_Committee_weight_of : Array (Option Value)} {oc_Committee_weight_of kV_Committee_weight_of dc_Committee_weight_of pm_Committee_weight_of cd_Committee_weight_of ct_Committee_weight_of : Value} {f_Committee_is_quorum : Addr} {od_Committee_is_quorum an_Committee_is_quorum : Option Addr} {sl_Committee_is_quorum : Array (Option Value)} {oc_Committee_is_quorum kV_Committee_is_quorum dc_Committee_is_quorum pm_Committee_is_quorum cd_Committee_is_quorum ct_Committee_is_quorum : Value} {f_votes_by_turn : Addr} {od_votes_by_turn an_votes_by_turn : Option Addr} {sl_votes_by_turn : Array (Option Value)} {oc_votes_by_turn kV_votes_by_turn dc_votes_by_turn pm_votes_by_turn cd_votes_by_turn ct_votes_by_turn : Value} {f_counts : Addr} {od_counts an_counts : Option Addr} {sl_counts : Array (Option Value)} {oc_counts kV_counts dc_counts pm_counts cd_counts ct_counts : Value} {f_certified_turns : Addr} {od_certified_turns an_certified_turns : Option Addr} {sl_certified_turns : Array (Option Value)} {oc_certified_turns kV_certified_turns dc_certified_turns pm_certified_turns cd_certified_turns ct_certified_turns : Value} {f_committed_turns : Addr} {od_committed_turns an_committed_turns : Option Addr} {sl_committed_turns : Array (Option Value)} {oc_committed_turns kV_committed_turns dc_committed_turns pm_committed_turns cd_committed_turns ct_committed_turns : Value} {f_shown_turn : Addr} {od_shown_turn an_shown_turn : Option Addr} {sl_shown_turn : Array (Option Value)} {oc_shown_turn kV_shown_turn dc_shown_turn pm_shown_turn cd_shown_turn ct_shown_turn : Value} {f_shows : Addr} {od_shows an_shows : Option Addr} {sl_shows : Array (Option Value)} {oc_shows kV_shows dc_shows pm_shows cd_shows ct_shows : Value} {f_law_cell : Addr} {od_law_cell an_law_cell : Option Addr} {sl_law_cell : Array (Option Value)} {oc_law_cell kV_law_cell dc_law_cell pm_law_cell cd_law_cell ct_law_cell : Value} {f_law_row : Addr} {od_law_row an_law_row : Option Addr} {sl_law_row : Array (Option Value)} {oc_law_row kV_law_row dc_law_row pm_law_row cd_law_row ct_law_row : Value} {f_law_weights : Addr} {od_law_weights an_law_weights : Option Addr} {sl_law_weights : Array (Option Value)} {oc_law_weights kV_law_weights dc_law_weights pm_law_weights cd_law_weights ct_law_weights : Value} {f_law_entry : Addr} {od_law_entry an_law_entry : Option Addr} {sl_law_entry : Array (Option Value)} {oc_law_entry kV_law_entry dc_law_entry pm_law_entry cd_law_entry ct_law_entry : Value} {f_Reader_init : Addr} {od_Reader_init an_Reader_init : Option Addr} {sl_Reader_init : Array (Option Value)} {oc_Reader_init kV_Reader_init dc_Reader_init pm_Reader_init cd_Reader_init ct_Reader_init : Value} {f_Reader_read_signs : Addr} {od_Reader_read_signs an_Reader_read_signs : Option Addr} {sl_Reader_read_signs : Array (Option Value)} {oc_Reader_read_signs kV_Reader_read_signs dc_Reader_read_signs pm_Reader_read_signs cd_Reader_read_signs ct_Reader_read_signs : Value} {f_Reader_skip : Addr} {od_Reader_skip an_Reader_skip : Option Addr} {sl_Reader_skip : Array (Option Value)} {oc_Reader_skip kV_Reader_skip dc_Reader_skip pm_Reader_skip cd_Reader_skip ct_Reader_skip : Value} {f_Reader_read_number : Addr} {od_Reader_read_number an_Reader_read_number : Option Addr} {sl_Reader_read_number : Array (Option Value)} {oc_Reader_read_number kV_Reader_read_number dc_Reader_read_number pm_Reader_read_number cd_Reader_read_number ct_Reader_read_number : Value} {f_Reader_read_code : Addr} {od_Reader_read_code an_Reader_read_code : Option Addr} {sl_Reader_read_code : Array (Option Value)} {oc_Reader_read_code kV_Reader_read_code dc_Reader_read_code pm_Reader_read_code cd_Reader_read_code ct_Reader_read_code : Value} {f_Reader_read_command : Addr} {od_Reader_read_command an_Reader_read_command : Option Addr} {sl_Reader_read_command : Array (Option Value)} {oc_Reader_read_command kV_Reader_read_command dc_Reader_read_command pm_Reader_read_command cd_Reader_read_command ct_Reader_read_command : Value} {f_commands_of : Addr} {od_commands_of an_commands_of : Option Addr} {sl_commands_of : Array (Option Value)} {oc_commands_of kV_commands_of dc_commands_of pm_commands_of cd_commands_of ct_commands_of : Value} {f_Ledger_init : Addr} {od_Ledger_init an_Ledger_init : Option Addr} {sl_Ledger_init : Array (Option Value)} {oc_Ledger_init kV_Ledger_init dc_Ledger_init pm_Ledger_init cd_Ledger_init ct_Ledger_init : Value} {f_first_ledger : Addr} {od_first_ledger an_first_ledger : Option Addr} {sl_first_ledger : Array (Option Value)} {oc_first_ledger kV_first_ledger dc_first_ledger pm_first_ledger cd_first_ledger ct_first_ledger : Value} {f_Chain_init : Addr} {od_Chain_init an_Chain_init : Option Addr} {sl_Chain_init : Array (Option Value)} {oc_Chain_init kV_Chain_init dc_Chain_init pm_Chain_init cd_Chain_init ct_Chain_init : Value} {f_Chain_height : Addr} {od_Chain_height an_Chain_height : Option Addr} {sl_Chain_height : Array (Option Value)} {oc_Chain_height kV_Chain_height dc_Chain_height pm_Chain_height cd_Chain_height ct_Chain_height : Value} {f_Chain_committee : Addr} {od_Chain_committee an_Chain_committee : Option Addr} {sl_Chain_committee : Array (Option Value)} {oc_Chain_committee kV_Chain_committee dc_Chain_committee pm_Chain_committee cd_Chain_committee ct_Chain_committee : Value} {f_Chain_extend : Addr} {od_Chain_extend an_Chain_extend : Option Addr} {sl_Chain_extend : Array (Option Value)} {oc_Chain_extend kV_Chain_extend dc_Chain_extend pm_Chain_extend cd_Chain_extend ct_Chain_extend : Value} {f_after_weight : Addr} {od_after_weight an_after_weight : Option Addr} {sl_after_weight : Array (Option Value)} {oc_after_weight kV_after_weight dc_after_weight pm_after_weight cd_after_weight ct_after_weight : Value} {f_Client_init : Addr} {od_Client_init an_Client_init : Option Addr} {sl_Client_init : Array (Option Value)} {oc_Client_init kV_Client_init dc_Client_init pm_Client_init cd_Client_init ct_Client_init : Value} {f_Client_follow : Addr} {od_Client_follow an_Client_follow : Option Addr} {sl_Client_follow : Array (Option Value)} {oc_Client_follow kV_Client_follow dc_Client_follow pm_Client_follow cd_Client_follow ct_Client_follow : Value} {f_read_head : Addr} {od_read_head an_read_head : Option Addr} {sl_read_head : Array (Option Value)} {oc_read_head kV_read_head dc_read_head pm_read_head cd_read_head ct_read_head : Value} {f_archive_lines : Addr} {od_archive_lines an_archive_lines : Option Addr} {sl_archive_lines : Array (Option Value)} {oc_archive_lines kV_archive_lines dc_archive_lines pm_archive_lines cd_archive_lines ct_archive_lines : Value} {f_refuse_before_end : Addr} {od_refuse_before_end an_refuse_before_end : Option Addr} {sl_refuse_before_end : Array (Option Value)} {oc_refuse_before_end kV_refuse_before_end dc_refuse_before_end pm_refuse_before_end cd_refuse_before_end ct_refuse_before_end : Value} {f_entry_at : Addr} {od_entry_at an_entry_at : Option Addr} {sl_entry_at : Array (Option Value)} {oc_entry_at kV_entry_at dc_entry_at pm_entry_at cd_entry_at ct_entry_at : Value} {f_read_archive : Addr} {od_read_archive an_read_archive : Option Addr} {sl_read_archive : Array (Option Value)} {oc_read_archive kV_read_archive dc_read_archive pm_read_archive cd_read_archive ct_read_archive : Value} {f_law : Addr} {od_law an_law : Option Addr} {sl_law : Array (Option Value)} {oc_law kV_law dc_law pm_law cd_law ct_law : Value} {P_MARKS M_MARKS_p M_MARKS_w M_MARKS_d M_MARKS_k : Addr} {n_MARKS : Nat} {h_MARKS_p h_MARKS_w h_MARKS_d h_MARKS_k : Int} {t_MARKS_p t_MARKS_w t_MARKS_d t_MARKS_k : Tok} {od_MARKS_p : Option Addr} {sl_MARKS_p : Array (Option Value)} {n_MARKS_p : Nat} {t0_MARKS_p t1_MARKS_p t2_MARKS_p : Tok} {od_MARKS_w : Option Addr} {sl_MARKS_w : Array (Option Value)} {n_MARKS_w : Nat} {t0_MARKS_w t1_MARKS_w : Tok} {od_MARKS_d : Option Addr} {sl_MARKS_d : Array (Option Value)} {n_MARKS_d : Nat} {t0_MARKS_d t1_MARKS_d : Tok} {od_MARKS_k : Option Addr} {sl_MARKS_k : Array (Option Value)} {n_MARKS_k : Nat} {t0_MARKS_k t1_MARKS_k t2_MARKS_k : Tok} {C_BadCommand : Addr} {C_BadPaper : Addr} {C_BadLine f_BadLine_init : Addr} {nm_BadLine q_BadLine : Str} {N_BadLine : Addr} {bs_BadLine bm_BadLine : List Value} {sn_BadLine : List Str} {sub_BadLine : List Value} {ab_BadLine : Bool} {col_BadLine : Option Bool} {dd_BadLine : Option Addr} {k0_BadLine k1_BadLine k2_BadLine k3_BadLine k5_BadLine : Option Value} {od_BadLine_init an_BadLine_init : Option Addr} {sl_BadLine_init : Array (Option Value)} {oc_BadLine_init kV_BadLine_init dc_BadLine_init pm_BadLine_init ct_BadLine_init : Value} {cda_BadLine_init cc_BadLine_init : Addr} {cl_BadLine_init ccl_BadLine_init : Value} {cld_BadLine_init cdd_BadLine_init : Option Addr} {csl_BadLine_init ccs_BadLine_init : Array (Option Value)} {vs_BadLine_init : Array Value} {file_BadLine_init : Str} {tf_BadLine_init : Tok} {C_BadArchive f_BadArchive_init : Addr} {nm_BadArchive q_BadArchive : Str} {N_BadArchive : Addr} {bs_BadArchive bm_BadArchive : List Value} {sn_BadArchive : List Str} {sub_BadArchive : List Value} {ab_BadArchive : Bool} {col_BadArchive : Option Bool} {dd_BadArchive : Option Addr} {k0_BadArchive k1_BadArchive k2_BadArchive k3_BadArchive k5_BadArchive : Option Value} {od_BadArchive_init an_BadArchive_init : Option Addr} {sl_BadArchive_init : Array (Option Value)} {oc_BadArchive_init kV_BadArchive_init dc_BadArchive_init pm_BadArchive_init ct_BadArchive_init : Value} {cda_BadArchive_init cc_BadArchive_init : Addr} {cl_BadArchive_init ccl_BadArchive_init : Value} {cld_BadArchive_init cdd_BadArchive_init : Option Addr} {csl_BadArchive_init ccs_BadArchive_init : Array (Option Value)} {vs_BadArchive_init : Array Value} {file_BadArchive_init : Str} {tf_BadArchive_init : Tok} {P_KINDS : Addr} {od_KINDS : Option Addr} {sl_KINDS : Array (Option Value)} {n_KINDS : Nat} {t0_KINDS : Tok} {t1_KINDS : Tok} {t2_KINDS : Tok} {C_TribunalError : Addr}
    (c_SIGNS : PySem.W.nsIn K mainGlobals "SIGNS" = some (some (.str "0123456789ginasmtcehlujfyo" t_SIGNS)))
    (c_DIGITS : PySem.W.nsIn K mainGlobals "DIGITS" = some (some (.str "0123456789" t_DIGITS)))
    (c_CODE_END : PySem.W.nsIn K mainGlobals "CODE_END" = some (some (.str "z" t_CODE_END)))
    (c_MOST_DIGITS_wire : PySem.W.nsIn K mainGlobals "MOST_DIGITS_wire" = some (some (.int 9 t_MOST_DIGITS_wire)))
    (c_MOST_DIGITS_commands : PySem.W.nsIn K mainGlobals "MOST_DIGITS_commands" = some (some (.int 6 t_MOST_DIGITS_commands)))
    (c_MOST_SIGNS : PySem.W.nsIn K mainGlobals "MOST_SIGNS" = some (some (.int 60 t_MOST_SIGNS)))
    (c_LETTERS : PySem.W.nsIn K mainGlobals "LETTERS" = some (some (.str "abcdefghijklmnopqrstuvwxyz" t_LETTERS)))
    (c_BLOCK_SIGNS : PySem.W.nsIn K mainGlobals "BLOCK_SIGNS" = some (some (.str "abcdefghijklmnopqrstuvwxyz0123456789" t_BLOCK_SIGNS)))
    (c_NONE : PySem.W.nsIn K mainGlobals "NONE" = some (some (.str "-" t_NONE)))
    (c_HEAD : PySem.W.nsIn K mainGlobals "HEAD" = some (some (.str "block" t_HEAD)))
    (c_KIND : PySem.W.nsIn K mainGlobals "KIND" = some (some (.int 0 t_KIND)))
    (c_HEIGHT : PySem.W.nsIn K mainGlobals "HEIGHT" = some (some (.int 1 t_HEIGHT)))
    (c_TURN : PySem.W.nsIn K mainGlobals "TURN" = some (some (.int 2 t_TURN)))
    (c_BLOCK : PySem.W.nsIn K mainGlobals "BLOCK" = some (some (.int 3 t_BLOCK)))
    (c_LEAN : PySem.W.nsIn K mainGlobals "LEAN" = some (some (.int 4 t_LEAN)))
    (c_MOST_MEMBERS : PySem.W.nsIn K mainGlobals "MOST_MEMBERS" = some (some (.int 16 t_MOST_MEMBERS)))
    (c_MOST_WEIGHT : PySem.W.nsIn K mainGlobals "MOST_WEIGHT" = some (some (.int 1000000000000 t_MOST_WEIGHT)))
    (n_len : PySem.W.nsIn K mainGlobals "len" = some none)
    (n_range : PySem.W.nsIn K mainGlobals "range" = some none)
    (n_isinstance : PySem.W.nsIn K mainGlobals "isinstance" = some none)
    (n_int : PySem.W.nsIn K mainGlobals "int" = some none)
    (n_bool : PySem.W.nsIn K mainGlobals "bool" = some none)
    (n_list : PySem.W.nsIn K mainGlobals "list" = some none)
    (n_tuple : PySem.W.nsIn K mainGlobals "tuple" = some none)
    (n_str : PySem.W.nsIn K mainGlobals "str" = some none)
    (n_zip : PySem.W.nsIn K mainGlobals "zip" = some none)
    (n_enumerate : PySem.W.nsIn K mainGlobals "enumerate" = some none)
    (n_max : PySem.W.nsIn K mainGlobals "max" = some none)
    (n_abs : PySem.W.nsIn K mainGlobals "abs" = some none)
    (n_sum : PySem.W.nsIn K mainGlobals "sum" = some none)
    (n_set : PySem.W.nsIn K mainGlobals "set" = some none)
    (n_sorted : PySem.W.nsIn K mainGlobals "sorted" = some none)
    (n_min : PySem.W.nsIn K mainGlobals "min" = some none)
    (n_super : PySem.W.nsIn K mainGlobals "super" = some none)
    (n_ValueError : PySem.W.nsIn K mainGlobals "ValueError" = some none)
    (n_all : PySem.W.nsIn K mainGlobals "all" = some none)
    (g_Reader : PySem.W.nsIn K mainGlobals "Reader" = some (some (.ref C_Reader)))
    (g_Committee : PySem.W.nsIn K mainGlobals "Committee" = some (some (.ref C_Committee)))
    (g_Ledger : PySem.W.nsIn K mainGlobals "Ledger" = some (some (.ref C_Ledger)))
    (g_Chain : PySem.W.nsIn K mainGlobals "Chain" = some (some (.ref C_Chain)))
    (g_Client : PySem.W.nsIn K mainGlobals "Client" = some (some (.ref C_Client)))
    (a_prevote : PySem.W.nsIn K mainGlobals "prevote" = some (some (.ref f_prevote)))
    (l_prevote : K.lookup f_prevote = some ⟨oc_prevote, od_prevote, .func (PySem.W.fnOf "prevote" "prevote" (defArgs s_prevote) (defBody s_prevote) (defScope s_prevote) .none kV_prevote dc_prevote pm_prevote an_prevote cd_prevote ct_prevote), sl_prevote⟩)
    (q_prevote : PySem.W.codeIn K cd_prevote "prevote" = true)
    (k_prevote : PySem.W.keepIn K (.ref f_prevote) = true)
    (a_precommit : PySem.W.nsIn K mainGlobals "precommit" = some (some (.ref f_precommit)))
    (l_precommit : K.lookup f_precommit = some ⟨oc_precommit, od_precommit, .func (PySem.W.fnOf "precommit" "precommit" (defArgs s_precommit) (defBody s_precommit) (defScope s_precommit) .none kV_precommit dc_precommit pm_precommit an_precommit cd_precommit ct_precommit), sl_precommit⟩)
    (q_precommit : PySem.W.codeIn K cd_precommit "precommit" = true)
    (k_precommit : PySem.W.keepIn K (.ref f_precommit) = true)
    (a_is_number : PySem.W.nsIn K mainGlobals "is_number" = some (some (.ref f_is_number)))
    (l_is_number : K.lookup f_is_number = some ⟨oc_is_number, od_is_number, .func (PySem.W.fnOf "is_number" "is_number" (defArgs s_is_number) (defBody s_is_number) (defScope s_is_number) .none kV_is_number dc_is_number pm_is_number an_is_number cd_is_number ct_is_number), sl_is_number⟩)
    (q_is_number : PySem.W.codeIn K cd_is_number "is_number" = true)
    (k_is_number : PySem.W.keepIn K (.ref f_is_number) = true)
    (a_is_block : PySem.W.nsIn K mainGlobals "is_block" = some (some (.ref f_is_block)))
    (l_is_block : K.lookup f_is_block = some ⟨oc_is_block, od_is_block, .func (PySem.W.fnOf "is_block" "is_block" (defArgs s_is_block) (defBody s_is_block) (defScope s_is_block) .none kV_is_block dc_is_block pm_is_block an_is_block cd_is_block ct_is_block), sl_is_block⟩)
    (q_is_block : PySem.W.codeIn K cd_is_block "is_block" = true)
    (k_is_block : PySem.W.keepIn K (.ref f_is_block) = true)
    (a_word_at : PySem.W.nsIn K mainGlobals "_word_at" = some (some (.ref f_word_at)))
    (l_word_at : K.lookup f_word_at = some ⟨oc_word_at, od_word_at, .func (PySem.W.fnOf "_word_at" "_word_at" (defArgs s_word_at) (defBody s_word_at) (defScope s_word_at) .none kV_word_at dc_word_at pm_word_at an_word_at cd_word_at ct_word_at), sl_word_at⟩)
    (q_word_at : PySem.W.codeIn K cd_word_at "_word_at" = true)
    (k_word_at : PySem.W.keepIn K (.ref f_word_at) = true)
    (a_number_at : PySem.W.nsIn K mainGlobals "_number_at" = some (some (.ref f_number_at)))
    (l_number_at : K.lookup f_number_at = some ⟨oc_number_at, od_number_at, .func (PySem.W.fnOf "_number_at" "_number_at" (defArgs s_number_at) (defBody s_number_at) (defScope s_number_at) .none kV_number_at dc_number_at pm_number_at an_number_at cd_number_at ct_number_at), sl_number_at⟩)
    (q_number_at : PySem.W.codeIn K cd_number_at "_number_at" = true)
    (k_number_at : PySem.W.keepIn K (.ref f_number_at) = true)
    (a_kind_at : PySem.W.nsIn K mainGlobals "_kind_at" = some (some (.ref f_kind_at)))
    (l_kind_at : K.lookup f_kind_at = some ⟨oc_kind_at, od_kind_at, .func (PySem.W.fnOf "_kind_at" "_kind_at" (defArgs s_kind_at) (defBody s_kind_at) (defScope s_kind_at) .none kV_kind_at dc_kind_at pm_kind_at an_kind_at cd_kind_at ct_kind_at), sl_kind_at⟩)
    (q_kind_at : PySem.W.codeIn K cd_kind_at "_kind_at" = true)
    (k_kind_at : PySem.W.keepIn K (.ref f_kind_at) = true)
    (a_block_at : PySem.W.nsIn K mainGlobals "_block_at" = some (some (.ref f_block_at)))
    (l_block_at : K.lookup f_block_at = some ⟨oc_block_at, od_block_at, .func (PySem.W.fnOf "_block_at" "_block_at" (defArgs s_block_at) (defBody s_block_at) (defScope s_block_at) .none kV_block_at dc_block_at pm_block_at an_block_at cd_block_at ct_block_at), sl_block_at⟩)
    (q_block_at : PySem.W.codeIn K cd_block_at "_block_at" = true)
    (k_block_at : PySem.W.keepIn K (.ref f_block_at) = true)
    (a_lean_at : PySem.W.nsIn K mainGlobals "_lean_at" = some (some (.ref f_lean_at)))
    (l_lean_at : K.lookup f_lean_at = some ⟨oc_lean_at, od_lean_at, .func (PySem.W.fnOf "_lean_at" "_lean_at" (defArgs s_lean_at) (defBody s_lean_at) (defScope s_lean_at) .none kV_lean_at dc_lean_at pm_lean_at an_lean_at cd_lean_at ct_lean_at), sl_lean_at⟩)
    (q_lean_at : PySem.W.codeIn K cd_lean_at "_lean_at" = true)
    (k_lean_at : PySem.W.keepIn K (.ref f_lean_at) = true)
    (a_end_at : PySem.W.nsIn K mainGlobals "_end_at" = some (some (.ref f_end_at)))
    (l_end_at : K.lookup f_end_at = some ⟨oc_end_at, od_end_at, .func (PySem.W.fnOf "_end_at" "_end_at" (defArgs s_end_at) (defBody s_end_at) (defScope s_end_at) .none kV_end_at dc_end_at pm_end_at an_end_at cd_end_at ct_end_at), sl_end_at⟩)
    (q_end_at : PySem.W.codeIn K cd_end_at "_end_at" = true)
    (k_end_at : PySem.W.keepIn K (.ref f_end_at) = true)
    (a_read_letter : PySem.W.nsIn K mainGlobals "read_letter" = some (some (.ref f_read_letter)))
    (l_read_letter : K.lookup f_read_letter = some ⟨oc_read_letter, od_read_letter, .func (PySem.W.fnOf "read_letter" "read_letter" (defArgs s_read_letter) (defBody s_read_letter) (defScope s_read_letter) .none kV_read_letter dc_read_letter pm_read_letter an_read_letter cd_read_letter ct_read_letter), sl_read_letter⟩)
    (q_read_letter : PySem.W.codeIn K cd_read_letter "read_letter" = true)
    (k_read_letter : PySem.W.keepIn K (.ref f_read_letter) = true)
    (a_proposal : PySem.W.nsIn K mainGlobals "proposal" = some (some (.ref f_proposal)))
    (l_proposal : K.lookup f_proposal = some ⟨oc_proposal, od_proposal, .func (PySem.W.fnOf "proposal" "proposal" (defArgs s_proposal) (defBody s_proposal) (defScope s_proposal) .none kV_proposal dc_proposal pm_proposal an_proposal cd_proposal ct_proposal), sl_proposal⟩)
    (q_proposal : PySem.W.codeIn K cd_proposal "proposal" = true)
    (k_proposal : PySem.W.keepIn K (.ref f_proposal) = true)
    (a_word : PySem.W.nsIn K mainGlobals "_word" = some (some (.ref f_word)))
    (l_word : K.lookup f_word = some ⟨oc_word, od_word, .func (PySem.W.fnOf "_word" "_word" (defArgs s_word) (defBody s_word) (defScope s_word) .none kV_word dc_word pm_word an_word cd_word ct_word), sl_word⟩)
    (q_word : PySem.W.codeIn K cd_word "_word" = true)
    (k_word : PySem.W.keepIn K (.ref f_word) = true)
    (a_letter_line : PySem.W.nsIn K mainGlobals "letter_line" = some (some (.ref f_letter_line)))
    (l_letter_line : K.lookup f_letter_line = some ⟨oc_letter_line, od_letter_line, .func (PySem.W.fnOf "letter_line" "letter_line" (defArgs s_letter_line) (defBody s_letter_line) (defScope s_letter_line) .none kV_letter_line dc_letter_line pm_letter_line an_letter_line cd_letter_line ct_letter_line), sl_letter_line⟩)
    (q_letter_line : PySem.W.codeIn K cd_letter_line "letter_line" = true)
    (k_letter_line : PySem.W.keepIn K (.ref f_letter_line) = true)
    (a_first_wrong : PySem.W.nsIn K mainGlobals "_first_wrong" = some (some (.ref f_first_wrong)))
    (l_first_wrong : K.lookup f_first_wrong = some ⟨oc_first_wrong, od_first_wrong, .func (PySem.W.fnOf "_first_wrong" "_first_wrong" (defArgs s_first_wrong) (defBody s_first_wrong) (defScope s_first_wrong) .none kV_first_wrong dc_first_wrong pm_first_wrong an_first_wrong cd_first_wrong ct_first_wrong), sl_first_wrong⟩)
    (q_first_wrong : PySem.W.codeIn K cd_first_wrong "_first_wrong" = true)
    (k_first_wrong : PySem.W.keepIn K (.ref f_first_wrong) = true)
    (a_Committee_init : PySem.W.findIn K (.ref C_Committee) "__init__" = some (some (.ref f_Committee_init)))
    (i_Committee_init : PySem.W.isFn K (.ref f_Committee_init) = true)
    (l_Committee_init : K.lookup f_Committee_init = some ⟨oc_Committee_init, od_Committee_init, .func (PySem.W.fnOf "__init__" "Committee.__init__" (defArgs s_Committee_init) (defBody s_Committee_init) (defScope s_Committee_init) .none kV_Committee_init dc_Committee_init pm_Committee_init an_Committee_init cd_Committee_init ct_Committee_init), sl_Committee_init⟩)
    (q_Committee_init : PySem.W.codeIn K cd_Committee_init "Committee.__init__" = true)
    (k_Committee_init : PySem.W.keepIn K (.ref f_Committee_init) = true)
    (a_Committee_weight_of : PySem.W.findIn K (.ref C_Committee) "weight_of" = some (some (.ref f_Committee_weight_of)))
    (i_Committee_weight_of : PySem.W.isFn K (.ref f_Committee_weight_of) = true)
    (l_Committee_weight_of : K.lookup f_Committee_weight_of = some ⟨oc_Committee_weight_of, od_Committee_weight_of, .func (PySem.W.fnOf "weight_of" "Committee.weight_of" (defArgs s_Committee_weight_of) (defBody s_Committee_weight_of) (defScope s_Committee_weight_of) .none kV_Committee_weight_of dc_Committee_weight_of pm_Committee_weight_of an_Committee_weight_of cd_Committee_weight_of ct_Committee_weight_of), sl_Committee_weight_of⟩)
    (q_Committee_weight_of : PySem.W.codeIn K cd_Committee_weight_of "Committee.weight_of" = true)
    (k_Committee_weight_of : PySem.W.keepIn K (.ref f_Committee_weight_of) = true)
    (a_Committee_is_quorum : PySem.W.findIn K (.ref C_Committee) "is_quorum" = some (some (.ref f_Committee_is_quorum)))
    (i_Committee_is_quorum : PySem.W.isFn K (.ref f_Committee_is_quorum) = true)
    (l_Committee_is_quorum : K.lookup f_Committee_is_quorum = some ⟨oc_Committee_is_quorum, od_Committee_is_quorum, .func (PySem.W.fnOf "is_quorum" "Committee.is_quorum" (defArgs s_Committee_is_quorum) (defBody s_Committee_is_quorum) (defScope s_Committee_is_quorum) .none kV_Committee_is_quorum dc_Committee_is_quorum pm_Committee_is_quorum an_Committee_is_quorum cd_Committee_is_quorum ct_Committee_is_quorum), sl_Committee_is_quorum⟩)
    (q_Committee_is_quorum : PySem.W.codeIn K cd_Committee_is_quorum "Committee.is_quorum" = true)
    (k_Committee_is_quorum : PySem.W.keepIn K (.ref f_Committee_is_quorum) = true)
    (a_votes_by_turn : PySem.W.nsIn K mainGlobals "votes_by_turn" = some (some (.ref f_votes_by_turn)))
    (l_votes_by_turn : K.lookup f_votes_by_turn = some ⟨oc_votes_by_turn, od_votes_by_turn, .func (PySem.W.fnOf "votes_by_turn" "votes_by_turn" (defArgs s_votes_by_turn) (defBody s_votes_by_turn) (defScope s_votes_by_turn) .none kV_votes_by_turn dc_votes_by_turn pm_votes_by_turn an_votes_by_turn cd_votes_by_turn ct_votes_by_turn), sl_votes_by_turn⟩)
    (q_votes_by_turn : PySem.W.codeIn K cd_votes_by_turn "votes_by_turn" = true)
    (k_votes_by_turn : PySem.W.keepIn K (.ref f_votes_by_turn) = true)
    (a_counts : PySem.W.nsIn K mainGlobals "counts" = some (some (.ref f_counts)))
    (l_counts : K.lookup f_counts = some ⟨oc_counts, od_counts, .func (PySem.W.fnOf "counts" "counts" (defArgs s_counts) (defBody s_counts) (defScope s_counts) .none kV_counts dc_counts pm_counts an_counts cd_counts ct_counts), sl_counts⟩)
    (q_counts : PySem.W.codeIn K cd_counts "counts" = true)
    (k_counts : PySem.W.keepIn K (.ref f_counts) = true)
    (a_certified_turns : PySem.W.nsIn K mainGlobals "certified_turns" = some (some (.ref f_certified_turns)))
    (l_certified_turns : K.lookup f_certified_turns = some ⟨oc_certified_turns, od_certified_turns, .func (PySem.W.fnOf "certified_turns" "certified_turns" (defArgs s_certified_turns) (defBody s_certified_turns) (defScope s_certified_turns) .none kV_certified_turns dc_certified_turns pm_certified_turns an_certified_turns cd_certified_turns ct_certified_turns), sl_certified_turns⟩)
    (q_certified_turns : PySem.W.codeIn K cd_certified_turns "certified_turns" = true)
    (k_certified_turns : PySem.W.keepIn K (.ref f_certified_turns) = true)
    (a_committed_turns : PySem.W.nsIn K mainGlobals "committed_turns" = some (some (.ref f_committed_turns)))
    (l_committed_turns : K.lookup f_committed_turns = some ⟨oc_committed_turns, od_committed_turns, .func (PySem.W.fnOf "committed_turns" "committed_turns" (defArgs s_committed_turns) (defBody s_committed_turns) (defScope s_committed_turns) .none kV_committed_turns dc_committed_turns pm_committed_turns an_committed_turns cd_committed_turns ct_committed_turns), sl_committed_turns⟩)
    (q_committed_turns : PySem.W.codeIn K cd_committed_turns "committed_turns" = true)
    (k_committed_turns : PySem.W.keepIn K (.ref f_committed_turns) = true)
    (a_shown_turn : PySem.W.nsIn K mainGlobals "shown_turn" = some (some (.ref f_shown_turn)))
    (l_shown_turn : K.lookup f_shown_turn = some ⟨oc_shown_turn, od_shown_turn, .func (PySem.W.fnOf "shown_turn" "shown_turn" (defArgs s_shown_turn) (defBody s_shown_turn) (defScope s_shown_turn) .none kV_shown_turn dc_shown_turn pm_shown_turn an_shown_turn cd_shown_turn ct_shown_turn), sl_shown_turn⟩)
    (q_shown_turn : PySem.W.codeIn K cd_shown_turn "shown_turn" = true)
    (k_shown_turn : PySem.W.keepIn K (.ref f_shown_turn) = true)
    (a_shows : PySem.W.nsIn K mainGlobals "shows" = some (some (.ref f_shows)))
    (l_shows : K.lookup f_shows = some ⟨oc_shows, od_shows, .func (PySem.W.fnOf "shows" "shows" (defArgs s_shows) (defBody s_shows) (defScope s_shows) .none kV_shows dc_shows pm_shows an_shows cd_shows ct_shows), sl_shows⟩)
    (q_shows : PySem.W.codeIn K cd_shows "shows" = true)
    (k_shows : PySem.W.keepIn K (.ref f_shows) = true)
    (a_law_cell : PySem.W.nsIn K mainGlobals "_law_cell" = some (some (.ref f_law_cell)))
    (l_law_cell : K.lookup f_law_cell = some ⟨oc_law_cell, od_law_cell, .func (PySem.W.fnOf "_law_cell" "_law_cell" (defArgs s_law_cell) (defBody s_law_cell) (defScope s_law_cell) .none kV_law_cell dc_law_cell pm_law_cell an_law_cell cd_law_cell ct_law_cell), sl_law_cell⟩)
    (q_law_cell : PySem.W.codeIn K cd_law_cell "_law_cell" = true)
    (k_law_cell : PySem.W.keepIn K (.ref f_law_cell) = true)
    (a_law_row : PySem.W.nsIn K mainGlobals "_law_row" = some (some (.ref f_law_row)))
    (l_law_row : K.lookup f_law_row = some ⟨oc_law_row, od_law_row, .func (PySem.W.fnOf "_law_row" "_law_row" (defArgs s_law_row) (defBody s_law_row) (defScope s_law_row) .none kV_law_row dc_law_row pm_law_row an_law_row cd_law_row ct_law_row), sl_law_row⟩)
    (q_law_row : PySem.W.codeIn K cd_law_row "_law_row" = true)
    (k_law_row : PySem.W.keepIn K (.ref f_law_row) = true)
    (a_law_weights : PySem.W.nsIn K mainGlobals "_law_weights" = some (some (.ref f_law_weights)))
    (l_law_weights : K.lookup f_law_weights = some ⟨oc_law_weights, od_law_weights, .func (PySem.W.fnOf "_law_weights" "_law_weights" (defArgs s_law_weights) (defBody s_law_weights) (defScope s_law_weights) .none kV_law_weights dc_law_weights pm_law_weights an_law_weights cd_law_weights ct_law_weights), sl_law_weights⟩)
    (q_law_weights : PySem.W.codeIn K cd_law_weights "_law_weights" = true)
    (k_law_weights : PySem.W.keepIn K (.ref f_law_weights) = true)
    (a_law_entry : PySem.W.nsIn K mainGlobals "_law_entry" = some (some (.ref f_law_entry)))
    (l_law_entry : K.lookup f_law_entry = some ⟨oc_law_entry, od_law_entry, .func (PySem.W.fnOf "_law_entry" "_law_entry" (defArgs s_law_entry) (defBody s_law_entry) (defScope s_law_entry) .none kV_law_entry dc_law_entry pm_law_entry an_law_entry cd_law_entry ct_law_entry), sl_law_entry⟩)
    (q_law_entry : PySem.W.codeIn K cd_law_entry "_law_entry" = true)
    (k_law_entry : PySem.W.keepIn K (.ref f_law_entry) = true)
    (a_Reader_init : PySem.W.findIn K (.ref C_Reader) "__init__" = some (some (.ref f_Reader_init)))
    (i_Reader_init : PySem.W.isFn K (.ref f_Reader_init) = true)
    (l_Reader_init : K.lookup f_Reader_init = some ⟨oc_Reader_init, od_Reader_init, .func (PySem.W.fnOf "__init__" "Reader.__init__" (defArgs s_Reader_init) (defBody s_Reader_init) (defScope s_Reader_init) .none kV_Reader_init dc_Reader_init pm_Reader_init an_Reader_init cd_Reader_init ct_Reader_init), sl_Reader_init⟩)
    (q_Reader_init : PySem.W.codeIn K cd_Reader_init "Reader.__init__" = true)
    (k_Reader_init : PySem.W.keepIn K (.ref f_Reader_init) = true)
    (a_Reader_read_signs : PySem.W.findIn K (.ref C_Reader) "read_signs" = some (some (.ref f_Reader_read_signs)))
    (i_Reader_read_signs : PySem.W.isFn K (.ref f_Reader_read_signs) = true)
    (l_Reader_read_signs : K.lookup f_Reader_read_signs = some ⟨oc_Reader_read_signs, od_Reader_read_signs, .func (PySem.W.fnOf "read_signs" "Reader.read_signs" (defArgs s_Reader_read_signs) (defBody s_Reader_read_signs) (defScope s_Reader_read_signs) .none kV_Reader_read_signs dc_Reader_read_signs pm_Reader_read_signs an_Reader_read_signs cd_Reader_read_signs ct_Reader_read_signs), sl_Reader_read_signs⟩)
    (q_Reader_read_signs : PySem.W.codeIn K cd_Reader_read_signs "Reader.read_signs" = true)
    (k_Reader_read_signs : PySem.W.keepIn K (.ref f_Reader_read_signs) = true)
    (a_Reader_skip : PySem.W.findIn K (.ref C_Reader) "skip" = some (some (.ref f_Reader_skip)))
    (i_Reader_skip : PySem.W.isFn K (.ref f_Reader_skip) = true)
    (l_Reader_skip : K.lookup f_Reader_skip = some ⟨oc_Reader_skip, od_Reader_skip, .func (PySem.W.fnOf "skip" "Reader.skip" (defArgs s_Reader_skip) (defBody s_Reader_skip) (defScope s_Reader_skip) .none kV_Reader_skip dc_Reader_skip pm_Reader_skip an_Reader_skip cd_Reader_skip ct_Reader_skip), sl_Reader_skip⟩)
    (q_Reader_skip : PySem.W.codeIn K cd_Reader_skip "Reader.skip" = true)
    (k_Reader_skip : PySem.W.keepIn K (.ref f_Reader_skip) = true)
    (a_Reader_read_number : PySem.W.findIn K (.ref C_Reader) "read_number" = some (some (.ref f_Reader_read_number)))
    (i_Reader_read_number : PySem.W.isFn K (.ref f_Reader_read_number) = true)
    (l_Reader_read_number : K.lookup f_Reader_read_number = some ⟨oc_Reader_read_number, od_Reader_read_number, .func (PySem.W.fnOf "read_number" "Reader.read_number" (defArgs s_Reader_read_number) (defBody s_Reader_read_number) (defScope s_Reader_read_number) .none kV_Reader_read_number dc_Reader_read_number pm_Reader_read_number an_Reader_read_number cd_Reader_read_number ct_Reader_read_number), sl_Reader_read_number⟩)
    (q_Reader_read_number : PySem.W.codeIn K cd_Reader_read_number "Reader.read_number" = true)
    (k_Reader_read_number : PySem.W.keepIn K (.ref f_Reader_read_number) = true)
    (a_Reader_read_code : PySem.W.findIn K (.ref C_Reader) "read_code" = some (some (.ref f_Reader_read_code)))
    (i_Reader_read_code : PySem.W.isFn K (.ref f_Reader_read_code) = true)
    (l_Reader_read_code : K.lookup f_Reader_read_code = some ⟨oc_Reader_read_code, od_Reader_read_code, .func (PySem.W.fnOf "read_code" "Reader.read_code" (defArgs s_Reader_read_code) (defBody s_Reader_read_code) (defScope s_Reader_read_code) .none kV_Reader_read_code dc_Reader_read_code pm_Reader_read_code an_Reader_read_code cd_Reader_read_code ct_Reader_read_code), sl_Reader_read_code⟩)
    (q_Reader_read_code : PySem.W.codeIn K cd_Reader_read_code "Reader.read_code" = true)
    (k_Reader_read_code : PySem.W.keepIn K (.ref f_Reader_read_code) = true)
    (a_Reader_read_command : PySem.W.findIn K (.ref C_Reader) "read_command" = some (some (.ref f_Reader_read_command)))
    (i_Reader_read_command : PySem.W.isFn K (.ref f_Reader_read_command) = true)
    (l_Reader_read_command : K.lookup f_Reader_read_command = some ⟨oc_Reader_read_command, od_Reader_read_command, .func (PySem.W.fnOf "read_command" "Reader.read_command" (defArgs s_Reader_read_command) (defBody s_Reader_read_command) (defScope s_Reader_read_command) .none kV_Reader_read_command dc_Reader_read_command pm_Reader_read_command an_Reader_read_command cd_Reader_read_command ct_Reader_read_command), sl_Reader_read_command⟩)
    (q_Reader_read_command : PySem.W.codeIn K cd_Reader_read_command "Reader.read_command" = true)
    (k_Reader_read_command : PySem.W.keepIn K (.ref f_Reader_read_command) = true)
    (a_commands_of : PySem.W.nsIn K mainGlobals "commands_of" = some (some (.ref f_commands_of)))
    (l_commands_of : K.lookup f_commands_of = some ⟨oc_commands_of, od_commands_of, .func (PySem.W.fnOf "commands_of" "commands_of" (defArgs s_commands_of) (defBody s_commands_of) (defScope s_commands_of) .none kV_commands_of dc_commands_of pm_commands_of an_commands_of cd_commands_of ct_commands_of), sl_commands_of⟩)
    (q_commands_of : PySem.W.codeIn K cd_commands_of "commands_of" = true)
    (k_commands_of : PySem.W.keepIn K (.ref f_commands_of) = true)
    (a_Ledger_init : PySem.W.findIn K (.ref C_Ledger) "__init__" = some (some (.ref f_Ledger_init)))
    (i_Ledger_init : PySem.W.isFn K (.ref f_Ledger_init) = true)
    (l_Ledger_init : K.lookup f_Ledger_init = some ⟨oc_Ledger_init, od_Ledger_init, .func (PySem.W.fnOf "__init__" "Ledger.__init__" (defArgs s_Ledger_init) (defBody s_Ledger_init) (defScope s_Ledger_init) .none kV_Ledger_init dc_Ledger_init pm_Ledger_init an_Ledger_init cd_Ledger_init ct_Ledger_init), sl_Ledger_init⟩)
    (q_Ledger_init : PySem.W.codeIn K cd_Ledger_init "Ledger.__init__" = true)
    (k_Ledger_init : PySem.W.keepIn K (.ref f_Ledger_init) = true)
    (a_first_ledger : PySem.W.nsIn K mainGlobals "first_ledger" = some (some (.ref f_first_ledger)))
    (l_first_ledger : K.lookup f_first_ledger = some ⟨oc_first_ledger, od_first_ledger, .func (PySem.W.fnOf "first_ledger" "first_ledger" (defArgs s_first_ledger) (defBody s_first_ledger) (defScope s_first_ledger) .none kV_first_ledger dc_first_ledger pm_first_ledger an_first_ledger cd_first_ledger ct_first_ledger), sl_first_ledger⟩)
    (q_first_ledger : PySem.W.codeIn K cd_first_ledger "first_ledger" = true)
    (k_first_ledger : PySem.W.keepIn K (.ref f_first_ledger) = true)
    (a_Chain_init : PySem.W.findIn K (.ref C_Chain) "__init__" = some (some (.ref f_Chain_init)))
    (i_Chain_init : PySem.W.isFn K (.ref f_Chain_init) = true)
    (l_Chain_init : K.lookup f_Chain_init = some ⟨oc_Chain_init, od_Chain_init, .func (PySem.W.fnOf "__init__" "Chain.__init__" (defArgs s_Chain_init) (defBody s_Chain_init) (defScope s_Chain_init) .none kV_Chain_init dc_Chain_init pm_Chain_init an_Chain_init cd_Chain_init ct_Chain_init), sl_Chain_init⟩)
    (q_Chain_init : PySem.W.codeIn K cd_Chain_init "Chain.__init__" = true)
    (k_Chain_init : PySem.W.keepIn K (.ref f_Chain_init) = true)
    (a_Chain_height : PySem.W.findIn K (.ref C_Chain) "height" = some (some (.ref f_Chain_height)))
    (i_Chain_height : PySem.W.isFn K (.ref f_Chain_height) = true)
    (l_Chain_height : K.lookup f_Chain_height = some ⟨oc_Chain_height, od_Chain_height, .func (PySem.W.fnOf "height" "Chain.height" (defArgs s_Chain_height) (defBody s_Chain_height) (defScope s_Chain_height) .none kV_Chain_height dc_Chain_height pm_Chain_height an_Chain_height cd_Chain_height ct_Chain_height), sl_Chain_height⟩)
    (q_Chain_height : PySem.W.codeIn K cd_Chain_height "Chain.height" = true)
    (k_Chain_height : PySem.W.keepIn K (.ref f_Chain_height) = true)
    (a_Chain_committee : PySem.W.findIn K (.ref C_Chain) "committee" = some (some (.ref f_Chain_committee)))
    (i_Chain_committee : PySem.W.isFn K (.ref f_Chain_committee) = true)
    (l_Chain_committee : K.lookup f_Chain_committee = some ⟨oc_Chain_committee, od_Chain_committee, .func (PySem.W.fnOf "committee" "Chain.committee" (defArgs s_Chain_committee) (defBody s_Chain_committee) (defScope s_Chain_committee) .none kV_Chain_committee dc_Chain_committee pm_Chain_committee an_Chain_committee cd_Chain_committee ct_Chain_committee), sl_Chain_committee⟩)
    (q_Chain_committee : PySem.W.codeIn K cd_Chain_committee "Chain.committee" = true)
    (k_Chain_committee : PySem.W.keepIn K (.ref f_Chain_committee) = true)
    (a_Chain_extend : PySem.W.findIn K (.ref C_Chain) "extend" = some (some (.ref f_Chain_extend)))
    (i_Chain_extend : PySem.W.isFn K (.ref f_Chain_extend) = true)
    (l_Chain_extend : K.lookup f_Chain_extend = some ⟨oc_Chain_extend, od_Chain_extend, .func (PySem.W.fnOf "extend" "Chain.extend" (defArgs s_Chain_extend) (defBody s_Chain_extend) (defScope s_Chain_extend) .none kV_Chain_extend dc_Chain_extend pm_Chain_extend an_Chain_extend cd_Chain_extend ct_Chain_extend), sl_Chain_extend⟩)
    (q_Chain_extend : PySem.W.codeIn K cd_Chain_extend "Chain.extend" = true)
    (k_Chain_extend : PySem.W.keepIn K (.ref f_Chain_extend) = true)
    (a_after_weight : PySem.W.nsIn K mainGlobals "_after_weight" = some (some (.ref f_after_weight)))
    (l_after_weight : K.lookup f_after_weight = some ⟨oc_after_weight, od_after_weight, .func (PySem.W.fnOf "_after_weight" "_after_weight" (defArgs s_after_weight) (defBody s_after_weight) (defScope s_after_weight) .none kV_after_weight dc_after_weight pm_after_weight an_after_weight cd_after_weight ct_after_weight), sl_after_weight⟩)
    (q_after_weight : PySem.W.codeIn K cd_after_weight "_after_weight" = true)
    (k_after_weight : PySem.W.keepIn K (.ref f_after_weight) = true)
    (a_Client_init : PySem.W.findIn K (.ref C_Client) "__init__" = some (some (.ref f_Client_init)))
    (i_Client_init : PySem.W.isFn K (.ref f_Client_init) = true)
    (l_Client_init : K.lookup f_Client_init = some ⟨oc_Client_init, od_Client_init, .func (PySem.W.fnOf "__init__" "Client.__init__" (defArgs s_Client_init) (defBody s_Client_init) (defScope s_Client_init) .none kV_Client_init dc_Client_init pm_Client_init an_Client_init cd_Client_init ct_Client_init), sl_Client_init⟩)
    (q_Client_init : PySem.W.codeIn K cd_Client_init "Client.__init__" = true)
    (k_Client_init : PySem.W.keepIn K (.ref f_Client_init) = true)
    (a_Client_follow : PySem.W.findIn K (.ref C_Client) "follow" = some (some (.ref f_Client_follow)))
    (i_Client_follow : PySem.W.isFn K (.ref f_Client_follow) = true)
    (l_Client_follow : K.lookup f_Client_follow = some ⟨oc_Client_follow, od_Client_follow, .func (PySem.W.fnOf "follow" "Client.follow" (defArgs s_Client_follow) (defBody s_Client_follow) (defScope s_Client_follow) .none kV_Client_follow dc_Client_follow pm_Client_follow an_Client_follow cd_Client_follow ct_Client_follow), sl_Client_follow⟩)
    (q_Client_follow : PySem.W.codeIn K cd_Client_follow "Client.follow" = true)
    (k_Client_follow : PySem.W.keepIn K (.ref f_Client_follow) = true)
    (a_read_head : PySem.W.nsIn K mainGlobals "_read_head" = some (some (.ref f_read_head)))
    (l_read_head : K.lookup f_read_head = some ⟨oc_read_head, od_read_head, .func (PySem.W.fnOf "_read_head" "_read_head" (defArgs s_read_head) (defBody s_read_head) (defScope s_read_head) .none kV_read_head dc_read_head pm_read_head an_read_head cd_read_head ct_read_head), sl_read_head⟩)
    (q_read_head : PySem.W.codeIn K cd_read_head "_read_head" = true)
    (k_read_head : PySem.W.keepIn K (.ref f_read_head) = true)
    (a_archive_lines : PySem.W.nsIn K mainGlobals "archive_lines" = some (some (.ref f_archive_lines)))
    (l_archive_lines : K.lookup f_archive_lines = some ⟨oc_archive_lines, od_archive_lines, .func (PySem.W.fnOf "archive_lines" "archive_lines" (defArgs s_archive_lines) (defBody s_archive_lines) (defScope s_archive_lines) .none kV_archive_lines dc_archive_lines pm_archive_lines an_archive_lines cd_archive_lines ct_archive_lines), sl_archive_lines⟩)
    (q_archive_lines : PySem.W.codeIn K cd_archive_lines "archive_lines" = true)
    (k_archive_lines : PySem.W.keepIn K (.ref f_archive_lines) = true)
    (a_refuse_before_end : PySem.W.nsIn K mainGlobals "_refuse_before_end" = some (some (.ref f_refuse_before_end)))
    (l_refuse_before_end : K.lookup f_refuse_before_end = some ⟨oc_refuse_before_end, od_refuse_before_end, .func (PySem.W.fnOf "_refuse_before_end" "_refuse_before_end" (defArgs s_refuse_before_end) (defBody s_refuse_before_end) (defScope s_refuse_before_end) .none kV_refuse_before_end dc_refuse_before_end pm_refuse_before_end an_refuse_before_end cd_refuse_before_end ct_refuse_before_end), sl_refuse_before_end⟩)
    (q_refuse_before_end : PySem.W.codeIn K cd_refuse_before_end "_refuse_before_end" = true)
    (k_refuse_before_end : PySem.W.keepIn K (.ref f_refuse_before_end) = true)
    (a_entry_at : PySem.W.nsIn K mainGlobals "_entry_at" = some (some (.ref f_entry_at)))
    (l_entry_at : K.lookup f_entry_at = some ⟨oc_entry_at, od_entry_at, .func (PySem.W.fnOf "_entry_at" "_entry_at" (defArgs s_entry_at) (defBody s_entry_at) (defScope s_entry_at) .none kV_entry_at dc_entry_at pm_entry_at an_entry_at cd_entry_at ct_entry_at), sl_entry_at⟩)
    (q_entry_at : PySem.W.codeIn K cd_entry_at "_entry_at" = true)
    (k_entry_at : PySem.W.keepIn K (.ref f_entry_at) = true)
    (a_read_archive : PySem.W.nsIn K mainGlobals "read_archive" = some (some (.ref f_read_archive)))
    (l_read_archive : K.lookup f_read_archive = some ⟨oc_read_archive, od_read_archive, .func (PySem.W.fnOf "read_archive" "read_archive" (defArgs s_read_archive) (defBody s_read_archive) (defScope s_read_archive) .none kV_read_archive dc_read_archive pm_read_archive an_read_archive cd_read_archive ct_read_archive), sl_read_archive⟩)
    (q_read_archive : PySem.W.codeIn K cd_read_archive "read_archive" = true)
    (k_read_archive : PySem.W.keepIn K (.ref f_read_archive) = true)
    (a_law : PySem.W.nsIn K mainGlobals "law" = some (some (.ref f_law)))
    (l_law : K.lookup f_law = some ⟨oc_law, od_law, .func (PySem.W.fnOf "law" "law" (defArgs s_law) (defBody s_law) (defScope s_law) .none kV_law dc_law pm_law an_law cd_law ct_law), sl_law⟩)
    (q_law : PySem.W.codeIn K cd_law "law" = true)
    (k_law : PySem.W.keepIn K (.ref f_law) = true)
    (pg_Reader : PySem.W.plainGet K C_Reader Str.empty = true)
    (hd_Reader : PySem.W.hasDictIn K C_Reader = true)
    (po_Reader : PySem.W.plainOver K C_Reader = true)
    (sa_Reader : PySem.W.findIn K (.ref C_Reader) "__setattr__" = some (some (.builtin "object.__setattr__")))
    (mk_Reader : PySem.W.makesIn K C_Reader = true)
    (kc_Reader : PySem.W.keepIn K (.ref C_Reader) = true)
    (no_Reader_text : PySem.W.findIn K (.ref C_Reader) "text" = some none)
    (no_Reader_at : PySem.W.findIn K (.ref C_Reader) "at" = some none)
    (pg_Committee : PySem.W.plainGet K C_Committee Str.empty = true)
    (hd_Committee : PySem.W.hasDictIn K C_Committee = true)
    (po_Committee : PySem.W.plainOver K C_Committee = true)
    (sa_Committee : PySem.W.findIn K (.ref C_Committee) "__setattr__" = some (some (.builtin "object.__setattr__")))
    (mk_Committee : PySem.W.makesIn K C_Committee = true)
    (kc_Committee : PySem.W.keepIn K (.ref C_Committee) = true)
    (no_Committee_weights : PySem.W.findIn K (.ref C_Committee) "weights" = some none)
    (no_Committee_size : PySem.W.findIn K (.ref C_Committee) "size" = some none)
    (no_Committee_total : PySem.W.findIn K (.ref C_Committee) "total" = some none)
    (pg_Ledger : PySem.W.plainGet K C_Ledger Str.empty = true)
    (hd_Ledger : PySem.W.hasDictIn K C_Ledger = true)
    (po_Ledger : PySem.W.plainOver K C_Ledger = true)
    (sa_Ledger : PySem.W.findIn K (.ref C_Ledger) "__setattr__" = some (some (.builtin "object.__setattr__")))
    (mk_Ledger : PySem.W.makesIn K C_Ledger = true)
    (kc_Ledger : PySem.W.keepIn K (.ref C_Ledger) = true)
    (no_Ledger_balances : PySem.W.findIn K (.ref C_Ledger) "balances" = some none)
    (no_Ledger_codes : PySem.W.findIn K (.ref C_Ledger) "codes" = some none)
    (no_Ledger_stores : PySem.W.findIn K (.ref C_Ledger) "stores" = some none)
    (pg_Chain : PySem.W.plainGet K C_Chain Str.empty = true)
    (hd_Chain : PySem.W.hasDictIn K C_Chain = true)
    (po_Chain : PySem.W.plainOver K C_Chain = true)
    (sa_Chain : PySem.W.findIn K (.ref C_Chain) "__setattr__" = some (some (.builtin "object.__setattr__")))
    (mk_Chain : PySem.W.makesIn K C_Chain = true)
    (kc_Chain : PySem.W.keepIn K (.ref C_Chain) = true)
    (no_Chain_blocks : PySem.W.findIn K (.ref C_Chain) "blocks" = some none)
    (no_Chain_receipts : PySem.W.findIn K (.ref C_Chain) "receipts" = some none)
    (no_Chain_committees : PySem.W.findIn K (.ref C_Chain) "committees" = some none)
    (no_Chain_ledgers : PySem.W.findIn K (.ref C_Chain) "ledgers" = some none)
    (pg_Client : PySem.W.plainGet K C_Client Str.empty = true)
    (hd_Client : PySem.W.hasDictIn K C_Client = true)
    (po_Client : PySem.W.plainOver K C_Client = true)
    (sa_Client : PySem.W.findIn K (.ref C_Client) "__setattr__" = some (some (.builtin "object.__setattr__")))
    (mk_Client : PySem.W.makesIn K C_Client = true)
    (kc_Client : PySem.W.keepIn K (.ref C_Client) = true)
    (no_Client_chain : PySem.W.findIn K (.ref C_Client) "chain" = some none)
    (g_MARKS : PySem.W.nsIn K mainGlobals "MARKS" = some (some (.ref P_MARKS)))
    (l_MARKS : K.lookup P_MARKS = some ⟨.type "dict", none, .dict #[⟨h_MARKS_p, .str "p" t_MARKS_p, .ref M_MARKS_p⟩, ⟨h_MARKS_w, .str "w" t_MARKS_w, .ref M_MARKS_w⟩, ⟨h_MARKS_d, .str "d" t_MARKS_d, .ref M_MARKS_d⟩, ⟨h_MARKS_k, .str "k" t_MARKS_k, .ref M_MARKS_k⟩] n_MARKS, #[]⟩)
    (kl_MARKS : PySem.W.KeysLit w.params [⟨h_MARKS_p, .str "p" t_MARKS_p, .ref M_MARKS_p⟩, ⟨h_MARKS_w, .str "w" t_MARKS_w, .ref M_MARKS_w⟩, ⟨h_MARKS_d, .str "d" t_MARKS_d, .ref M_MARKS_d⟩, ⟨h_MARKS_k, .str "k" t_MARKS_k, .ref M_MARKS_k⟩])
    (lo_MARKS : (P_MARKS == sysModules) = false)
    (l_MARKS_p : K.lookup M_MARKS_p = some ⟨.type "tuple", od_MARKS_p, .seq #[.str "p" t0_MARKS_p, .str "q" t1_MARKS_p, .str "r" t2_MARKS_p] n_MARKS_p, sl_MARKS_p⟩)
    (l_MARKS_w : K.lookup M_MARKS_w = some ⟨.type "tuple", od_MARKS_w, .seq #[.str "w" t0_MARKS_w, .str "x" t1_MARKS_w] n_MARKS_w, sl_MARKS_w⟩)
    (l_MARKS_d : K.lookup M_MARKS_d = some ⟨.type "tuple", od_MARKS_d, .seq #[.str "d" t0_MARKS_d, .str "z" t1_MARKS_d] n_MARKS_d, sl_MARKS_d⟩)
    (l_MARKS_k : K.lookup M_MARKS_k = some ⟨.type "tuple", od_MARKS_k, .seq #[.str "k" t0_MARKS_k, .str "b" t1_MARKS_k, .str "v" t2_MARKS_k] n_MARKS_k, sl_MARKS_k⟩)
    (g_BadCommand : PySem.W.nsIn K mainGlobals "BadCommand" = some (some (.ref C_BadCommand)))
    (x_BadCommand : PySem.W.excIn K C_BadCommand [.type "ValueError", .type "Exception", .type "BaseException", .type "object"] "ValueError.__new__" = true)
    (kc_BadCommand : PySem.W.keepIn K (.ref C_BadCommand) = true)
    (b_BadCommand : PySem.W.subIn K (.ref C_BadCommand) (.type "BaseException") = some true)
    (t_BadCommand : PySem.W.typeIn K (.ref C_BadCommand) = some (.type "type"))
    (xga_BadCommand : PySem.W.findIn K (.ref C_BadCommand) "__getattribute__" = some (some (.builtin "BaseException.__getattribute__")))
    (xgt_BadCommand : PySem.W.findIn K (.ref C_BadCommand) "__getattr__" = some none)
    (xhd_BadCommand : PySem.W.hasDictIn K C_BadCommand = true)
    (xcc_BadCommand : PySem.W.findIn K (.ref C_BadCommand) "__class__" = some (some (.builtin "object.__class__")))
    (xsp_BadCommand : PySem.W.specialIn K (.builtin "object.__class__") "__get__" = some (some (.builtin "getset_descriptor.__get__")))
    (xtk_BadCommand : PySem.W.takesIn K (.builtin "object.__class__") = some true)
    (xmo_BadCommand : PySem.W.mroIn K C_BadCommand (.type "object") = some true)
    (te1_BadCommand : PySem.W.subIn K (.ref C_BadCommand) (.type "BaseException") = some true)
    (te2_BadCommand : PySem.W.hasDictIn K C_BadCommand = true)
    (te3_BadCommand : PySem.W.typeIn K (.ref C_BadCommand) = some (.type "type"))
    (te4_BadCommand_BadCommand : PySem.W.subIn K (.ref C_BadCommand) (.ref C_BadCommand) = some true)
    (g_BadPaper : PySem.W.nsIn K mainGlobals "BadPaper" = some (some (.ref C_BadPaper)))
    (x_BadPaper : PySem.W.excIn K C_BadPaper [.type "ValueError", .type "Exception", .type "BaseException", .type "object"] "ValueError.__new__" = true)
    (kc_BadPaper : PySem.W.keepIn K (.ref C_BadPaper) = true)
    (b_BadPaper : PySem.W.subIn K (.ref C_BadPaper) (.type "BaseException") = some true)
    (t_BadPaper : PySem.W.typeIn K (.ref C_BadPaper) = some (.type "type"))
    (xga_BadPaper : PySem.W.findIn K (.ref C_BadPaper) "__getattribute__" = some (some (.builtin "BaseException.__getattribute__")))
    (xgt_BadPaper : PySem.W.findIn K (.ref C_BadPaper) "__getattr__" = some none)
    (xhd_BadPaper : PySem.W.hasDictIn K C_BadPaper = true)
    (xcc_BadPaper : PySem.W.findIn K (.ref C_BadPaper) "__class__" = some (some (.builtin "object.__class__")))
    (xsp_BadPaper : PySem.W.specialIn K (.builtin "object.__class__") "__get__" = some (some (.builtin "getset_descriptor.__get__")))
    (xtk_BadPaper : PySem.W.takesIn K (.builtin "object.__class__") = some true)
    (xmo_BadPaper : PySem.W.mroIn K C_BadPaper (.type "object") = some true)
    (kt_BadPaper_BadPaper : PySem.W.kitOne K (.ref C_BadPaper) (.ref C_BadPaper) = some true)
    (te1_BadPaper : PySem.W.subIn K (.ref C_BadPaper) (.type "BaseException") = some true)
    (te2_BadPaper : PySem.W.hasDictIn K C_BadPaper = true)
    (te3_BadPaper : PySem.W.typeIn K (.ref C_BadPaper) = some (.type "type"))
    (te4_BadPaper_BadPaper : PySem.W.subIn K (.ref C_BadPaper) (.ref C_BadPaper) = some true)
    (g_BadLine : PySem.W.nsIn K mainGlobals "BadLine" = some (some (.ref C_BadLine)))
    (lc_BadLine : K.lookup C_BadLine = some (excClassObj nm_BadLine q_BadLine C_BadLine N_BadLine bs_BadLine bm_BadLine true sn_BadLine sub_BadLine ab_BadLine col_BadLine dd_BadLine k0_BadLine k1_BadLine k2_BadLine k3_BadLine k5_BadLine "ValueError.__new__"))
    (rb_BadLine : PySem.HandSPX.refsVE bm_BadLine = true)
    (sa_BadLine : PySem.W.findIn K (.ref C_BadLine) "__setattr__" = some (some (.builtin "object.__setattr__")))
    (eb_BadLine : PySem.W.subIn K (.ref C_BadLine) (.type "BaseException") = some true)
    (ty_BadLine : PySem.W.typeIn K (.ref C_BadLine) = some (.type "type"))
    (kc_BadLine : PySem.W.keepIn K (.ref C_BadLine) = true)
    (a_BadLine_init : PySem.W.findIn K (.ref C_BadLine) "__init__" = some (some (.ref f_BadLine_init)))
    (tI_BadLine_init : PySem.W.typeIn K (.ref f_BadLine_init) = some (.type "function"))
    (l_BadLine_init : K.lookup f_BadLine_init = some ⟨oc_BadLine_init, od_BadLine_init, .func (PySem.W.ksFn "__init__" "BadLine.__init__" (defArgs s_BadLine_init) (defBody s_BadLine_init) (defScope s_BadLine_init) .none kV_BadLine_init dc_BadLine_init pm_BadLine_init an_BadLine_init (.ref cda_BadLine_init) ct_BadLine_init cc_BadLine_init), sl_BadLine_init⟩)
    (q_BadLine_init : PySem.W.codeIn K (.ref cda_BadLine_init) "BadLine.__init__" = true)
    (ce_BadLine_init : K.lookup cc_BadLine_init = some ⟨cl_BadLine_init, cld_BadLine_init, .cell (some (.ref C_BadLine)), csl_BadLine_init⟩)
    (co_BadLine_init : K.lookup cda_BadLine_init = some ⟨ccl_BadLine_init, cdd_BadLine_init, .fields vs_BadLine_init, ccs_BadLine_init⟩)
    (v2_BadLine_init : vs_BadLine_init[2]? = some (.str file_BadLine_init tf_BadLine_init))
    (fi_BadLine_init : ((l.prog.main.file : Str) == file_BadLine_init) = true)
    (su_BadLine : PySem.W.ks_superIn K C_BadLine C_BadLine "__init__" = some (some (.builtin "ValueError.__init__")))
    (op_BadLine : PySem.W.nsIn K cStatics "thirdparty.any" = some none)
    (sv_BadLine : PySem.W.subIn K (.ref C_BadLine) (.type "ValueError") = some true)
    (mc_BadLine : PySem.W.mroIn K C_BadLine (.ref C_BadLine) = some true)
    (nf_BadLine : PySem.W.findIn K (.ref C_BadLine) "at" = some none)
    (ts_BadLine : (l.prog.main.scope.names.lookup ("super" : Str)).isSome = false)
    (xga_BadLine : PySem.W.findIn K (.ref C_BadLine) "__getattribute__" = some (some (.builtin "BaseException.__getattribute__")))
    (xgt_BadLine : PySem.W.findIn K (.ref C_BadLine) "__getattr__" = some none)
    (xhd_BadLine : PySem.W.hasDictIn K C_BadLine = true)
    (xcc_BadLine : PySem.W.findIn K (.ref C_BadLine) "__class__" = some (some (.builtin "object.__class__")))
    (xsp_BadLine : PySem.W.specialIn K (.builtin "object.__class__") "__get__" = some (some (.builtin "getset_descriptor.__get__")))
    (xtk_BadLine : PySem.W.takesIn K (.builtin "object.__class__") = some true)
    (xmo_BadLine : PySem.W.mroIn K C_BadLine (.type "object") = some true)
    (g_BadArchive : PySem.W.nsIn K mainGlobals "BadArchive" = some (some (.ref C_BadArchive)))
    (lc_BadArchive : K.lookup C_BadArchive = some (excClassObj nm_BadArchive q_BadArchive C_BadArchive N_BadArchive bs_BadArchive bm_BadArchive true sn_BadArchive sub_BadArchive ab_BadArchive col_BadArchive dd_BadArchive k0_BadArchive k1_BadArchive k2_BadArchive k3_BadArchive k5_BadArchive "ValueError.__new__"))
    (rb_BadArchive : PySem.HandSPX.refsVE bm_BadArchive = true)
    (sa_BadArchive : PySem.W.findIn K (.ref C_BadArchive) "__setattr__" = some (some (.builtin "object.__setattr__")))
    (eb_BadArchive : PySem.W.subIn K (.ref C_BadArchive) (.type "BaseException") = some true)
    (ty_BadArchive : PySem.W.typeIn K (.ref C_BadArchive) = some (.type "type"))
    (kc_BadArchive : PySem.W.keepIn K (.ref C_BadArchive) = true)
    (a_BadArchive_init : PySem.W.findIn K (.ref C_BadArchive) "__init__" = some (some (.ref f_BadArchive_init)))
    (tI_BadArchive_init : PySem.W.typeIn K (.ref f_BadArchive_init) = some (.type "function"))
    (l_BadArchive_init : K.lookup f_BadArchive_init = some ⟨oc_BadArchive_init, od_BadArchive_init, .func (PySem.W.ksFn "__init__" "BadArchive.__init__" (defArgs s_BadArchive_init) (defBody s_BadArchive_init) (defScope s_BadArchive_init) .none kV_BadArchive_init dc_BadArchive_init pm_BadArchive_init an_BadArchive_init (.ref cda_BadArchive_init) ct_BadArchive_init cc_BadArchive_init), sl_BadArchive_init⟩)
    (q_BadArchive_init : PySem.W.codeIn K (.ref cda_BadArchive_init) "BadArchive.__init__" = true)
    (ce_BadArchive_init : K.lookup cc_BadArchive_init = some ⟨cl_BadArchive_init, cld_BadArchive_init, .cell (some (.ref C_BadArchive)), csl_BadArchive_init⟩)
    (co_BadArchive_init : K.lookup cda_BadArchive_init = some ⟨ccl_BadArchive_init, cdd_BadArchive_init, .fields vs_BadArchive_init, ccs_BadArchive_init⟩)
    (v2_BadArchive_init : vs_BadArchive_init[2]? = some (.str file_BadArchive_init tf_BadArchive_init))
    (fi_BadArchive_init : ((l.prog.main.file : Str) == file_BadArchive_init) = true)
    (su_BadArchive : PySem.W.ks_superIn K C_BadArchive C_BadArchive "__init__" = some (some (.builtin "ValueError.__init__")))
    (op_BadArchive : PySem.W.nsIn K cStatics "thirdparty.any" = some none)
    (sv_BadArchive : PySem.W.subIn K (.ref C_BadArchive) (.type "ValueError") = some true)
    (mc_BadArchive : PySem.W.mroIn K C_BadArchive (.ref C_BadArchive) = some true)
    (nf_BadArchive : PySem.W.findIn K (.ref C_BadArchive) "at" = some none)
    (ts_BadArchive : (l.prog.main.scope.names.lookup ("super" : Str)).isSome = false)
    (xga_BadArchive : PySem.W.findIn K (.ref C_BadArchive) "__getattribute__" = some (some (.builtin "BaseException.__getattribute__")))
    (xgt_BadArchive : PySem.W.findIn K (.ref C_BadArchive) "__getattr__" = some none)
    (xhd_BadArchive : PySem.W.hasDictIn K C_BadArchive = true)
    (xcc_BadArchive : PySem.W.findIn K (.ref C_BadArchive) "__class__" = some (some (.builtin "object.__class__")))
    (xsp_BadArchive : PySem.W.specialIn K (.builtin "object.__class__") "__get__" = some (some (.builtin "getset_descriptor.__get__")))
    (xtk_BadArchive : PySem.W.takesIn K (.builtin "object.__class__") = some true)
    (xmo_BadArchive : PySem.W.mroIn K C_BadArchive (.type "object") = some true)
    (g_KINDS : PySem.W.nsIn K mainGlobals "KINDS" = some (some (.ref P_KINDS)))
    (l_KINDS : K.lookup P_KINDS = some ⟨.type "tuple", od_KINDS, .seq #[.str "proposal" t0_KINDS, .str "prevote" t1_KINDS, .str "precommit" t2_KINDS] n_KINDS, sl_KINDS⟩)
    (te1_BadLine : PySem.W.subIn K (.ref C_BadLine) (.type "BaseException") = some true)
    (te2_BadLine : PySem.W.hasDictIn K C_BadLine = true)
    (te3_BadLine : PySem.W.typeIn K (.ref C_BadLine) = some (.type "type"))
    (te4_BadLine_BadLine : PySem.W.subIn K (.ref C_BadLine) (.ref C_BadLine) = some true)
    (g_TribunalError : PySem.W.nsIn K mainGlobals "TribunalError" = some (some (.ref C_TribunalError)))
    (te1_TribunalError : PySem.W.subIn K (.ref C_TribunalError) (.type "BaseException") = some true)
    (te2_TribunalError : PySem.W.hasDictIn K C_TribunalError = true)
    (te3_TribunalError : PySem.W.typeIn K (.ref C_TribunalError) = some (.type "type")) :
    ∃ fd : FuncData, (∀ (s : Shared) (v : Value), BindsTo s fd ⟨[v], []⟩ [("script", v)]) ∧ ∀ base : Heap, K.In base → base.Ns mainGlobals mg → FnOk l.prog w K mg base CX0 10 fa fd ["script"] (spLaw K) := by
  have e := hfa.symm.trans (PySem.W.mg_of X G a_law)
  cases e
  have T : Txt K mg ⟨C_Reader, C_Committee, C_Ledger, C_Chain, C_Client, f_prevote, f_precommit, f_is_number, f_is_block, f_word_at, f_number_at, f_kind_at, f_block_at, f_lean_at, f_end_at, f_read_letter, f_proposal, f_word, f_letter_line, f_first_wrong, f_Committee_init, f_Committee_weight_of, f_Committee_is_quorum, f_votes_by_turn, f_counts, f_certified_turns, f_committed_turns, f_shown_turn, f_shows, f_law_cell, f_law_row, f_law_weights, f_law_entry, f_Reader_init, f_Reader_read_signs, f_Reader_skip, f_Reader_read_number, f_Reader_read_code, f_Reader_read_command, f_commands_of, f_Ledger_init, f_first_ledger, f_Chain_init, f_Chain_height, f_Chain_committee, f_Chain_extend, f_after_weight, f_Client_init, f_Client_follow, f_read_head, f_archive_lines, f_refuse_before_end, f_entry_at, f_read_archive, P_MARKS, M_MARKS_p, M_MARKS_w, M_MARKS_d, M_MARKS_k, C_BadCommand, C_BadPaper, C_TribunalError, C_BadLine, f_BadLine_init, C_BadArchive, f_BadArchive_init, P_KINDS⟩ := {
    n_len := mg_no X G n_len
    n_range := mg_no X G n_range
    n_isinstance := mg_no X G n_isinstance
    n_int := mg_no X G n_int
    n_bool := mg_no X G n_bool
    n_list := mg_no X G n_list
    n_tuple := mg_no X G n_tuple
    n_str := mg_no X G n_str
    n_zip := mg_no X G n_zip
    n_enumerate := mg_no X G n_enumerate
    n_max := mg_no X G n_max
    n_abs := mg_no X G n_abs
    n_sum := mg_no X G n_sum
    n_set := mg_no X G n_set
    n_sorted := mg_no X G n_sorted
    n_min := mg_no X G n_min
    n_super := mg_no X G n_super
    n_ValueError := mg_no X G n_ValueError
    n_all := mg_no X G n_all
    c_SIGNS := ⟨_, PySem.W.mg_of X G c_SIGNS⟩
    c_DIGITS := ⟨_, PySem.W.mg_of X G c_DIGITS⟩
    c_CODE_END := ⟨_, PySem.W.mg_of X G c_CODE_END⟩
    c_MOST_DIGITS_wire := ⟨_, PySem.W.mg_of X G c_MOST_DIGITS_wire⟩
    c_MOST_DIGITS_commands := ⟨_, PySem.W.mg_of X G c_MOST_DIGITS_commands⟩
    c_MOST_SIGNS := ⟨_, PySem.W.mg_of X G c_MOST_SIGNS⟩
    c_LETTERS := ⟨_, PySem.W.mg_of X G c_LETTERS⟩
    c_BLOCK_SIGNS := ⟨_, PySem.W.mg_of X G c_BLOCK_SIGNS⟩
    c_NONE := ⟨_, PySem.W.mg_of X G c_NONE⟩
    c_HEAD := ⟨_, PySem.W.mg_of X G c_HEAD⟩
    c_KIND := ⟨_, PySem.W.mg_of X G c_KIND⟩
    c_HEIGHT := ⟨_, PySem.W.mg_of X G c_HEIGHT⟩
    c_TURN := ⟨_, PySem.W.mg_of X G c_TURN⟩
    c_BLOCK := ⟨_, PySem.W.mg_of X G c_BLOCK⟩
    c_LEAN := ⟨_, PySem.W.mg_of X G c_LEAN⟩
    c_MOST_MEMBERS := ⟨_, PySem.W.mg_of X G c_MOST_MEMBERS⟩
    c_MOST_WEIGHT := ⟨_, PySem.W.mg_of X G c_MOST_WEIGHT⟩
    g_Reader := PySem.W.mg_of X G g_Reader
    cl_Reader := ⟨pg_Reader, hd_Reader, po_Reader, sa_Reader⟩
    kc_Reader := kc_Reader
    mk_Reader := mk_Reader
    a_Reader_text := no_Reader_text
    a_Reader_at := no_Reader_at
    g_Committee := PySem.W.mg_of X G g_Committee
    cl_Committee := ⟨pg_Committee, hd_Committee, po_Committee, sa_Committee⟩
    kc_Committee := kc_Committee
    mk_Committee := mk_Committee
    a_Committee_weights := no_Committee_weights
    a_Committee_size := no_Committee_size
    a_Committee_total := no_Committee_total
    g_Ledger := PySem.W.mg_of X G g_Ledger
    cl_Ledger := ⟨pg_Ledger, hd_Ledger, po_Ledger, sa_Ledger⟩
    kc_Ledger := kc_Ledger
    mk_Ledger := mk_Ledger
    a_Ledger_balances := no_Ledger_balances
    a_Ledger_codes := no_Ledger_codes
    a_Ledger_stores := no_Ledger_stores
    g_Chain := PySem.W.mg_of X G g_Chain
    cl_Chain := ⟨pg_Chain, hd_Chain, po_Chain, sa_Chain⟩
    kc_Chain := kc_Chain
    mk_Chain := mk_Chain
    a_Chain_blocks := no_Chain_blocks
    a_Chain_receipts := no_Chain_receipts
    a_Chain_committees := no_Chain_committees
    a_Chain_ledgers := no_Chain_ledgers
    g_Client := PySem.W.mg_of X G g_Client
    cl_Client := ⟨pg_Client, hd_Client, po_Client, sa_Client⟩
    kc_Client := kc_Client
    mk_Client := mk_Client
    a_Client_chain := no_Client_chain
    d_prevote := ⟨def_mk l_prevote q_prevote k_prevote (fun _ _ _ _ _ _ us hl => match us, hl with | [_, _, _, _], _ => rfl), PySem.W.mg_of X G a_prevote, k_prevote⟩
    d_precommit := ⟨def_mk l_precommit q_precommit k_precommit (fun _ _ _ _ _ _ us hl => match us, hl with | [_, _, _], _ => rfl), PySem.W.mg_of X G a_precommit, k_precommit⟩
    d_is_number := ⟨def_mk l_is_number q_is_number k_is_number (fun _ _ _ _ _ _ us hl => match us, hl with | [_], _ => rfl), PySem.W.mg_of X G a_is_number, k_is_number⟩
    d_is_block := ⟨def_mk l_is_block q_is_block k_is_block (fun _ _ _ _ _ _ us hl => match us, hl with | [_], _ => rfl), PySem.W.mg_of X G a_is_block, k_is_block⟩
    d_word_at := ⟨def_mk l_word_at q_word_at k_word_at (fun _ _ _ _ _ _ us hl => match us, hl with | [_, _], _ => rfl), PySem.W.mg_of X G a_word_at, k_word_at⟩
    d_number_at := ⟨def_mk l_number_at q_number_at k_number_at (fun _ _ _ _ _ _ us hl => match us, hl with | [_, _], _ => rfl), PySem.W.mg_of X G a_number_at, k_number_at⟩
    d_kind_at := ⟨def_mk l_kind_at q_kind_at k_kind_at (fun _ _ _ _ _ _ us hl => match us, hl with | [_, _], _ => rfl), PySem.W.mg_of X G a_kind_at, k_kind_at⟩
    d_block_at := ⟨def_mk l_block_at q_block_at k_block_at (fun _ _ _ _ _ _ us hl => match us, hl with | [_, _, _], _ => rfl), PySem.W.mg_of X G a_block_at, k_block_at⟩
    d_lean_at := ⟨def_mk l_lean_at q_lean_at k_lean_at (fun _ _ _ _ _ _ us hl => match us, hl with | [_, _, _], _ => rfl), PySem.W.mg_of X G a_lean_at, k_lean_at⟩
    d_end_at := ⟨def_mk l_end_at q_end_at k_end_at (fun _ _ _ _ _ _ us hl => match us, hl with | [_, _], _ => rfl), PySem.W.mg_of X G a_end_at, k_end_at⟩
    d_read_letter := ⟨def_mk l_read_letter q_read_letter k_read_letter (fun _ _ _ _ _ _ us hl => match us, hl with | [_], _ => rfl), PySem.W.mg_of X G a_read_letter, k_read_letter⟩
    d_proposal := ⟨def_mk l_proposal q_proposal k_proposal (fun _ _ _ _ _ _ us hl => match us, hl with | [_, _, _], _ => rfl), PySem.W.mg_of X G a_proposal, k_proposal⟩
    d_word := ⟨def_mk l_word q_word k_word (fun _ _ _ _ _ _ us hl => match us, hl with | [_], _ => rfl), PySem.W.mg_of X G a_word, k_word⟩
    d_letter_line := ⟨def_mk l_letter_line q_letter_line k_letter_line (fun _ _ _ _ _ _ us hl => match us, hl with | [_], _ => rfl), PySem.W.mg_of X G a_letter_line, k_letter_line⟩
    d_first_wrong := ⟨def_mk l_first_wrong q_first_wrong k_first_wrong (fun _ _ _ _ _ _ us hl => match us, hl with | [_], _ => rfl), PySem.W.mg_of X G a_first_wrong, k_first_wrong⟩
    d_Committee_init := ⟨def_mk l_Committee_init q_Committee_init k_Committee_init (fun _ _ _ _ _ _ us hl => match us, hl with | [_, _], _ => rfl), a_Committee_init, i_Committee_init, k_Committee_init⟩
    d_Committee_weight_of := ⟨def_mk l_Committee_weight_of q_Committee_weight_of k_Committee_weight_of (fun _ _ _ _ _ _ us hl => match us, hl with | [_, _], _ => rfl), a_Committee_weight_of, i_Committee_weight_of, k_Committee_weight_of⟩
    d_Committee_is_quorum := ⟨def_mk l_Committee_is_quorum q_Committee_is_quorum k_Committee_is_quorum (fun _ _ _ _ _ _ us hl => match us, hl with | [_, _], _ => rfl), a_Committee_is_quorum, i_Committee_is_quorum, k_Committee_is_quorum⟩
    d_votes_by_turn := ⟨def_mk l_votes_by_turn q_votes_by_turn k_votes_by_turn (fun _ _ _ _ _ _ us hl => match us, hl with | [_, _, _, _], _ => rfl), PySem.W.mg_of X G a_votes_by_turn, k_votes_by_turn⟩
    d_counts := ⟨def_mk l_counts q_counts k_counts (fun _ _ _ _ _ _ us hl => match us, hl with | [_, _], _ => rfl), PySem.W.mg_of X G a_counts, k_counts⟩
    d_certified_turns := ⟨def_mk l_certified_turns q_certified_turns k_certified_turns (fun _ _ _ _ _ _ us hl => match us, hl with | [_, _, _, _], _ => rfl), PySem.W.mg_of X G a_certified_turns, k_certified_turns⟩
    d_committed_turns := ⟨def_mk l_committed_turns q_committed_turns k_committed_turns (fun _ _ _ _ _ _ us hl => match us, hl with | [_, _, _, _], _ => rfl), PySem.W.mg_of X G a_committed_turns, k_committed_turns⟩
    d_shown_turn := ⟨def_mk l_shown_turn q_shown_turn k_shown_turn (fun _ _ _ _ _ _ us hl => match us, hl with | [_, _, _, _], _ => rfl), PySem.W.mg_of X G a_shown_turn, k_shown_turn⟩
    d_shows := ⟨def_mk l_shows q_shows k_shows (fun _ _ _ _ _ _ us hl => match us, hl with | [_, _, _, _], _ => rfl), PySem.W.mg_of X G a_shows, k_shows⟩
    d_law_cell := ⟨def_mk l_law_cell q_law_cell k_law_cell (fun _ _ _ _ _ _ us hl => match us, hl with | [_, _], _ => rfl), PySem.W.mg_of X G a_law_cell, k_law_cell⟩
    d_law_row := ⟨def_mk l_law_row q_law_row k_law_row (fun _ _ _ _ _ _ us hl => match us, hl with | [_, _, _], _ => rfl), PySem.W.mg_of X G a_law_row, k_law_row⟩
    d_law_weights := ⟨def_mk l_law_weights q_law_weights k_law_weights (fun _ _ _ _ _ _ us hl => match us, hl with | [_, _], _ => rfl), PySem.W.mg_of X G a_law_weights, k_law_weights⟩
    d_law_entry := ⟨def_mk l_law_entry q_law_entry k_law_entry (fun _ _ _ _ _ _ us hl => match us, hl with | [_, _, _], _ => rfl), PySem.W.mg_of X G a_law_entry, k_law_entry⟩
    d_Reader_init := ⟨def_mk l_Reader_init q_Reader_init k_Reader_init (fun _ _ _ _ _ _ us hl => match us, hl with | [_, _], _ => rfl), a_Reader_init, i_Reader_init, k_Reader_init⟩
    d_Reader_read_signs := ⟨def_mk l_Reader_read_signs q_Reader_read_signs k_Reader_read_signs (fun _ _ _ _ _ _ us hl => match us, hl with | [_, _], _ => rfl), a_Reader_read_signs, i_Reader_read_signs, k_Reader_read_signs⟩
    d_Reader_skip := ⟨def_mk l_Reader_skip q_Reader_skip k_Reader_skip (fun _ _ _ _ _ _ us hl => match us, hl with | [_, _], _ => rfl), a_Reader_skip, i_Reader_skip, k_Reader_skip⟩
    d_Reader_read_number := ⟨def_mk l_Reader_read_number q_Reader_read_number k_Reader_read_number (fun _ _ _ _ _ _ us hl => match us, hl with | [_], _ => rfl), a_Reader_read_number, i_Reader_read_number, k_Reader_read_number⟩
    d_Reader_read_code := ⟨def_mk l_Reader_read_code q_Reader_read_code k_Reader_read_code (fun _ _ _ _ _ _ us hl => match us, hl with | [_], _ => rfl), a_Reader_read_code, i_Reader_read_code, k_Reader_read_code⟩
    d_Reader_read_command := ⟨def_mk l_Reader_read_command q_Reader_read_command k_Reader_read_command (fun _ _ _ _ _ _ us hl => match us, hl with | [_], _ => rfl), a_Reader_read_command, i_Reader_read_command, k_Reader_read_command⟩
    d_commands_of := ⟨def_mk l_commands_of q_commands_of k_commands_of (fun _ _ _ _ _ _ us hl => match us, hl with | [_], _ => rfl), PySem.W.mg_of X G a_commands_of, k_commands_of⟩
    d_Ledger_init := ⟨def_mk l_Ledger_init q_Ledger_init k_Ledger_init (fun _ _ _ _ _ _ us hl => match us, hl with | [_, _, _, _], _ => rfl), a_Ledger_init, i_Ledger_init, k_Ledger_init⟩
    d_first_ledger := ⟨def_mk l_first_ledger q_first_ledger k_first_ledger (fun _ _ _ _ _ _ us hl => match us, hl with | [_], _ => rfl), PySem.W.mg_of X G a_first_ledger, k_first_ledger⟩
    d_Chain_init := ⟨def_mk l_Chain_init q_Chain_init k_Chain_init (fun _ _ _ _ _ _ us hl => match us, hl with | [_, _, _], _ => rfl), a_Chain_init, i_Chain_init, k_Chain_init⟩
    d_Chain_height := ⟨def_mk l_Chain_height q_Chain_height k_Chain_height (fun _ _ _ _ _ _ us hl => match us, hl with | [_], _ => rfl), a_Chain_height, i_Chain_height, k_Chain_height⟩
    d_Chain_committee := ⟨def_mk l_Chain_committee q_Chain_committee k_Chain_committee (fun _ _ _ _ _ _ us hl => match us, hl with | [_], _ => rfl), a_Chain_committee, i_Chain_committee, k_Chain_committee⟩
    d_Chain_extend := ⟨def_mk l_Chain_extend q_Chain_extend k_Chain_extend (fun _ _ _ _ _ _ us hl => match us, hl with | [_, _], _ => rfl), a_Chain_extend, i_Chain_extend, k_Chain_extend⟩
    d_after_weight := ⟨def_mk l_after_weight q_after_weight k_after_weight (fun _ _ _ _ _ _ us hl => match us, hl with | [_, _], _ => rfl), PySem.W.mg_of X G a_after_weight, k_after_weight⟩
    d_Client_init := ⟨def_mk l_Client_init q_Client_init k_Client_init (fun _ _ _ _ _ _ us hl => match us, hl with | [_, _, _], _ => rfl), a_Client_init, i_Client_init, k_Client_init⟩
    d_Client_follow := ⟨def_mk l_Client_follow q_Client_follow k_Client_follow (fun _ _ _ _ _ _ us hl => match us, hl with | [_, _, _], _ => rfl), a_Client_follow, i_Client_follow, k_Client_follow⟩
    d_read_head := ⟨def_mk l_read_head q_read_head k_read_head (fun _ _ _ _ _ _ us hl => match us, hl with | [_], _ => rfl), PySem.W.mg_of X G a_read_head, k_read_head⟩
    d_archive_lines := ⟨def_mk l_archive_lines q_archive_lines k_archive_lines (fun _ _ _ _ _ _ us hl => match us, hl with | [_, _], _ => rfl), PySem.W.mg_of X G a_archive_lines, k_archive_lines⟩
    d_refuse_before_end := ⟨def_mk l_refuse_before_end q_refuse_before_end k_refuse_before_end (fun _ _ _ _ _ _ us hl => match us, hl with | [_, _], _ => rfl), PySem.W.mg_of X G a_refuse_before_end, k_refuse_before_end⟩
    d_entry_at := ⟨def_mk l_entry_at q_entry_at k_entry_at (fun _ _ _ _ _ _ us hl => match us, hl with | [_, _], _ => rfl), PySem.W.mg_of X G a_entry_at, k_entry_at⟩
    d_read_archive := ⟨def_mk l_read_archive q_read_archive k_read_archive (fun _ _ _ _ _ _ us hl => match us, hl with | [_, _, _], _ => rfl), PySem.W.mg_of X G a_read_archive, k_read_archive⟩ }
  have TE : TxtE l.prog w K mg ⟨C_Reader, C_Committee, C_Ledger, C_Chain, C_Client, f_prevote, f_precommit, f_is_number, f_is_block, f_word_at, f_number_at, f_kind_at, f_block_at, f_lean_at, f_end_at, f_read_letter, f_proposal, f_word, f_letter_line, f_first_wrong, f_Committee_init, f_Committee_weight_of, f_Committee_is_quorum, f_votes_by_turn, f_counts, f_certified_turns, f_committed_turns, f_shown_turn, f_shows, f_law_cell, f_law_row, f_law_weights, f_law_entry, f_Reader_init, f_Reader_read_signs, f_Reader_skip, f_Reader_read_number, f_Reader_read_code, f_Reader_read_command, f_commands_of, f_Ledger_init, f_first_ledger, f_Chain_init, f_Chain_height, f_Chain_committee, f_Chain_extend, f_after_weight, f_Client_init, f_Client_follow, f_read_head, f_archive_lines, f_refuse_before_end, f_entry_at, f_read_archive, P_MARKS, M_MARKS_p, M_MARKS_w, M_MARKS_d, M_MARKS_k, C_BadCommand, C_BadPaper, C_TribunalError, C_BadLine, f_BadLine_init, C_BadArchive, f_BadArchive_init, P_KINDS⟩ := {
    g_MARKS := PySem.W.mg_of X G g_MARKS
    tab_MARKS := ktab_mk l_MARKS kl_MARKS lo_MARKS ⟨⟨_, rfl, rfl⟩, ⟨_, rfl, rfl⟩, ⟨_, rfl, rfl⟩, ⟨_, rfl, rfl⟩, trivial⟩
    s_MARKS_p := fun H => .inr ⟨_, _, _, l_MARKS_p, rfl, rfl, (by show 3 ≤ sizeLine; decide), (.cons ⟨_, rfl⟩ (.cons ⟨_, rfl⟩ (.cons ⟨_, rfl⟩ .nil)))⟩
    s_MARKS_w := fun H => .inr ⟨_, _, _, l_MARKS_w, rfl, rfl, (by show 2 ≤ sizeLine; decide), (.cons ⟨_, rfl⟩ (.cons ⟨_, rfl⟩ .nil))⟩
    s_MARKS_d := fun H => .inr ⟨_, _, _, l_MARKS_d, rfl, rfl, (by show 2 ≤ sizeLine; decide), (.cons ⟨_, rfl⟩ (.cons ⟨_, rfl⟩ .nil))⟩
    s_MARKS_k := fun H => .inr ⟨_, _, _, l_MARKS_k, rfl, rfl, (by show 3 ≤ sizeLine; decide), (.cons ⟨_, rfl⟩ (.cons ⟨_, rfl⟩ (.cons ⟨_, rfl⟩ .nil)))⟩
    g_BadCommand := PySem.W.mg_of X G g_BadCommand
    x_BadCommand := x_BadCommand
    kc_BadCommand := kc_BadCommand
    b_BadCommand := b_BadCommand
    t_BadCommand := t_BadCommand
    xc_BadCommand := ⟨(PySem.W.any_some xhd_BadCommand).elim fun cd h => by rw [h.1]; rfl, xga_BadCommand, xgt_BadCommand, b_BadCommand, xhd_BadCommand, xcc_BadCommand, xsp_BadCommand, xtk_BadCommand, xmo_BadCommand⟩
    exm_BadCommand_BadCommand := PySem.W.exm_ref te1_BadCommand te2_BadCommand te3_BadCommand te4_BadCommand_BadCommand
    g_BadPaper := PySem.W.mg_of X G g_BadPaper
    x_BadPaper := x_BadPaper
    kc_BadPaper := kc_BadPaper
    b_BadPaper := b_BadPaper
    t_BadPaper := t_BadPaper
    xc_BadPaper := ⟨(PySem.W.any_some xhd_BadPaper).elim fun cd h => by rw [h.1]; rfl, xga_BadPaper, xgt_BadPaper, b_BadPaper, xhd_BadPaper, xcc_BadPaper, xsp_BadPaper, xtk_BadPaper, xmo_BadPaper⟩
    kt_BadPaper_BadPaper := kt_BadPaper_BadPaper
    exm_BadPaper_BadPaper := PySem.W.exm_ref te1_BadPaper te2_BadPaper te3_BadPaper te4_BadPaper_BadPaper
    g_BadLine := PySem.W.mg_of X G g_BadLine
    sup_BadLine := ⟨_, { fn := ⟨_, _, _, _, _, _, _, _, _, _, _, _, _, _, _, _, _, _, _, rfl, l_BadLine_init, q_BadLine_init, ce_BadLine_init, co_BadLine_init, v2_BadLine_init, fi_BadLine_init⟩, oex := ⟨⟨_, _, _, _, _, _, _, _, _, _, _, _, _, _, _, lc_BadLine, rb_BadLine⟩, sa_BadLine, eb_BadLine, ty_BadLine, kc_BadLine⟩, sup := su_BadLine, opq := op_BadLine, subV := sv_BadLine, mroC := mc_BadLine, nof := nf_BadLine, topS := ts_BadLine }, .all fun us hl => match us, hl with | [_, _], _ => rfl⟩
    iC_BadLine := a_BadLine_init
    tI_BadLine := tI_BadLine_init
    oex_BadLine := ⟨⟨_, _, _, _, _, _, _, _, _, _, _, _, _, _, _, lc_BadLine, rb_BadLine⟩, sa_BadLine, eb_BadLine, ty_BadLine, kc_BadLine⟩
    xc_BadLine := ⟨by unfold PySem.W.clsIn; rw [lc_BadLine]; rfl, xga_BadLine, xgt_BadLine, eb_BadLine, xhd_BadLine, xcc_BadLine, xsp_BadLine, xtk_BadLine, xmo_BadLine⟩
    g_BadArchive := PySem.W.mg_of X G g_BadArchive
    sup_BadArchive := ⟨_, { fn := ⟨_, _, _, _, _, _, _, _, _, _, _, _, _, _, _, _, _, _, _, rfl, l_BadArchive_init, q_BadArchive_init, ce_BadArchive_init, co_BadArchive_init, v2_BadArchive_init, fi_BadArchive_init⟩, oex := ⟨⟨_, _, _, _, _, _, _, _, _, _, _, _, _, _, _, lc_BadArchive, rb_BadArchive⟩, sa_BadArchive, eb_BadArchive, ty_BadArchive, kc_BadArchive⟩, sup := su_BadArchive, opq := op_BadArchive, subV := sv_BadArchive, mroC := mc_BadArchive, nof := nf_BadArchive, topS := ts_BadArchive }, .all fun us hl => match us, hl with | [_, _], _ => rfl⟩
    iC_BadArchive := a_BadArchive_init
    tI_BadArchive := tI_BadArchive_init
    oex_BadArchive := ⟨⟨_, _, _, _, _, _, _, _, _, _, _, _, _, _, _, lc_BadArchive, rb_BadArchive⟩, sa_BadArchive, eb_BadArchive, ty_BadArchive, kc_BadArchive⟩
    xc_BadArchive := ⟨by unfold PySem.W.clsIn; rw [lc_BadArchive]; rfl, xga_BadArchive, xgt_BadArchive, eb_BadArchive, xhd_BadArchive, xcc_BadArchive, xsp_BadArchive, xtk_BadArchive, xmo_BadArchive⟩
    g_KINDS := PySem.W.mg_of X G g_KINDS
    s_KINDS := fun H => .inr ⟨_, _, _, l_KINDS, rfl, rfl, (by show 3 ≤ sizeLine; decide), (.cons ⟨_, rfl⟩ (.cons ⟨_, rfl⟩ (.cons ⟨_, rfl⟩ .nil)))⟩
    exm_BadLine_BadLine := PySem.W.exm_ref te1_BadLine te2_BadLine te3_BadLine te4_BadLine_BadLine
    g_TribunalError := PySem.W.mg_of X G g_TribunalError }
  have F5 := fun_mk (st := s_law) l_law q_law k_law
  exact ⟨PySem.W.fnOf "law" "law" (defArgs s_law) (defBody s_law) (defScope s_law) .none kV_law dc_law pm_law an_law cd_law ct_law, fun s v => .of_eq rfl, fun base _ _ => ok_law F5 TE T⟩
theorem walk {l : PySem.W.OpenLaw} {q : Program} {loose : List Str} {XP : (Str → Option Value) → Heap → Prop} {YP : World → Heap → Prop} {d : DefRec} {K : Params → PySem.W.Frag} (hn : l.most = some 63) (hdf : d.params.defaults = [])
    (hY : ∀ (w : World) (h : Heap), YP w h → (K w.params).In h)
    (F : ∀ (w : World) (mg : Str → Option Value) (fa : Addr) (h : Heap), (K w.params).In h → h.Ns mainGlobals mg → mg d.name = some (.ref fa) →
      ∃ fd : FuncData, (∀ (s : Shared) (u : Value), BindsTo s fd ⟨[u], []⟩ [("script", u)]) ∧ ∀ base : Heap, (K w.params).In base → base.Ns mainGlobals mg → FnOk l.prog w (K w.params) mg base CX0 10 fa fd ["script"] (spLaw (K w.params))) :
    PySem.W.WalkO q loose XP YP l.row.toRowW d [] (fun f vs => PySem.call f vs) :=
  L2.walk_of (n := 63) (k := 10) (x := "script") (CX := fun _ => CX0) (sp := fun w => spLaw (K w.params)) hn (by decide) hdf ⟨rfl, by decide, by decide⟩ hY F (fun _ _ a ns hl _ hS => ⟨a, ns, rfl, hS, hl, fun _ => rfl⟩) fun _ _ _ _ _ z => z
end Toy
namespace PySem.W.Fast
theorem tw10917309233558134046 : True := trivial
theorem tw5179512494915344060 : True := trivial
theorem tw6509193607717527431 : True := trivial
theorem tw1634125544847818386 : True := trivial
theorem tw6806304527875525834 : True := trivial
theorem tw65221629793257401 : True := trivial
theorem tw8394811439947909390 : True := trivial
theorem tw5467143006371997461 : True := trivial
theorem tw7355915064120914616 : True := trivial
theorem tw9275543860949971227 : True := trivial
theorem tw10730633804719132099 : True := trivial
theorem tw17521396024242430475 : True := trivial
theorem tw2521178476503715842 : True := trivial
theorem tw15382091683831806991 : True := trivial
theorem tw9911401405891173402 : True := trivial
theorem tw4162812942824090740 : True := trivial
theorem tw14562666018435631315 : True := trivial
theorem tw3333146762856655902 : True := trivial
theorem tw2110420951262539522 : True := trivial
theorem tw1458096174079778195 : True := trivial
theorem tw16826809179937538838 : True := trivial
theorem tw7451396663191037071 : True := trivial
theorem tw12242221140843134418 : True := trivial
theorem tw2190657254044388576 : True := trivial
theorem tw6671480249795707061 : True := trivial
theorem tw4521964314263136788 : True := trivial
theorem tw4679184197387176060 : True := trivial
theorem tw15247983330422589836 : True := trivial
theorem tw9021171013127327558 : True := trivial
theorem tw5055557775119008938 : True := trivial
theorem tw6771186242755424671 : True := trivial
theorem tw325485095714581978 : True := trivial
theorem tw15789611117076165212 : True := trivial
theorem tw4730356696168230149 : True := trivial
theorem tw5811865028212300883 : True := trivial
theorem tw16947494285087421789 : True := trivial
theorem tw3089721230851479427 : True := trivial
theorem tw2621225199752236020 : True := trivial
theorem tw1813606901207603284 : True := trivial
theorem tw4387127560926888855 : True := trivial
theorem tw14529818304352214290 : True := trivial
theorem tw8962946731913461228 : True := trivial
theorem tw8741839517328471354 : True := trivial
theorem tw7759488177453337025 : True := trivial
theorem tw7046356863554596716 : True := trivial
theorem tw7811742860780211949 : True := trivial
theorem tw356277723576458737 : True := trivial
theorem tw2221429654329378718 : True := trivial
theorem tw3443249359918314760 : True := trivial
theorem tw3070340637743942310 : True := trivial
theorem tw8190982757392656546 : True := trivial
theorem tw13112067143853220924 : True := trivial
theorem tw16809070949329636737 : True := trivial
theorem tw5938901563478053313 : True := trivial
theorem tw17140476690874941256 : True := trivial
theorem tw9718874043250814777 : True := trivial
theorem tw16037038828276698096 : True := trivial
theorem tw2999605036932318248 : True := trivial
theorem tw13517902767781674775 : True := trivial
theorem tw15434099121388518050 : True := trivial
theorem tw7033184389649986215 : True := trivial
theorem tw10310478227318008923 : True := trivial
theorem tw14571201524844016497 : True := trivial
theorem tw18066225125546259678 : True := trivial
theorem tw3224840049263294964 : True := trivial
theorem tw14973094861863326743 : True := trivial
theorem tw3240834862873795166 : True := trivial
theorem tw12021452195765089247 : True := trivial
theorem tw9014433276555359818 : True := trivial
theorem tw9825808596193374173 : True := trivial
theorem tw10889857994972088314 : True := trivial
theorem tw12172029055306869806 : True := trivial
theorem tw6031095272407442020 : True := trivial
theorem tw11325254900096013885 : True := trivial
theorem tw4890628778207526399 : True := trivial
theorem tw12570175533905241750 : True := trivial
theorem tw7140188659990382938 : True := trivial
theorem tw13666796639754998257 : True := trivial
theorem tw3739510293431574724 : True := trivial
theorem tw16880757664985036298 : True := trivial
theorem tw1563839158208317276 : True := trivial
theorem tw3659121096685668043 : True := trivial
theorem tw7624354984737601449 : True := trivial
theorem tw5296850639093433058 : True := trivial
theorem tw617157381705261428 : True := trivial
theorem tw6826635639703694002 : True := trivial
theorem tw3890737776881530708 : True := trivial
theorem tw14559603276065705705 : True := trivial
theorem tw4753107644518310430 : True := trivial
theorem tw6278400289427000999 : True := trivial
theorem tw1640150979312864880 : True := trivial
theorem tw11910235464726219968 : True := trivial
theorem tw9863901442743582952 : True := trivial
theorem tw17691126891120323137 : True := trivial
theorem tw9470241608509676695 : True := trivial
theorem tw12332279751883377311 : True := trivial
theorem tw12717397533805401884 : True := trivial
theorem tw3971298594999950032 : True := trivial
theorem tw5457737701271383514 : True := trivial
theorem tw7438216857164985080 : True := trivial
theorem tw11519908875514583750 : True := trivial
theorem tw809044242386591135 : True := trivial
theorem tw13977154594248881315 : True := trivial
theorem tw12602449885823686186 : True := trivial
theorem tw13758774809191207553 : True := trivial
theorem tw8367189859497072384 : True := trivial
theorem tw8755900295615171332 : True := trivial
theorem tw12045259830010684161 : True := trivial
theorem tw10465864180661249276 : True := trivial
theorem tw10961447847766939725 : True := trivial
theorem tw4567280107188601734 : True := trivial
theorem tw5247624054126070423 : True := trivial
theorem tw12631604750540943934 : True := trivial
theorem tw8823920502701111279 : True := trivial
theorem tw17908609800928229019 : True := trivial
theorem tw15796863391793593087 : True := trivial
theorem tw1620623834595401935 : True := trivial
theorem tw17436084378979019382 : True := trivial
theorem tw17195522981908292456 : True := trivial
theorem tw2587683332314059933 : True := trivial
theorem tw4037749241836002426 : True := trivial
theorem tw15863553923715851930 : True := trivial
theorem tw17800388078003774052 : True := trivial
theorem tw6778610297987488700 : True := trivial
theorem tw13952474758451029 : True := trivial
theorem tw13178008508164249963 : True := trivial
theorem tw8207684478298914050 : True := trivial
theorem tw15905512023561996093 : True := trivial
theorem tw2554096902218594561 : True := trivial
theorem tw14006469116052823704 : True := trivial
theorem tw6276535238436383894 : True := trivial
theorem tw7906873460535728745 : True := trivial
theorem tw7247573638332440675 : True := trivial
theorem tw17292931496893620152 : True := trivial
theorem tw11048604308401340261 : True := trivial
theorem tw11344014266082410022 : True := trivial
theorem tw5691712587484283891 : True := trivial
theorem tw13640636270200722640 : True := trivial
theorem tw982448901388635706 : True := trivial
theorem tw11901562183878661870 : True := trivial
theorem tw3331616712343337607 : True := trivial
theorem tw12812337232928125727 : True := trivial
theorem tw6130994219655863895 : True := trivial
theorem tw1857849865731921049 : True := trivial
theorem tw14557494692379030997 : True := trivial
theorem tw4330882655516869408 : True := trivial
theorem tw13872035000014438862 : True := trivial
theorem tw13075071074231434532 : True := trivial
theorem tw16131330237342851564 : True := trivial
theorem tw5560170234808541369 : True := trivial
theorem tw14690635044741718446 : True := trivial
theorem tw140083433448678513 : True := trivial
theorem tw15999191348405641121 : True := trivial
theorem tw12099346336099928855 : True := trivial
theorem tw9395219830402499400 : True := trivial
theorem tw12488416013974497424 : True := trivial
theorem tw4433300746425528553 : True := trivial
theorem tw8260151483241706378 : True := trivial
theorem tw6346151247955095133 : True := trivial
theorem tw12985423343180344035 : True := trivial
theorem tw6986468805717413552 : True := trivial
theorem tw1011241240641092780 : True := trivial
theorem tw11137447027521645611 : True := trivial
theorem tw11643584410033734629 : True := trivial
theorem tw16434448304644399569 : True := trivial
theorem tw11933225950076211658 : True := trivial
theorem tw12761063141509702825 : True := trivial
theorem tw209445760928958298 : True := trivial
theorem tw11727833095991715100 : True := trivial
theorem tw12213834359102627077 : True := trivial
theorem tw2172036730610980682 : True := trivial
theorem tw1108006110203582203 : True := trivial
theorem tw5052472997888598608 : True := trivial
theorem tw14249457404767502312 : True := trivial
theorem tw8691696433295017924 : True := trivial
theorem tw6285863985776258729 : True := trivial
theorem tw11447271181196456134 : True := trivial
theorem tw12348295569593540546 : True := trivial
theorem tw16318580780332996380 : True := trivial
theorem tw9784682931217411768 : True := trivial
theorem tw6083225024552945844 : True := trivial
theorem tw18338816332046200004 : True := trivial
theorem tw1159943254203430528 : True := trivial
theorem tw13776713466868600935 : True := trivial
theorem tw3684818744095541779 : True := trivial
theorem tw7473855838291593266 : True := trivial
theorem tw15887226834647371633 : True := trivial
theorem tw7125839093725744160 : True := trivial
theorem tw9687873747655963180 : True := trivial
theorem tw16460466980285778245 : True := trivial
theorem tw13589120678935910450 : True := trivial
theorem tw10771956085374957065 : True := trivial
theorem tw16969001299392174520 : True := trivial
theorem tw15470239276633712902 : True := trivial
theorem tw12326390837624421213 : True := trivial
theorem tw9491587855253327964 : True := trivial
theorem tw3499929262536061664 : True := trivial
theorem tw15359097773912819601 : True := trivial
theorem tw1920172574753169259 : True := trivial
theorem tw15765583270342192740 : True := trivial
theorem tw14888086104858531158 : True := trivial
theorem tw17816911480242329342 : True := trivial
theorem tw9032054754618606774 : True := trivial
theorem tw8608857519329552726 : True := trivial
theorem tw4248722531990201717 : True := trivial
theorem tw1071818165792243223 : True := trivial
theorem tw5389748428019219609 : True := trivial
theorem tw16395604627120826862 : True := trivial
theorem tw5133723702797376644 : True := trivial
theorem tw15809461999974312959 : True := trivial
theorem tw6362235319928710685 : True := trivial
theorem tw4497880334870424485 : True := trivial
theorem tw11636918006049234116 : True := trivial
theorem tw1759282738190019439 : True := trivial
theorem tw17660974433412952311 : True := trivial
theorem tw13459618727427580839 : True := trivial
theorem tw15487146640050533200 : True := trivial
theorem tw13051698120905974557 : True := trivial
theorem tw4726142942794536869 : True := trivial
theorem tw14056290281256042903 : True := trivial
theorem tw7162400368003500203 : True := trivial
theorem tw17709803210483179825 : True := trivial
theorem tw6558462938157718550 : True := trivial
theorem tw16388724371441635105 : True := trivial
theorem tw7499511144636681402 : True := trivial
theorem tw9513713156726476346 : True := trivial
theorem tw412742348064622902 : True := trivial
theorem tw6459335257794069537 : True := trivial
theorem tw6226901095961315855 : True := trivial
theorem tw8736375449542945147 : True := trivial
theorem tw13345465475153895189 : True := trivial
theorem tw776273006931172329 : True := trivial
theorem tw658553693425728382 : True := trivial
theorem tw5717406276796449524 : True := trivial
theorem tw7531228213181329620 : True := trivial
theorem tw6935499083773920674 : True := trivial
theorem tw3984139520066562540 : True := trivial
theorem tw6566349876852787176 : True := trivial
theorem tw10104152591153966371 : True := trivial
theorem tw2993348817565456012 : True := trivial
theorem tw13744563904729634933 : True := trivial
theorem tw2585875340716605245 : True := trivial
theorem tw3998492680580403241 : True := trivial
theorem tw12274335141374647820 : True := trivial
theorem tw12548051516343331413 : True := trivial
theorem tw12129076050166290965 : True := trivial
theorem tw3340877323421934105 : True := trivial
theorem tw16594099721093312749 : True := trivial
theorem tw984443720112440779 : True := trivial
theorem tw8658750026677142661 : True := trivial
theorem tw18367823646218787239 : True := trivial
theorem tw8747193907118043640 : True := trivial
theorem tw4130393838490897050 : True := trivial
theorem tw4053408025409452334 : True := trivial
theorem tw5736411380050625717 : True := trivial
theorem tw4392049152897005089 : True := trivial
theorem tw1331740707200854409 : True := trivial
theorem tw8819996992174863880 : True := trivial
theorem tw787475151156455371 : True := trivial
theorem tw2135970158647278581 : True := trivial
theorem tw6794575506935991261 : True := trivial
theorem tw13201782662288556308 : True := trivial
theorem tw15282895167221825311 : True := trivial
theorem tw17717965551857236239 : True := trivial
theorem tw645482316284569508 : True := trivial
theorem tw11943198832283067661 : True := trivial
theorem tw7016503290815443023 : True := trivial
theorem tw272532629202679908 : True := trivial
theorem tw11230998476334048707 : True := trivial
theorem tw9473647516920103847 : True := trivial
theorem tw4923365793955646592 : True := trivial
theorem tw6843612569114647886 : True := trivial
theorem tw15666703002884631804 : True := trivial
theorem tw17163701072124598100 : True := trivial
theorem tw2636134508929586833 : True := trivial
theorem tw13485374835190011859 : True := trivial
theorem tw9858309600420175265 : True := trivial
theorem tw17933824337180726554 : True := trivial
theorem tw7756755750321366474 : True := trivial
theorem tw914717473214252188 : True := trivial
theorem tw2102407850210004106 : True := trivial
theorem tw7106231703065350387 : True := trivial
theorem tw5993959051232768559 : True := trivial
theorem tw3691966021549273801 : True := trivial
theorem tw10824976804987395362 : True := trivial
theorem tw13496066417002297834 : True := trivial
theorem tw12083022545242333051 : True := trivial
theorem tw8122726526450085604 : True := trivial
theorem tw1098419307282852792 : True := trivial
theorem tw12016456555297289070 : True := trivial
theorem tw9622320163125241818 : True := trivial
theorem tw27674811473969765 : True := trivial
theorem tw9555015709559513901 : True := trivial
theorem tw15750626029266968664 : True := trivial
theorem tw6584135584032008765 : True := trivial
theorem tw14233568377935596287 : True := trivial
theorem tw7010888423105682858 : True := trivial
theorem tw1888800754642355350 : True := trivial
theorem tw4099441692832937015 : True := trivial
theorem tw6905916492284718335 : True := trivial
theorem tw13745789804079300258 : True := trivial
theorem tw14290809010658671779 : True := trivial
theorem tw4443174379981269652 : True := trivial
theorem tw10454638094106110878 : True := trivial
theorem tw6412024513944338743 : True := trivial
theorem tw6786306609074257041 : True := trivial
theorem tw179353678385235578 : True := trivial
theorem tw13300806683370554670 : True := trivial
theorem tw8184555903790627705 : True := trivial
theorem tw15907603903532063 : True := trivial
theorem tw13485393960620477500 : True := trivial
theorem tw13302195687595949148 : True := trivial
theorem tw5030445549345068778 : True := trivial
theorem tw1972494512631613473 : True := trivial
theorem tw15068436373218126436 : True := trivial
theorem tw14366256201739810112 : True := trivial
theorem tw5830485050759060570 : True := trivial
theorem tw3802502299093119652 : True := trivial
theorem tw11414928219345738575 : True := trivial
theorem tw17998714344423300429 : True := trivial
theorem tw4503733202255018861 : True := trivial
theorem tw13974541213983205298 : True := trivial
theorem tw13366717576590389231 : True := trivial
theorem tw6922786602878284331 : True := trivial
theorem tw13799068397368757786 : True := trivial
theorem tw8080755016980038700 : True := trivial
theorem tw1803796185499706124 : True := trivial
theorem tw8655212084585094014 : True := trivial
theorem tw7552533805629744380 : True := trivial
theorem tw1066706598919832265 : True := trivial
theorem tw9647334498400940846 : True := trivial
theorem tw2732255584154511587 : True := trivial
theorem tw10662103885389560015 : True := trivial
theorem tw18096376180468824315 : True := trivial
theorem tw1053245314198324065 : True := trivial
theorem tw8069602625467328250 : True := trivial
theorem tw17461101385757636213 : True := trivial
theorem tw1811044790487280269 : True := trivial
theorem tw3257958848090525728 : True := trivial
theorem tw17685108369622147918 : True := trivial
theorem tw4588950240073233606 : True := trivial
theorem tw561953101988200113 : True := trivial
theorem tw18286378991677228019 : True := trivial
theorem tw9470619845592290002 : True := trivial
theorem tw3168067790165480153 : True := trivial
theorem tw5293890333276456793 : True := trivial
theorem tw9180548393315148766 : True := trivial
theorem tw10012599034270387625 : True := trivial
theorem tw9381002748212237251 : True := trivial
theorem tw7720657328762616458 : True := trivial
theorem tw18024750756142044677 : True := trivial
theorem tw15117302431076281198 : True := trivial
theorem tw14300142446262153574 : True := trivial
theorem tw5644801069167265734 : True := trivial
theorem tw15587156702147577170 : True := trivial
theorem tw11077077240234400045 : True := trivial
theorem tw10445716767627672459 : True := trivial
theorem tw8696523928484575063 : True := trivial
theorem tw8720951722203255946 : True := trivial
theorem tw17830903609715002854 : True := trivial
theorem tw9914141891558033138 : True := trivial
theorem tw13451202434346601106 : True := trivial
theorem tw12942434177301693787 : True := trivial
theorem tw464243537091088695 : True := trivial
theorem tw9797130585757702379 : True := trivial
theorem tw9146630618662491033 : True := trivial
theorem tw1225371686982088335 : True := trivial
theorem tw12961959521563239906 : True := trivial
theorem tw920742546688474213 : True := trivial
theorem tw12165993767661957680 : True := trivial
theorem tw2745000600697921253 : True := trivial
theorem tw10000712204986183292 : True := trivial
theorem tw12036325050929989323 : True := trivial
theorem tw4319259751687238623 : True := trivial
theorem tw11467874404307169521 : True := trivial
theorem tw16460567198975675002 : True := trivial
theorem tw6001622859125251375 : True := trivial
theorem tw10605455177777191042 : True := trivial
theorem tw18084622304918255449 : True := trivial
theorem tw12171950938432482034 : True := trivial
theorem tw15138167310042402243 : True := trivial
theorem tw13334927720396090898 : True := trivial
theorem tw16451631477200894665 : True := trivial
theorem tw15457664475284179976 : True := trivial
theorem tw16778252713528553591 : True := trivial
theorem tw3065628914323252330 : True := trivial
theorem tw11748743266582833117 : True := trivial
theorem tw5829795440939226587 : True := trivial
theorem tw975796176596335351 : True := trivial
theorem tw10424721644230229355 : True := trivial
theorem tw3160515496197202507 : True := trivial
theorem tw13029195803348051074 : True := trivial
theorem tw3678016601144109888 : True := trivial
theorem tw17967885624362055005 : True := trivial
theorem tw334729331513290978 : True := trivial
theorem tw9007519160167940425 : True := trivial
theorem tw9351082745931304248 : True := trivial
theorem tw7975953405330501829 : True := trivial
theorem tw8514101422814888603 : True := trivial
theorem tw1841471593472491811 : True := trivial
theorem tw13101221221803669317 : True := trivial
theorem tw2773636574278061259 : True := trivial
theorem tw1577537691239835386 : True := trivial
theorem tw11244353663705016426 : True := trivial
theorem tw1051737153104224647 : True := trivial
theorem tw14740884350558037944 : True := trivial
theorem tw13890505401102511937 : True := trivial
theorem tw13673038237398423698 : True := trivial
theorem tw3408031269692714671 : True := trivial
theorem tw14350277623227034493 : True := trivial
theorem tw2022418779923873114 : True := trivial
theorem tw11926307661650476216 : True := trivial
theorem tw4824696589547974236 : True := trivial
theorem tw8921559276626216436 : True := trivial
theorem tw15915249215721061537 : True := trivial
theorem tw11470347553277169649 : True := trivial
theorem tw3925078398160037822 : True := trivial
theorem tw9198568019662784600 : True := trivial
theorem tw8299812848953557194 : True := trivial
theorem tw1918155984877482160 : True := trivial
theorem tw4784432321671761792 : True := trivial
theorem tw8614427280871018297 : True := trivial
theorem tw8968331542807993548 : True := trivial
theorem tw10681167241825007971 : True := trivial
theorem tw12876329743281811709 : True := trivial
theorem tw17839029772167422964 : True := trivial
theorem tw976534694400630102 : True := trivial
theorem tw5512819002955961559 : True := trivial
theorem tw11456768100136000813 : True := trivial
theorem tw5330515954041169642 : True := trivial
theorem tw12087605540638587516 : True := trivial
theorem tw11021035677127877847 : True := trivial
theorem tw8204340688260553216 : True := trivial
theorem tw5292106818539362347 : True := trivial
theorem tw13277851343227006367 : True := trivial
theorem tw3047608927576210369 : True := trivial
theorem tw4166381153935380476 : True := trivial
theorem tw17345439371475186971 : True := trivial
theorem tw12468244861693907298 : True := trivial
theorem tw8815442735504894002 : True := trivial
theorem tw15779359512860155992 : True := trivial
theorem tw11936824530168887938 : True := trivial
theorem tw17372960305485141480 : True := trivial
theorem tw8544472177169237592 : True := trivial
theorem tw10584201184108859671 : True := trivial
theorem tw8133962230519856842 : True := trivial
theorem tw16117077782050779090 : True := trivial
theorem tw3958522703631322020 : True := trivial
theorem tw11049720140485469149 : True := trivial
theorem tw5932889235588477745 : True := trivial
theorem tw1083173982941095888 : True := trivial
theorem tw13163216112139457233 : True := trivial
theorem tw1265384311048625841 : True := trivial
theorem tw4030429440986532523 : True := trivial
theorem tw4514017359522575601 : True := trivial
theorem tw3732782434140021695 : True := trivial
theorem tw3926971659842613679 : True := trivial
theorem tw5680734730352141662 : True := trivial
theorem tw8519453497865246428 : True := trivial
theorem tw8719869897043229443 : True := trivial
theorem tw8638414591662978925 : True := trivial
theorem tw9962654548060842888 : True := trivial
theorem tw15476237513678720194 : True := trivial
theorem tw6189389572079457636 : True := trivial
theorem tw15958239685480057171 : True := trivial
theorem tw3825732261151325712 : True := trivial
theorem tw9426393173747475254 : True := trivial
theorem tw12226371246046348567 : True := trivial
theorem tw18265216402297030407 : True := trivial
theorem tw17973156506919870987 : True := trivial
theorem tw1218659333221234922 : True := trivial
theorem tw18201105684983886931 : True := trivial
theorem tw3187522914353167582 : True := trivial
theorem tw6247473111647620638 : True := trivial
theorem tw17850514635981264876 : True := trivial
theorem tw3937812528484883551 : True := trivial
theorem tw10653745048497465633 : True := trivial
theorem tw7110926610299073937 : True := trivial
theorem tw17083751857687067606 : True := trivial
theorem tw11756743563823696328 : True := trivial
theorem tw3769490908680785518 : True := trivial
theorem tw4459386816116247233 : True := trivial
theorem tw1268100173989004876 : True := trivial
theorem tw10764354214660631053 : True := trivial
theorem tw5389418924687712718 : True := trivial
theorem tw14826684096070725978 : True := trivial
theorem tw11422613847165453288 : True := trivial
theorem tw6306106640049153927 : True := trivial
theorem tw15429559778958050150 : True := trivial
theorem tw8658834668351876088 : True := trivial
theorem tw15180634417485282571 : True := trivial
theorem tw9748217967743592946 : True := trivial
theorem tw6038689271694650414 : True := trivial
theorem tw8242528737237960378 : True := trivial
theorem tw7354577926619667315 : True := trivial
theorem tw16974465683704531275 : True := trivial
theorem tw4116694764434972424 : True := trivial
theorem tw10044763531080381421 : True := trivial
theorem tw12153984308649769347 : True := trivial
theorem tw10261745653903700210 : True := trivial
theorem tw2847157907708957484 : True := trivial
theorem tw2187693222110171082 : True := trivial
theorem tw1446890790542613654 : True := trivial
theorem tw16178737996552531991 : True := trivial
theorem tw12435235697162771230 : True := trivial
theorem tw7385458573130543071 : True := trivial
theorem tw18154286565612618721 : True := trivial
theorem tw7029304387683036896 : True := trivial
theorem tw1272285101632957691 : True := trivial
theorem tw2235160265147205538 : True := trivial
theorem tw6926287364923742961 : True := trivial
theorem tw14544414980410335240 : True := trivial
theorem tw10886002498088792335 : True := trivial
theorem tw15966181292243679832 : True := trivial
theorem tw5975866618734939831 : True := trivial
theorem tw15475225306242829311 : True := trivial
theorem tw12214381185277245247 : True := trivial
theorem tw11792534296926679245 : True := trivial
theorem tw9963199827595134019 : True := trivial
theorem tw8165767040787421176 : True := trivial
theorem tw16224726174637728779 : True := trivial
theorem tw1167548364918248888 : True := trivial
theorem tw3298959232223408787 : True := trivial
theorem tw9258162157543521461 : True := trivial
theorem tw11982180028887193096 : True := trivial
theorem tw13119908119425680426 : True := trivial
theorem tw8119787313682420544 : True := trivial
theorem tw5666445445404022370 : True := trivial
theorem tw15813758137315103953 : True := trivial
theorem tw8486873109953115802 : True := trivial
theorem tw589304535532866012 : True := trivial
theorem tw14321824996646853851 : True := trivial
theorem tw3080914340139194165 : True := trivial
theorem tw1004955484766855466 : True := trivial
theorem tw7812050537853156469 : True := trivial
theorem tw3357023479529667232 : True := trivial
theorem tw11451686132466307363 : True := trivial
theorem tw11465108329042682745 : True := trivial
theorem tw17495091916032283288 : True := trivial
theorem tw10000259419637307695 : True := trivial
theorem tw723907143690955513 : True := trivial
theorem tw6282169072468120042 : True := trivial
theorem tw16834972434929601130 : True := trivial
theorem tw11598128031989372276 : True := trivial
theorem tw6918839381506671567 : True := trivial
theorem tw1817015264976591891 : True := trivial
theorem tw11471783445189795251 : True := trivial
theorem tw400153853601401858 : True := trivial
theorem tw5833350103057965803 : True := trivial
theorem tw11161140139949644067 : True := trivial
theorem tw1413650001912465682 : True := trivial
theorem tw8781757109033927590 : True := trivial
theorem tw6285526763349924997 : True := trivial
theorem tw8573301092070405473 : True := trivial
theorem tw5024284830160990768 : True := trivial
theorem tw5352052234239041338 : True := trivial
theorem tw16087108996085951585 : True := trivial
theorem tw840748387489205686 : True := trivial
theorem tw2583783966280584741 : True := trivial
theorem tw9939116273542970509 : True := trivial
theorem tw3225813414621659579 : True := trivial
theorem tw16817053640726361252 : True := trivial
theorem tw3187020423347191970 : True := trivial
theorem tw2938965647683697373 : True := trivial
theorem tw16042060695409302977 : True := trivial
theorem tw11918111920805453288 : True := trivial
theorem tw6846535808687103150 : True := trivial
theorem tw265445118112745755 : True := trivial
theorem tw12249606833584911229 : True := trivial
theorem tw15959446131849984841 : True := trivial
theorem tw10458268090193631480 : True := trivial
theorem tw9400346545237750848 : True := trivial
theorem tw14608738404973021849 : True := trivial
theorem tw12543040916666025895 : True := trivial
theorem tw9015298272879684768 : True := trivial
theorem tw15923052478667053214 : True := trivial
theorem tw11632672968039056709 : True := trivial
theorem tw5312939912960997236 : True := trivial
theorem tw17087446507320925733 : True := trivial
theorem tw9499017984614480872 : True := trivial
theorem tw7566312328859522169 : True := trivial
theorem tw16789185180218987233 : True := trivial
theorem tw10960509220096437284 : True := trivial
theorem tw16290038612242452301 : True := trivial
theorem tw5560896607729290234 : True := trivial
theorem tw2029821536625370473 : True := trivial
theorem tw11712907132895847165 : True := trivial
theorem tw6409267857466122244 : True := trivial
theorem tw7429574478559184386 : True := trivial
theorem tw18023353198586537138 : True := trivial
theorem tw7660384301315625628 : True := trivial
theorem tw9228501410666831961 : True := trivial
theorem tw11295927432521754349 : True := trivial
theorem tw15665075254942988838 : True := trivial
theorem tw10355868830731841170 : True := trivial
theorem tw2403343207266266144 : True := trivial
theorem tw17898710445686749979 : True := trivial
theorem tw14399780939315526295 : True := trivial
theorem tw3857829870377305455 : True := trivial
theorem tw5469041518402907845 : True := trivial
theorem tw16772876933656548196 : True := trivial
theorem tw5990849834552447404 : True := trivial
theorem tw4994836779251113186 : True := trivial
theorem tw1277969381571154540 : True := trivial
theorem tw4958384233495884168 : True := trivial
theorem tw3806396212237499862 : True := trivial
theorem tw12262110603032965063 : True := trivial
theorem tw4333644836126196784 : True := trivial
theorem tw6121457392921505274 : True := trivial
theorem tw1809525614597053841 : True := trivial
theorem tw4658111417755609522 : True := trivial
theorem tw16427691590994774823 : True := trivial
theorem tw13349549465979805381 : True := trivial
theorem tw16936856393788230995 : True := trivial
theorem tw6765845202897776143 : True := trivial
theorem tw14874217931412513614 : True := trivial
theorem tw9120219860041680631 : True := trivial
theorem tw5367520736071486633 : True := trivial
theorem tw11680106410717724308 : True := trivial
theorem tw5859133733055829877 : True := trivial
theorem tw9832748881429276041 : True := trivial
theorem tw5847714085259887926 : True := trivial
theorem tw9426229656836275032 : True := trivial
theorem tw5045207893428374795 : True := trivial
theorem tw12298040010197052939 : True := trivial
theorem tw7493921953915145669 : True := trivial
theorem tw898636368911131692 : True := trivial
theorem tw13980995800404833621 : True := trivial
theorem tw1745501348638412521 : True := trivial
theorem tw17436157461588000272 : True := trivial
theorem tw13472652528294754458 : True := trivial
theorem tw6979729328667888909 : True := trivial
theorem tw11139858280557602517 : True := trivial
theorem tw3763703028353985639 : True := trivial
theorem tw1617131542694990439 : True := trivial
theorem tw2103172023361700677 : True := trivial
theorem tw16087678900289994199 : True := trivial
theorem tw3980451823377895526 : True := trivial
theorem tw9938848744829319905 : True := trivial
theorem tw2465965947214783074 : True := trivial
theorem tw2957554605261672798 : True := trivial
theorem tw11801696254774348674 : True := trivial
theorem tw1368441081592690161 : True := trivial
theorem tw13132635646327473582 : True := trivial
theorem tw16629774664970653229 : True := trivial
theorem tw2187105208716100438 : True := trivial
theorem tw13433827357591875448 : True := trivial
theorem tw10346165456985218689 : True := trivial
theorem tw2579518375133750987 : True := trivial
theorem tw9390802702478029896 : True := trivial
theorem tw416658089507329621 : True := trivial
theorem tw17576699259295935889 : True := trivial
theorem tw2746518345291799973 : True := trivial
theorem tw14886176434663505694 : True := trivial
theorem tw12726218349118770756 : True := trivial
theorem tw2323117475945688529 : True := trivial
theorem tw2888196291219549088 : True := trivial
theorem tw500585300322840106 : True := trivial
theorem tw15038508688700956636 : True := trivial
theorem tw6038050344086493797 : True := trivial
theorem tw11487268861359209469 : True := trivial
theorem tw17014625001383546771 : True := trivial
theorem tw10125179597773929704 : True := trivial
theorem tw10516279715260950689 : True := trivial
theorem tw9333919055253653734 : True := trivial
theorem tw8144050230864608837 : True := trivial
theorem tw10298987418965810822 : True := trivial
theorem tw4577579366145692761 : True := trivial
theorem tw831762359231567248 : True := trivial
theorem tw1746476478085621046 : True := trivial
theorem tw7578270759976655131 : True := trivial
theorem tw13535000568362773278 : True := trivial
theorem tw17689661885975972267 : True := trivial
theorem tw4098875288702888063 : True := trivial
theorem tw8016255453094976499 : True := trivial
theorem tw3863928297161783786 : True := trivial
theorem tw986964639051174477 : True := trivial
theorem tw14515481941161765727 : True := trivial
theorem tw12983528449676423510 : True := trivial
theorem tw13240447264215030019 : True := trivial
theorem tw11163479633941310717 : True := trivial
theorem tw18408422671110004038 : True := trivial
theorem tw15527374476281785932 : True := trivial
theorem tw9260146038019629387 : True := trivial
theorem tw8315968987755455022 : True := trivial
theorem tw10041997450783596368 : True := trivial
theorem tw13316444178047868377 : True := trivial
theorem tw15816168980763894893 : True := trivial
theorem tw13432964747639183764 : True := trivial
theorem tw4172245274830168221 : True := trivial
theorem tw4130462708276900255 : True := trivial
theorem tw6732429095116310066 : True := trivial
theorem tw5656963587550753129 : True := trivial
theorem tw6643932652716892420 : True := trivial
theorem tw16996616196945282130 : True := trivial
theorem tw18431450234716020137 : True := trivial
theorem tw11235364427566438371 : True := trivial
theorem tw15768297306207374515 : True := trivial
theorem tw679993484297603637 : True := trivial
theorem tw15553940523765070790 : True := trivial
theorem tw9128287394665745770 : True := trivial
theorem tw16435333580934591687 : True := trivial
theorem tw14380934118093955254 : True := trivial
theorem tw13934951850239753494 : True := trivial
theorem tw9273282431241010850 : True := trivial
theorem tw5619795763245119976 : True := trivial
theorem tw8673751504823210274 : True := trivial
theorem tw2004206116176170664 : True := trivial
theorem tw15474992832909689106 : True := trivial
theorem tw14925675640696785367 : True := trivial
theorem tw9027116883332608434 : True := trivial
theorem tw14263125846098316737 : True := trivial
theorem tw10464208004264728378 : True := trivial
theorem tw12501386759407801459 : True := trivial
theorem tw12855691672201053972 : True := trivial
theorem tw1974089145132234381 : True := trivial
theorem tw8851672978268710138 : True := trivial
theorem tw17793606568186856210 : True := trivial
theorem tw5955507725283685727 : True := trivial
theorem tw3986655018637312748 : True := trivial
theorem tw7243920958784937573 : True := trivial
theorem tw1640712256357332253 : True := trivial
theorem tw6135549866559414338 : True := trivial
theorem tw15838855596049080651 : True := trivial
theorem tw14758773803106115885 : True := trivial
theorem tw15389697571171834372 : True := trivial
theorem tw7642883299508581222 : True := trivial
theorem tw16520441000241890866 : True := trivial
theorem tw14897557422894688376 : True := trivial
theorem tw2925214205883606571 : True := trivial
theorem tw10791180726265127452 : True := trivial
theorem tw9855961257552394758 : True := trivial
theorem tw13972578285448378409 : True := trivial
theorem tw8667703178552930228 : True := trivial
theorem tw10544617413873502070 : True := trivial
theorem tw592182160273392291 : True := trivial
theorem tw17008851032629018637 : True := trivial
theorem tw3534110125792736507 : True := trivial
theorem tw17919345089673645254 : True := trivial
theorem tw2962527542388567637 : True := trivial
theorem tw3255881722058636641 : True := trivial
theorem tw17206763519438708553 : True := trivial
theorem tw4769335564711406901 : True := trivial
theorem tw12166120647133949864 : True := trivial
theorem tw5773098486516082700 : True := trivial
theorem tw18179610026065239480 : True := trivial
theorem tw6761935766081256344 : True := trivial
theorem tw17173483127082174759 : True := trivial
theorem tw1063103597870925686 : True := trivial
theorem tw15202254005585179825 : True := trivial
theorem tw9819813043759096349 : True := trivial
theorem tw7561490995598739057 : True := trivial
theorem tw639537505605372683 : True := trivial
theorem tw1001832117811164857 : True := trivial
theorem tw2590467515791266648 : True := trivial
theorem tw17199711121448528336 : True := trivial
theorem tw1368292710351531303 : True := trivial
theorem tw16751093292436042562 : True := trivial
theorem tw6747629229073704596 : True := trivial
theorem tw2791458342002534913 : True := trivial
theorem tw8396436249647774872 : True := trivial
theorem tw12063423809022641343 : True := trivial
theorem tw10461264055035100898 : True := trivial
theorem tw16343538556824243486 : True := trivial
theorem tw14101225305595941228 : True := trivial
theorem tw8696571918697887204 : True := trivial
theorem tw13983431714953800296 : True := trivial
theorem tw15873947066269907126 : True := trivial
theorem tw4403058786847488106 : True := trivial
theorem tw13143437228865487880 : True := trivial
theorem tw6043346906423117443 : True := trivial
theorem tw9792268110482176851 : True := trivial
theorem tw9753762930170819689 : True := trivial
theorem tw1552628290647160551 : True := trivial
theorem tw7824332619230577998 : True := trivial
theorem tw925395958848106485 : True := trivial
theorem tw14189311455378546708 : True := trivial
theorem tw11026553547127803953 : True := trivial
theorem tw15192198705402163798 : True := trivial
theorem tw67859593171318998 : True := trivial
theorem tw3170579907617563498 : True := trivial
theorem tw4933232592355199275 : True := trivial
theorem tw11532342473841105594 : True := trivial
theorem tw277096991205250737 : True := trivial
theorem tw4241752781483580757 : True := trivial
theorem tw4877247266683427239 : True := trivial
theorem tw9249905877368615934 : True := trivial
theorem tw3267842316025523902 : True := trivial
theorem tw14977748354228562580 : True := trivial
theorem tw12231841431628528967 : True := trivial
theorem tw5205348660655017389 : True := trivial
theorem tw2655264331465846785 : True := trivial
theorem tw8553412934117775491 : True := trivial
theorem tw9799056789865296302 : True := trivial
theorem tw3836014800562824974 : True := trivial
theorem tw13661494509580727732 : True := trivial
theorem tw14075669499615429871 : True := trivial
theorem tw2735152858461204078 : True := trivial
theorem tw7400958502509203304 : True := trivial
theorem tw9888481471706318714 : True := trivial
theorem tw678042468687694291 : True := trivial
theorem tw2042205348562064060 : True := trivial
theorem tw13330406241739669074 : True := trivial
theorem tw613902906332931732 : True := trivial
theorem tw2726163428033725930 : True := trivial
theorem tw16866513957257898813 : True := trivial
theorem tw6056892699277267279 : True := trivial
theorem tw10338633447202527741 : True := trivial
theorem tw6731678840863915086 : True := trivial
theorem tw16410462674525991792 : True := trivial
theorem tw6897896799796854701 : True := trivial
theorem tw4370584898415778255 : True := trivial
theorem tw2819344865824501754 : True := trivial
theorem tw16322084198564072482 : True := trivial
theorem tw13705735590491547675 : True := trivial
theorem tw12580927446005714157 : True := trivial
theorem tw654924591637927882 : True := trivial
theorem tw16399263872473065594 : True := trivial
theorem tw10176106686132018949 : True := trivial
theorem tw15247377458320781255 : True := trivial
theorem tw6761294646383912661 : True := trivial
theorem tw12186505591555851789 : True := trivial
theorem tw8822159100589944175 : True := trivial
theorem tw5128786876865433606 : True := trivial
theorem tw16808698044904940490 : True := trivial
theorem tw8151591036612402669 : True := trivial
theorem tw8644734481719910966 : True := trivial
theorem tw2241121867693280078 : True := trivial
theorem tw12005398623070254681 : True := trivial
theorem tw13679142963297084183 : True := trivial
theorem tw8277634260108901831 : True := trivial
theorem tw13952790121635591127 : True := trivial
theorem tw17657335692454389397 : True := trivial
theorem tw12312975038010821922 : True := trivial
theorem tw11424065641971230711 : True := trivial
theorem tw9431218492168899305 : True := trivial
theorem tw2392955491019795957 : True := trivial
theorem tw545609419094502126 : True := trivial
theorem tw1149587898498698823 : True := trivial
theorem tw380963809507931313 : True := trivial
theorem tw6431623338014959084 : True := trivial
theorem tw6745092956347734478 : True := trivial
theorem tw2492596692717861423 : True := trivial
theorem tw15830316401151648470 : True := trivial
theorem tw2947620362409767397 : True := trivial
theorem tw11733018123993043718 : True := trivial
theorem tw2712837217631654069 : True := trivial
theorem tw16149847870318378450 : True := trivial
theorem tw18389310173731599759 : True := trivial
theorem tw8410651265034279628 : True := trivial
theorem tw2841749078020194014 : True := trivial
theorem tw7539993190408740598 : True := trivial
theorem tw754035457669753323 : True := trivial
theorem tw4302112765063734311 : True := trivial
theorem tw992685426535154537 : True := trivial
theorem tw17515229780634500493 : True := trivial
theorem tw4440036931192874781 : True := trivial
theorem tw8412331654765374300 : True := trivial
theorem tw5043725178046433666 : True := trivial
theorem tw11779412222649510895 : True := trivial
theorem tw7393535875089104213 : True := trivial
theorem tw8705823117232142821 : True := trivial
theorem tw5243151086449974154 : True := trivial
theorem tw8180659572434113527 : True := trivial
theorem tw14326406118606109645 : True := trivial
theorem tw914121560987707673 : True := trivial
theorem tw15594768438857209485 : True := trivial
theorem tw11216869804069451363 : True := trivial
theorem tw13642618690372486356 : True := trivial
theorem tw7951806865811145403 : True := trivial
theorem tw6459878644176662897 : True := trivial
theorem tw816793035288207544 : True := trivial
theorem tw16506978873951981459 : True := trivial
theorem tw15208138659938118357 : True := trivial
theorem tw1018052813699171999 : True := trivial
theorem tw13759368547083711557 : True := trivial
theorem tw1509149156241765795 : True := trivial
theorem tw14148622611734884172 : True := trivial
theorem tw2693099388966425219 : True := trivial
theorem tw16691469754747852716 : True := trivial
theorem tw11155210053435552449 : True := trivial
theorem tw3618300140266579388 : True := trivial
theorem tw15207726584292868243 : True := trivial
theorem tw7754770642212652968 : True := trivial
theorem tw17561375390907860034 : True := trivial
theorem tw16949661517193531596 : True := trivial
theorem tw16460849332407656052 : True := trivial
theorem tw14616094932718036300 : True := trivial
theorem tw11082259035796612215 : True := trivial
theorem tw11937936786507875461 : True := trivial
theorem tw12865888340893651631 : True := trivial
theorem tw17050138468348012150 : True := trivial
theorem tw10725555809479734797 : True := trivial
theorem tw4641881975754381464 : True := trivial
theorem tw6340335809707174576 : True := trivial
theorem tw10545601358207840438 : True := trivial
theorem tw9199729562294457865 : True := trivial
theorem tw3155745368976063146 : True := trivial
theorem tw4564017659108744129 : True := trivial
theorem tw11960876169574104578 : True := trivial
theorem tw10823064663762010384 : True := trivial
theorem tw4586539868954688357 : True := trivial
theorem tw16825945621350517141 : True := trivial
theorem tw16847984061188698814 : True := trivial
theorem tw303258145610154475 : True := trivial
theorem tw7439624848773448157 : True := trivial
theorem tw10882014253634896265 : True := trivial
theorem tw2720647619368209338 : True := trivial
theorem tw6280865759766103953 : True := trivial
theorem tw17010358956110281800 : True := trivial
theorem tw3088680155691611615 : True := trivial
theorem tw10572199863332194324 : True := trivial
theorem tw7220790265117763923 : True := trivial
theorem tw4919197775469903988 : True := trivial
theorem tw8279167140978947708 : True := trivial
theorem tw14018048691362613388 : True := trivial
theorem tw33498308678707135 : True := trivial
theorem tw150815735273249029 : True := trivial
theorem tw12637744278738624291 : True := trivial
theorem tw3087463588518936080 : True := trivial
theorem tw10571794083302237590 : True := trivial
theorem tw4400105078872617843 : True := trivial
theorem tw11755015807456764142 : True := trivial
theorem tw18270872815856182567 : True := trivial
theorem tw14526092713976936740 : True := trivial
theorem tw9541172922202408584 : True := trivial
theorem tw15824253688450760965 : True := trivial
theorem tw2413135836304004065 : True := trivial
theorem tw15122801231371389726 : True := trivial
theorem tw8354827677992484779 : True := trivial
theorem tw2090716401039531465 : True := trivial
theorem tw7530404900904479776 : True := trivial
theorem tw4506304416687574470 : True := trivial
theorem tw15502594325577557099 : True := trivial
theorem tw1003721199244463142 : True := trivial
theorem tw4483852621915054571 : True := trivial
theorem tw14833177691577872264 : True := trivial
theorem tw10651523734291476731 : True := trivial
theorem tw14327399792236976192 : True := trivial
theorem tw9094703554183762579 : True := trivial
theorem tw806791513239734269 : True := trivial
theorem tw1594477098930251356 : True := trivial
theorem tw2297517096862128621 : True := trivial
theorem tw12210933241801252694 : True := trivial
theorem tw5907592130018580497 : True := trivial
theorem tw7020187745756154962 : True := trivial
theorem tw5012506460212081471 : True := trivial
theorem tw12821662775305511950 : True := trivial
theorem tw18211960224656867676 : True := trivial
theorem tw2588639669718858435 : True := trivial
theorem tw108705719986946711 : True := trivial
theorem tw4831363538471079340 : True := trivial
theorem tw6583294034226216075 : True := trivial
theorem tw10571795956107655833 : True := trivial
theorem tw15063271157571482707 : True := trivial
theorem tw5623613311654256676 : True := trivial
theorem tw4364338895393696232 : True := trivial
theorem tw5056965834131519027 : True := trivial
theorem tw450112137374666384 : True := trivial
theorem tw4211234862248316918 : True := trivial
theorem tw13892087265172200900 : True := trivial
theorem tw10051658859934851151 : True := trivial
theorem tw1966681969358254505 : True := trivial
theorem tw12685508695345898089 : True := trivial
theorem tw1946927446360410671 : True := trivial
theorem tw2723372260437086536 : True := trivial
theorem tw16043981461058003961 : True := trivial
theorem tw9745302772189198781 : True := trivial
theorem tw10348300837247673826 : True := trivial
theorem tw11617085195205562528 : True := trivial
theorem tw780806949357230898 : True := trivial
theorem tw12661973331931067648 : True := trivial
theorem tw12835065752342323427 : True := trivial
theorem tw5650487413727396824 : True := trivial
theorem tw503414926393717959 : True := trivial
theorem tw12497098248905845760 : True := trivial
theorem tw3111956330744399868 : True := trivial
theorem tw5028318103383475109 : True := trivial
theorem tw5772828987989720836 : True := trivial
theorem tw1712873427263357535 : True := trivial
theorem tw1132584235040969183 : True := trivial
theorem tw12827715024290391420 : True := trivial
theorem tw9913149919710686379 : True := trivial
theorem tw6159742748403054334 : True := trivial
theorem tw4959371896959458884 : True := trivial
theorem tw13993050625880386468 : True := trivial
theorem tw2550947388723409639 : True := trivial
theorem tw8136397320929860997 : True := trivial
theorem tw10078352144644941260 : True := trivial
theorem tw11665571507347133848 : True := trivial
theorem tw6642006248278059721 : True := trivial
theorem tw1400342819061575329 : True := trivial
theorem tw1263655938441157326 : True := trivial
theorem tw16866701036101512966 : True := trivial
theorem tw564379411056173777 : True := trivial
theorem tw9366117311386642964 : True := trivial
theorem tw13042441671447263255 : True := trivial
theorem tw17964700341526654554 : True := trivial
theorem tw166260204107445117 : True := trivial
theorem tw12468130482340959169 : True := trivial
theorem tw13753390660970467377 : True := trivial
theorem tw13462857429376992863 : True := trivial
theorem tw3260955913676517071 : True := trivial
theorem tw11760193982624610532 : True := trivial
theorem tw16357856333328187891 : True := trivial
theorem tw14910814767412038835 : True := trivial
theorem tw10635239071915457695 : True := trivial
theorem tw7322300196036089998 : True := trivial
theorem tw11375570128752330050 : True := trivial
theorem tw4091773596513746424 : True := trivial
theorem tw1864680880662957061 : True := trivial
theorem tw4846962995311614471 : True := trivial
theorem tw15767313904994142789 : True := trivial
theorem tw18424141957301325193 : True := trivial
theorem tw18192208505333538136 : True := trivial
theorem tw12596615880360330615 : True := trivial
theorem tw4225589082970487038 : True := trivial
theorem tw6186282126428829346 : True := trivial
theorem tw13386874084691413947 : True := trivial
theorem tw2089987417481792523 : True := trivial
theorem tw4434310143111030089 : True := trivial
theorem tw15392366954150753890 : True := trivial
theorem tw14594077342081024622 : True := trivial
theorem tw10280247777098023233 : True := trivial
theorem tw8806057461965669010 : True := trivial
theorem tw4111086787105921215 : True := trivial
theorem tw7055472503161502984 : True := trivial
theorem tw4180805627942836254 : True := trivial
theorem tw11232286552494309072 : True := trivial
theorem tw11019464292847601603 : True := trivial
theorem tw17205713468958229179 : True := trivial
theorem tw10218580327115330174 : True := trivial
theorem tw14858539213755594381 : True := trivial
theorem tw14396572729679112626 : True := trivial
theorem tw18395083842072258201 : True := trivial
theorem tw7017278983215150708 : True := trivial
theorem tw967481325783346792 : True := trivial
theorem tw14506919653895441529 : True := trivial
theorem tw16403357858837019930 : True := trivial
theorem tw5157996165280689555 : True := trivial
theorem tw1454508323662266754 : True := trivial
theorem tw5323879093683961945 : True := trivial
theorem tw1454407920919240825 : True := trivial
theorem tw8757206648287039651 : True := trivial
theorem tw4769866473820342013 : True := trivial
theorem tw14622983629084189643 : True := trivial
theorem tw4139013309154167074 : True := trivial
theorem tw9824898583453760580 : True := trivial
theorem tw15426932521394178505 : True := trivial
theorem tw16008512685332428629 : True := trivial
theorem tw14902038954562954825 : True := trivial
theorem tw1673911323350349079 : True := trivial
theorem tw16740832811800062369 : True := trivial
theorem tw9861639618655293545 : True := trivial
theorem tw14743258191463774957 : True := trivial
theorem tw10867478477786488287 : True := trivial
theorem tw18015928042991180655 : True := trivial
theorem tw6330282517639612869 : True := trivial
theorem tw8734616848828736109 : True := trivial
theorem tw10618586274947781435 : True := trivial
theorem tw1074946429708532862 : True := trivial
theorem tw14010289361809244363 : True := trivial
theorem tw9853593040903661588 : True := trivial
theorem tw6417384184697820290 : True := trivial
theorem tw13534374205274432739 : True := trivial
theorem tw11708520236601349786 : True := trivial
theorem tw671894202793845878 : True := trivial
theorem tw9514123040441614336 : True := trivial
theorem tw2277750191726001876 : True := trivial
theorem tw15297198156515236116 : True := trivial
theorem tw5336321055434037811 : True := trivial
theorem tw5072151405954432219 : True := trivial
theorem tw3689196872789929835 : True := trivial
theorem tw7087361224036399620 : True := trivial
theorem tw8757168745171115093 : True := trivial
theorem tw4934076542282589746 : True := trivial
theorem tw9638391939274404980 : True := trivial
theorem tw9342444378525135172 : True := trivial
theorem tw13585463405450257749 : True := trivial
theorem tw4128452786135548053 : True := trivial
theorem tw5850865085259863656 : True := trivial
theorem tw15158137591574143250 : True := trivial
theorem tw14511966455299111732 : True := trivial
theorem tw7749363244935329856 : True := trivial
theorem tw6399192367709052193 : True := trivial
theorem tw15129659522716854997 : True := trivial
theorem tw11948443905974197033 : True := trivial
theorem tw15968892259896831922 : True := trivial
theorem tw4576368023715617604 : True := trivial
theorem tw5946553565640548042 : True := trivial
theorem tw10644879906162450663 : True := trivial
theorem tw7049652182259999568 : True := trivial
theorem tw2926401847979627816 : True := trivial
theorem tw1954602570765113708 : True := trivial
theorem tw10648745272415829963 : True := trivial
theorem tw120513710844154556 : True := trivial
theorem tw3413205520158093011 : True := trivial
theorem tw14493318750164541430 : True := trivial
theorem tw16374683499762875574 : True := trivial
theorem tw11477057902369256385 : True := trivial
theorem tw12615399184990661110 : True := trivial
theorem tw100896682215845234 : True := trivial
theorem tw6952315581185533908 : True := trivial
theorem tw3716515014828325396 : True := trivial
theorem tw5624704789352290547 : True := trivial
theorem tw7732999153957387875 : True := trivial
theorem tw3330192997655280907 : True := trivial
theorem tw2392279982714259979 : True := trivial
theorem tw6334186829748636388 : True := trivial
theorem tw8083440865810275990 : True := trivial
theorem tw1300102108465862764 : True := trivial
theorem tw2921037881735529854 : True := trivial
theorem tw14496949080395776075 : True := trivial
theorem tw11421941291249940499 : True := trivial
theorem tw10643815881045882564 : True := trivial
theorem tw1003757828406753380 : True := trivial
theorem tw15554024317966512990 : True := trivial
theorem tw5243037996665569011 : True := trivial
theorem tw15942056413620629953 : True := trivial
theorem tw3962039158287588565 : True := trivial
theorem tw8937514445943892063 : True := trivial
theorem tw2536194078249603345 : True := trivial
theorem tw11488224929057154816 : True := trivial
theorem tw3125391439782274812 : True := trivial
theorem tw5752876627229273006 : True := trivial
theorem tw853087360548859101 : True := trivial
theorem tw1851911837806179408 : True := trivial
theorem tw518719095609797433 : True := trivial
theorem tw5583932616862283767 : True := trivial
theorem tw2150299346851196211 : True := trivial
theorem tw958472712895519650 : True := trivial
theorem tw14331463614961556155 : True := trivial
theorem tw5045959445160723195 : True := trivial
theorem tw11080238884692600264 : True := trivial
theorem tw15797022856530994835 : True := trivial
theorem tw3652749604576273986 : True := trivial
theorem tw1037507632032577321 : True := trivial
theorem tw18006997123193552106 : True := trivial
theorem tw5816676328795776441 : True := trivial
theorem tw13239060264214830786 : True := trivial
theorem tw6495701590107158461 : True := trivial
theorem tw11726506408418311610 : True := trivial
theorem tw1025512542228738520 : True := trivial
theorem tw3794343472493014501 : True := trivial
theorem tw5369128009396802166 : True := trivial
theorem tw6871802031450017177 : True := trivial
theorem tw10466861126316461840 : True := trivial
theorem tw5289593894596761023 : True := trivial
theorem tw14464962919372831983 : True := trivial
theorem tw14207274093291442680 : True := trivial
theorem tw17162982275387277691 : True := trivial
theorem tw16642166542623966965 : True := trivial
theorem tw10085578330331634383 : True := trivial
theorem tw2220535902706702771 : True := trivial
theorem tw8057033753724845563 : True := trivial
theorem tw18320130016111669315 : True := trivial
theorem tw7910955909828507457 : True := trivial
theorem tw11906150802774904440 : True := trivial
theorem tw8257010819070114407 : True := trivial
theorem tw18247333560886215375 : True := trivial
theorem tw3984068858862515890 : True := trivial
theorem tw17155457427318574036 : True := trivial
theorem tw14463216663177587003 : True := trivial
theorem tw4551638163580130979 : True := trivial
theorem tw8445726573830290126 : True := trivial
theorem tw7832980243278136870 : True := trivial
theorem tw17993278958204522612 : True := trivial
theorem tw16882957675923041171 : True := trivial
theorem tw14353554242437805637 : True := trivial
theorem tw2457316000153958136 : True := trivial
theorem tw11873308543070822139 : True := trivial
theorem tw6573286246256379951 : True := trivial
theorem tw8834694248566172570 : True := trivial
theorem tw15281582278010202570 : True := trivial
theorem tw10627459377511055718 : True := trivial
theorem tw10469574945719288176 : True := trivial
theorem tw4474424735699543726 : True := trivial
theorem tw11988027519635811707 : True := trivial
theorem tw4166312100935229484 : True := trivial
theorem tw4729543415285104003 : True := trivial
theorem tw9570399669285262290 : True := trivial
theorem tw367254407453790070 : True := trivial
theorem tw8202330665776052887 : True := trivial
theorem tw10611550987622256318 : True := trivial
theorem tw18136143239927991667 : True := trivial
theorem tw17059593125655196993 : True := trivial
theorem tw9433530577777352449 : True := trivial
theorem tw4169535842842009202 : True := trivial
theorem tw6788215924302822415 : True := trivial
theorem tw7912512309710450616 : True := trivial
theorem tw17239486996212518400 : True := trivial
theorem tw1376199703455419124 : True := trivial
theorem tw17061704494607147118 : True := trivial
theorem tw433900151168170984 : True := trivial
theorem tw9622841431379189163 : True := trivial
theorem tw8549979080832248010 : True := trivial
theorem tw3443183999494230517 : True := trivial
theorem tw3362862343687979016 : True := trivial
theorem tw10457466540316720101 : True := trivial
theorem tw7065288862535517663 : True := trivial
theorem tw6371177277004592613 : True := trivial
theorem tw17493016909060099620 : True := trivial
theorem tw8281511992361772180 : True := trivial
theorem tw6837641308386342787 : True := trivial
theorem tw12559839607388553964 : True := trivial
theorem tw2825934773392080930 : True := trivial
theorem tw1481632558662177779 : True := trivial
theorem tw14994724667265442970 : True := trivial
theorem tw4651636919796793726 : True := trivial
theorem tw7916875790363810724 : True := trivial
theorem tw8724431098569555646 : True := trivial
theorem tw7560292194291696641 : True := trivial
theorem tw14740092735138463651 : True := trivial
theorem tw729912077664847490 : True := trivial
theorem tw14368178271621162375 : True := trivial
theorem tw10940956052112510584 : True := trivial
theorem tw2633099420835916729 : True := trivial
theorem tw17377044638081483241 : True := trivial
theorem tw11622656095153947635 : True := trivial
theorem tw15003121770741546871 : True := trivial
theorem tw16146141095215390555 : True := trivial
theorem tw1268006740405375444 : True := trivial
theorem tw2624007856039820450 : True := trivial
theorem tw5272420759310323707 : True := trivial
theorem tw7286656450084961341 : True := trivial
theorem tw16306309652408076635 : True := trivial
theorem tw4179791196597558194 : True := trivial
theorem tw1824707306144058867 : True := trivial
theorem tw7181804990667170103 : True := trivial
theorem tw15827691464478225793 : True := trivial
theorem tw4386055253236356753 : True := trivial
theorem tw16677284259176581760 : True := trivial
theorem tw8671041635868526178 : True := trivial
theorem tw13115365446418540595 : True := trivial
theorem tw13884479836869742285 : True := trivial
theorem tw16467573535368961544 : True := trivial
theorem tw13363848049014370640 : True := trivial
theorem tw12319123972080339592 : True := trivial
theorem tw17757880800787458518 : True := trivial
theorem tw10074833816073561225 : True := trivial
theorem tw17011860053014408156 : True := trivial
theorem tw3030192425395027830 : True := trivial
theorem tw14904017342954534973 : True := trivial
theorem tw8410018374717518575 : True := trivial
theorem tw4597816212759779870 : True := trivial
theorem tw2504324096253895521 : True := trivial
theorem tw13397796168244559534 : True := trivial
theorem tw9261004414806199856 : True := trivial
theorem tw6338783479676286603 : True := trivial
theorem tw13007350172555615022 : True := trivial
theorem tw552607949810785482 : True := trivial
theorem tw6228389652772419543 : True := trivial
theorem tw6556418485778412740 : True := trivial
theorem tw6001590720034785808 : True := trivial
theorem tw3955687487301093765 : True := trivial
theorem tw6054068436088618901 : True := trivial
theorem tw16879575315128818538 : True := trivial
theorem tw7440341942981528960 : True := trivial
theorem tw3970055170880523277 : True := trivial
theorem tw6275702879656676806 : True := trivial
theorem tw16158701422664630516 : True := trivial
theorem tw1386091908544575084 : True := trivial
theorem tw4912855141690253627 : True := trivial
theorem tw14678280962438478440 : True := trivial
theorem tw11824406030978534074 : True := trivial
theorem tw6649281208719399964 : True := trivial
theorem tw6622689668506856741 : True := trivial
theorem tw10918726297745914058 : True := trivial
theorem tw11501357528415649205 : True := trivial
theorem tw13117278944090735033 : True := trivial
theorem tw8663594762622532557 : True := trivial
theorem tw13590722299322590966 : True := trivial
theorem tw3385679795188681885 : True := trivial
theorem tw13331819789157494748 : True := trivial
theorem tw13959855022091550628 : True := trivial
theorem tw10192295155593248695 : True := trivial
theorem tw4501133767045725130 : True := trivial
theorem tw7453887806421087126 : True := trivial
theorem tw1140577729414857762 : True := trivial
theorem tw15001734878689330908 : True := trivial
theorem tw15905796853521620302 : True := trivial
theorem tw638657801505971374 : True := trivial
theorem tw6231792785544027635 : True := trivial
theorem tw16971251005009837687 : True := trivial
theorem tw10602606637055379286 : True := trivial
theorem tw15154797911120119624 : True := trivial
theorem tw14976124790030447239 : True := trivial
theorem tw5352573843306915550 : True := trivial
theorem tw11554471607025623908 : True := trivial
theorem tw13496769232668250925 : True := trivial
theorem tw7029087969099429722 : True := trivial
theorem tw5656936377204610716 : True := trivial
theorem tw9941476338170712200 : True := trivial
theorem tw12662835763479772445 : True := trivial
theorem tw13228450072783317204 : True := trivial
theorem tw1397229151392519619 : True := trivial
theorem tw13524368303196914034 : True := trivial
theorem tw3401371267863681055 : True := trivial
theorem tw13422002511564709947 : True := trivial
theorem tw7850797045900948264 : True := trivial
theorem tw9080108598592236239 : True := trivial
theorem tw7902977980126598787 : True := trivial
theorem tw8991051910198543999 : True := trivial
theorem tw17278833919629725126 : True := trivial
theorem tw18227671246566134788 : True := trivial
theorem tw7617069528221515809 : True := trivial
theorem tw6342253251786282245 : True := trivial
theorem tw13589385952264437094 : True := trivial
theorem tw13169515929063875799 : True := trivial
theorem tw12534769679577002533 : True := trivial
theorem tw5134498641757073186 : True := trivial
theorem tw7676371802636348829 : True := trivial
theorem tw10547157067546946769 : True := trivial
theorem tw2359232603041266687 : True := trivial
theorem tw262098458329172998 : True := trivial
theorem tw14039474787516005769 : True := trivial
theorem tw18386658611135486677 : True := trivial
theorem tw14796741959482043560 : True := trivial
theorem tw4845497112714780947 : True := trivial
theorem tw194312718856732675 : True := trivial
theorem tw11089738215029743466 : True := trivial
theorem tw16624297728854782139 : True := trivial
theorem tw14255884719070348121 : True := trivial
theorem tw8545140471035039056 : True := trivial
theorem tw6561372261804160150 : True := trivial
theorem tw15058737046013579585 : True := trivial
theorem tw7943517219537561358 : True := trivial
theorem tw9560053455289820683 : True := trivial
theorem tw3772268711532650098 : True := trivial
theorem tw7399231256839262226 : True := trivial
theorem tw10886743253213908344 : True := trivial
theorem tw6641697880688650674 : True := trivial
theorem tw2529511663725078150 : True := trivial
theorem tw524598519258342036 : True := trivial
theorem tw3746811087282091190 : True := trivial
theorem tw14336820806806610037 : True := trivial
theorem tw10827037158677831063 : True := trivial
theorem tw1230031966275520627 : True := trivial
theorem tw10848881752880676797 : True := trivial
theorem tw3155969830997685786 : True := trivial
theorem tw16296913953808954041 : True := trivial
theorem tw5827872952962214676 : True := trivial
theorem tw4802529791826207323 : True := trivial
theorem tw15104676837775540060 : True := trivial
theorem tw12631529053502616931 : True := trivial
theorem tw6120358717644346415 : True := trivial
theorem tw17130192618781534187 : True := trivial
theorem tw13426192650812656610 : True := trivial
theorem tw16841087390394790504 : True := trivial
theorem tw11907673897657537814 : True := trivial
theorem tw13092731522458758407 : True := trivial
theorem tw5877817541800995605 : True := trivial
theorem tw907589651482697311 : True := trivial
theorem tw2765652886013612557 : True := trivial
theorem tw18392008007612228806 : True := trivial
theorem tw16739757062929869656 : True := trivial
theorem tw2118662363015690358 : True := trivial
theorem tw11333483460282980054 : True := trivial
theorem tw5677206898313185681 : True := trivial
theorem tw6221317651679619042 : True := trivial
theorem tw1955103616927049441 : True := trivial
theorem tw29009532338107968 : True := trivial
theorem tw6636470615586787 : True := trivial
theorem tw785918635395514059 : True := trivial
theorem tw9887855278764791071 : True := trivial
theorem tw4562240813491418829 : True := trivial
theorem tw5279333897027099553 : True := trivial
theorem tw11002845623236793417 : True := trivial
theorem tw13881185705934408434 : True := trivial
theorem tw586157644570786959 : True := trivial
theorem tw16142621157166287231 : True := trivial
theorem tw13804051682089845613 : True := trivial
theorem tw15349939795368677597 : True := trivial
theorem tw13092755348331374013 : True := trivial
theorem tw8946705285550679912 : True := trivial
theorem tw1219113117234494526 : True := trivial
theorem tw1917191240421430269 : True := trivial
theorem tw16272903031948192361 : True := trivial
theorem tw13365850538134853686 : True := trivial
theorem tw14260574533739974570 : True := trivial
theorem tw6208982019492049223 : True := trivial
theorem tw372092539916287050 : True := trivial
theorem tw2734861302134878608 : True := trivial
theorem tw13721455485190055881 : True := trivial
theorem tw2264748974578644860 : True := trivial
theorem tw332949414314567855 : True := trivial
theorem tw29268685743360414 : True := trivial
theorem tw11434091985854091181 : True := trivial
theorem tw14936594323162344782 : True := trivial
theorem tw3512614916855595046 : True := trivial
theorem tw14132112039293757531 : True := trivial
theorem tw15049312883272235649 : True := trivial
theorem tw9953274059418530888 : True := trivial
theorem tw7112994814728112395 : True := trivial
theorem tw17328462789634798767 : True := trivial
theorem tw14212978689611082776 : True := trivial
theorem tw13639121828622248821 : True := trivial
theorem tw12647697880448312913 : True := trivial
theorem tw5999037282451213481 : True := trivial
theorem tw235983886567611646 : True := trivial
theorem tw1960788764307925704 : True := trivial
theorem tw12976667283878936691 : True := trivial
theorem tw15476674186236395850 : True := trivial
theorem tw3553245616295330044 : True := trivial
theorem tw16622403318151996703 : True := trivial
theorem tw18253835648184903780 : True := trivial
theorem tw4477225976274772732 : True := trivial
theorem tw10864283750843067292 : True := trivial
theorem tw15834064721985872341 : True := trivial
theorem tw16858604886351967737 : True := trivial
theorem tw15924215141518403127 : True := trivial
theorem tw18136710304058708304 : True := trivial
theorem tw1247677633654671239 : True := trivial
theorem tw17434270700274020965 : True := trivial
theorem tw16995980088736942354 : True := trivial
theorem tw4174307945409844358 : True := trivial
theorem tw4589031857273495853 : True := trivial
theorem tw7373818080637221090 : True := trivial
theorem tw17220891035126890181 : True := trivial
theorem tw2425555375192912388 : True := trivial
theorem tw5230707537783437706 : True := trivial
theorem tw6583302788363860511 : True := trivial
theorem tw9294936415407127997 : True := trivial
theorem tw10173982592493863048 : True := trivial
theorem tw17118727947365644956 : True := trivial
theorem tw12084097998802824005 : True := trivial
theorem tw3090672285148056110 : True := trivial
theorem tw848901154734339460 : True := trivial
theorem tw7645639764922707434 : True := trivial
theorem tw9724231164631454426 : True := trivial
theorem tw17691519727523114545 : True := trivial
theorem tw13230869911570216040 : True := trivial
theorem tw3602451882427723664 : True := trivial
theorem tw5482309463836376297 : True := trivial
theorem tw8930638495415146865 : True := trivial
theorem tw1494783590831609764 : True := trivial
theorem tw15999023999168343595 : True := trivial
theorem tw14584060404095787665 : True := trivial
theorem tw10289372168707097207 : True := trivial
theorem tw9154455519005660595 : True := trivial
theorem tw12313154351562079498 : True := trivial
theorem tw6855202443919758934 : True := trivial
theorem tw12585822653991139067 : True := trivial
theorem tw17533418822257460675 : True := trivial
theorem tw8460631701561437026 : True := trivial
theorem tw1262919409243410916 : True := trivial
theorem tw12683524579972218412 : True := trivial
theorem tw443190284371513385 : True := trivial
theorem tw15586683717330491963 : True := trivial
theorem tw17065645154194053190 : True := trivial
theorem tw17790834166826368438 : True := trivial
theorem tw17384919491422417077 : True := trivial
theorem tw5607332589402856349 : True := trivial
theorem tw3114460284860872375 : True := trivial
theorem tw965612744784874450 : True := trivial
theorem tw11624010219146804568 : True := trivial
theorem tw6556124697893945810 : True := trivial
theorem tw14600662256888430100 : True := trivial
theorem tw2837658496069197292 : True := trivial
theorem tw11936873939104539900 : True := trivial
theorem tw8086248491359341109 : True := trivial
theorem tw625788071824386904 : True := trivial
theorem tw12547120045607943998 : True := trivial
theorem tw3296666202027994138 : True := trivial
theorem tw17989452778207064634 : True := trivial
theorem tw1235378691990770650 : True := trivial
theorem tw9670047203885060668 : True := trivial
theorem tw9006342396718427057 : True := trivial
theorem tw7547575207413012790 : True := trivial
theorem tw5706594131323760864 : True := trivial
theorem tw8480326723132192258 : True := trivial
theorem tw12593429411659892116 : True := trivial
theorem tw4213908301935403237 : True := trivial
theorem tw1313855434188394413 : True := trivial
theorem tw8020637884262279615 : True := trivial
theorem tw4688680205991061568 : True := trivial
theorem tw4753568370771538615 : True := trivial
theorem tw949032280246582515 : True := trivial
theorem tw13754493607320044189 : True := trivial
theorem tw6485000215988637333 : True := trivial
theorem tw9155322156331676281 : True := trivial
theorem tw6584773341709260234 : True := trivial
theorem tw9397435589291427666 : True := trivial
theorem tw12574290038084808053 : True := trivial
theorem tw5377372492674738865 : True := trivial
theorem tw17341254062735057322 : True := trivial
theorem tw16571113219770206101 : True := trivial
theorem tw10777313836850538448 : True := trivial
theorem tw689250709219511272 : True := trivial
theorem tw12971492182048366072 : True := trivial
theorem tw11852773056800358639 : True := trivial
theorem tw14455311221377406243 : True := trivial
theorem tw15074862937232353191 : True := trivial
theorem tw3582185052624510851 : True := trivial
theorem tw11215906855761817035 : True := trivial
theorem tw9622690592060813509 : True := trivial
theorem tw110801151486468891 : True := trivial
theorem tw7411927554883455015 : True := trivial
theorem tw12484735336021156053 : True := trivial
theorem tw10945107469233014333 : True := trivial
theorem tw12853825260874669131 : True := trivial
theorem tw4905342328340765161 : True := trivial
theorem tw8335905890049608466 : True := trivial
theorem tw15359270069964974951 : True := trivial
theorem tw4963539315124917363 : True := trivial
theorem tw5247853128593756380 : True := trivial
theorem tw9433716168638914757 : True := trivial
theorem tw7216898878459047280 : True := trivial
theorem tw1481751270664850395 : True := trivial
theorem tw18146981365788419827 : True := trivial
theorem tw17257639364484921641 : True := trivial
theorem tw11166418668244583436 : True := trivial
theorem tw1082068028387057291 : True := trivial
theorem tw18065833552930832942 : True := trivial
theorem tw1289563167580447844 : True := trivial
theorem tw17232294665581392568 : True := trivial
theorem tw7221569415972738283 : True := trivial
theorem tw16933567995548882911 : True := trivial
theorem tw14470256020786419155 : True := trivial
theorem tw13658497292776590551 : True := trivial
theorem tw9615631083914804934 : True := trivial
theorem tw17040400581744239530 : True := trivial
theorem tw202060025369548902 : True := trivial
theorem tw9514734555429456208 : True := trivial
theorem tw6386907312934687653 : True := trivial
theorem tw12759885072550287254 : True := trivial
theorem tw889527268806253547 : True := trivial
theorem tw5968798093640934577 : True := trivial
theorem tw16656788290635334851 : True := trivial
theorem tw8296965879276842565 : True := trivial
theorem tw12152413666333745687 : True := trivial
theorem tw11020964407293233903 : True := trivial
theorem tw3869483933645049736 : True := trivial
theorem tw9292152440521567468 : True := trivial
theorem tw5330995642044574126 : True := trivial
theorem tw14761636370171514115 : True := trivial
theorem tw15560961819592387921 : True := trivial
theorem tw8697913145542665645 : True := trivial
theorem tw83689047494347235 : True := trivial
theorem tw3136911240279990001 : True := trivial
theorem tw11661840254522837620 : True := trivial
theorem tw7700905533077544271 : True := trivial
theorem tw14524661469921970614 : True := trivial
theorem tw10516535557535690320 : True := trivial
theorem tw5547577661823373685 : True := trivial
theorem tw11062221494263060221 : True := trivial
theorem tw3029102524707084177 : True := trivial
theorem tw3823590138411823570 : True := trivial
theorem tw9113979310917060151 : True := trivial
theorem tw4420510464974433572 : True := trivial
theorem tw6087833352420131552 : True := trivial
theorem tw6238428254377438907 : True := trivial
theorem tw16684437079970416404 : True := trivial
theorem tw9628691991206321743 : True := trivial
theorem tw5592156050652170070 : True := trivial
theorem tw7409286066293184810 : True := trivial
theorem tw15095741496366163544 : True := trivial
theorem tw10551179162253622822 : True := trivial
theorem tw4933652574036340810 : True := trivial
theorem tw14965797184565835818 : True := trivial
theorem tw5734662392020832717 : True := trivial
theorem tw16831703951908643029 : True := trivial
theorem tw11145898615570805725 : True := trivial
theorem tw13931838216403384823 : True := trivial
theorem tw7586005775410920697 : True := trivial
theorem tw10760736578957352997 : True := trivial
theorem tw2622549263003558394 : True := trivial
theorem tw153072631212118344 : True := trivial
theorem tw3978735392835112840 : True := trivial
theorem tw5663429661292756252 : True := trivial
theorem tw14081985400275518622 : True := trivial
theorem tw4436429395629681403 : True := trivial
theorem tw14251661933324722002 : True := trivial
theorem tw11891817276746882597 : True := trivial
theorem tw10146387425873243707 : True := trivial
theorem tw1300515110567943200 : True := trivial
theorem tw12246310012562739605 : True := trivial
theorem tw16101671927587691112 : True := trivial
theorem tw11368593180910731749 : True := trivial
theorem tw4584073583730808569 : True := trivial
theorem tw79540177136914811 : True := trivial
theorem tw295216274483937795 : True := trivial
theorem tw4447574403830300388 : True := trivial
theorem tw14796902321033132186 : True := trivial
theorem tw11929362945182704473 : True := trivial
theorem tw1574085706027275610 : True := trivial
theorem tw17923901828380217505 : True := trivial
theorem tw2734913745558792738 : True := trivial
theorem tw537905103634992173 : True := trivial
theorem tw1710424115502458988 : True := trivial
theorem tw12364118503971621298 : True := trivial
theorem tw2993088047963119876 : True := trivial
theorem tw16343369177520995814 : True := trivial
theorem tw4832623294091132028 : True := trivial
theorem tw13415811086922116143 : True := trivial
theorem tw7412517259673540120 : True := trivial
theorem tw12115675222670948422 : True := trivial
theorem tw8533566184577236751 : True := trivial
theorem tw6923142533526700277 : True := trivial
theorem tw17994603566957983961 : True := trivial
theorem tw2255036216560250451 : True := trivial
theorem tw15357871779830219599 : True := trivial
theorem tw16947956872929270920 : True := trivial
theorem tw3122329360178962974 : True := trivial
theorem tw17886940002146209218 : True := trivial
theorem tw10139767039547794164 : True := trivial
theorem tw15542838296914545631 : True := trivial
theorem tw15861382833605236583 : True := trivial
theorem tw16829884488514540108 : True := trivial
theorem tw18256287928899313071 : True := trivial
theorem tw10331870762721642571 : True := trivial
theorem tw10735546204900172764 : True := trivial
theorem tw4937388970667728500 : True := trivial
theorem tw16611685478135006790 : True := trivial
theorem tw40251324993998225 : True := trivial
theorem tw9473273666773934873 : True := trivial
theorem tw15971653736360753875 : True := trivial
theorem tw15771087667395192231 : True := trivial
theorem tw10114230356399483849 : True := trivial
theorem tw12537725723181624723 : True := trivial
theorem tw11141511890149001388 : True := trivial
theorem tw14145412344269914828 : True := trivial
theorem tw9275321111048589838 : True := trivial
theorem tw15584709959852581334 : True := trivial
theorem tw5246760490001572028 : True := trivial
theorem tw15926425160120587447 : True := trivial
theorem tw13932018171857341616 : True := trivial
theorem tw10483456306350486991 : True := trivial
theorem tw11853858362632763611 : True := trivial
theorem tw17410418797279347919 : True := trivial
theorem tw464772298651404345 : True := trivial
theorem tw17986813368822404589 : True := trivial
theorem tw18267132520505701058 : True := trivial
theorem tw4927808785402325559 : True := trivial
theorem tw10515681398350504421 : True := trivial
theorem tw13827556421720831357 : True := trivial
theorem tw7780082714850636744 : True := trivial
theorem tw15243147319931519598 : True := trivial
theorem tw14166060666283325832 : True := trivial
theorem tw16978792233017707220 : True := trivial
theorem tw17316863225518665973 : True := trivial
theorem tw8557268421517613999 : True := trivial
theorem tw13464892707912787065 : True := trivial
theorem tw3672007129566361631 : True := trivial
theorem tw5100452905541558812 : True := trivial
theorem tw14208193112506207584 : True := trivial
theorem tw5886086508596427287 : True := trivial
theorem tw11672894471697114573 : True := trivial
theorem tw11861016905080007960 : True := trivial
theorem tw12695724150643744143 : True := trivial
theorem tw16491437269905138032 : True := trivial
theorem tw15845232494844038985 : True := trivial
theorem tw17271999880802532077 : True := trivial
theorem tw12104886140024385026 : True := trivial
theorem tw3563385546109772568 : True := trivial
theorem tw18079042175582039356 : True := trivial
theorem tw14501715866184628381 : True := trivial
theorem tw4771171376838922942 : True := trivial
theorem tw1955991791180390462 : True := trivial
theorem tw3937088081816103608 : True := trivial
theorem tw817901276883759759 : True := trivial
theorem tw17431092825713458347 : True := trivial
theorem tw7469194631426686306 : True := trivial
theorem tw13943811840947708482 : True := trivial
theorem tw17488015050208113198 : True := trivial
theorem tw6316509519484667901 : True := trivial
theorem tw12644783122324705889 : True := trivial
theorem tw17744629751710260730 : True := trivial
theorem tw17182570662852346686 : True := trivial
theorem tw17611447728401131686 : True := trivial
theorem tw14404682146012878215 : True := trivial
theorem tw11291002439822365894 : True := trivial
theorem tw3603705373684524334 : True := trivial
theorem tw3005683746641785063 : True := trivial
theorem tw5939688337832043228 : True := trivial
theorem tw1225825770481607617 : True := trivial
theorem tw13252937486921542469 : True := trivial
theorem tw14767125590015217800 : True := trivial
theorem tw1235453649382783529 : True := trivial
theorem tw15261434156703464280 : True := trivial
theorem tw10727432997413447764 : True := trivial
theorem tw4211198453711664397 : True := trivial
theorem tw1033554521730777693 : True := trivial
theorem tw14508725367356381568 : True := trivial
theorem tw14952527458159795732 : True := trivial
theorem tw2228760161277338364 : True := trivial
theorem tw11442183743723892475 : True := trivial
theorem tw17121426586890859796 : True := trivial
theorem tw8578452707416540278 : True := trivial
theorem tw4599845866731744738 : True := trivial
theorem tw10281325827479047860 : True := trivial
theorem tw9795197139258792232 : True := trivial
theorem tw6844443394094950440 : True := trivial
theorem tw4118864178921133205 : True := trivial
theorem tw14105052210983246138 : True := trivial
theorem tw5244201711176371570 : True := trivial
theorem tw12604764721478771030 : True := trivial
theorem tw16967329064301379979 : True := trivial
theorem tw5830260854080194718 : True := trivial
theorem tw7661876318486221101 : True := trivial
theorem tw15025403819047580362 : True := trivial
theorem tw12695169734431347344 : True := trivial
theorem tw9807911571185685303 : True := trivial
theorem tw12564478377027136924 : True := trivial
theorem tw14112178714655507263 : True := trivial
theorem tw13136674723710778749 : True := trivial
theorem tw15441871045718951191 : True := trivial
theorem tw7177702841304289150 : True := trivial
theorem tw14329158246654852704 : True := trivial
theorem tw17940577964572630309 : True := trivial
theorem tw7315060492386704176 : True := trivial
theorem tw18377477496625502524 : True := trivial
theorem tw3124043088518065822 : True := trivial
theorem tw6147384456757479919 : True := trivial
theorem tw16457835555715451522 : True := trivial
theorem tw11390596729064790458 : True := trivial
theorem tw11033421933159054575 : True := trivial
theorem tw998125529633149584 : True := trivial
theorem tw14099096259733982811 : True := trivial
theorem tw13285561001353373922 : True := trivial
theorem tw13715092464253604586 : True := trivial
theorem tw16840768260336656212 : True := trivial
theorem tw11610976706224263135 : True := trivial
theorem tw11256111768963114970 : True := trivial
theorem tw11874788694180218961 : True := trivial
theorem tw671895203289035481 : True := trivial
theorem tw16970009716673911891 : True := trivial
theorem tw8545207842591180393 : True := trivial
theorem tw3049717233818849712 : True := trivial
theorem tw5264308183747439063 : True := trivial
theorem tw11701274424991350148 : True := trivial
theorem tw2890441063018859240 : True := trivial
theorem tw15627145252915263401 : True := trivial
theorem tw1274342562940164107 : True := trivial
theorem tw6046296425149686737 : True := trivial
theorem tw15264542156475403105 : True := trivial
theorem tw3187112755006316831 : True := trivial
theorem tw18342796289672757261 : True := trivial
theorem tw2157858354868150369 : True := trivial
theorem tw16024216305200655814 : True := trivial
theorem tw9132051594942419217 : True := trivial
theorem tw7842648229622987310 : True := trivial
theorem tw10520174929966456279 : True := trivial
theorem tw7013155243770659043 : True := trivial
theorem tw13873949326055553462 : True := trivial
theorem tw8496301956273189842 : True := trivial
theorem tw9179820073712420780 : True := trivial
theorem tw15416295658503699865 : True := trivial
theorem tw11707040635182623478 : True := trivial
theorem tw10691421832040078340 : True := trivial
theorem tw5950026663324798392 : True := trivial
theorem tw6420041915626633683 : True := trivial
theorem tw11782671810124100622 : True := trivial
theorem tw2855458814758693084 : True := trivial
theorem tw6823281584385657626 : True := trivial
theorem tw10249659465199337994 : True := trivial
theorem tw521912060291798455 : True := trivial
theorem tw13764435228420071751 : True := trivial
theorem tw17216907689646839755 : True := trivial
theorem tw11925767423866613482 : True := trivial
theorem tw3641918716832790204 : True := trivial
theorem tw4090926975928117973 : True := trivial
theorem tw9096057073089650373 : True := trivial
theorem tw6361398561332974147 : True := trivial
theorem tw9508309775354997449 : True := trivial
theorem tw10458568529323362555 : True := trivial
theorem tw9903053997780051173 : True := trivial
theorem tw7675060615570987279 : True := trivial
theorem tw695837155993842219 : True := trivial
theorem tw2778883644863695921 : True := trivial
theorem tw15148143609788143334 : True := trivial
theorem tw12786151112830497802 : True := trivial
theorem tw16601592013453063767 : True := trivial
theorem tw11192952444833484263 : True := trivial
theorem tw10281793607968001470 : True := trivial
theorem tw12989121857822782017 : True := trivial
theorem tw6154311988324373584 : True := trivial
theorem tw14070393810896439733 : True := trivial
theorem tw15976207863564393646 : True := trivial
theorem tw14030928569486445642 : True := trivial
theorem tw7936583988531632894 : True := trivial
theorem tw16257523767875484526 : True := trivial
theorem tw3780816848286944761 : True := trivial
theorem tw13367889548871394551 : True := trivial
theorem tw3449067812709815805 : True := trivial
theorem tw15575309389975048312 : True := trivial
theorem tw8755400258685403286 : True := trivial
theorem tw17393279285518043491 : True := trivial
theorem tw10212814840501770518 : True := trivial
theorem tw12407864616179399936 : True := trivial
theorem tw13419921106607689043 : True := trivial
theorem tw207350336735091585 : True := trivial
theorem tw1640811330000186109 : True := trivial
theorem tw16723205532014819649 : True := trivial
theorem tw6478198319954028118 : True := trivial
theorem tw4778657245988953215 : True := trivial
theorem tw6935739163286119506 : True := trivial
theorem tw18211865077124139024 : True := trivial
theorem tw4633680969580280832 : True := trivial
theorem tw3599172795199584848 : True := trivial
theorem tw1126364264392660559 : True := trivial
theorem tw9006728730999121481 : True := trivial
theorem tw13010880961469032024 : True := trivial
theorem tw11697363049142557229 : True := trivial
theorem tw11052827116300994187 : True := trivial
theorem tw4493210578217847882 : True := trivial
theorem tw10470944605518900336 : True := trivial
theorem tw2720996663361937734 : True := trivial
theorem tw17165091224995190513 : True := trivial
theorem tw16292557261626863603 : True := trivial
theorem tw11923713331261903849 : True := trivial
theorem tw11502142411854356393 : True := trivial
theorem tw15086004124899346993 : True := trivial
theorem tw7996409375028043931 : True := trivial
theorem tw13470567984913760500 : True := trivial
theorem tw11081995031968707770 : True := trivial
theorem tw3826911072925377748 : True := trivial
theorem tw15759869086814832806 : True := trivial
theorem tw11218060130767539388 : True := trivial
theorem tw9237957611914826323 : True := trivial
theorem tw10350633720847450621 : True := trivial
theorem tw9709684734878754292 : True := trivial
theorem tw10346093809950637759 : True := trivial
theorem tw15181974246109992571 : True := trivial
theorem tw8014664217490512916 : True := trivial
theorem tw9200601560354074037 : True := trivial
theorem tw3228106816742142499 : True := trivial
theorem tw17765788243677133245 : True := trivial
theorem tw15681387165990458806 : True := trivial
theorem tw9222585153028070423 : True := trivial
theorem tw6853359539240549553 : True := trivial
theorem tw16693117678719921264 : True := trivial
theorem tw1490295570964989511 : True := trivial
theorem tw18311525340697831161 : True := trivial
theorem tw5589119114758222746 : True := trivial
theorem tw9243639398870643018 : True := trivial
theorem tw1782983720650854948 : True := trivial
theorem tw10860097578603883424 : True := trivial
theorem tw2855777753979551070 : True := trivial
theorem tw5108225814514370461 : True := trivial
theorem tw6663094997172005104 : True := trivial
theorem tw4260582400440798824 : True := trivial
theorem tw2303019877916099309 : True := trivial
theorem tw1129404915646725458 : True := trivial
theorem tw17617571692690369492 : True := trivial
theorem tw4063578227000258583 : True := trivial
theorem tw5005714699792744106 : True := trivial
theorem tw2901630615370548995 : True := trivial
theorem tw3952526276093823354 : True := trivial
theorem tw16459478778519580262 : True := trivial
theorem tw9389505721948585576 : True := trivial
theorem tw3080415734844695820 : True := trivial
theorem tw11220543264284574906 : True := trivial
theorem tw767608618938861665 : True := trivial
theorem tw3393958946928881217 : True := trivial
theorem tw13830203898403009327 : True := trivial
theorem tw13704966120402675146 : True := trivial
theorem tw13714638460248099582 : True := trivial
theorem tw17428328936741616347 : True := trivial
theorem tw16667520368728959598 : True := trivial
theorem tw7589617318973431596 : True := trivial
theorem tw12686920812979832310 : True := trivial
theorem tw4323099631343681058 : True := trivial
theorem tw5956167654703444026 : True := trivial
theorem tw6807915883183190507 : True := trivial
theorem tw14530597851214957236 : True := trivial
theorem tw7432083974387165751 : True := trivial
theorem tw3452077322052855918 : True := trivial
theorem tw11478237082760498004 : True := trivial
theorem tw17332776872416174394 : True := trivial
theorem tw13624324637293946686 : True := trivial
theorem tw17057167639295254509 : True := trivial
theorem tw3786451921625339552 : True := trivial
theorem tw2360064828074493725 : True := trivial
theorem tw7041853982722450077 : True := trivial
theorem tw11620285351045295460 : True := trivial
theorem tw14133714841861497928 : True := trivial
theorem tw1207863510048438826 : True := trivial
theorem tw15995603901883575239 : True := trivial
theorem tw5311793304738144466 : True := trivial
theorem tw761388841424324224 : True := trivial
theorem tw6580205352871660908 : True := trivial
theorem tw15693923237071533287 : True := trivial
theorem tw6430994775692566237 : True := trivial
theorem tw16851142401783562652 : True := trivial
theorem tw1680733843788626034 : True := trivial
theorem tw4540672954229094236 : True := trivial
theorem tw15359728860102111759 : True := trivial
theorem tw2975246145769478900 : True := trivial
theorem tw1053558126144864919 : True := trivial
theorem tw10319804449757770066 : True := trivial
theorem tw4628807172700485159 : True := trivial
theorem tw547305249011440407 : True := trivial
theorem tw5755826285971481027 : True := trivial
theorem tw15134747275802201759 : True := trivial
theorem tw8350150922838000567 : True := trivial
theorem tw11778249760741929168 : True := trivial
theorem tw3862113740417296151 : True := trivial
theorem tw3403365325979941747 : True := trivial
theorem tw11360247362123294083 : True := trivial
theorem tw14297748622347669315 : True := trivial
theorem tw10571495476930399639 : True := trivial
theorem tw17119476813484385856 : True := trivial
theorem tw2889374911503069467 : True := trivial
theorem tw13455986640192445486 : True := trivial
theorem tw10103961616693085956 : True := trivial
theorem tw8544431204225395723 : True := trivial
theorem tw7615964684233814216 : True := trivial
theorem tw8333170099046053659 : True := trivial
theorem tw13121165483444431257 : True := trivial
theorem tw7324720038558672086 : True := trivial
theorem tw16369354925067843096 : True := trivial
theorem tw7404600105544611873 : True := trivial
theorem tw3093115428125612296 : True := trivial
theorem tw12118029853746326472 : True := trivial
theorem tw9068381981905822633 : True := trivial
theorem tw12096747402070991164 : True := trivial
theorem tw14568972256589159465 : True := trivial
theorem tw13515776029597919904 : True := trivial
theorem tw11701190889402039346 : True := trivial
theorem tw9143516052920668309 : True := trivial
theorem tw17089426920024389077 : True := trivial
theorem tw3612236955809450682 : True := trivial
theorem tw807161106966853832 : True := trivial
theorem tw11500009661750929491 : True := trivial
theorem tw148473448509346353 : True := trivial
theorem tw16999662841687545656 : True := trivial
theorem tw13407595842666594464 : True := trivial
theorem tw2422723421018664182 : True := trivial
theorem tw15361297081801830167 : True := trivial
theorem tw13314823735501247816 : True := trivial
theorem tw15674329384246180420 : True := trivial
theorem tw8478700027811241228 : True := trivial
theorem tw6159604496237934696 : True := trivial
theorem tw10032365071001526010 : True := trivial
theorem tw11810607750293836227 : True := trivial
theorem tw4973054652320770843 : True := trivial
theorem tw18412286552414428422 : True := trivial
theorem tw16990230605110947817 : True := trivial
theorem tw2344824042893528991 : True := trivial
theorem tw5563884944761084366 : True := trivial
theorem tw139432342131312094 : True := trivial
theorem tw12714839094242079548 : True := trivial
theorem tw18403246294791258499 : True := trivial
theorem tw8186755618853688100 : True := trivial
theorem tw12635804957684813814 : True := trivial
theorem tw5706266800210334672 : True := trivial
theorem tw17096191150467058664 : True := trivial
theorem tw9993862774737646034 : True := trivial
theorem tw12582756991874225915 : True := trivial
theorem tw3731105205139043922 : True := trivial
theorem tw256254702219474919 : True := trivial
theorem tw11888791271005404331 : True := trivial
theorem tw15507596383051473051 : True := trivial
theorem tw17933652506266620174 : True := trivial
theorem tw4328359221293275660 : True := trivial
theorem tw4082079243238267830 : True := trivial
theorem tw3630996103565961913 : True := trivial
theorem tw724507379240590783 : True := trivial
theorem tw14249763765414442667 : True := trivial
theorem tw4637215361547628809 : True := trivial
theorem tw13606667958842963657 : True := trivial
theorem tw15781292433870411949 : True := trivial
theorem tw12423469828686956921 : True := trivial
theorem tw9025428719831699301 : True := trivial
theorem tw14099843822098833447 : True := trivial
theorem tw4728708815985279260 : True := trivial
theorem tw6058930475431363028 : True := trivial
theorem tw8435069128188920079 : True := trivial
theorem tw995786305119430735 : True := trivial
theorem tw16320467231673686011 : True := trivial
theorem tw10103423688765837363 : True := trivial
theorem tw15727873492014983679 : True := trivial
theorem tw9608163599039298192 : True := trivial
theorem tw7751180298142580559 : True := trivial
theorem tw14949415223408222338 : True := trivial
theorem tw10909330025438996626 : True := trivial
theorem tw8153791825953759808 : True := trivial
theorem tw2919120011720510401 : True := trivial
theorem tw6958762106977110336 : True := trivial
theorem tw5596511854907912512 : True := trivial
theorem tw13153686937757944597 : True := trivial
theorem tw15101624208702348175 : True := trivial
theorem tw1097434365532267940 : True := trivial
theorem tw2747437803614193939 : True := trivial
theorem tw3643587281226646522 : True := trivial
theorem tw368045827129702653 : True := trivial
theorem tw1862408303641882638 : True := trivial
theorem tw17640842062763024084 : True := trivial
theorem tw3117522147196222832 : True := trivial
theorem tw242044607217377333 : True := trivial
theorem tw901760017607153439 : True := trivial
theorem tw11922677906033478702 : True := trivial
theorem tw9840801271131599039 : True := trivial
theorem tw9111118845306728982 : True := trivial
theorem tw7124910277663905902 : True := trivial
theorem tw1126438086032827244 : True := trivial
theorem tw11349960030218893886 : True := trivial
theorem tw17404283073713278309 : True := trivial
theorem tw12211965249690245270 : True := trivial
theorem tw13620033865685301388 : True := trivial
theorem tw6570527419222060351 : True := trivial
theorem tw5622116124826215061 : True := trivial
theorem tw18319341290842325859 : True := trivial
theorem tw18083226186452556417 : True := trivial
theorem tw14208683404413557502 : True := trivial
theorem tw6792726041849365982 : True := trivial
theorem tw5153568760072783189 : True := trivial
theorem tw6822648770673871198 : True := trivial
theorem tw17547327974380725224 : True := trivial
theorem tw15733288723308586827 : True := trivial
theorem tw3001772200871460737 : True := trivial
theorem tw10917261677961363891 : True := trivial
theorem tw125000958722278733 : True := trivial
theorem tw15585398566468250017 : True := trivial
theorem tw16089368318214080305 : True := trivial
theorem tw5514451645089890228 : True := trivial
theorem tw5492171651522670864 : True := trivial
theorem tw12247262385318953559 : True := trivial
theorem tw5265728022846181005 : True := trivial
theorem tw11998273657612853697 : True := trivial
theorem tw1105511550056743073 : True := trivial
theorem tw6799465886094588950 : True := trivial
theorem tw6183848987180763261 : True := trivial
theorem tw12906860866307741523 : True := trivial
theorem tw8536348751139261885 : True := trivial
theorem tw150009322757086879 : True := trivial
theorem tw2825984682513788732 : True := trivial
theorem tw16839982872078187926 : True := trivial
theorem tw18098018471539196391 : True := trivial
theorem tw5278608009271838687 : True := trivial
theorem tw10853517502415956269 : True := trivial
theorem tw18035785085218618733 : True := trivial
theorem tw12079333149283394759 : True := trivial
theorem tw13127256314665274578 : True := trivial
theorem tw14349963407563528942 : True := trivial
theorem tw14668460685915754610 : True := trivial
theorem tw1832897948875504799 : True := trivial
theorem tw17417678135412912229 : True := trivial
theorem tw4689851910054133313 : True := trivial
theorem tw8505803517589471767 : True := trivial
theorem tw10411737396796049865 : True := trivial
theorem tw4922352962795631606 : True := trivial
theorem tw15678324191119620312 : True := trivial
theorem tw14211251050519858603 : True := trivial
theorem tw436230583496178160 : True := trivial
theorem tw5285554443856583630 : True := trivial
theorem tw5601179496182717965 : True := trivial
theorem tw13060984646314546679 : True := trivial
theorem tw13889959994406297431 : True := trivial
theorem tw7525487819002029522 : True := trivial
theorem tw8414639754023066159 : True := trivial
theorem tw10403470969642634056 : True := trivial
theorem tw4204713455242495075 : True := trivial
theorem tw13896629558189693526 : True := trivial
theorem tw4618409453067254004 : True := trivial
theorem tw14630534699680035876 : True := trivial
theorem tw8794590873670428647 : True := trivial
theorem tw15903629846181563869 : True := trivial
theorem tw17527842898797319323 : True := trivial
theorem tw10045520229760317629 : True := trivial
theorem tw16919598071592559065 : True := trivial
theorem tw11096198959174908591 : True := trivial
theorem tw4642061474354711461 : True := trivial
theorem tw8216599364889617777 : True := trivial
theorem tw17469049644435649981 : True := trivial
theorem tw5113349932141924100 : True := trivial
theorem tw4483037133765123312 : True := trivial
theorem tw5059256446487689644 : True := trivial
theorem tw12250918243683298684 : True := trivial
theorem tw2669110351358292045 : True := trivial
theorem tw12674515885976210616 : True := trivial
theorem tw13508785696728489996 : True := trivial
theorem tw15531251133928745484 : True := trivial
theorem tw3425717965363413459 : True := trivial
theorem tw7079734427367443061 : True := trivial
theorem tw13373883942186268148 : True := trivial
theorem tw15108437221645647012 : True := trivial
theorem tw7724290459246561478 : True := trivial
theorem tw13166789370678733552 : True := trivial
theorem tw17046561265732583615 : True := trivial
theorem tw94684147606456839 : True := trivial
theorem tw7293088935091268956 : True := trivial
theorem tw7391276107747542987 : True := trivial
theorem tw16838887675051750509 : True := trivial
theorem tw2602049639155650529 : True := trivial
theorem tw14268014689914900649 : True := trivial
theorem tw7819909555929257007 : True := trivial
theorem tw1817802293813498927 : True := trivial
theorem tw8721468052614485584 : True := trivial
theorem tw10933827195780067514 : True := trivial
theorem tw3904509044398133918 : True := trivial
theorem tw5610613713482121051 : True := trivial
theorem tw14165411513980072746 : True := trivial
theorem tw3665916965035779879 : True := trivial
theorem tw15928781098756283376 : True := trivial
theorem tw16382247241970311351 : True := trivial
theorem tw4652753999304955923 : True := trivial
theorem tw12046933014701940028 : True := trivial
theorem tw8988606354490718842 : True := trivial
theorem tw2807717527329353829 : True := trivial
theorem tw2888392858345342729 : True := trivial
theorem tw15824181761846381013 : True := trivial
theorem tw4976210324561387959 : True := trivial
theorem tw5502385444756145127 : True := trivial
theorem tw12061910030300250287 : True := trivial
theorem tw17440779245331541279 : True := trivial
theorem tw3904686908709989514 : True := trivial
theorem tw16726231102679674359 : True := trivial
theorem tw11380098936113500736 : True := trivial
theorem tw15272988853455740405 : True := trivial
theorem tw17105386484735400020 : True := trivial
theorem tw8646727010320268298 : True := trivial
theorem tw8502882190155354585 : True := trivial
theorem tw2191124726793733970 : True := trivial
theorem tw1506086272787781747 : True := trivial
theorem tw9434326166831274917 : True := trivial
theorem tw18263645307152830926 : True := trivial
theorem tw5137373407424489148 : True := trivial
theorem tw12213671742696406288 : True := trivial
theorem tw14197678556963582635 : True := trivial
theorem tw14649615146861079868 : True := trivial
theorem tw630033806988700361 : True := trivial
theorem tw3539568823937182580 : True := trivial
theorem tw1780740118869883291 : True := trivial
theorem tw7887221105329656634 : True := trivial
theorem tw14225445993092194222 : True := trivial
theorem tw13622259997670333366 : True := trivial
theorem tw17643238753339992273 : True := trivial
theorem tw8183721575958600736 : True := trivial
theorem tw9117008504140475306 : True := trivial
theorem tw8688046890032134929 : True := trivial
theorem tw9309178243109026977 : True := trivial
theorem tw10288125893421208029 : True := trivial
theorem tw15585753930442018345 : True := trivial
theorem tw15982213519371474243 : True := trivial
theorem tw8627782186890770180 : True := trivial
theorem tw2603055132093852840 : True := trivial
theorem tw5618546852441768017 : True := trivial
theorem tw3716138605684846740 : True := trivial
theorem tw11858292975810342637 : True := trivial
theorem tw5444363879143121914 : True := trivial
theorem tw14564858026313037 : True := trivial
theorem tw10621686102459134573 : True := trivial
theorem tw1581902949308552931 : True := trivial
theorem tw17875361965903520664 : True := trivial
theorem tw4685552486113674048 : True := trivial
theorem tw15796262473608462653 : True := trivial
theorem tw3186065677828621867 : True := trivial
theorem tw12283232742449185894 : True := trivial
theorem tw15689398283356608952 : True := trivial
theorem tw17159977347639640010 : True := trivial
theorem tw12086623813519532277 : True := trivial
theorem tw4538969791824626308 : True := trivial
theorem tw17462526077573485168 : True := trivial
theorem tw9300965508776161595 : True := trivial
theorem tw3134887444524082234 : True := trivial
theorem tw2746216205566802179 : True := trivial
theorem tw13611416442255768363 : True := trivial
theorem tw16801291291735533355 : True := trivial
theorem tw12958183183417050342 : True := trivial
theorem tw11159672822229036190 : True := trivial
theorem tw10747857488928354210 : True := trivial
theorem tw16430235966179470733 : True := trivial
theorem tw17561413531627570322 : True := trivial
theorem tw2017042346815401910 : True := trivial
theorem tw18028788218542829752 : True := trivial
theorem tw2898352517571367713 : True := trivial
theorem tw10413872058926152271 : True := trivial
theorem tw5989857833401275614 : True := trivial
theorem tw17151984684697272889 : True := trivial
theorem tw441967468472208619 : True := trivial
theorem tw7307712575562931383 : True := trivial
theorem tw7778815818703482701 : True := trivial
theorem tw15390884965697295748 : True := trivial
theorem tw5137646417323477708 : True := trivial
theorem tw7061526531792650228 : True := trivial
theorem tw15968695235536480186 : True := trivial
theorem tw11737342553290769550 : True := trivial
theorem tw5379193930666358878 : True := trivial
theorem tw2805084816532932599 : True := trivial
theorem tw8868249240324254083 : True := trivial
theorem tw9395742167311939925 : True := trivial
theorem tw10663343153013508169 : True := trivial
theorem tw7081573217341251472 : True := trivial
theorem tw14272585325469898605 : True := trivial
theorem tw12649698931615012931 : True := trivial
theorem tw11867229586079711451 : True := trivial
theorem tw1051074627320926393 : True := trivial
theorem tw648838385106647381 : True := trivial
theorem tw11070451378751647941 : True := trivial
theorem tw5524006377338975048 : True := trivial
theorem tw14831451243407865161 : True := trivial
theorem tw15954809650749948470 : True := trivial
theorem tw6621888354533742692 : True := trivial
theorem tw6990697249223997001 : True := trivial
theorem tw3666703623733873531 : True := trivial
theorem tw15937198168439213914 : True := trivial
theorem tw4845350641620226872 : True := trivial
theorem tw7056649160471400155 : True := trivial
theorem tw16238429371115428145 : True := trivial
theorem tw1613265746903739738 : True := trivial
theorem tw446407168623110666 : True := trivial
theorem tw18420988682661842052 : True := trivial
theorem tw2573709871666512352 : True := trivial
theorem tw17759954818831877894 : True := trivial
theorem tw11035949176995080360 : True := trivial
theorem tw5756205733293353880 : True := trivial
theorem tw4251773384841709576 : True := trivial
theorem tw9014237809731202812 : True := trivial
theorem tw6250165665069498848 : True := trivial
theorem tw9277801119963356254 : True := trivial
theorem tw15745101432913800951 : True := trivial
theorem tw1673039327737106080 : True := trivial
theorem tw9138225706273999598 : True := trivial
theorem tw17781017094593263993 : True := trivial
theorem tw3488040941393582554 : True := trivial
theorem tw6066389946511294018 : True := trivial
theorem tw7925817277610845458 : True := trivial
theorem tw1666018748028563518 : True := trivial
theorem tw8776964500185613257 : True := trivial
theorem tw2902574889646001467 : True := trivial
theorem tw13037260340773211593 : True := trivial
theorem tw14148220539697525013 : True := trivial
theorem tw15798616168546022355 : True := trivial
theorem tw8924959853708414690 : True := trivial
theorem tw2894121267123564484 : True := trivial
theorem tw14192065211141026456 : True := trivial
theorem tw14291931992947637347 : True := trivial
theorem tw11149038726676202220 : True := trivial
theorem tw5353581041296560730 : True := trivial
theorem tw13957751357074249573 : True := trivial
theorem tw16606724720043539325 : True := trivial
theorem tw5643892686164737317 : True := trivial
theorem tw1799011826047438474 : True := trivial
theorem tw10725557722802716644 : True := trivial
theorem tw8620814659067495739 : True := trivial
theorem tw7457600468787443964 : True := trivial
theorem tw15159634177590513426 : True := trivial
theorem tw16556406792855256491 : True := trivial
theorem tw5266801127103182260 : True := trivial
theorem tw7511200012673577322 : True := trivial
theorem tw11732346843442838145 : True := trivial
theorem tw1340217738334336977 : True := trivial
theorem tw4893623686784397863 : True := trivial
theorem tw18148828526048921360 : True := trivial
theorem tw6929499352688962386 : True := trivial
theorem tw8850843203677556865 : True := trivial
theorem tw3955231420307015698 : True := trivial
theorem tw14692103677294219503 : True := trivial
theorem tw15324959816385304701 : True := trivial
theorem tw16328207870289013209 : True := trivial
theorem tw8623111402386528561 : True := trivial
theorem tw15816578487510154139 : True := trivial
theorem tw11548889702392440102 : True := trivial
theorem tw5788633901211262616 : True := trivial
theorem tw12356558178878733200 : True := trivial
theorem tw18424649286672542280 : True := trivial
theorem tw4005827022591463151 : True := trivial
theorem tw14647931336585680266 : True := trivial
theorem tw4410301931923536811 : True := trivial
theorem tw12948197658491185626 : True := trivial
theorem tw6633897529414631393 : True := trivial
theorem tw3821356962619945792 : True := trivial
theorem tw10167704225172586689 : True := trivial
theorem tw4303339982857492363 : True := trivial
theorem tw15786868896761509291 : True := trivial
theorem tw7530257019021402742 : True := trivial
theorem tw5949882860166492968 : True := trivial
theorem tw9104230820435915684 : True := trivial
theorem tw10529707306095089194 : True := trivial
theorem tw8978560820430059247 : True := trivial
theorem tw5959211697145398050 : True := trivial
theorem tw437953178304648240 : True := trivial
theorem tw3961830279268073939 : True := trivial
theorem tw13142089762715620221 : True := trivial
theorem tw9840791885033798932 : True := trivial
theorem tw17731485717913547558 : True := trivial
theorem tw15134323855785167526 : True := trivial
theorem tw5945801656903501427 : True := trivial
theorem tw13738423877397148192 : True := trivial
theorem tw1371737001383497982 : True := trivial
theorem tw6942807102542705046 : True := trivial
theorem tw1437241788873894288 : True := trivial
theorem tw10590203461047528467 : True := trivial
theorem tw9913862331513915736 : True := trivial
theorem tw12711168566551653146 : True := trivial
theorem tw231400648838730632 : True := trivial
theorem tw14460680561879374981 : True := trivial
theorem tw17811901115069209202 : True := trivial
theorem tw11323726462962572588 : True := trivial
theorem tw17759022964738004272 : True := trivial
theorem tw7219900058754366504 : True := trivial
theorem tw461333361414659468 : True := trivial
theorem tw14118208387083224337 : True := trivial
theorem tw12429963225923064437 : True := trivial
theorem tw7503820477946000039 : True := trivial
theorem tw17389890502801971249 : True := trivial
theorem tw7101612796228846279 : True := trivial
theorem tw8428922209180247407 : True := trivial
theorem tw5025657757091927525 : True := trivial
theorem tw7484171462235528617 : True := trivial
theorem tw1635069958270432910 : True := trivial
theorem tw5487891897755414383 : True := trivial
theorem tw11802339354874214341 : True := trivial
theorem tw5463433801337662048 : True := trivial
theorem tw878112997209948460 : True := trivial
theorem tw10260649970430003722 : True := trivial
theorem tw10762105187300685608 : True := trivial
theorem tw11719327415939555929 : True := trivial
theorem tw14846474160475873156 : True := trivial
theorem tw10684514837864822225 : True := trivial
theorem tw3261688423614505977 : True := trivial
theorem tw10351861747783658228 : True := trivial
theorem tw958849662871589006 : True := trivial
theorem tw4139264128775623207 : True := trivial
theorem tw12162001732481486864 : True := trivial
theorem tw8396926237687061885 : True := trivial
theorem tw14043440334454152513 : True := trivial
theorem tw12846850643861458935 : True := trivial
theorem tw309022433735624022 : True := trivial
theorem tw12625148493032912127 : True := trivial
theorem tw15242915585491768773 : True := trivial
theorem tw12708437235182613431 : True := trivial
theorem tw7617187239614716402 : True := trivial
theorem tw3211714916389650667 : True := trivial
theorem tw9382969093390743284 : True := trivial
theorem tw7321273053457267728 : True := trivial
theorem tw11333741502124044764 : True := trivial
theorem tw15580671792588627032 : True := trivial
theorem tw2071018913852095143 : True := trivial
theorem tw6825486819748042102 : True := trivial
theorem tw14177140835311910866 : True := trivial
theorem tw2432612237015789232 : True := trivial
theorem tw11444347607288259050 : True := trivial
theorem tw4938110590004624433 : True := trivial
theorem tw6516992507134743882 : True := trivial
theorem tw12299998826917733428 : True := trivial
theorem tw6158855507604126677 : True := trivial
theorem tw8902130154738362959 : True := trivial
theorem tw5076910873366500543 : True := trivial
theorem tw9755300418931704455 : True := trivial
theorem tw14361618140175409728 : True := trivial
theorem tw6842154035140868767 : True := trivial
theorem tw8207373051262129902 : True := trivial
theorem tw1293919794414820200 : True := trivial
theorem tw13727224605785104194 : True := trivial
theorem tw3975455045233873934 : True := trivial
theorem tw6691430176132819142 : True := trivial
theorem tw9362745455224883678 : True := trivial
theorem tw5222939505008522655 : True := trivial
theorem tw15326521785637164512 : True := trivial
theorem tw3197783588583133785 : True := trivial
theorem tw9366867050525024842 : True := trivial
theorem tw4535337284330554081 : True := trivial
theorem tw5279789388587958590 : True := trivial
theorem tw4948826808255658949 : True := trivial
theorem tw10256649388039709253 : True := trivial
theorem tw447244840158061467 : True := trivial
theorem tw3425569076588369841 : True := trivial
theorem tw729687722785436168 : True := trivial
theorem tw1269315002377578152 : True := trivial
theorem tw7054623770000871634 : True := trivial
theorem tw15681490457966925648 : True := trivial
theorem tw7470198589108143998 : True := trivial
theorem tw5047145040368561378 : True := trivial
theorem tw890257187062353858 : True := trivial
theorem tw379972861695955122 : True := trivial
theorem tw1493707504544968736 : True := trivial
theorem tw8192508546053585809 : True := trivial
theorem tw812773069855046512 : True := trivial
theorem tw13580410256879492942 : True := trivial
theorem tw12003790382902097559 : True := trivial
theorem tw9417702831669421375 : True := trivial
theorem tw1113720126334183262 : True := trivial
theorem tw7606630635904635318 : True := trivial
theorem tw10741804928103456005 : True := trivial
theorem tw16328808738503309522 : True := trivial
theorem tw11786517804709992805 : True := trivial
theorem tw1785996939338546288 : True := trivial
theorem tw13403568312837716874 : True := trivial
theorem tw7283493479681323806 : True := trivial
theorem tw14880903552495188190 : True := trivial
theorem tw821445774684868497 : True := trivial
theorem tw18238089603870738808 : True := trivial
theorem tw3860711892173554853 : True := trivial
theorem tw2908151346219155926 : True := trivial
theorem tw15651818430346959111 : True := trivial
theorem tw8234294187571292296 : True := trivial
theorem tw17227861242962533013 : True := trivial
theorem tw7852632855396327513 : True := trivial
theorem tw7512943258956603480 : True := trivial
theorem tw18317685458187620077 : True := trivial
theorem tw11578244167156364980 : True := trivial
theorem tw3552739442678685345 : True := trivial
theorem tw8627047409233683206 : True := trivial
theorem tw17471670668436089709 : True := trivial
theorem tw6402272429434483778 : True := trivial
theorem tw2133309969350624895 : True := trivial
theorem tw12442614711664419857 : True := trivial
theorem tw9374635288752604184 : True := trivial
theorem tw17057811062035264720 : True := trivial
theorem tw6815828506703294830 : True := trivial
theorem tw9075285017245212139 : True := trivial
theorem tw13854305486181766786 : True := trivial
theorem tw5587651889101792012 : True := trivial
theorem tw18228826317617294621 : True := trivial
theorem tw17143805514179836209 : True := trivial
theorem tw7348823478507307051 : True := trivial
theorem tw3824579510758939774 : True := trivial
theorem tw14054530396647954518 : True := trivial
theorem tw14718703549967746941 : True := trivial
theorem tw11171136431551409322 : True := trivial
theorem tw2269601162274272745 : True := trivial
theorem tw1699803309481287446 : True := trivial
theorem tw1858954100179690137 : True := trivial
theorem tw12672289257826495567 : True := trivial
theorem tw16591502846395235520 : True := trivial
theorem tw6900669220834188532 : True := trivial
theorem tw15838992123499025985 : True := trivial
theorem tw2689793073030434464 : True := trivial
theorem tw410058500098652203 : True := trivial
theorem tw5510704578038276329 : True := trivial
theorem tw16055848829457148683 : True := trivial
theorem tw2359422372529666055 : True := trivial
theorem tw17873491809017219553 : True := trivial
theorem tw15830478006044778763 : True := trivial
theorem tw5962308582109441153 : True := trivial
theorem tw3556882065524650739 : True := trivial
theorem tw18185241754738984850 : True := trivial
theorem tw16318401836031583281 : True := trivial
theorem tw10260937636086837106 : True := trivial
theorem tw10697096660749667102 : True := trivial
theorem tw8942209145637521543 : True := trivial
theorem tw104729818832497689 : True := trivial
theorem tw9577379940988580575 : True := trivial
theorem tw11685789145698851876 : True := trivial
theorem tw10107125890874393612 : True := trivial
theorem tw12540062971321359226 : True := trivial
theorem tw5046536582185336773 : True := trivial
theorem tw2083595345884420851 : True := trivial
theorem tw1568572421654389738 : True := trivial
theorem tw18219416909888037651 : True := trivial
theorem tw8089333075145804637 : True := trivial
theorem tw2606825497412096823 : True := trivial
theorem tw11720847054359730153 : True := trivial
theorem tw17073828083319969873 : True := trivial
theorem tw3863059764102574100 : True := trivial
theorem tw10955591680254627544 : True := trivial
theorem tw5790475119372535543 : True := trivial
theorem tw12615881670110924864 : True := trivial
theorem tw2452862105799385758 : True := trivial
theorem tw16059483026106412708 : True := trivial
theorem tw14614271325550544154 : True := trivial
theorem tw5724996444684614624 : True := trivial
theorem tw3787558419340804634 : True := trivial
theorem tw12351945316090230309 : True := trivial
theorem tw17176519074905829161 : True := trivial
theorem tw5634569296040339167 : True := trivial
theorem tw13678183674272964666 : True := trivial
theorem tw7463005540564999877 : True := trivial
theorem tw13260395472569142967 : True := trivial
theorem tw17025474353553758241 : True := trivial
theorem tw8141962003580770237 : True := trivial
theorem tw14240452703004603350 : True := trivial
theorem tw12723443520139252744 : True := trivial
theorem tw2479639493137506440 : True := trivial
theorem tw16316278455708720436 : True := trivial
theorem tw9142227230803033158 : True := trivial
theorem tw13993323122794302600 : True := trivial
theorem tw7443635654957464671 : True := trivial
theorem tw8222598212891942129 : True := trivial
theorem tw8796074428723240098 : True := trivial
theorem tw14849846274287456561 : True := trivial
theorem tw5592289126988301311 : True := trivial
theorem tw192998984386546846 : True := trivial
theorem tw3860805142547698802 : True := trivial
theorem tw6771280237635440508 : True := trivial
theorem tw13376152629632029869 : True := trivial
theorem tw10635772027702066644 : True := trivial
theorem tw4701342715129693973 : True := trivial
theorem tw17934558899884912714 : True := trivial
theorem tw13692653998543499886 : True := trivial
theorem tw440849016328474596 : True := trivial
theorem tw15164082218788140753 : True := trivial
theorem tw797084179505652251 : True := trivial
theorem tw6020338488826670502 : True := trivial
theorem tw4079705780540170980 : True := trivial
theorem tw13819496013052846511 : True := trivial
theorem tw3923670691804394455 : True := trivial
theorem tw800965964470885039 : True := trivial
theorem tw6411318380845647938 : True := trivial
theorem tw4941478178011162419 : True := trivial
theorem tw10159776423778585059 : True := trivial
theorem tw2412142627277309243 : True := trivial
theorem tw1397388076392952893 : True := trivial
theorem tw1305204754850878565 : True := trivial
theorem tw10236093932488602548 : True := trivial
theorem tw13628704928195480425 : True := trivial
theorem tw4870648855018891076 : True := trivial
theorem tw12022258026231807931 : True := trivial
theorem tw2242801469729042370 : True := trivial
theorem tw16369968427654808812 : True := trivial
theorem tw11116714040846789314 : True := trivial
theorem tw12017864795206590909 : True := trivial
theorem tw4197491403131197677 : True := trivial
theorem tw14677246069708170454 : True := trivial
theorem tw16595251251890877955 : True := trivial
theorem tw13703298068963688542 : True := trivial
theorem tw17686210070528075084 : True := trivial
theorem tw15902476626400137217 : True := trivial
theorem tw1796857539336906833 : True := trivial
theorem tw13665325248097319569 : True := trivial
theorem tw4792926455324665805 : True := trivial
theorem tw17752012796579325567 : True := trivial
theorem tw9054075837377165533 : True := trivial
theorem tw9066492490468153490 : True := trivial
theorem tw4288507680740933012 : True := trivial
theorem tw2719833201236312796 : True := trivial
theorem tw3607478827576622964 : True := trivial
theorem tw14085829404365754077 : True := trivial
theorem tw17001992349367781766 : True := trivial
theorem tw12690255785212653031 : True := trivial
theorem tw11681851583849003721 : True := trivial
theorem tw15821624695478701178 : True := trivial
theorem tw4658071841168912979 : True := trivial
theorem tw9519176360981819713 : True := trivial
theorem tw16265306689645583476 : True := trivial
theorem tw7721624427646308875 : True := trivial
theorem tw14885124996383997388 : True := trivial
theorem tw13437886484669441207 : True := trivial
theorem tw5941177200344533877 : True := trivial
theorem tw17291018161158137754 : True := trivial
theorem tw13129304694048278824 : True := trivial
theorem tw12630914411776553652 : True := trivial
theorem tw4525671709512495941 : True := trivial
theorem tw1185153071861899355 : True := trivial
theorem tw18089713044069447458 : True := trivial
theorem tw2327520717346310806 : True := trivial
theorem tw9492804829144155298 : True := trivial
theorem tw17611648539995990177 : True := trivial
theorem tw4772074645055445651 : True := trivial
theorem tw1746470876105905684 : True := trivial
theorem tw15691474846895688578 : True := trivial
theorem tw2886341708844878146 : True := trivial
theorem tw7524312903568721724 : True := trivial
theorem tw3085055599037472097 : True := trivial
theorem tw8576861098741194408 : True := trivial
theorem tw3011375428706262047 : True := trivial
theorem tw11065619028662008838 : True := trivial
theorem tw12146420157470764207 : True := trivial
theorem tw14564834963240579523 : True := trivial
theorem tw18078935365340439048 : True := trivial
theorem tw7640908960232793281 : True := trivial
theorem tw874793380447155489 : True := trivial
theorem tw1941998906521311156 : True := trivial
theorem tw13850322205626342765 : True := trivial
theorem tw319147675683315577 : True := trivial
theorem tw5450657957377046541 : True := trivial
theorem tw18103738784750593669 : True := trivial
theorem tw8112012093442567688 : True := trivial
theorem tw2859752199158280341 : True := trivial
theorem tw17522622395087748733 : True := trivial
theorem tw6639699784177970299 : True := trivial
theorem tw1642080735306419687 : True := trivial
theorem tw5022871965293678075 : True := trivial
theorem tw14221498443731313530 : True := trivial
theorem tw3520513900251282262 : True := trivial
theorem tw3470512510220579407 : True := trivial
theorem tw11343543987965973944 : True := trivial
theorem tw8339242507086888528 : True := trivial
theorem tw4443721071916556401 : True := trivial
theorem tw2753590161213067855 : True := trivial
theorem tw3861425684111018585 : True := trivial
theorem tw11808874645910072511 : True := trivial
theorem tw12325032795338910654 : True := trivial
theorem tw4048801431348684731 : True := trivial
theorem tw7191858789552793667 : True := trivial
theorem tw15125010040599877336 : True := trivial
theorem tw3785224120556531381 : True := trivial
theorem tw8763086693785933324 : True := trivial
theorem tw4335183327604805108 : True := trivial
theorem tw14055459355480728423 : True := trivial
theorem tw834570701346966686 : True := trivial
theorem tw6752373372295014874 : True := trivial
theorem tw16752406478821253435 : True := trivial
theorem tw7604813612834679535 : True := trivial
theorem tw8306465891391937672 : True := trivial
theorem tw3837746744798171581 : True := trivial
theorem tw7397902966989655315 : True := trivial
theorem tw6497231746309181555 : True := trivial
theorem tw15897118353138201981 : True := trivial
theorem tw17744505489441578364 : True := trivial
theorem tw8997443814959036336 : True := trivial
theorem tw18440490970133443162 : True := trivial
theorem tw17560124883104246562 : True := trivial
theorem tw5724385563152885015 : True := trivial
theorem tw4582836685962379442 : True := trivial
theorem tw9702070063543620739 : True := trivial
theorem tw8656779302402086985 : True := trivial
theorem tw336134912947543386 : True := trivial
theorem tw6291550324143276282 : True := trivial
theorem tw9485275459801693120 : True := trivial
theorem tw4580965128446196920 : True := trivial
theorem tw8533600241744202427 : True := trivial
theorem tw2781579340767118783 : True := trivial
theorem tw1242203284184349246 : True := trivial
theorem tw7980766148191350414 : True := trivial
theorem tw5143195345717599421 : True := trivial
theorem tw2892520532082881618 : True := trivial
theorem tw9588474943371227484 : True := trivial
theorem tw8955569161913441666 : True := trivial
theorem tw2887927879643287368 : True := trivial
theorem tw6801933970907970743 : True := trivial
theorem tw7496377928489789229 : True := trivial
theorem tw7234601564843088853 : True := trivial
theorem tw8264916547888067913 : True := trivial
theorem tw13473002985860316460 : True := trivial
theorem tw11189467530164390857 : True := trivial
theorem tw1480569213435345090 : True := trivial
theorem tw4993431340832929740 : True := trivial
theorem tw7898796760046747850 : True := trivial
theorem tw5135564343100414913 : True := trivial
theorem tw2691165374707508755 : True := trivial
theorem tw1033279062496365524 : True := trivial
theorem tw16233850112659131931 : True := trivial
theorem tw16753129172081052774 : True := trivial
theorem tw15744434951979682719 : True := trivial
theorem tw9333015932291528210 : True := trivial
theorem tw7912406990977441295 : True := trivial
theorem tw10500827819825622522 : True := trivial
theorem tw16596848555948283298 : True := trivial
theorem tw2408109254296013575 : True := trivial
theorem tw13116654131632452466 : True := trivial
theorem tw214950905293593037 : True := trivial
theorem tw17909739110536188775 : True := trivial
theorem tw3293285946520723379 : True := trivial
theorem tw6819416729696839735 : True := trivial
theorem tw12929580930060211928 : True := trivial
theorem tw16425071888618042516 : True := trivial
theorem tw175785381615809629 : True := trivial
theorem tw9972853288432618636 : True := trivial
theorem tw16110740700751935305 : True := trivial
theorem tw16324425802810590011 : True := trivial
theorem tw1240131116764847098 : True := trivial
theorem tw9609901186037024035 : True := trivial
theorem tw7279855652727926525 : True := trivial
theorem tw1499663899736250362 : True := trivial
theorem tw7707937509267263580 : True := trivial
theorem tw502430705929289203 : True := trivial
theorem tw12757041952843453418 : True := trivial
theorem tw3435673593814965970 : True := trivial
theorem tw13274508359361125893 : True := trivial
theorem tw16862164010753220500 : True := trivial
theorem tw524933045575059466 : True := trivial
theorem tw9156651148922192376 : True := trivial
theorem tw7989189412307301447 : True := trivial
theorem tw958636886737883547 : True := trivial
theorem tw16192517660460301628 : True := trivial
theorem tw10823832298529256702 : True := trivial
theorem tw42831038575968427 : True := trivial
theorem tw11053189501099029261 : True := trivial
theorem tw10495968734874524208 : True := trivial
theorem tw14764763442641740913 : True := trivial
theorem tw17540822115672779443 : True := trivial
theorem tw10133656584261330275 : True := trivial
theorem tw9913125814129729133 : True := trivial
theorem tw9332217479697819403 : True := trivial
theorem tw3282705557002769499 : True := trivial
theorem tw7090564948033758563 : True := trivial
theorem tw6064798978022542411 : True := trivial
theorem tw5540464745877988047 : True := trivial
theorem tw4075311629177722115 : True := trivial
theorem tw4187106309176574286 : True := trivial
theorem tw11338614748254112537 : True := trivial
theorem tw9459974086703073140 : True := trivial
theorem tw12983724506513738997 : True := trivial
theorem tw3403767327089754554 : True := trivial
theorem tw18185145449418394992 : True := trivial
theorem tw3072815414143628829 : True := trivial
theorem tw8209447691045190089 : True := trivial
theorem tw17358753527347444840 : True := trivial
theorem tw8168543752008584022 : True := trivial
theorem tw7327942610110131262 : True := trivial
theorem tw10247845598425242537 : True := trivial
theorem tw10854032380739806689 : True := trivial
theorem tw16718284980478510913 : True := trivial
theorem tw64075281991204445 : True := trivial
theorem tw2172722460975038317 : True := trivial
theorem tw16649230321865566362 : True := trivial
theorem tw9504096191035119105 : True := trivial
theorem tw1499145274315378355 : True := trivial
theorem tw14669664285141621231 : True := trivial
theorem tw12162264259051111255 : True := trivial
theorem tw16325825235142587583 : True := trivial
theorem tw5317998146913845425 : True := trivial
theorem tw5958885655151967168 : True := trivial
theorem tw2587504390595633711 : True := trivial
theorem tw7956145077370301840 : True := trivial
theorem tw1927341525110616209 : True := trivial
theorem tw746281231193280331 : True := trivial
theorem tw10807401376775456936 : True := trivial
theorem tw9678171351114612283 : True := trivial
theorem tw13754330838796640410 : True := trivial
theorem tw4220930283392528928 : True := trivial
theorem tw4488336880557432956 : True := trivial
theorem tw18239363759235495768 : True := trivial
theorem tw8009627349658495839 : True := trivial
theorem tw14485996139667069950 : True := trivial
theorem tw11056049043926328171 : True := trivial
theorem tw13169756761702823865 : True := trivial
theorem tw15342716104394067554 : True := trivial
theorem tw13082549105311711574 : True := trivial
theorem tw13809782880042459412 : True := trivial
theorem tw8109787299748624112 : True := trivial
theorem tw3135342984253245152 : True := trivial
theorem tw17705695657449590128 : True := trivial
theorem tw6076138359111077913 : True := trivial
theorem tw8536544725054490646 : True := trivial
theorem tw4217762110672383049 : True := trivial
theorem tw9965116338893792675 : True := trivial
theorem tw1374110659589280932 : True := trivial
theorem tw5291665527524915895 : True := trivial
theorem tw18204281525694456792 : True := trivial
theorem tw10669739221151288776 : True := trivial
theorem tw14252043483332443031 : True := trivial
theorem tw14948650034479210086 : True := trivial
theorem tw5740708184376835202 : True := trivial
theorem tw3254073314409377459 : True := trivial
theorem tw9156554527859698901 : True := trivial
theorem tw2016297308684733692 : True := trivial
theorem tw2071360880127354495 : True := trivial
theorem tw15656631028327951657 : True := trivial
theorem tw17611084338234137455 : True := trivial
theorem tw2875467496587392954 : True := trivial
theorem tw705960715879336197 : True := trivial
theorem tw16567565409007952562 : True := trivial
theorem tw10350230977658879323 : True := trivial
theorem tw3725298204238504791 : True := trivial
theorem tw10256185535791522784 : True := trivial
theorem tw2968458498911868151 : True := trivial
theorem tw134145134569423886 : True := trivial
theorem tw166130906605309529 : True := trivial
theorem tw493337550702819591 : True := trivial
theorem tw17308502614386048617 : True := trivial
theorem tw314425623403664726 : True := trivial
theorem tw6809281916863456693 : True := trivial
theorem tw4198752058371821317 : True := trivial
theorem tw10965376293764745743 : True := trivial
theorem tw2059848071255534406 : True := trivial
theorem tw3675103550593193642 : True := trivial
theorem tw2981345466256594655 : True := trivial
theorem tw2851678393869987504 : True := trivial
theorem tw10130818974951677547 : True := trivial
theorem tw14616965048246568572 : True := trivial
theorem tw6646093547762286880 : True := trivial
theorem tw12487019384773221297 : True := trivial
theorem tw16021137267898150317 : True := trivial
theorem tw12007229243092377305 : True := trivial
theorem tw15713755851082171456 : True := trivial
theorem tw10976916819061967203 : True := trivial
theorem tw6274893639163658521 : True := trivial
theorem tw16089634496055441836 : True := trivial
theorem tw6051187307239767732 : True := trivial
theorem tw925953005365373403 : True := trivial
theorem tw3038804172575214301 : True := trivial
theorem tw8906776504841044313 : True := trivial
theorem tw3244001541555978580 : True := trivial
theorem tw5323161435797092026 : True := trivial
theorem tw15602991807200892682 : True := trivial
theorem tw1932232596915786972 : True := trivial
theorem tw16747893947695259213 : True := trivial
theorem tw18220736888041805677 : True := trivial
theorem tw13597847600413153542 : True := trivial
theorem tw196272805154244992 : True := trivial
theorem tw15321935112702216633 : True := trivial
theorem tw9813467710871034409 : True := trivial
theorem tw4071086728449870339 : True := trivial
theorem tw10250447611373679683 : True := trivial
theorem tw3888496443483679114 : True := trivial
theorem tw7368769140719940027 : True := trivial
theorem tw4611077868273942938 : True := trivial
theorem tw14634401982134459671 : True := trivial
theorem tw7179460068076362774 : True := trivial
theorem tw7265455362035163935 : True := trivial
theorem tw10780594195714807233 : True := trivial
theorem tw16892009871105398646 : True := trivial
theorem tw3279147124904890143 : True := trivial
theorem tw12891700302285583207 : True := trivial
theorem tw8172221022567829160 : True := trivial
theorem tw12165950761747259356 : True := trivial
theorem tw2877733039463499116 : True := trivial
theorem tw15487295003238814420 : True := trivial
theorem tw1904762520700276777 : True := trivial
theorem tw13532978428997071346 : True := trivial
theorem tw17888644122964132012 : True := trivial
theorem tw3350981227105356488 : True := trivial
theorem tw7696492169812461728 : True := trivial
theorem tw14845377709837056705 : True := trivial
theorem tw12185289921371787570 : True := trivial
theorem tw3994259026171265059 : True := trivial
theorem tw3120406723256739190 : True := trivial
theorem tw1377543332429687945 : True := trivial
theorem tw2408484817997047413 : True := trivial
theorem tw2452644138788936662 : True := trivial
theorem tw737847617810960580 : True := trivial
theorem tw10481637044873668089 : True := trivial
theorem tw12584409365344597743 : True := trivial
theorem tw13366634525154621010 : True := trivial
theorem tw5209344884819651386 : True := trivial
theorem tw15983369042629039476 : True := trivial
theorem tw8695442278372429022 : True := trivial
theorem tw9580744395465452627 : True := trivial
theorem tw1712158497922473756 : True := trivial
theorem tw6949762087325591536 : True := trivial
theorem tw4476030262152706567 : True := trivial
theorem tw15796798329543809565 : True := trivial
theorem tw15970836382200072776 : True := trivial
theorem tw8549593560639052601 : True := trivial
theorem tw12840623121068721930 : True := trivial
theorem tw17641754723457111220 : True := trivial
theorem tw10178909794936000281 : True := trivial
theorem tw8516182496156008373 : True := trivial
theorem tw2719170801428265853 : True := trivial
theorem tw7184220014157087415 : True := trivial
theorem tw11747932359618791828 : True := trivial
theorem tw10907190488350725299 : True := trivial
theorem tw2868074611983617650 : True := trivial
theorem tw2635523999749359169 : True := trivial
theorem tw6454728616425510206 : True := trivial
theorem tw5006021772702189946 : True := trivial
theorem tw14802397271687771041 : True := trivial
theorem tw12211840329478338424 : True := trivial
theorem tw13636258144748767829 : True := trivial
theorem tw10573951585671606584 : True := trivial
theorem tw4321942953580958205 : True := trivial
theorem tw1744921412949516253 : True := trivial
theorem tw7099542883045184449 : True := trivial
theorem tw4311983354313349054 : True := trivial
theorem tw17313133947098182611 : True := trivial
theorem tw10835481057771306368 : True := trivial
theorem tw14123448610568488444 : True := trivial
theorem tw17213242318920730384 : True := trivial
theorem tw16084341786356119136 : True := trivial
theorem tw7434800688347545301 : True := trivial
theorem tw8075518212673452859 : True := trivial
theorem tw3839570191307804083 : True := trivial
theorem tw1721554147468895260 : True := trivial
theorem tw3275894487885046459 : True := trivial
theorem tw10980160858661396567 : True := trivial
theorem tw7147419473863348633 : True := trivial
theorem tw16901438496657305561 : True := trivial
theorem tw6624375577026359705 : True := trivial
theorem tw15629730356991532098 : True := trivial
theorem tw4500586402747568557 : True := trivial
theorem tw13060509059600490311 : True := trivial
theorem tw2652828606882538024 : True := trivial
theorem tw4738682202655888801 : True := trivial
theorem tw13153148868421496119 : True := trivial
theorem tw2510659314126430986 : True := trivial
theorem tw5609729212067698279 : True := trivial
theorem tw10600146752208653343 : True := trivial
theorem tw4106840227442295011 : True := trivial
theorem tw10337001505074302876 : True := trivial
theorem tw4462122272622519391 : True := trivial
theorem tw16521095826343847553 : True := trivial
theorem tw2400656342244539207 : True := trivial
theorem tw13338862695935635331 : True := trivial
theorem tw7038258776416500124 : True := trivial
theorem tw15343397256176386636 : True := trivial
theorem tw10860858015776224009 : True := trivial
theorem tw2409948035132261629 : True := trivial
theorem tw7377446895417711134 : True := trivial
theorem tw13463946498936354211 : True := trivial
theorem tw3623354763605742647 : True := trivial
theorem tw11369912222059494571 : True := trivial
theorem tw5607868808729697372 : True := trivial
theorem tw12395218447534752574 : True := trivial
theorem tw15437797874279451196 : True := trivial
theorem tw10723587081579507236 : True := trivial
theorem tw14423957234887239691 : True := trivial
theorem tw2638375232976845044 : True := trivial
theorem tw1599936542954304547 : True := trivial
theorem tw3148185994978981904 : True := trivial
theorem tw13150588931990389826 : True := trivial
theorem tw2796941764268118080 : True := trivial
theorem tw2392375696536858209 : True := trivial
theorem tw313441952073445574 : True := trivial
theorem tw6113174239961392967 : True := trivial
theorem tw17611021936499304069 : True := trivial
theorem tw1828184875478259737 : True := trivial
theorem tw461334265421337621 : True := trivial
theorem tw4340888586736073255 : True := trivial
theorem tw8788651933663595761 : True := trivial
theorem tw2215004330122197031 : True := trivial
theorem tw14728143508167222179 : True := trivial
theorem tw825327116651474566 : True := trivial
theorem tw5598870544073379699 : True := trivial
theorem tw14847095135166093218 : True := trivial
theorem tw7856511424217870248 : True := trivial
theorem tw4805738883067531041 : True := trivial
theorem tw5959540926428478619 : True := trivial
theorem tw3199248617897797942 : True := trivial
theorem tw10013920630736211611 : True := trivial
theorem tw11358723984191283386 : True := trivial
theorem tw18092163045460377646 : True := trivial
theorem tw2034540458432988212 : True := trivial
theorem tw4329698349889405798 : True := trivial
theorem tw6492891290481290649 : True := trivial
theorem tw12293753850587689395 : True := trivial
theorem tw7381386545969438243 : True := trivial
theorem tw15880751709870089409 : True := trivial
theorem tw17688399568397736977 : True := trivial
theorem tw7689923254404911393 : True := trivial
theorem tw1644950988752278961 : True := trivial
theorem tw7966408399275065268 : True := trivial
theorem tw8483441121421424858 : True := trivial
theorem tw1924552952446653654 : True := trivial
theorem tw6043484628971037557 : True := trivial
theorem tw13364760350791776824 : True := trivial
theorem tw7003477507795768038 : True := trivial
theorem tw16876430982643654873 : True := trivial
theorem tw2675240895595549983 : True := trivial
theorem tw6705092825699125173 : True := trivial
theorem tw5446072081871175217 : True := trivial
theorem tw8700248697553005291 : True := trivial
theorem tw8551145162727591028 : True := trivial
theorem tw12443435275650575901 : True := trivial
theorem tw10921250291073104234 : True := trivial
theorem tw7851569825686079630 : True := trivial
theorem tw6689570559347280941 : True := trivial
theorem tw7610161670087322621 : True := trivial
theorem tw104990941563137754 : True := trivial
theorem tw7841620633631779412 : True := trivial
theorem tw4904886233494642756 : True := trivial
theorem tw18247694991086624536 : True := trivial
theorem tw5667003427506299336 : True := trivial
theorem tw3314110848798757205 : True := trivial
theorem tw11851936496362557624 : True := trivial
theorem tw14339808306072045461 : True := trivial
theorem tw10797579943680252889 : True := trivial
theorem tw4328392734787488826 : True := trivial
theorem tw11876435080224821675 : True := trivial
theorem tw1954507896769892531 : True := trivial
theorem tw9867147970187545970 : True := trivial
theorem tw9734390562815357371 : True := trivial
theorem tw18243073695776992996 : True := trivial
theorem tw4315564095577688453 : True := trivial
theorem tw13858938960319946929 : True := trivial
theorem tw11461417213920996375 : True := trivial
theorem tw512384236414980527 : True := trivial
theorem tw12427362930966782164 : True := trivial
theorem tw7723728408435076600 : True := trivial
theorem tw2846604144303179810 : True := trivial
theorem tw8798322053637350627 : True := trivial
theorem tw4280633212541292247 : True := trivial
theorem tw5064286322648638441 : True := trivial
theorem tw17596476513087891723 : True := trivial
theorem tw6038481082602026300 : True := trivial
theorem tw4233186176390093936 : True := trivial
theorem tw16990581711556701627 : True := trivial
theorem tw10608019745863539061 : True := trivial
theorem tw1731792446333619110 : True := trivial
theorem tw3295800179739864220 : True := trivial
theorem tw9824468159743955463 : True := trivial
theorem tw6173140451887403626 : True := trivial
theorem tw5275814558922448478 : True := trivial
theorem tw12409544168505491919 : True := trivial
theorem tw6657560479887714507 : True := trivial
theorem tw10237874333548801687 : True := trivial
theorem tw8673951018082551274 : True := trivial
theorem tw2774201362672081997 : True := trivial
theorem tw3987802648070900051 : True := trivial
theorem tw4602558619841006836 : True := trivial
theorem tw7845568825354801726 : True := trivial
theorem tw6079960916519531859 : True := trivial
theorem tw7725220098905876120 : True := trivial
theorem tw8912205513199548161 : True := trivial
theorem tw14546082430722202249 : True := trivial
theorem tw12597203922916082413 : True := trivial
theorem tw3302515657311893782 : True := trivial
theorem tw9763676061644471732 : True := trivial
theorem tw7531244011332246585 : True := trivial
theorem tw12858788622906484949 : True := trivial
theorem tw6492155364720663815 : True := trivial
theorem tw15865540226608506987 : True := trivial
theorem tw1130550911029327683 : True := trivial
theorem tw7770961527234292217 : True := trivial
theorem tw16976533234846539025 : True := trivial
theorem tw336197636316769045 : True := trivial
theorem tw18397218259881413839 : True := trivial
theorem tw10411141782402714255 : True := trivial
theorem tw2422343165456329260 : True := trivial
theorem tw9989218090479425034 : True := trivial
theorem tw5987782416044784432 : True := trivial
theorem tw4178928064951325169 : True := trivial
theorem tw17083188189785049804 : True := trivial
theorem tw1033791064734877787 : True := trivial
theorem tw13845405060483385361 : True := trivial
theorem tw3832322141575553307 : True := trivial
theorem tw14535681778916883053 : True := trivial
theorem tw8277949525016620525 : True := trivial
theorem tw5528176827632321133 : True := trivial
theorem tw9999768436313733312 : True := trivial
theorem tw12100218644481171377 : True := trivial
theorem tw16444242592035508700 : True := trivial
theorem tw5801420810338659182 : True := trivial
theorem tw9587748813274113564 : True := trivial
theorem tw786258628564690198 : True := trivial
theorem tw1870473750256439046 : True := trivial
theorem tw8638297528477613018 : True := trivial
theorem tw15634662510847293951 : True := trivial
theorem tw15988808153965814634 : True := trivial
theorem tw17421085545683308135 : True := trivial
theorem tw2738279733550748518 : True := trivial
theorem tw13770893124530772354 : True := trivial
theorem tw14636921588647083243 : True := trivial
theorem tw9434955314059998885 : True := trivial
theorem tw3162050790897777870 : True := trivial
theorem tw1467700253758235210 : True := trivial
theorem tw10753728922338837892 : True := trivial
theorem tw522016081257538189 : True := trivial
theorem tw17139061081364704148 : True := trivial
theorem tw4827456874941317525 : True := trivial
theorem tw6040739670606133552 : True := trivial
theorem tw4876816038699067264 : True := trivial
theorem tw14940292436560383090 : True := trivial
theorem tw15094479898379062698 : True := trivial
theorem tw3899307761262101431 : True := trivial
theorem tw10686004810889728712 : True := trivial
theorem tw8479507048355130333 : True := trivial
theorem tw1727135794180120521 : True := trivial
theorem tw9344706340247537169 : True := trivial
theorem tw11704485162011410058 : True := trivial
theorem tw13445075759215776459 : True := trivial
theorem tw270271851702137112 : True := trivial
theorem tw10645758046831415727 : True := trivial
theorem tw6043272649748380234 : True := trivial
theorem tw713221739922629641 : True := trivial
theorem tw2386302060529323036 : True := trivial
theorem tw169260482420985399 : True := trivial
theorem tw17844768741140379064 : True := trivial
theorem tw13548137189721257191 : True := trivial
theorem tw5485258893511475606 : True := trivial
theorem tw6935834557636910819 : True := trivial
theorem tw13304649298839142507 : True := trivial
theorem tw10403759168545323993 : True := trivial
theorem tw8869708442443292561 : True := trivial
theorem tw2692838249210567117 : True := trivial
theorem tw17571688173562002229 : True := trivial
theorem tw10438932622162709758 : True := trivial
theorem tw14004509789673865437 : True := trivial
theorem tw8692845941064885892 : True := trivial
theorem tw6300307038206333845 : True := trivial
theorem tw17215610236580852942 : True := trivial
theorem tw4890274179053007688 : True := trivial
theorem tw17493970443731617477 : True := trivial
theorem tw9345512535826731144 : True := trivial
theorem tw9127675526255864907 : True := trivial
theorem tw1240845193639863806 : True := trivial
theorem tw17423453205431142935 : True := trivial
theorem tw274142673412902831 : True := trivial
theorem tw8493767480164370922 : True := trivial
theorem tw17000536421376449458 : True := trivial
theorem tw10820586528827003473 : True := trivial
theorem tw1080605512381554289 : True := trivial
theorem tw11865501260285723002 : True := trivial
theorem tw8413228827134171299 : True := trivial
theorem tw8977677122022550589 : True := trivial
theorem tw9051156185269888961 : True := trivial
theorem tw6730434285066012859 : True := trivial
theorem tw3869008227843361627 : True := trivial
theorem tw11233302312090153811 : True := trivial
theorem tw9097140810867217647 : True := trivial
theorem tw8244410568486624014 : True := trivial
theorem tw3971776387951619377 : True := trivial
theorem tw7323055286044740761 : True := trivial
theorem tw9973409272051961432 : True := trivial
theorem tw12054048914974880459 : True := trivial
theorem tw18192013101562775640 : True := trivial
theorem tw8765909733852654362 : True := trivial
theorem tw6805451976642403307 : True := trivial
theorem tw7407376128934341658 : True := trivial
theorem tw17254315134443458860 : True := trivial
theorem tw5380293385589972896 : True := trivial
theorem tw13909198990953521695 : True := trivial
theorem tw1780900410115102975 : True := trivial
theorem tw13891637444943008753 : True := trivial
theorem tw2321784098239945925 : True := trivial
theorem tw11854301647577171328 : True := trivial
theorem tw3967569445196978336 : True := trivial
theorem tw2215301099641278390 : True := trivial
theorem tw1948043303046299728 : True := trivial
theorem tw16543782863292195968 : True := trivial
theorem tw17362162077735214367 : True := trivial
theorem tw9845032509779891105 : True := trivial
theorem tw5015479929525657416 : True := trivial
theorem tw6258070628233879550 : True := trivial
theorem tw2613726291174098554 : True := trivial
theorem tw7626154061855590213 : True := trivial
theorem tw15043245536486889804 : True := trivial
theorem tw6647244285833132382 : True := trivial
theorem tw13140133529865190196 : True := trivial
theorem tw18004869764843334047 : True := trivial
theorem tw249196104837601120 : True := trivial
theorem tw15953224452959754285 : True := trivial
theorem tw2302040761184240204 : True := trivial
theorem tw13041270016445796202 : True := trivial
theorem tw18080688755662023778 : True := trivial
theorem tw391270754397084437 : True := trivial
theorem tw3796127878492296112 : True := trivial
theorem tw1180943865568951647 : True := trivial
theorem tw4672182193535583803 : True := trivial
theorem tw9139450355379789328 : True := trivial
theorem tw1672577157616274427 : True := trivial
theorem tw11627982492734709470 : True := trivial
theorem tw14803910466050902311 : True := trivial
theorem tw17893386561112208233 : True := trivial
theorem tw17313977866425363840 : True := trivial
theorem tw16728683208865844673 : True := trivial
theorem tw572107013009217286 : True := trivial
theorem tw12838956861018037923 : True := trivial
theorem tw12370091667056072977 : True := trivial
theorem tw1547206032645427694 : True := trivial
theorem tw12829237199361339518 : True := trivial
theorem tw14939483142495471249 : True := trivial
theorem tw1243981550816016911 : True := trivial
theorem tw14363677088678502233 : True := trivial
theorem tw13437844304596941362 : True := trivial
theorem tw10767603941517363258 : True := trivial
theorem tw11643334505423476021 : True := trivial
theorem tw5088640891256035063 : True := trivial
theorem tw8208985313377266685 : True := trivial
theorem tw15085663957434512571 : True := trivial
theorem tw18313850265551638007 : True := trivial
theorem tw15979072246105966629 : True := trivial
theorem tw4494828245054134268 : True := trivial
theorem tw12220550370378435881 : True := trivial
theorem tw5466871921824754962 : True := trivial
theorem tw15268985811178285475 : True := trivial
theorem tw14243043072996724453 : True := trivial
theorem tw6486341594742378875 : True := trivial
theorem tw1580952159478443324 : True := trivial
theorem tw8188284507822929944 : True := trivial
theorem tw14037594197142605000 : True := trivial
theorem tw6719603088787068047 : True := trivial
theorem tw1960299640998496203 : True := trivial
theorem tw12110684444615845058 : True := trivial
theorem tw16793736476569695276 : True := trivial
theorem tw8667338360449603033 : True := trivial
theorem tw5823243819943650414 : True := trivial
theorem tw15456659163450392514 : True := trivial
theorem tw12958057049935742235 : True := trivial
theorem tw7931347422037691967 : True := trivial
theorem tw9878594379952475691 : True := trivial
theorem tw16726545223457832889 : True := trivial
theorem tw6602529195216399404 : True := trivial
theorem tw11839425666678694448 : True := trivial
theorem tw378835614142220485 : True := trivial
theorem tw5078601114974558894 : True := trivial
theorem tw16604140454574621460 : True := trivial
theorem tw15203860574490437916 : True := trivial
theorem tw8830331105225769972 : True := trivial
theorem tw1235018400464827482 : True := trivial
theorem tw18279501762310284509 : True := trivial
theorem tw17249480613360060489 : True := trivial
theorem tw5483217321410536040 : True := trivial
theorem tw923658116893084624 : True := trivial
theorem tw4541882906690892139 : True := trivial
theorem tw16937062113155828562 : True := trivial
theorem tw13144235616610045646 : True := trivial
theorem tw2310127751259076098 : True := trivial
theorem tw17112382595820895049 : True := trivial
theorem tw5975396311916497021 : True := trivial
theorem tw3861345345971507204 : True := trivial
theorem tw14517646529317965575 : True := trivial
theorem tw6976449919841135878 : True := trivial
theorem tw848796188114814361 : True := trivial
theorem tw17056573689017601406 : True := trivial
theorem tw18343518090151350779 : True := trivial
theorem tw11396712626156780779 : True := trivial
theorem tw15533853476420853211 : True := trivial
theorem tw1130849559392673436 : True := trivial
theorem tw6633233873913448813 : True := trivial
theorem tw5991857951053405838 : True := trivial
theorem tw2019215275417831180 : True := trivial
theorem tw15800774936795660525 : True := trivial
theorem tw2664716088354091154 : True := trivial
theorem tw5423431836294127727 : True := trivial
theorem tw3747179267103179772 : True := trivial
theorem tw10120353086926233478 : True := trivial
theorem tw9161019971386786926 : True := trivial
theorem tw5939292901025167926 : True := trivial
theorem tw2902791749843911212 : True := trivial
theorem tw14571343896825080573 : True := trivial
theorem tw2207188050166497063 : True := trivial
theorem tw9177795680708913449 : True := trivial
theorem tw8371714673295090243 : True := trivial
theorem tw4945656190591230574 : True := trivial
theorem tw13201044947662507699 : True := trivial
theorem tw7051741514859117550 : True := trivial
theorem tw551536161920756786 : True := trivial
theorem tw4069483037306958104 : True := trivial
theorem tw17806230472718540447 : True := trivial
theorem tw12692690747460081588 : True := trivial
theorem tw17636399789604548451 : True := trivial
theorem tw18444262030945323960 : True := trivial
theorem tw4946688342375988399 : True := trivial
theorem tw4499370581741241518 : True := trivial
theorem tw595294198496754789 : True := trivial
theorem tw8043828792642976540 : True := trivial
theorem tw5170248532670718080 : True := trivial
theorem tw10552441315993830685 : True := trivial
theorem tw2186941719347100686 : True := trivial
theorem tw3155986344804058327 : True := trivial
theorem tw14161298578473375228 : True := trivial
theorem tw7283641364819896143 : True := trivial
theorem tw188597908922454223 : True := trivial
theorem tw8035923443977859176 : True := trivial
theorem tw4966156296219742500 : True := trivial
theorem tw1350623061800309409 : True := trivial
theorem tw1165207752657759003 : True := trivial
theorem tw7652320378796804645 : True := trivial
theorem tw2529119078377716612 : True := trivial
theorem tw1778720494055201408 : True := trivial
theorem tw4713401893184374184 : True := trivial
theorem tw11933579811749058408 : True := trivial
theorem tw14880825446793097789 : True := trivial
theorem tw7536843713800220400 : True := trivial
theorem tw11094424348562912486 : True := trivial
theorem tw6188792185313726111 : True := trivial
theorem tw9949605891120003150 : True := trivial
theorem tw14323812346643806506 : True := trivial
theorem tw11161505510299011600 : True := trivial
theorem tw2622032047362753721 : True := trivial
theorem tw5171674049220378849 : True := trivial
theorem tw10307479452006576291 : True := trivial
theorem tw7741981155087351359 : True := trivial
theorem tw6818886196810565900 : True := trivial
theorem tw332324002967619896 : True := trivial
theorem tw13578617538972208105 : True := trivial
theorem tw15540179311420483277 : True := trivial
theorem tw3947248800884320114 : True := trivial
theorem tw14458947048691776427 : True := trivial
theorem tw3598385528402151450 : True := trivial
theorem tw5148601557024904824 : True := trivial
theorem tw17343347144783685933 : True := trivial
theorem tw11014755957297474724 : True := trivial
theorem tw18003932341864418478 : True := trivial
theorem tw11689927205396502865 : True := trivial
theorem tw18047966151878078373 : True := trivial
theorem tw14561995755520185114 : True := trivial
theorem tw17566916914059289879 : True := trivial
theorem tw8717533806618847949 : True := trivial
theorem tw11430982317289367104 : True := trivial
theorem tw18331358561790073931 : True := trivial
theorem tw10920318085935673821 : True := trivial
theorem tw14026679570477576184 : True := trivial
theorem tw1491139783018205474 : True := trivial
theorem tw13282447016250701540 : True := trivial
theorem tw2013778965095608235 : True := trivial
theorem tw15617206881989555008 : True := trivial
theorem tw18244015088224664617 : True := trivial
theorem tw3274023236173401328 : True := trivial
theorem tw1864133034588987165 : True := trivial
theorem tw15692663769047935754 : True := trivial
theorem tw2089355258935105624 : True := trivial
theorem tw14383883763925766297 : True := trivial
theorem tw5280907402479683007 : True := trivial
theorem tw14044555815390736949 : True := trivial
theorem tw9186330962828307105 : True := trivial
theorem tw4942791417316868559 : True := trivial
theorem tw558934349937598661 : True := trivial
theorem tw7953915986666285286 : True := trivial
theorem tw12925532694829786468 : True := trivial
theorem tw14990753299559239951 : True := trivial
theorem tw6397070059866571929 : True := trivial
theorem tw8042075110736615957 : True := trivial
theorem tw9262737670458763462 : True := trivial
theorem tw18381698863781246341 : True := trivial
theorem tw17391354654680243037 : True := trivial
theorem tw840579404886081162 : True := trivial
theorem tw5217890597725301423 : True := trivial
theorem tw4981100004321660819 : True := trivial
theorem tw2328730800043697364 : True := trivial
theorem tw16848524884695491454 : True := trivial
theorem tw7652070422245161130 : True := trivial
theorem tw11714543822929920524 : True := trivial
theorem tw8699083248274904133 : True := trivial
theorem tw13753612248611078660 : True := trivial
theorem tw3813310902310855082 : True := trivial
theorem tw16108868083558321560 : True := trivial
theorem tw8615978725937703977 : True := trivial
theorem tw7920121073318759310 : True := trivial
theorem tw18276108966589054013 : True := trivial
theorem tw16333726693102611202 : True := trivial
theorem tw16910885638075137546 : True := trivial
theorem tw14864926739194353616 : True := trivial
theorem tw3645685942726236260 : True := trivial
theorem tw46357314836471977 : True := trivial
theorem tw11482327194431670458 : True := trivial
theorem tw13794620777809193301 : True := trivial
theorem tw16775309176141063986 : True := trivial
theorem tw13809271322585523970 : True := trivial
theorem tw4764219400326258907 : True := trivial
theorem tw8859962232752488557 : True := trivial
theorem tw13671769560607645803 : True := trivial
theorem tw4155067176733264234 : True := trivial
theorem tw6054992967532901093 : True := trivial
theorem tw6862214187943470628 : True := trivial
theorem tw1343089800921628047 : True := trivial
theorem tw6611071205034529223 : True := trivial
theorem tw2352083269565076324 : True := trivial
theorem tw14550483175786150815 : True := trivial
theorem tw7846207720217602995 : True := trivial
theorem tw11169305523472433765 : True := trivial
theorem tw17786507393061167589 : True := trivial
theorem tw1275437836724195005 : True := trivial
theorem tw4321303939430793427 : True := trivial
theorem tw8519427627032445737 : True := trivial
theorem tw8753910656709544167 : True := trivial
theorem tw12513471717693605737 : True := trivial
theorem tw557277539718626562 : True := trivial
theorem tw4186928209531157363 : True := trivial
theorem tw3190198142731905601 : True := trivial
theorem tw315258977138025512 : True := trivial
theorem tw2562992827883986306 : True := trivial
theorem tw10958983206206764446 : True := trivial
theorem tw7548584740742900571 : True := trivial
theorem tw14313011544780659722 : True := trivial
theorem tw11776467095209745064 : True := trivial
theorem tw11142014900042380589 : True := trivial
theorem tw7930205193427549935 : True := trivial
theorem tw6570579319256799118 : True := trivial
theorem tw18152138544779789205 : True := trivial
theorem tw7832840618642737214 : True := trivial
theorem tw6800315292659835466 : True := trivial
theorem tw1340818776821610037 : True := trivial
theorem tw1274976584920378111 : True := trivial
theorem tw5406323632654815410 : True := trivial
theorem tw194231094560706462 : True := trivial
theorem tw12961841376184936458 : True := trivial
theorem tw312766615908465417 : True := trivial
theorem tw1868126972073733517 : True := trivial
theorem tw16037818342708284444 : True := trivial
theorem tw2668247206183109634 : True := trivial
theorem tw11103083663830916872 : True := trivial
theorem tw15077376946031177060 : True := trivial
theorem tw14167520566742618037 : True := trivial
theorem tw4974617862125040780 : True := trivial
theorem tw13276153637405109508 : True := trivial
theorem tw11793444063306795351 : True := trivial
theorem tw1215067795004359526 : True := trivial
theorem tw9320534321592692325 : True := trivial
theorem tw13370872111743561433 : True := trivial
theorem tw10807379902052265890 : True := trivial
theorem tw10100390059282963921 : True := trivial
theorem tw8648631484273389631 : True := trivial
theorem tw12942903520021494556 : True := trivial
theorem tw929031868194045997 : True := trivial
theorem tw1252428711814481546 : True := trivial
theorem tw7181543939718871296 : True := trivial
theorem tw9722417808868621414 : True := trivial
theorem tw295921560309766872 : True := trivial
theorem tw8587463078551455271 : True := trivial
theorem tw12702540841592967279 : True := trivial
theorem tw16941485215227470868 : True := trivial
theorem tw4791976277212941131 : True := trivial
theorem tw18421212887330697622 : True := trivial
theorem tw10956035062085659651 : True := trivial
theorem tw14003095340894490017 : True := trivial
theorem tw14685575274609938752 : True := trivial
theorem tw16463470389333836870 : True := trivial
theorem tw9696666460540305053 : True := trivial
theorem tw7756201389717645856 : True := trivial
theorem tw8138157507786906069 : True := trivial
theorem tw11494282437592653644 : True := trivial
theorem tw4274009539301202805 : True := trivial
theorem tw13870794196153707546 : True := trivial
theorem tw4494436461649932823 : True := trivial
theorem tw7775120185817521920 : True := trivial
theorem tw16913691384190823269 : True := trivial
theorem tw9940439417968567794 : True := trivial
theorem tw14111858026132209075 : True := trivial
theorem tw658966837891417755 : True := trivial
theorem tw1479693728457464509 : True := trivial
theorem tw16392042447100040354 : True := trivial
theorem tw13284105595603484946 : True := trivial
theorem tw16740190495284484996 : True := trivial
theorem tw1936874399228886873 : True := trivial
theorem tw6916301905083746713 : True := trivial
theorem tw2876583088557587670 : True := trivial
theorem tw17864520564362303947 : True := trivial
theorem tw4081824847143946563 : True := trivial
theorem tw8030839011068726194 : True := trivial
theorem tw11038399935766050145 : True := trivial
theorem tw7832479481428827708 : True := trivial
theorem tw11376949758387889491 : True := trivial
theorem tw14121023738512050674 : True := trivial
theorem tw2231608739675957865 : True := trivial
theorem tw5642069429768977370 : True := trivial
theorem tw1477070940219768835 : True := trivial
theorem tw13647417471668068961 : True := trivial
theorem tw14462480168350039433 : True := trivial
theorem tw2465969420671460338 : True := trivial
theorem tw1590414960828595856 : True := trivial
theorem tw10982249421229324031 : True := trivial
theorem tw5311257035246141102 : True := trivial
theorem tw2033845354820381485 : True := trivial
theorem tw11984244136692431599 : True := trivial
theorem tw16797116606120267827 : True := trivial
theorem tw15199982354619933666 : True := trivial
theorem tw14449409932628384083 : True := trivial
theorem tw16238671171740578132 : True := trivial
theorem tw10714416633701269157 : True := trivial
theorem tw13872553096786618534 : True := trivial
theorem tw6138156640478707366 : True := trivial
theorem tw2803933941521362951 : True := trivial
theorem tw11512026194730217484 : True := trivial
theorem tw13551407676677431630 : True := trivial
theorem tw11076674961422759041 : True := trivial
theorem tw8203239055675821746 : True := trivial
theorem tw602609755904900845 : True := trivial
theorem tw16113199511450947828 : True := trivial
theorem tw11258235933546966315 : True := trivial
theorem tw9624653191139883056 : True := trivial
theorem tw14535672761243626952 : True := trivial
theorem tw17059490619798687289 : True := trivial
theorem tw4242520963644441787 : True := trivial
theorem tw10821962403228832288 : True := trivial
theorem tw307665005599441248 : True := trivial
theorem tw13351579462818552546 : True := trivial
theorem tw3685068189524616265 : True := trivial
theorem tw9073795284912264615 : True := trivial
theorem tw16506486591872775944 : True := trivial
theorem tw3786929875257857825 : True := trivial
theorem tw2165984791732931027 : True := trivial
theorem tw8585199747426998709 : True := trivial
theorem tw5275325632889175713 : True := trivial
theorem tw13338270913386644898 : True := trivial
theorem tw1427102299539521556 : True := trivial
theorem tw10329422279518379138 : True := trivial
theorem tw15697183376219836657 : True := trivial
theorem tw3551985823779513703 : True := trivial
theorem tw9623978105823975722 : True := trivial
theorem tw17485799228797978253 : True := trivial
theorem tw2467848720491699859 : True := trivial
theorem tw3463361171410073582 : True := trivial
theorem tw1150783472041838121 : True := trivial
theorem tw16866694143146311704 : True := trivial
theorem tw17317863824895439980 : True := trivial
theorem tw10623869946509105406 : True := trivial
theorem tw15232906907304738878 : True := trivial
theorem tw10848859984758551293 : True := trivial
theorem tw4115294546794170551 : True := trivial
theorem tw6277103181155051650 : True := trivial
theorem tw4670505119179993071 : True := trivial
theorem tw7355223416034277018 : True := trivial
theorem tw8644606835136741978 : True := trivial
theorem tw16611469089608113281 : True := trivial
theorem tw12311627375561265449 : True := trivial
theorem tw11463269599112316936 : True := trivial
theorem tw13331362147032380109 : True := trivial
theorem tw3243345055928113685 : True := trivial
theorem tw15581027706216828649 : True := trivial
theorem tw16246282646636730819 : True := trivial
theorem tw6590833376166977462 : True := trivial
theorem tw11610145338036404009 : True := trivial
theorem tw16578121351337422179 : True := trivial
theorem tw14191037391894437749 : True := trivial
theorem tw18411118702789675743 : True := trivial
theorem tw12418548764590709755 : True := trivial
theorem tw2864625215885066914 : True := trivial
theorem tw11396896159169918456 : True := trivial
theorem tw2905625235188045963 : True := trivial
theorem tw7038035354830315140 : True := trivial
theorem tw14434913771679064021 : True := trivial
theorem tw3469471338483442349 : True := trivial
theorem tw9834717181518232985 : True := trivial
theorem tw16314904366286595476 : True := trivial
theorem tw13493424102109505339 : True := trivial
theorem tw10589875014685067043 : True := trivial
theorem tw9347442467691995227 : True := trivial
theorem tw14722900894466143944 : True := trivial
theorem tw11689604575735888448 : True := trivial
theorem tw8202959352840726130 : True := trivial
theorem tw16588390773367716589 : True := trivial
theorem tw9666118853257319163 : True := trivial
theorem tw15737563390503167959 : True := trivial
theorem tw6151874211988302041 : True := trivial
theorem tw7657667968263178801 : True := trivial
theorem tw6598892251217172766 : True := trivial
theorem tw324457700369084275 : True := trivial
theorem tw1009555816641538056 : True := trivial
theorem tw14191229970566841738 : True := trivial
theorem tw11503046585060533703 : True := trivial
theorem tw5983984586916547768 : True := trivial
theorem tw2041425454094919121 : True := trivial
theorem tw12474435233214093232 : True := trivial
theorem tw1621438317522897374 : True := trivial
theorem tw7030296799842227299 : True := trivial
theorem tw11145595658584037391 : True := trivial
theorem tw8935392908843215834 : True := trivial
theorem tw17445232078096066971 : True := trivial
theorem tw18333154000124715172 : True := trivial
theorem tw14764694923379734765 : True := trivial
theorem tw4363395280107554380 : True := trivial
theorem tw9975232713099701814 : True := trivial
theorem tw14808545151438589349 : True := trivial
theorem tw13833409295568355626 : True := trivial
theorem tw10337705524795448690 : True := trivial
theorem tw5600985228781028616 : True := trivial
theorem tw5104477490730315973 : True := trivial
theorem tw16403431749165549320 : True := trivial
theorem tw10017822538997077408 : True := trivial
theorem tw15989523976965323191 : True := trivial
theorem tw5107903127959404890 : True := trivial
theorem tw11441680519236985441 : True := trivial
theorem tw13668017849223743881 : True := trivial
theorem tw7853933013540127220 : True := trivial
theorem tw11161016594425919342 : True := trivial
theorem tw581183038872752115 : True := trivial
theorem tw14853746317181190142 : True := trivial
theorem tw3853186815481776776 : True := trivial
theorem tw8920019029865491091 : True := trivial
theorem tw15888942060304395866 : True := trivial
theorem tw5628224943319498317 : True := trivial
theorem tw13218700310142695057 : True := trivial
theorem tw9166213658889113316 : True := trivial
theorem tw14628919397741936513 : True := trivial
theorem tw13288755594751701699 : True := trivial
theorem tw11806694226756806751 : True := trivial
theorem tw3566505980024781589 : True := trivial
theorem tw16351833675762616556 : True := trivial
theorem tw13965413516883792813 : True := trivial
theorem tw7767074933886094706 : True := trivial
theorem tw2924198194442299917 : True := trivial
theorem tw5537826893706376683 : True := trivial
theorem tw4976281927698497864 : True := trivial
theorem tw16552439530924778054 : True := trivial
theorem tw14284665850566127335 : True := trivial
theorem tw5721412228157875204 : True := trivial
theorem tw15264202657319491711 : True := trivial
theorem tw14968950242795572896 : True := trivial
theorem tw9112288399522366148 : True := trivial
theorem tw14332018190485984458 : True := trivial
theorem tw7795716234444968636 : True := trivial
theorem tw8417221569289923223 : True := trivial
theorem tw14961705000199627910 : True := trivial
theorem tw5860281931309508040 : True := trivial
theorem tw16718845126671148171 : True := trivial
theorem tw14920687957459646530 : True := trivial
theorem tw11755496321668649483 : True := trivial
theorem tw186279554809009912 : True := trivial
theorem tw15162084983850516885 : True := trivial
theorem tw805539080231888120 : True := trivial
theorem tw13635966735430130095 : True := trivial
theorem tw9071131725199789828 : True := trivial
theorem tw6243318896551569111 : True := trivial
theorem tw16732831702994954344 : True := trivial
theorem tw14454104851410338234 : True := trivial
theorem tw7187194861307803310 : True := trivial
theorem tw18027529372647819817 : True := trivial
theorem tw2613640894821090836 : True := trivial
theorem tw1766765832309059803 : True := trivial
theorem tw11683708419965908831 : True := trivial
theorem tw13265140839014718955 : True := trivial
theorem tw4764350193518960169 : True := trivial
theorem tw11252613864076916172 : True := trivial
theorem tw7603199557027208745 : True := trivial
theorem tw28057878861771610 : True := trivial
theorem tw10176766912369180685 : True := trivial
theorem tw3848133026879327624 : True := trivial
theorem tw371325427641504767 : True := trivial
theorem tw1755303896783541707 : True := trivial
theorem tw17178807014684798223 : True := trivial
theorem tw8696997975802552374 : True := trivial
theorem tw16491577192123146936 : True := trivial
theorem tw14253789174697359109 : True := trivial
theorem tw3476326308115826677 : True := trivial
theorem tw8125350204740770743 : True := trivial
theorem tw1908706686039401796 : True := trivial
theorem tw17126940193184012806 : True := trivial
theorem tw7322460180855701462 : True := trivial
theorem tw10660746494172121272 : True := trivial
theorem tw9931857055137686037 : True := trivial
theorem tw2734772714158220773 : True := trivial
theorem tw873861697116522293 : True := trivial
theorem tw9554118694399329222 : True := trivial
theorem tw17849633204311751805 : True := trivial
theorem tw271135214988710161 : True := trivial
theorem tw5574928264588596610 : True := trivial
theorem tw10073121701499941584 : True := trivial
theorem tw12092906263371319542 : True := trivial
theorem tw3157467315973229531 : True := trivial
theorem tw6192707019057634008 : True := trivial
theorem tw12675134584186513517 : True := trivial
theorem tw13402513509335709856 : True := trivial
theorem tw17886654590727081890 : True := trivial
theorem tw17486586169880460117 : True := trivial
theorem tw1384659562139135877 : True := trivial
theorem tw4356004755835353224 : True := trivial
theorem tw17313865046868857955 : True := trivial
theorem tw10614128280415432438 : True := trivial
theorem tw16730879089197799536 : True := trivial
theorem tw2061554393546120196 : True := trivial
theorem tw2174304149298980893 : True := trivial
theorem tw5554760424766550109 : True := trivial
theorem tw6170892821859037216 : True := trivial
theorem tw15789348842195518086 : True := trivial
theorem tw8368753536685097839 : True := trivial
theorem tw6624945090645567151 : True := trivial
theorem tw16254706755620694149 : True := trivial
theorem tw7524718793044606610 : True := trivial
theorem tw5084049639247256907 : True := trivial
theorem tw14301178168383432241 : True := trivial
theorem tw5388952929524356507 : True := trivial
theorem tw10080436734025830658 : True := trivial
theorem tw11096248059187067207 : True := trivial
theorem tw12021892328230669008 : True := trivial
theorem tw12010263062535270750 : True := trivial
theorem tw17441866707685004743 : True := trivial
theorem tw13040246174299173644 : True := trivial
theorem tw17354788952023859450 : True := trivial
theorem tw10688295293625797946 : True := trivial
theorem tw17475735458729835150 : True := trivial
theorem tw14365061417681567525 : True := trivial
theorem tw5639613721751733341 : True := trivial
theorem tw12265304897603836306 : True := trivial
theorem tw15759766247484079610 : True := trivial
theorem tw8687505680535315731 : True := trivial
theorem tw14926670232153954235 : True := trivial
theorem tw16737772674476202937 : True := trivial
theorem tw12324749791839263511 : True := trivial
theorem tw9248942218032929635 : True := trivial
theorem tw16814821005745052607 : True := trivial
theorem tw681278267564764543 : True := trivial
theorem tw140346571622365875 : True := trivial
theorem tw15218359391438879170 : True := trivial
theorem tw7809474513435299484 : True := trivial
theorem tw9209372958363383301 : True := trivial
theorem tw4116670379901829094 : True := trivial
theorem tw14457520157718989597 : True := trivial
theorem tw18077008059827382935 : True := trivial
theorem tw4662437212016422750 : True := trivial
theorem tw10153069636798281274 : True := trivial
theorem tw12011582971585313433 : True := trivial
theorem tw8981457092728063281 : True := trivial
theorem tw7966672226097830505 : True := trivial
theorem tw6094135363819820231 : True := trivial
theorem tw451661460378786146 : True := trivial
theorem tw7175289770031998697 : True := trivial
theorem tw6535168455985167639 : True := trivial
theorem tw1579053635502428899 : True := trivial
theorem tw17397029422492278571 : True := trivial
theorem tw14421172726335034239 : True := trivial
theorem tw5560137364035931430 : True := trivial
theorem tw14006623477427901389 : True := trivial
theorem tw8752696817728899359 : True := trivial
theorem tw16685965948611226507 : True := trivial
theorem tw8443139395625741742 : True := trivial
theorem tw12486158360347428751 : True := trivial
theorem tw1273433004517316697 : True := trivial
theorem tw15222691229878888532 : True := trivial
theorem tw15858546204236730311 : True := trivial
theorem tw4459064221986997609 : True := trivial
theorem tw3830738602574055604 : True := trivial
theorem tw13010554493965436387 : True := trivial
theorem tw11871125658778174564 : True := trivial
theorem tw12936346410213209539 : True := trivial
theorem tw7601687289196412544 : True := trivial
theorem tw2282991824610157111 : True := trivial
theorem tw5666013908442273138 : True := trivial
theorem tw8404182140976784091 : True := trivial
theorem tw12243209263661200672 : True := trivial
theorem tw671784044584570671 : True := trivial
theorem tw10628853271747592702 : True := trivial
theorem tw17043695799614604520 : True := trivial
theorem tw2085212875142356382 : True := trivial
theorem tw1457364286992314017 : True := trivial
theorem tw4886433948563515741 : True := trivial
theorem tw449392006482093722 : True := trivial
theorem tw7318116209385553754 : True := trivial
theorem tw4115510841557791733 : True := trivial
theorem tw1402361412503255956 : True := trivial
theorem tw6512577828488051210 : True := trivial
theorem tw11492135172912329187 : True := trivial
theorem tw8599222212991279176 : True := trivial
theorem tw13780822493518095805 : True := trivial
theorem tw16441145672597168294 : True := trivial
theorem tw7402687931129530019 : True := trivial
theorem tw14627370186077781681 : True := trivial
theorem tw2599093218571938313 : True := trivial
theorem tw11555596936693049754 : True := trivial
theorem tw8725963067515314484 : True := trivial
theorem tw6789313708171092933 : True := trivial
theorem tw4663363797094512271 : True := trivial
theorem tw12837028777033787186 : True := trivial
theorem tw6826999428317343312 : True := trivial
theorem tw16841928023449434835 : True := trivial
theorem tw9461546157032587191 : True := trivial
theorem tw17398744397963811682 : True := trivial
theorem tw7878381091205162919 : True := trivial
theorem tw8607515354679652734 : True := trivial
theorem tw8333603773954986564 : True := trivial
theorem tw15805050630304434845 : True := trivial
theorem tw6163939185316474913 : True := trivial
theorem tw13566685831304957195 : True := trivial
theorem tw4561471152063585823 : True := trivial
theorem tw4808974843240929799 : True := trivial
theorem tw11850155268247593972 : True := trivial
theorem tw8016285431362021253 : True := trivial
theorem tw11736522161339417316 : True := trivial
theorem tw16444209030124830869 : True := trivial
theorem tw10518610336581996795 : True := trivial
theorem tw7238006017525726349 : True := trivial
theorem tw8830159763551325690 : True := trivial
theorem tw15831151763598571595 : True := trivial
theorem tw13728331338938092353 : True := trivial
theorem tw7560880854603047255 : True := trivial
theorem tw825909754604496290 : True := trivial
theorem tw13637387174863165728 : True := trivial
theorem tw2264729346543671415 : True := trivial
theorem tw18057673364830541528 : True := trivial
theorem tw13652455117645282110 : True := trivial
theorem tw11054868428539328634 : True := trivial
theorem tw12990288809581451005 : True := trivial
theorem tw8457750756011822661 : True := trivial
theorem tw7734373409243779698 : True := trivial
theorem tw9121967867411851945 : True := trivial
theorem tw3169814374049118813 : True := trivial
theorem tw9716890023405999880 : True := trivial
theorem tw10570008312520572538 : True := trivial
theorem tw1027428528032060918 : True := trivial
theorem tw15603721197708619514 : True := trivial
theorem tw10764579531787589622 : True := trivial
theorem tw3583273881554083090 : True := trivial
theorem tw18203916460924454197 : True := trivial
theorem tw3408462501430363457 : True := trivial
theorem tw13478197887181540185 : True := trivial
theorem tw5033449501422048226 : True := trivial
theorem tw8097573678144193042 : True := trivial
theorem tw15453066184717515666 : True := trivial
theorem tw5420643931420372837 : True := trivial
theorem tw2429581670074459632 : True := trivial
theorem tw8554805074096049937 : True := trivial
theorem tw10127767176400893912 : True := trivial
theorem tw10709560306540485869 : True := trivial
theorem tw1538645936168962287 : True := trivial
theorem tw6981192988909324353 : True := trivial
theorem tw6811959856777576977 : True := trivial
theorem tw18048470967962464342 : True := trivial
theorem tw12116885338105649377 : True := trivial
theorem tw11402396626440173314 : True := trivial
theorem tw11290039883921970649 : True := trivial
theorem tw12389863723544014884 : True := trivial
theorem tw8862792493519170332 : True := trivial
theorem tw1663819922912103219 : True := trivial
theorem tw447840489116586645 : True := trivial
theorem tw8139258854742485405 : True := trivial
theorem tw12965127894994160481 : True := trivial
theorem tw12685550801071270930 : True := trivial
theorem tw8329110194591527323 : True := trivial
theorem tw6937182003820388573 : True := trivial
theorem tw9355343472935994447 : True := trivial
theorem tw17782617432338857932 : True := trivial
theorem tw1074191172660031966 : True := trivial
theorem tw13191510099977865388 : True := trivial
theorem tw18178266329867216396 : True := trivial
theorem tw10033660786434078645 : True := trivial
theorem tw12845844977580637839 : True := trivial
theorem tw3868628171873007264 : True := trivial
theorem tw13690543500444049462 : True := trivial
theorem tw11573406212052625020 : True := trivial
theorem tw3765508215409113677 : True := trivial
theorem tw3515780570084463491 : True := trivial
theorem tw15318036997506119514 : True := trivial
theorem tw14684464001203152888 : True := trivial
theorem tw1146679694689411526 : True := trivial
theorem tw5095917928767233448 : True := trivial
theorem tw6415195015394718721 : True := trivial
theorem tw10218435390730213772 : True := trivial
theorem tw8215797499255920784 : True := trivial
theorem tw4174951384563468868 : True := trivial
theorem tw11817699693033641863 : True := trivial
theorem tw5810110336494816063 : True := trivial
theorem tw3267588743259440189 : True := trivial
theorem tw7888042816909019701 : True := trivial
theorem tw9139910015058262476 : True := trivial
theorem tw15702148637945043208 : True := trivial
theorem tw16739354862742282175 : True := trivial
theorem tw9828806013751473762 : True := trivial
theorem tw16378975206851498318 : True := trivial
theorem tw2653901395486249622 : True := trivial
theorem tw1417457855478863276 : True := trivial
theorem tw14251190928157574548 : True := trivial
theorem tw361034303041067309 : True := trivial
theorem tw3236207622371159887 : True := trivial
theorem tw17274624177013057603 : True := trivial
theorem tw6127410137193479188 : True := trivial
theorem tw15304468549734919011 : True := trivial
theorem tw5332623712987424873 : True := trivial
theorem tw12746059003454304771 : True := trivial
theorem tw2156677771713799531 : True := trivial
theorem tw5813822851139533741 : True := trivial
theorem tw2066453332159902505 : True := trivial
theorem tw15878372715157364768 : True := trivial
theorem tw12207863898348952106 : True := trivial
theorem tw7629767091480460863 : True := trivial
theorem tw7617435760231554152 : True := trivial
theorem tw4991083190109446899 : True := trivial
theorem tw355861515254376843 : True := trivial
theorem tw17058175848600515780 : True := trivial
theorem tw6035075219094414215 : True := trivial
theorem tw826050659086327865 : True := trivial
theorem tw2451740475208557856 : True := trivial
theorem tw8229773098220282697 : True := trivial
theorem tw10280707726729053977 : True := trivial
theorem tw6243525092756385341 : True := trivial
theorem tw782566357214946947 : True := trivial
theorem tw15697500949382989970 : True := trivial
theorem tw15773646937024319461 : True := trivial
theorem tw9565584657114323322 : True := trivial
theorem tw10216471940224144453 : True := trivial
theorem tw4829160948843127892 : True := trivial
theorem tw4972424339633528815 : True := trivial
theorem tw12840348719451328612 : True := trivial
theorem tw5288721097483845912 : True := trivial
theorem tw5123987715254534314 : True := trivial
theorem tw1208152395017854371 : True := trivial
theorem tw16130212925872744853 : True := trivial
theorem tw4552705906791307701 : True := trivial
theorem tw5480575944728860764 : True := trivial
theorem tw1652762075326023182 : True := trivial
theorem tw16420593744064523178 : True := trivial
theorem tw14097596740427432619 : True := trivial
theorem tw5914794687818079924 : True := trivial
theorem tw4114275752866121614 : True := trivial
theorem tw5753723314183710995 : True := trivial
theorem tw778833589346271825 : True := trivial
theorem tw12660937665438927772 : True := trivial
theorem tw5037261780255221536 : True := trivial
theorem tw8954234983783314156 : True := trivial
theorem tw13890311448565384606 : True := trivial
theorem tw12433062633182257346 : True := trivial
theorem tw219494583597980278 : True := trivial
theorem tw1061499558204992333 : True := trivial
theorem tw16770214749807305454 : True := trivial
theorem tw1093192671337271875 : True := trivial
theorem tw13519385015820182230 : True := trivial
theorem tw16754314412028023514 : True := trivial
theorem tw3616484059375666347 : True := trivial
theorem tw15736286555177906420 : True := trivial
theorem tw12713722611194298909 : True := trivial
theorem tw2044542229057164994 : True := trivial
theorem tw1342380398432866364 : True := trivial
theorem tw4933397793619417808 : True := trivial
theorem tw2999338931100867815 : True := trivial
theorem tw9977809371329836352 : True := trivial
theorem tw9431484991914319817 : True := trivial
theorem tw17637804009339278906 : True := trivial
theorem tw13048846232959063679 : True := trivial
theorem tw12596149913259218519 : True := trivial
theorem tw8339578651868427005 : True := trivial
theorem tw14275163715432628593 : True := trivial
theorem tw7471573395814521146 : True := trivial
theorem tw2578813936725202640 : True := trivial
theorem tw6094704811194843845 : True := trivial
theorem tw1424623640302425474 : True := trivial
theorem tw6137737909791473697 : True := trivial
theorem tw1934453599660274261 : True := trivial
theorem tw2178763359237850306 : True := trivial
theorem tw11461818052003269647 : True := trivial
theorem tw2458409775283102984 : True := trivial
theorem tw13469147841430930420 : True := trivial
theorem tw4316429571559749214 : True := trivial
theorem tw2514381443991335163 : True := trivial
theorem tw5263117671712349626 : True := trivial
theorem tw13596421898539358789 : True := trivial
theorem tw1075611666601485621 : True := trivial
theorem tw13002552491733697730 : True := trivial
theorem tw11084816562571885280 : True := trivial
theorem tw14772763169755463044 : True := trivial
theorem tw15114452612511971673 : True := trivial
theorem tw15393802437419226416 : True := trivial
theorem tw11890557096766670780 : True := trivial
theorem tw621288172068603179 : True := trivial
theorem tw12835104888134281954 : True := trivial
theorem tw2435782358847460288 : True := trivial
theorem tw3562122064682282536 : True := trivial
theorem tw3553093284539214944 : True := trivial
theorem tw261200871926778315 : True := trivial
theorem tw6388485490255473527 : True := trivial
theorem tw5652499851908323133 : True := trivial
theorem tw7205598729589660335 : True := trivial
theorem tw7379571092491043289 : True := trivial
theorem tw349380553142525796 : True := trivial
theorem tw18041011749321149240 : True := trivial
theorem tw18049759034620159767 : True := trivial
theorem tw14400161208029754944 : True := trivial
theorem tw15986298811534103681 : True := trivial
theorem tw16742170547907108368 : True := trivial
theorem tw17543074145382293590 : True := trivial
theorem tw4789045010607563368 : True := trivial
theorem tw9788171449591186680 : True := trivial
theorem tw9376105452782561747 : True := trivial
theorem tw13238387958035472605 : True := trivial
theorem tw13307256864328061411 : True := trivial
theorem tw17535008644939793530 : True := trivial
theorem tw4526516245692423404 : True := trivial
theorem tw14809057504667898325 : True := trivial
theorem tw11156166927351207193 : True := trivial
theorem tw1422030908631058884 : True := trivial
theorem tw11020691088319652578 : True := trivial
theorem tw3579762869222362375 : True := trivial
theorem tw18350420247778311070 : True := trivial
theorem tw13065881123035688276 : True := trivial
theorem tw17102433656917406899 : True := trivial
theorem tw8069535372993182294 : True := trivial
theorem tw14190266133352559898 : True := trivial
theorem tw815623250538196052 : True := trivial
theorem tw7141603162406286699 : True := trivial
theorem tw201444518815842991 : True := trivial
theorem tw118015088348442057 : True := trivial
theorem tw2173347764596675576 : True := trivial
theorem tw3607146667566212555 : True := trivial
theorem tw4463947375597675642 : True := trivial
theorem tw228770985678093909 : True := trivial
theorem tw48673248575463009 : True := trivial
theorem tw2599241372273403050 : True := trivial
theorem tw11617971649411223750 : True := trivial
theorem tw7356339256073705739 : True := trivial
theorem tw16054214489773015922 : True := trivial
theorem tw5752652211845038575 : True := trivial
theorem tw3896658410395085183 : True := trivial
theorem tw9530173010683924212 : True := trivial
theorem tw18402413272616407030 : True := trivial
theorem tw877040976424762574 : True := trivial
theorem tw4826400678417288887 : True := trivial
theorem tw3520054372977257093 : True := trivial
theorem tw17211497229902800980 : True := trivial
theorem tw13115794008078269166 : True := trivial
theorem tw10808544017827496019 : True := trivial
theorem tw17843373574944971510 : True := trivial
theorem tw17616032052327421208 : True := trivial
theorem tw18008110455192915024 : True := trivial
theorem tw6074279184024501054 : True := trivial
theorem tw595356115779142453 : True := trivial
theorem tw14876366866515272279 : True := trivial
theorem tw1440291819375733884 : True := trivial
theorem tw4499778474777411455 : True := trivial
theorem tw1782668235829543296 : True := trivial
theorem tw5006104342318646394 : True := trivial
theorem tw4908131291915431440 : True := trivial
theorem tw6069885944298060897 : True := trivial
theorem tw15034674727202507633 : True := trivial
theorem tw16800059484075127182 : True := trivial
theorem tw3687568258225407326 : True := trivial
theorem tw7689012748493629714 : True := trivial
theorem tw2748376207543577002 : True := trivial
end PySem.W.Fast
open PySem PySem.W PyProof.Rows
set_option maxRecDepth 100000 in
set_option maxHeartbeats 0 in
theorem PySem.Challenge.cw_tribunal_k30_whole_archives_cut_anywhere_holds : PySem.Challenge.rw_tribunal_k30_whole_archives_cut_anywhere.Holds := by
  w_on; o_law; k_head; (case hw => w_witness2)
  k_fill
  refine Toy.walk (l := PySem.Challenge.rw_tribunal_k30_whole_archives_cut_anywhere) rfl rfl (fun w h Y => PySem.W.kIn_of Y) ?F
  case F =>
    intro w mg fa h KX G hmg
    refine' Toy.all_mk KX G hmg ?c_SIGNS ?c_DIGITS ?c_CODE_END ?c_MOST_DIGITS_wire ?c_MOST_DIGITS_commands ?c_MOST_SIGNS ?c_LETTERS ?c_BLOCK_SIGNS ?c_NONE ?c_HEAD ?c_KIND ?c_HEIGHT ?c_TURN ?c_BLOCK ?c_LEAN ?c_MOST_MEMBERS ?c_MOST_WEIGHT ?n_len ?n_range ?n_isinstance ?n_int ?n_bool ?n_list ?n_tuple ?n_str ?n_zip ?n_enumerate ?n_max ?n_abs ?n_sum ?n_set ?n_sorted ?n_min ?n_super ?n_ValueError ?n_all ?g_Reader ?g_Committee ?g_Ledger ?g_Chain ?g_Client ?a_prevote ?l_prevote ?q_prevote ?k_prevote ?a_precommit ?l_precommit ?q_precommit ?k_precommit ?a_is_number ?l_is_number ?q_is_number ?k_is_number ?a_is_block ?l_is_block ?q_is_block ?k_is_block ?a_word_at ?l_word_at ?q_word_at ?k_word_at ?a_number_at ?l_number_at ?q_number_at ?k_number_at ?a_kind_at ?l_kind_at ?q_kind_at ?k_kind_at ?a_block_at ?l_block_at ?q_block_at ?k_block_at ?a_lean_at ?l_lean_at ?q_lean_at ?k_lean_at ?a_end_at ?l_end_at ?q_end_at ?k_end_at ?a_read_letter ?l_read_letter ?q_read_letter ?k_read_letter ?a_proposal ?l_proposal ?q_proposal ?k_proposal ?a_word ?l_word ?q_word ?k_word ?a_letter_line ?l_letter_line ?q_letter_line ?k_letter_line ?a_first_wrong ?l_first_wrong ?q_first_wrong ?k_first_wrong ?a_Committee_init ?i_Committee_init ?l_Committee_init ?q_Committee_init ?k_Committee_init ?a_Committee_weight_of ?i_Committee_weight_of ?l_Committee_weight_of ?q_Committee_weight_of ?k_Committee_weight_of ?a_Committee_is_quorum ?i_Committee_is_quorum ?l_Committee_is_quorum ?q_Committee_is_quorum ?k_Committee_is_quorum ?a_votes_by_turn ?l_votes_by_turn ?q_votes_by_turn ?k_votes_by_turn ?a_counts ?l_counts ?q_counts ?k_counts ?a_certified_turns ?l_certified_turns ?q_certified_turns ?k_certified_turns ?a_committed_turns ?l_committed_turns ?q_committed_turns ?k_committed_turns ?a_shown_turn ?l_shown_turn ?q_shown_turn ?k_shown_turn ?a_shows ?l_shows ?q_shows ?k_shows ?a_law_cell ?l_law_cell ?q_law_cell ?k_law_cell ?a_law_row ?l_law_row ?q_law_row ?k_law_row ?a_law_weights ?l_law_weights ?q_law_weights ?k_law_weights ?a_law_entry ?l_law_entry ?q_law_entry ?k_law_entry ?a_Reader_init ?i_Reader_init ?l_Reader_init ?q_Reader_init ?k_Reader_init ?a_Reader_read_signs ?i_Reader_read_signs ?l_Reader_read_signs ?q_Reader_read_signs ?k_Reader_read_signs ?a_Reader_skip ?i_Reader_skip ?l_Reader_skip ?q_Reader_skip ?k_Reader_skip ?a_Reader_read_number ?i_Reader_read_number ?l_Reader_read_number ?q_Reader_read_number ?k_Reader_read_number ?a_Reader_read_code ?i_Reader_read_code ?l_Reader_read_code ?q_Reader_read_code ?k_Reader_read_code ?a_Reader_read_command ?i_Reader_read_command ?l_Reader_read_command ?q_Reader_read_command ?k_Reader_read_command ?a_commands_of ?l_commands_of ?q_commands_of ?k_commands_of ?a_Ledger_init ?i_Ledger_init ?l_Ledger_init ?q_Ledger_init ?k_Ledger_init ?a_first_ledger ?l_first_ledger ?q_first_ledger ?k_first_ledger ?a_Chain_init ?i_Chain_init ?l_Chain_init ?q_Chain_init ?k_Chain_init ?a_Chain_height ?i_Chain_height ?l_Chain_height ?q_Chain_height ?k_Chain_height ?a_Chain_committee ?i_Chain_committee ?l_Chain_committee ?q_Chain_committee ?k_Chain_committee ?a_Chain_extend ?i_Chain_extend ?l_Chain_extend ?q_Chain_extend ?k_Chain_extend ?a_after_weight ?l_after_weight ?q_after_weight ?k_after_weight ?a_Client_init ?i_Client_init ?l_Client_init ?q_Client_init ?k_Client_init ?a_Client_follow ?i_Client_follow ?l_Client_follow ?q_Client_follow ?k_Client_follow ?a_read_head ?l_read_head ?q_read_head ?k_read_head ?a_archive_lines ?l_archive_lines ?q_archive_lines ?k_archive_lines ?a_refuse_before_end ?l_refuse_before_end ?q_refuse_before_end ?k_refuse_before_end ?a_entry_at ?l_entry_at ?q_entry_at ?k_entry_at ?a_read_archive ?l_read_archive ?q_read_archive ?k_read_archive ?a_law ?l_law ?q_law ?k_law ?pg_Reader ?hd_Reader ?po_Reader ?sa_Reader ?mk_Reader ?kc_Reader ?no_Reader_text ?no_Reader_at ?pg_Committee ?hd_Committee ?po_Committee ?sa_Committee ?mk_Committee ?kc_Committee ?no_Committee_weights ?no_Committee_size ?no_Committee_total ?pg_Ledger ?hd_Ledger ?po_Ledger ?sa_Ledger ?mk_Ledger ?kc_Ledger ?no_Ledger_balances ?no_Ledger_codes ?no_Ledger_stores ?pg_Chain ?hd_Chain ?po_Chain ?sa_Chain ?mk_Chain ?kc_Chain ?no_Chain_blocks ?no_Chain_receipts ?no_Chain_committees ?no_Chain_ledgers ?pg_Client ?hd_Client ?po_Client ?sa_Client ?mk_Client ?kc_Client ?no_Client_chain ?g_MARKS ?l_MARKS ?kl_MARKS ?lo_MARKS ?l_MARKS_p ?l_MARKS_w ?l_MARKS_d ?l_MARKS_k ?g_BadCommand ?x_BadCommand ?kc_BadCommand ?b_BadCommand ?t_BadCommand ?xga_BadCommand ?xgt_BadCommand ?xhd_BadCommand ?xcc_BadCommand ?xsp_BadCommand ?xtk_BadCommand ?xmo_BadCommand ?te1_BadCommand ?te2_BadCommand ?te3_BadCommand ?te4_BadCommand_BadCommand ?g_BadPaper ?x_BadPaper ?kc_BadPaper ?b_BadPaper ?t_BadPaper ?xga_BadPaper ?xgt_BadPaper ?xhd_BadPaper ?xcc_BadPaper ?xsp_BadPaper ?xtk_BadPaper ?xmo_BadPaper ?kt_BadPaper_BadPaper ?te1_BadPaper ?te2_BadPaper ?te3_BadPaper ?te4_BadPaper_BadPaper ?g_BadLine ?lc_BadLine ?rb_BadLine ?sa_BadLine ?eb_BadLine ?ty_BadLine ?kc_BadLine ?a_BadLine_init ?tI_BadLine_init ?l_BadLine_init ?q_BadLine_init ?ce_BadLine_init ?co_BadLine_init ?v2_BadLine_init ?fi_BadLine_init ?su_BadLine ?op_BadLine ?sv_BadLine ?mc_BadLine ?nf_BadLine ?ts_BadLine ?xga_BadLine ?xgt_BadLine ?xhd_BadLine ?xcc_BadLine ?xsp_BadLine ?xtk_BadLine ?xmo_BadLine ?g_BadArchive ?lc_BadArchive ?rb_BadArchive ?sa_BadArchive ?eb_BadArchive ?ty_BadArchive ?kc_BadArchive ?a_BadArchive_init ?tI_BadArchive_init ?l_BadArchive_init ?q_BadArchive_init ?ce_BadArchive_init ?co_BadArchive_init ?v2_BadArchive_init ?fi_BadArchive_init ?su_BadArchive ?op_BadArchive ?sv_BadArchive ?mc_BadArchive ?nf_BadArchive ?ts_BadArchive ?xga_BadArchive ?xgt_BadArchive ?xhd_BadArchive ?xcc_BadArchive ?xsp_BadArchive ?xtk_BadArchive ?xmo_BadArchive ?g_KINDS ?l_KINDS ?te1_BadLine ?te2_BadLine ?te3_BadLine ?te4_BadLine_BadLine ?g_TribunalError ?te1_TribunalError ?te2_TribunalError ?te3_TribunalError
    (case c_SIGNS => k_is)
    (case c_DIGITS => k_is)
    (case c_CODE_END => k_is)
    (case c_MOST_DIGITS_wire => k_is)
    (case c_MOST_DIGITS_commands => k_is)
    (case c_MOST_SIGNS => k_is)
    (case c_LETTERS => k_is)
    (case c_BLOCK_SIGNS => k_is)
    (case c_NONE => k_is)
    (case c_HEAD => k_is)
    (case c_KIND => k_is)
    (case c_HEIGHT => k_is)
    (case c_TURN => k_is)
    (case c_BLOCK => k_is)
    (case c_LEAN => k_is)
    (case c_MOST_MEMBERS => k_is)
    (case c_MOST_WEIGHT => k_is)
    (case n_len => k_is)
    (case n_range => k_is)
    (case n_isinstance => k_is)
    (case n_int => k_is)
    (case n_bool => k_is)
    (case n_list => k_is)
    (case n_tuple => k_is)
    (case n_str => k_is)
    (case n_zip => k_is)
    (case n_enumerate => k_is)
    (case n_max => k_is)
    (case n_abs => k_is)
    (case n_sum => k_is)
    (case n_set => k_is)
    (case n_sorted => k_is)
    (case n_min => k_is)
    (case n_super => k_is)
    (case n_ValueError => k_is)
    (case n_all => k_is)
    (case g_Reader => k_is)
    (case g_Committee => k_is)
    (case g_Ledger => k_is)
    (case g_Chain => k_is)
    (case g_Client => k_is)
    (case a_prevote => k_is)
    (case l_prevote => k_is)
    (case q_prevote => k_is)
    (case k_prevote => k_is)
    (case a_precommit => k_is)
    (case l_precommit => k_is)
    (case q_precommit => k_is)
    (case k_precommit => k_is)
    (case a_is_number => k_is)
    (case l_is_number => k_is)
    (case q_is_number => k_is)
    (case k_is_number => k_is)
    (case a_is_block => k_is)
    (case l_is_block => k_is)
    (case q_is_block => k_is)
    (case k_is_block => k_is)
    (case a_word_at => k_is)
    (case l_word_at => k_is)
    (case q_word_at => k_is)
    (case k_word_at => k_is)
    (case a_number_at => k_is)
    (case l_number_at => k_is)
    (case q_number_at => k_is)
    (case k_number_at => k_is)
    (case a_kind_at => k_is)
    (case l_kind_at => k_is)
    (case q_kind_at => k_is)
    (case k_kind_at => k_is)
    (case a_block_at => k_is)
    (case l_block_at => k_is)
    (case q_block_at => k_is)
    (case k_block_at => k_is)
    (case a_lean_at => k_is)
    (case l_lean_at => k_is)
    (case q_lean_at => k_is)
    (case k_lean_at => k_is)
    (case a_end_at => k_is)
    (case l_end_at => k_is)
    (case q_end_at => k_is)
    (case k_end_at => k_is)
    (case a_read_letter => k_is)
    (case l_read_letter => k_is)
    (case q_read_letter => k_is)
    (case k_read_letter => k_is)
    (case a_proposal => k_is)
    (case l_proposal => k_is)
    (case q_proposal => k_is)
    (case k_proposal => k_is)
    (case a_word => k_is)
    (case l_word => k_is)
    (case q_word => k_is)
    (case k_word => k_is)
    (case a_letter_line => k_is)
    (case l_letter_line => k_is)
    (case q_letter_line => k_is)
    (case k_letter_line => k_is)
    (case a_first_wrong => k_is)
    (case l_first_wrong => k_is)
    (case q_first_wrong => k_is)
    (case k_first_wrong => k_is)
    (case a_Committee_init => k_is)
    (case i_Committee_init => k_is)
    (case l_Committee_init => k_is)
    (case q_Committee_init => k_is)
    (case k_Committee_init => k_is)
    (case a_Committee_weight_of => k_is)
    (case i_Committee_weight_of => k_is)
    (case l_Committee_weight_of => k_is)
    (case q_Committee_weight_of => k_is)
    (case k_Committee_weight_of => k_is)
    (case a_Committee_is_quorum => k_is)
    (case i_Committee_is_quorum => k_is)
    (case l_Committee_is_quorum => k_is)
    (case q_Committee_is_quorum => k_is)
    (case k_Committee_is_quorum => k_is)
    (case a_votes_by_turn => k_is)
    (case l_votes_by_turn => k_is)
    (case q_votes_by_turn => k_is)
    (case k_votes_by_turn => k_is)
    (case a_counts => k_is)
    (case l_counts => k_is)
    (case q_counts => k_is)
    (case k_counts => k_is)
    (case a_certified_turns => k_is)
    (case l_certified_turns => k_is)
    (case q_certified_turns => k_is)
    (case k_certified_turns => k_is)
    (case a_committed_turns => k_is)
    (case l_committed_turns => k_is)
    (case q_committed_turns => k_is)
    (case k_committed_turns => k_is)
    (case a_shown_turn => k_is)
    (case l_shown_turn => k_is)
    (case q_shown_turn => k_is)
    (case k_shown_turn => k_is)
    (case a_shows => k_is)
    (case l_shows => k_is)
    (case q_shows => k_is)
    (case k_shows => k_is)
    (case a_law_cell => k_is)
    (case l_law_cell => k_is)
    (case q_law_cell => k_is)
    (case k_law_cell => k_is)
    (case a_law_row => k_is)
    (case l_law_row => k_is)
    (case q_law_row => k_is)
    (case k_law_row => k_is)
    (case a_law_weights => k_is)
    (case l_law_weights => k_is)
    (case q_law_weights => k_is)
    (case k_law_weights => k_is)
    (case a_law_entry => k_is)
    (case l_law_entry => k_is)
    (case q_law_entry => k_is)
    (case k_law_entry => k_is)
    (case a_Reader_init => k_is)
    (case i_Reader_init => k_is)
    (case l_Reader_init => k_is)
    (case q_Reader_init => k_is)
    (case k_Reader_init => k_is)
    (case a_Reader_read_signs => k_is)
    (case i_Reader_read_signs => k_is)
    (case l_Reader_read_signs => k_is)
    (case q_Reader_read_signs => k_is)
    (case k_Reader_read_signs => k_is)
    (case a_Reader_skip => k_is)
    (case i_Reader_skip => k_is)
    (case l_Reader_skip => k_is)
    (case q_Reader_skip => k_is)
    (case k_Reader_skip => k_is)
    (case a_Reader_read_number => k_is)
    (case i_Reader_read_number => k_is)
    (case l_Reader_read_number => k_is)
    (case q_Reader_read_number => k_is)
    (case k_Reader_read_number => k_is)
    (case a_Reader_read_code => k_is)
    (case i_Reader_read_code => k_is)
    (case l_Reader_read_code => k_is)
    (case q_Reader_read_code => k_is)
    (case k_Reader_read_code => k_is)
    (case a_Reader_read_command => k_is)
    (case i_Reader_read_command => k_is)
    (case l_Reader_read_command => k_is)
    (case q_Reader_read_command => k_is)
    (case k_Reader_read_command => k_is)
    (case a_commands_of => k_is)
    (case l_commands_of => k_is)
    (case q_commands_of => k_is)
    (case k_commands_of => k_is)
    (case a_Ledger_init => k_is)
    (case i_Ledger_init => k_is)
    (case l_Ledger_init => k_is)
    (case q_Ledger_init => k_is)
    (case k_Ledger_init => k_is)
    (case a_first_ledger => k_is)
    (case l_first_ledger => k_is)
    (case q_first_ledger => k_is)
    (case k_first_ledger => k_is)
    (case a_Chain_init => k_is)
    (case i_Chain_init => k_is)
    (case l_Chain_init => k_is)
    (case q_Chain_init => k_is)
    (case k_Chain_init => k_is)
    (case a_Chain_height => k_is)
    (case i_Chain_height => k_is)
    (case l_Chain_height => k_is)
    (case q_Chain_height => k_is)
    (case k_Chain_height => k_is)
    (case a_Chain_committee => k_is)
    (case i_Chain_committee => k_is)
    (case l_Chain_committee => k_is)
    (case q_Chain_committee => k_is)
    (case k_Chain_committee => k_is)
    (case a_Chain_extend => k_is)
    (case i_Chain_extend => k_is)
    (case l_Chain_extend => k_is)
    (case q_Chain_extend => k_is)
    (case k_Chain_extend => k_is)
    (case a_after_weight => k_is)
    (case l_after_weight => k_is)
    (case q_after_weight => k_is)
    (case k_after_weight => k_is)
    (case a_Client_init => k_is)
    (case i_Client_init => k_is)
    (case l_Client_init => k_is)
    (case q_Client_init => k_is)
    (case k_Client_init => k_is)
    (case a_Client_follow => k_is)
    (case i_Client_follow => k_is)
    (case l_Client_follow => k_is)
    (case q_Client_follow => k_is)
    (case k_Client_follow => k_is)
    (case a_read_head => k_is)
    (case l_read_head => k_is)
    (case q_read_head => k_is)
    (case k_read_head => k_is)
    (case a_archive_lines => k_is)
    (case l_archive_lines => k_is)
    (case q_archive_lines => k_is)
    (case k_archive_lines => k_is)
    (case a_refuse_before_end => k_is)
    (case l_refuse_before_end => k_is)
    (case q_refuse_before_end => k_is)
    (case k_refuse_before_end => k_is)
    (case a_entry_at => k_is)
    (case l_entry_at => k_is)
    (case q_entry_at => k_is)
    (case k_entry_at => k_is)
    (case a_read_archive => k_is)
    (case l_read_archive => k_is)
    (case q_read_archive => k_is)
    (case k_read_archive => k_is)
    (case a_law => k_is)
    (case l_law => k_is)
    (case q_law => k_is)
    (case k_law => k_is)
    (case pg_Reader => k_is)
    (case hd_Reader => k_is)
    (case po_Reader => k_is)
    (case sa_Reader => k_is)
    (case mk_Reader => k_is)
    (case kc_Reader => k_is)
    (case no_Reader_text => k_is)
    (case no_Reader_at => k_is)
    (case pg_Committee => k_is)
    (case hd_Committee => k_is)
    (case po_Committee => k_is)
    (case sa_Committee => k_is)
    (case mk_Committee => k_is)
    (case kc_Committee => k_is)
    (case no_Committee_weights => k_is)
    (case no_Committee_size => k_is)
    (case no_Committee_total => k_is)
    (case pg_Ledger => k_is)
    (case hd_Ledger => k_is)
    (case po_Ledger => k_is)
    (case sa_Ledger => k_is)
    (case mk_Ledger => k_is)
    (case kc_Ledger => k_is)
    (case no_Ledger_balances => k_is)
    (case no_Ledger_codes => k_is)
    (case no_Ledger_stores => k_is)
    (case pg_Chain => k_is)
    (case hd_Chain => k_is)
    (case po_Chain => k_is)
    (case sa_Chain => k_is)
    (case mk_Chain => k_is)
    (case kc_Chain => k_is)
    (case no_Chain_blocks => k_is)
    (case no_Chain_receipts => k_is)
    (case no_Chain_committees => k_is)
    (case no_Chain_ledgers => k_is)
    (case pg_Client => k_is)
    (case hd_Client => k_is)
    (case po_Client => k_is)
    (case sa_Client => k_is)
    (case mk_Client => k_is)
    (case kc_Client => k_is)
    (case no_Client_chain => k_is)
    (case g_MARKS => k_is)
    (case l_MARKS => k_is)
    (case kl_MARKS => exact ⟨⟨_, _, rfl, rfl⟩, ⟨_, _, rfl, rfl⟩, ⟨_, _, rfl, rfl⟩, ⟨_, _, rfl, rfl⟩, trivial⟩)
    (case lo_MARKS => exact rfl)
    (case l_MARKS_p => k_is)
    (case l_MARKS_w => k_is)
    (case l_MARKS_d => k_is)
    (case l_MARKS_k => k_is)
    (case g_BadCommand => k_is)
    (case x_BadCommand => k_exc)
    (case kc_BadCommand => k_is)
    (case b_BadCommand => k_is)
    (case t_BadCommand => k_is)
    (case xga_BadCommand => k_is)
    (case xgt_BadCommand => k_is)
    (case xhd_BadCommand => k_is)
    (case xcc_BadCommand => k_is)
    (case xsp_BadCommand => k_is)
    (case xtk_BadCommand => k_is)
    (case xmo_BadCommand => k_is)
    (case te1_BadCommand => k_is)
    (case te2_BadCommand => k_is)
    (case te3_BadCommand => k_is)
    (case te4_BadCommand_BadCommand => k_is)
    (case g_BadPaper => k_is)
    (case x_BadPaper => k_exc)
    (case kc_BadPaper => k_is)
    (case b_BadPaper => k_is)
    (case t_BadPaper => k_is)
    (case xga_BadPaper => k_is)
    (case xgt_BadPaper => k_is)
    (case xhd_BadPaper => k_is)
    (case xcc_BadPaper => k_is)
    (case xsp_BadPaper => k_is)
    (case xtk_BadPaper => k_is)
    (case xmo_BadPaper => k_is)
    (case kt_BadPaper_BadPaper => kit_is)
    (case te1_BadPaper => k_is)
    (case te2_BadPaper => k_is)
    (case te3_BadPaper => k_is)
    (case te4_BadPaper_BadPaper => k_is)
    (case g_BadLine => k_is)
    (case lc_BadLine => k_is)
    (case rb_BadLine => decide +kernel)
    (case sa_BadLine => k_is)
    (case eb_BadLine => k_is)
    (case ty_BadLine => k_is)
    (case kc_BadLine => k_is)
    (case a_BadLine_init => k_is)
    (case tI_BadLine_init => k_is)
    (case l_BadLine_init => k_is)
    (case q_BadLine_init => k_is)
    (case ce_BadLine_init => k_is)
    (case co_BadLine_init => k_is)
    (case v2_BadLine_init => rfl)
    (case fi_BadLine_init => decide +kernel)
    (case su_BadLine => ks_is)
    (case op_BadLine => k_is)
    (case sv_BadLine => k_is)
    (case mc_BadLine => k_is)
    (case nf_BadLine => k_is)
    (case ts_BadLine => decide +kernel)
    (case xga_BadLine => k_is)
    (case xgt_BadLine => k_is)
    (case xhd_BadLine => k_is)
    (case xcc_BadLine => k_is)
    (case xsp_BadLine => k_is)
    (case xtk_BadLine => k_is)
    (case xmo_BadLine => k_is)
    (case g_BadArchive => k_is)
    (case lc_BadArchive => k_is)
    (case rb_BadArchive => decide +kernel)
    (case sa_BadArchive => k_is)
    (case eb_BadArchive => k_is)
    (case ty_BadArchive => k_is)
    (case kc_BadArchive => k_is)
    (case a_BadArchive_init => k_is)
    (case tI_BadArchive_init => k_is)
    (case l_BadArchive_init => k_is)
    (case q_BadArchive_init => k_is)
    (case ce_BadArchive_init => k_is)
    (case co_BadArchive_init => k_is)
    (case v2_BadArchive_init => rfl)
    (case fi_BadArchive_init => decide +kernel)
    (case su_BadArchive => ks_is)
    (case op_BadArchive => k_is)
    (case sv_BadArchive => k_is)
    (case mc_BadArchive => k_is)
    (case nf_BadArchive => k_is)
    (case ts_BadArchive => decide +kernel)
    (case xga_BadArchive => k_is)
    (case xgt_BadArchive => k_is)
    (case xhd_BadArchive => k_is)
    (case xcc_BadArchive => k_is)
    (case xsp_BadArchive => k_is)
    (case xtk_BadArchive => k_is)
    (case xmo_BadArchive => k_is)
    (case g_KINDS => k_is)
    (case l_KINDS => k_is)
    (case te1_BadLine => k_is)
    (case te2_BadLine => k_is)
    (case te3_BadLine => k_is)
    (case te4_BadLine_BadLine => k_is)
    (case g_TribunalError => k_is)
    (case te1_TribunalError => k_is)
    (case te2_TribunalError => k_is)
    (case te3_TribunalError => k_is)
