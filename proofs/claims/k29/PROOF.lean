import PyProof.Rows.All
import Wide.All
import OpenK.AllK
import Wide.FinOn
import HandS.ForMost
import HandS.IsInst
import HandS.TupLe
import HandS.Codes
import HandS.More
import HandS.Exc
import HandS.ExcOwn
import HandS.WordsExc
import HandS.ExcIs
import KE.KExcIs
import HandS.FStr
import HandS.Zip
import HandS.Star
import HandS.StrMore
import HandS.Text
import HandS.Walk
import HandS.Deep
import HandS.TryOnly
import KE.IntTextText
import KE.KUnpackStar
import KE.IntTextLaws
import KE.GoesMore
import KE.GoesEnum
import HandS.TupAny
import HandS.SetKeys
import HandS.SortKw
import KE.KMinBuiltin
import KE.KTupSum
import HandS.TupMul
import HandS.ExcInit
import HandS.ExcSuper
import HandS.ExcCtx
import HandS.HotCalls
import HandS.ExcInitHot
import HandS.ExcField
import HandS.RaiseMore
import HandS.RaiseFrom
import HandS.SuiteRaise
import KE.KExcSuper
import PySem.Challenge.RW_tribunal_k29_archives_written_and_read
set_option Elab.async false
set_option pp.maxSteps 300
set_option pp.deepTerms.threshold 6
set_option linter.all false
set_option maxRecDepth 100000
set_option maxHeartbeats 4000000
namespace Toy
open PySem L2
def top (i : Nat) : Stmt := PySem.Challenge.pw_tribunal_k29_archives_written_and_read.main.body.getD i (.Pass ⟨0, 0, 0, 0⟩)
abbrev s_prevote : Stmt := (top 32)
abbrev s_precommit : Stmt := (top 33)
abbrev s_is_number : Stmt := (top 43)
abbrev s_is_block : Stmt := (top 44)
abbrev s_word_at : Stmt := (top 46)
abbrev s_number_at : Stmt := (top 47)
abbrev s_kind_at : Stmt := (top 48)
abbrev s_block_at : Stmt := (top 49)
abbrev s_lean_at : Stmt := (top 50)
abbrev s_end_at : Stmt := (top 51)
abbrev s_read_letter : Stmt := (top 42)
abbrev s_proposal : Stmt := (top 31)
abbrev s_word : Stmt := (top 45)
abbrev s_letter_line : Stmt := (top 41)
abbrev s_first_wrong : Stmt := (top 62)
abbrev s_Committee_init : Stmt := (inClass (top 61) 0)
abbrev s_Committee_weight_of : Stmt := (inClass (top 61) 1)
abbrev s_Committee_is_quorum : Stmt := (inClass (top 61) 2)
abbrev s_votes_by_turn : Stmt := (top 80)
abbrev s_counts : Stmt := (top 81)
abbrev s_certified_turns : Stmt := (top 78)
abbrev s_committed_turns : Stmt := (top 79)
abbrev s_shown_turn : Stmt := (top 84)
abbrev s_shows : Stmt := (top 83)
abbrev s_law_cell : Stmt := (top 95)
abbrev s_law_row : Stmt := (top 97)
abbrev s_law_weights : Stmt := (top 98)
abbrev s_law_weight : Stmt := (top 99)
abbrev s_law_certified : Stmt := (top 100)
abbrev s_law_committed : Stmt := (top 101)
abbrev s_Reader_init : Stmt := (inClass (top 57) 0)
abbrev s_Reader_read_signs : Stmt := (inClass (top 57) 5)
abbrev s_Reader_skip : Stmt := (inClass (top 57) 2)
abbrev s_Reader_read_number : Stmt := (inClass (top 57) 3)
abbrev s_Reader_read_code : Stmt := (inClass (top 57) 4)
abbrev s_Reader_read_command : Stmt := (inClass (top 57) 1)
abbrev s_commands_of : Stmt := (top 56)
abbrev s_Ledger_init : Stmt := (inClass (top 64) 0)
abbrev s_first_ledger : Stmt := (top 65)
abbrev s_Chain_init : Stmt := (inClass (top 75) 0)
abbrev s_Chain_height : Stmt := (inClass (top 75) 1)
abbrev s_Chain_committee : Stmt := (inClass (top 75) 2)
abbrev s_Chain_extend : Stmt := (inClass (top 75) 3)
abbrev s_after_weight : Stmt := (top 76)
abbrev s_Client_init : Stmt := (inClass (top 86) 0)
abbrev s_Client_follow : Stmt := (inClass (top 86) 1)
abbrev s_read_head : Stmt := (top 92)
abbrev s_archive_lines : Stmt := (top 89)
abbrev s_law_shows : Stmt := (top 103)
abbrev s_law_paper : Stmt := (top 102)
abbrev s_law_block : Stmt := (top 105)
abbrev s_law_reweighted : Stmt := (top 104)
abbrev s_law_is_integer : Stmt := (top 96)
abbrev s_law_line : Stmt := (top 106)
abbrev s_refuse_before_end : Stmt := (top 93)
abbrev s_entry_at : Stmt := (top 91)
abbrev s_read_archive : Stmt := (top 90)
abbrev s_law_lines : Stmt := (top 107)
abbrev s_law_due : Stmt := (top 108)
abbrev s_law_read : Stmt := (top 109)
abbrev s_law_spoilt : Stmt := (top 110)
abbrev s_law : Stmt := (top 111)
abbrev s_BadLine_init : Stmt := (inClass (top 4) 0)
abbrev s_BadArchive_init : Stmt := (inClass (top 5) 0)
abbrev sc_prevote_N : List Str := ["height", "turn", "block", "lean"]
theorem sc_prevote : FnScope sc_prevote_N ["height", "turn", "block", "lean"] (defScope s_prevote) := ⟨rfl, rfl, rfl, by decide +kernel, rfl, by decide +kernel, by decide +kernel⟩
abbrev sc_precommit_N : List Str := ["height", "turn", "block"]
theorem sc_precommit : FnScope sc_precommit_N ["height", "turn", "block"] (defScope s_precommit) := ⟨rfl, rfl, rfl, by decide +kernel, rfl, by decide +kernel, by decide +kernel⟩
abbrev sc_is_number_N : List Str := ["word"]
theorem sc_is_number : FnScope sc_is_number_N ["word"] (defScope s_is_number) := ⟨rfl, rfl, rfl, by decide +kernel, rfl, by decide +kernel, by decide +kernel⟩
abbrev sc_is_block_N : List Str := ["word", "sign"]
theorem sc_is_block : FnScope sc_is_block_N ["word"] (defScope s_is_block) := ⟨rfl, rfl, rfl, by decide +kernel, rfl, by decide +kernel, by decide +kernel⟩
abbrev sc_word_at_N : List Str := ["words", "at"]
theorem sc_word_at : FnScope sc_word_at_N ["words", "at"] (defScope s_word_at) := ⟨rfl, rfl, rfl, by decide +kernel, rfl, by decide +kernel, by decide +kernel⟩
abbrev sc_number_at_N : List Str := ["words", "at", "word"]
theorem sc_number_at : FnScope sc_number_at_N ["words", "at"] (defScope s_number_at) := ⟨rfl, rfl, rfl, by decide +kernel, rfl, by decide +kernel, by decide +kernel⟩
abbrev sc_kind_at_N : List Str := ["words", "at", "word"]
theorem sc_kind_at : FnScope sc_kind_at_N ["words", "at"] (defScope s_kind_at) := ⟨rfl, rfl, rfl, by decide +kernel, rfl, by decide +kernel, by decide +kernel⟩
abbrev sc_block_at_N : List Str := ["words", "at", "kind", "word"]
theorem sc_block_at : FnScope sc_block_at_N ["words", "at", "kind"] (defScope s_block_at) := ⟨rfl, rfl, rfl, by decide +kernel, rfl, by decide +kernel, by decide +kernel⟩
abbrev sc_lean_at_N : List Str := ["words", "at", "turn", "word", "lean"]
theorem sc_lean_at : FnScope sc_lean_at_N ["words", "at", "turn"] (defScope s_lean_at) := ⟨rfl, rfl, rfl, by decide +kernel, rfl, by decide +kernel, by decide +kernel⟩
abbrev sc_end_at_N : List Str := ["words", "at"]
theorem sc_end_at : FnScope sc_end_at_N ["words", "at"] (defScope s_end_at) := ⟨rfl, rfl, rfl, by decide +kernel, rfl, by decide +kernel, by decide +kernel⟩
abbrev sc_read_letter_N : List Str := ["line", "words", "sender", "kind", "height", "turn", "block", "lean"]
theorem sc_read_letter : FnScope sc_read_letter_N ["line"] (defScope s_read_letter) := ⟨rfl, rfl, rfl, by decide +kernel, rfl, by decide +kernel, by decide +kernel⟩
abbrev sc_proposal_N : List Str := ["height", "turn", "block"]
theorem sc_proposal : FnScope sc_proposal_N ["height", "turn", "block"] (defScope s_proposal) := ⟨rfl, rfl, rfl, by decide +kernel, rfl, by decide +kernel, by decide +kernel⟩
abbrev sc_word_N : List Str := ["part"]
theorem sc_word : FnScope sc_word_N ["part"] (defScope s_word) := ⟨rfl, rfl, rfl, by decide +kernel, rfl, by decide +kernel, by decide +kernel⟩
abbrev sc_letter_line_N : List Str := ["letter", "sender", "statement", "part"]
theorem sc_letter_line : FnScope sc_letter_line_N ["letter"] (defScope s_letter_line) := ⟨rfl, rfl, rfl, by decide +kernel, rfl, by decide +kernel, by decide +kernel⟩
abbrev sc_first_wrong_N : List Str := ["weights", "at", "weight"]
theorem sc_first_wrong : FnScope sc_first_wrong_N ["weights"] (defScope s_first_wrong) := ⟨rfl, rfl, rfl, by decide +kernel, rfl, by decide +kernel, by decide +kernel⟩
abbrev sc_Committee_init_N : List Str := ["self", "weights", "wrong"]
theorem sc_Committee_init : FnScope sc_Committee_init_N ["self", "weights"] (defScope s_Committee_init) := ⟨rfl, rfl, rfl, by decide +kernel, rfl, by decide +kernel, by decide +kernel⟩
abbrev sc_Committee_weight_of_N : List Str := ["self", "members", "listed", "member", "weight"]
theorem sc_Committee_weight_of : FnScope sc_Committee_weight_of_N ["self", "members"] (defScope s_Committee_weight_of) := ⟨rfl, rfl, rfl, by decide +kernel, rfl, by decide +kernel, by decide +kernel⟩
abbrev sc_Committee_is_quorum_N : List Str := ["self", "members"]
theorem sc_Committee_is_quorum : FnScope sc_Committee_is_quorum_N ["self", "members"] (defScope s_Committee_is_quorum) := ⟨rfl, rfl, rfl, by decide +kernel, rfl, by decide +kernel, by decide +kernel⟩
abbrev sc_votes_by_turn_N : List Str := ["letters", "kind", "height", "block", "found", "letter", "vote"]
theorem sc_votes_by_turn : FnScope sc_votes_by_turn_N ["letters", "kind", "height", "block"] (defScope s_votes_by_turn) := ⟨rfl, rfl, rfl, by decide +kernel, rfl, by decide +kernel, by decide +kernel⟩
abbrev sc_counts_N : List Str := ["prevote", "turns", "lean"]
theorem sc_counts : FnScope sc_counts_N ["prevote", "turns"] (defScope s_counts) := ⟨rfl, rfl, rfl, by decide +kernel, rfl, by decide +kernel, by decide +kernel⟩
abbrev sc_certified_turns_N : List Str := ["committee", "letters", "height", "block", "prevotes", "found", "turn", "members", "letter"]
theorem sc_certified_turns : FnScope sc_certified_turns_N ["committee", "letters", "height", "block"] (defScope s_certified_turns) := ⟨rfl, rfl, rfl, by decide +kernel, rfl, by decide +kernel, by decide +kernel⟩
abbrev sc_committed_turns_N : List Str := ["committee", "letters", "height", "block", "precommits", "found", "turn", "members", "letter"]
theorem sc_committed_turns : FnScope sc_committed_turns_N ["committee", "letters", "height", "block"] (defScope s_committed_turns) := ⟨rfl, rfl, rfl, by decide +kernel, rfl, by decide +kernel, by decide +kernel⟩
abbrev sc_shown_turn_N : List Str := ["committee", "height", "block", "letters"]
theorem sc_shown_turn : FnScope sc_shown_turn_N ["committee", "height", "block", "letters"] (defScope s_shown_turn) := ⟨rfl, rfl, rfl, by decide +kernel, rfl, by decide +kernel, by decide +kernel⟩
abbrev sc_shows_N : List Str := ["committee", "height", "block", "letters"]
theorem sc_shows : FnScope sc_shows_N ["committee", "height", "block", "letters"] (defScope s_shows) := ⟨rfl, rfl, rfl, by decide +kernel, rfl, by decide +kernel, by decide +kernel⟩
abbrev sc_law_cell_N : List Str := ["script", "k"]
theorem sc_law_cell : FnScope sc_law_cell_N ["script", "k"] (defScope s_law_cell) := ⟨rfl, rfl, rfl, by decide +kernel, rfl, by decide +kernel, by decide +kernel⟩
abbrev sc_law_row_N : List Str := ["cell", "count", "size", "state", "row", "k"]
theorem sc_law_row : FnScope sc_law_row_N ["cell", "count", "size"] (defScope s_law_row) := ⟨rfl, rfl, rfl, by decide +kernel, rfl, by decide +kernel, by decide +kernel⟩
abbrev sc_law_weights_N : List Str := ["cell", "most", "count", "value"]
theorem sc_law_weights : FnScope sc_law_weights_N ["cell", "most"] (defScope s_law_weights) := ⟨rfl, rfl, rfl, by decide +kernel, rfl, by decide +kernel, by decide +kernel⟩
abbrev sc_law_weight_N : List Str := ["weights", "members", "k"]
theorem sc_law_weight : FnScope sc_law_weight_N ["weights", "members"] (defScope s_law_weight) := ⟨rfl, rfl, rfl, by decide +kernel, rfl, by decide +kernel, by decide +kernel⟩
abbrev sc_law_certified_N : List Str := ["weights", "letters", "height", "turn", "block", "leans", "later", "members", "letter", "statement", "holds"]
theorem sc_law_certified : FnScope sc_law_certified_N ["weights", "letters", "height", "turn", "block"] (defScope s_law_certified) := ⟨rfl, rfl, rfl, by decide +kernel, rfl, by decide +kernel, by decide +kernel⟩
abbrev sc_law_committed_N : List Str := ["weights", "letters", "height", "turn", "block", "members", "letter"]
theorem sc_law_committed : FnScope sc_law_committed_N ["weights", "letters", "height", "turn", "block"] (defScope s_law_committed) := ⟨rfl, rfl, rfl, by decide +kernel, rfl, by decide +kernel, by decide +kernel⟩
abbrev sc_Reader_init_N : List Str := ["self", "text"]
theorem sc_Reader_init : FnScope sc_Reader_init_N ["self", "text"] (defScope s_Reader_init) := ⟨rfl, rfl, rfl, by decide +kernel, rfl, by decide +kernel, by decide +kernel⟩
abbrev sc_Reader_read_signs_N : List Str := ["self", "allowed", "begin"]
theorem sc_Reader_read_signs : FnScope sc_Reader_read_signs_N ["self", "allowed"] (defScope s_Reader_read_signs) := ⟨rfl, rfl, rfl, by decide +kernel, rfl, by decide +kernel, by decide +kernel⟩
abbrev sc_Reader_skip_N : List Str := ["self", "mark"]
theorem sc_Reader_skip : FnScope sc_Reader_skip_N ["self", "mark"] (defScope s_Reader_skip) := ⟨rfl, rfl, rfl, by decide +kernel, rfl, by decide +kernel, by decide +kernel⟩
abbrev sc_Reader_read_number_N : List Str := ["self", "digits"]
theorem sc_Reader_read_number : FnScope sc_Reader_read_number_N ["self"] (defScope s_Reader_read_number) := ⟨rfl, rfl, rfl, by decide +kernel, rfl, by decide +kernel, by decide +kernel⟩
abbrev sc_Reader_read_code_N : List Str := ["self", "code"]
theorem sc_Reader_read_code : FnScope sc_Reader_read_code_N ["self"] (defScope s_Reader_read_code) := ⟨rfl, rfl, rfl, by decide +kernel, rfl, by decide +kernel, by decide +kernel⟩
abbrev sc_Reader_read_command_N : List Str := ["self", "kind", "parts", "mark", "part"]
theorem sc_Reader_read_command : FnScope sc_Reader_read_command_N ["self"] (defScope s_Reader_read_command) := ⟨rfl, rfl, rfl, by decide +kernel, rfl, by decide +kernel, by decide +kernel⟩
abbrev sc_commands_of_N : List Str := ["block", "reader", "found"]
theorem sc_commands_of : FnScope sc_commands_of_N ["block"] (defScope s_commands_of) := ⟨rfl, rfl, rfl, by decide +kernel, rfl, by decide +kernel, by decide +kernel⟩
abbrev sc_Ledger_init_N : List Str := ["self", "balances", "codes", "stores"]
theorem sc_Ledger_init : FnScope sc_Ledger_init_N ["self", "balances", "codes", "stores"] (defScope s_Ledger_init) := ⟨rfl, rfl, rfl, by decide +kernel, rfl, by decide +kernel, by decide +kernel⟩
abbrev sc_first_ledger_N : List Str := ["grants", "balances"]
theorem sc_first_ledger : FnScope sc_first_ledger_N ["grants"] (defScope s_first_ledger) := ⟨rfl, rfl, rfl, by decide +kernel, rfl, by decide +kernel, by decide +kernel⟩
abbrev sc_Chain_init_N : List Str := ["self", "weights", "grants"]
theorem sc_Chain_init : FnScope sc_Chain_init_N ["self", "weights", "grants"] (defScope s_Chain_init) := ⟨rfl, rfl, rfl, by decide +kernel, rfl, by decide +kernel, by decide +kernel⟩
abbrev sc_Chain_height_N : List Str := ["self"]
theorem sc_Chain_height : FnScope sc_Chain_height_N ["self"] (defScope s_Chain_height) := ⟨rfl, rfl, rfl, by decide +kernel, rfl, by decide +kernel, by decide +kernel⟩
abbrev sc_Chain_committee_N : List Str := ["self"]
theorem sc_Chain_committee : FnScope sc_Chain_committee_N ["self"] (defScope s_Chain_committee) := ⟨rfl, rfl, rfl, by decide +kernel, rfl, by decide +kernel, by decide +kernel⟩
abbrev sc_Chain_extend_N : List Str := ["self", "block", "weights", "ledger", "receipts", "command", "done"]
theorem sc_Chain_extend : FnScope sc_Chain_extend_N ["self", "block"] (defScope s_Chain_extend) := ⟨rfl, rfl, rfl, by decide +kernel, rfl, by decide +kernel, by decide +kernel⟩
abbrev sc_after_weight_N : List Str := ["weights", "command", "_", "member", "weight"]
theorem sc_after_weight : FnScope sc_after_weight_N ["weights", "command"] (defScope s_after_weight) := ⟨rfl, rfl, rfl, by decide +kernel, rfl, by decide +kernel, by decide +kernel⟩
abbrev sc_Client_init_N : List Str := ["self", "weights", "grants"]
theorem sc_Client_init : FnScope sc_Client_init_N ["self", "weights", "grants"] (defScope s_Client_init) := ⟨rfl, rfl, rfl, by decide +kernel, rfl, by decide +kernel, by decide +kernel⟩
abbrev sc_Client_follow_N : List Str := ["self", "block", "paper"]
theorem sc_Client_follow : FnScope sc_Client_follow_N ["self", "block", "paper"] (defScope s_Client_follow) := ⟨rfl, rfl, rfl, by decide +kernel, rfl, by decide +kernel, by decide +kernel⟩
abbrev sc_read_head_N : List Str := ["line", "words"]
theorem sc_read_head : FnScope sc_read_head_N ["line"] (defScope s_read_head) := ⟨rfl, rfl, rfl, by decide +kernel, rfl, by decide +kernel, by decide +kernel⟩
abbrev sc_archive_lines_N : List Str := ["blocks", "papers", "lines", "block", "paper", "letter"]
theorem sc_archive_lines : FnScope sc_archive_lines_N ["blocks", "papers"] (defScope s_archive_lines) := ⟨rfl, rfl, rfl, by decide +kernel, rfl, by decide +kernel, by decide +kernel⟩
abbrev sc_law_shows_N : List Str := ["weights", "letters", "height", "block", "turn"]
theorem sc_law_shows : FnScope sc_law_shows_N ["weights", "letters", "height", "block"] (defScope s_law_shows) := ⟨rfl, rfl, rfl, by decide +kernel, rfl, by decide +kernel, by decide +kernel⟩
abbrev sc_law_paper_N : List Str := ["cell", "size", "height", "block", "digits", "turn", "letters", "k", "who"]
theorem sc_law_paper : FnScope sc_law_paper_N ["cell", "size", "height", "block"] (defScope s_law_paper) := ⟨rfl, rfl, rfl, by decide +kernel, rfl, by decide +kernel, by decide +kernel⟩
abbrev sc_law_block_N : List Str := ["cell", "height"]
theorem sc_law_block : FnScope sc_law_block_N ["cell", "height"] (defScope s_law_block) := ⟨rfl, rfl, rfl, by decide +kernel, rfl, by decide +kernel, by decide +kernel⟩
abbrev sc_law_reweighted_N : List Str := ["weights", "block", "changed"]
theorem sc_law_reweighted : FnScope sc_law_reweighted_N ["weights", "block"] (defScope s_law_reweighted) := ⟨rfl, rfl, rfl, by decide +kernel, rfl, by decide +kernel, by decide +kernel⟩
abbrev sc_law_is_integer_N : List Str := ["actual"]
theorem sc_law_is_integer : FnScope sc_law_is_integer_N ["actual"] (defScope s_law_is_integer) := ⟨rfl, rfl, rfl, by decide +kernel, rfl, by decide +kernel, by decide +kernel⟩
abbrev sc_law_line_N : List Str := ["letter", "words", "part"]
theorem sc_law_line : FnScope sc_law_line_N ["letter"] (defScope s_law_line) := ⟨rfl, rfl, rfl, by decide +kernel, rfl, by decide +kernel, by decide +kernel⟩
abbrev sc_refuse_before_end_N : List Str := ["lines", "at"]
theorem sc_refuse_before_end : FnScope sc_refuse_before_end_N ["lines", "at"] (defScope s_refuse_before_end) := ⟨rfl, rfl, rfl, by decide +kernel, rfl, by decide +kernel, by decide +kernel⟩
abbrev sc_entry_at_N : List Str := ["lines", "at", "head", "block", "many", "last", "paper", "place"]
theorem sc_entry_at : FnScope sc_entry_at_N ["lines", "at"] (defScope s_entry_at) := ⟨rfl, rfl, rfl, by decide +kernel, rfl, by decide +kernel, by decide +kernel⟩
abbrev sc_read_archive_N : List Str := ["weights", "grants", "lines", "client", "entries", "at", "entry", "block", "paper", "last"]
theorem sc_read_archive : FnScope sc_read_archive_N ["weights", "grants", "lines"] (defScope s_read_archive) := ⟨rfl, rfl, rfl, by decide +kernel, rfl, by decide +kernel, by decide +kernel⟩
abbrev sc_law_lines_N : List Str := ["entries", "lines", "heads", "entry", "letter"]
theorem sc_law_lines : FnScope sc_law_lines_N ["entries"] (defScope s_law_lines) := ⟨rfl, rfl, rfl, by decide +kernel, rfl, by decide +kernel, by decide +kernel⟩
abbrev sc_law_due_N : List Str := ["weights", "entries", "heads", "now", "height", "block"]
theorem sc_law_due : FnScope sc_law_due_N ["weights", "entries", "heads"] (defScope s_law_due) := ⟨rfl, rfl, rfl, by decide +kernel, rfl, by decide +kernel, by decide +kernel⟩
abbrev sc_law_read_N : List Str := ["weights", "lines", "due", "at", "kept", "actual", "e"]
theorem sc_law_read : FnScope sc_law_read_N ["weights", "lines", "due", "at"] (defScope s_law_read) := ⟨rfl, rfl, rfl, by decide +kernel, rfl, by decide +kernel, by decide +kernel⟩
abbrev sc_law_spoilt_N : List Str := ["line", "head", "way", "words", "at", "strange"]
theorem sc_law_spoilt : FnScope sc_law_spoilt_N ["line", "head", "way"] (defScope s_law_spoilt) := ⟨rfl, rfl, rfl, by decide +kernel, rfl, by decide +kernel, by decide +kernel⟩
abbrev sc_law_N : List Str := ["script", "weights", "entries", "height", "block", "made", "lines", "due", "at", "head", "count", "k", "spoilt", "entry"]
theorem sc_law : FnScope sc_law_N ["script"] (defScope s_law) := ⟨rfl, rfl, rfl, by decide +kernel, rfl, by decide +kernel, by decide +kernel⟩
/-! ### what stands where -/
structure DefAt (K : PySem.W.Frag) (mg : Str → Option Value) (x : Str) (st : Stmt) (ps : List Str) (f : Addr) : Prop where
  F : ∃ fd, Fun K x x st f fd ∧ Binds K fd ps []
  g : mg x = some (.ref f)
  kp : PySem.W.keepIn K (.ref f) = true
structure MethAt (K : PySem.W.Frag) (C : Addr) (x qual : Str) (st : Stmt) (ps : List Str) (f : Addr) : Prop where
  F : ∃ fd, Fun K x qual st f fd ∧ Binds K fd ps []
  fi : PySem.W.findIn K (.ref C) x = some (some (.ref f))
  isf : PySem.W.isFn K (.ref f) = true
  kp : PySem.W.keepIn K (.ref f) = true
theorem def_mk {K : PySem.W.Frag} {x qual : Str} {st : Stmt} {f : Addr} {ps : List Str} {oc : Value} {od an : Option Addr} {osl : Array (Option Value)} {kV doc pm cdv ct : Value}
    (l : K.lookup f = some ⟨oc, od, .func (PySem.W.fnOf x qual (defArgs st) (defBody st) (defScope st) .none kV doc pm an cdv ct), osl⟩)
    (c : PySem.W.codeIn K cdv qual = true) (k : PySem.W.keepIn K (.ref f) = true)
    (h : ∀ (kV doc pm : Value) (an : Option Addr) (cdv ct : Value) (us : List Value), us.length = ps.length → bindArgs (PySem.W.fnOf x qual (defArgs st) (defBody st) (defScope st) .none kV doc pm an cdv ct) ⟨us, []⟩ = pure (ps.zip us)) :
    ∃ fd, Fun K x qual st f fd ∧ Binds K fd ps [] := by
  have F := fun_mk (st := st) l c k
  exact ⟨_, F, F.binds h⟩
theorem mg_no {K : PySem.W.Frag} {h : Heap} {mg : Str → Option Value} {n : Str} (X : K.In h) (G : h.Ns mainGlobals mg) (e : PySem.W.nsIn K mainGlobals n = some none) : mg n = none := PySem.W.mg_none_of X G e
theorem same_new {H : Hp} {p : Addr} {o : HO} (n : H p = Option.none) : Same H (upd H p o) := fun b u e => by
  rw [upd_ne (ne_of_none e n)]
  exact e
theorem same_upd {H H2 : Hp} {p : Addr} {o : HO} (s : Same H H2) (n : H p = Option.none) : Same H (upd H2 p o) := fun b u e => by
  rw [upd_ne (ne_of_none e n)]
  exact s b u e
structure Ads where
  C_Reader : Addr
  C_Committee : Addr
  C_Ledger : Addr
  C_Chain : Addr
  C_Client : Addr
  d_prevote : Addr
  d_precommit : Addr
  d_is_number : Addr
  d_is_block : Addr
  d_word_at : Addr
  d_number_at : Addr
  d_kind_at : Addr
  d_block_at : Addr
  d_lean_at : Addr
  d_end_at : Addr
  d_read_letter : Addr
  d_proposal : Addr
  d_word : Addr
  d_letter_line : Addr
  d_first_wrong : Addr
  d_Committee_init : Addr
  d_Committee_weight_of : Addr
  d_Committee_is_quorum : Addr
  d_votes_by_turn : Addr
  d_counts : Addr
  d_certified_turns : Addr
  d_committed_turns : Addr
  d_shown_turn : Addr
  d_shows : Addr
  d_law_cell : Addr
  d_law_row : Addr
  d_law_weights : Addr
  d_law_weight : Addr
  d_law_certified : Addr
  d_law_committed : Addr
  d_Reader_init : Addr
  d_Reader_read_signs : Addr
  d_Reader_skip : Addr
  d_Reader_read_number : Addr
  d_Reader_read_code : Addr
  d_Reader_read_command : Addr
  d_commands_of : Addr
  d_Ledger_init : Addr
  d_first_ledger : Addr
  d_Chain_init : Addr
  d_Chain_height : Addr
  d_Chain_committee : Addr
  d_Chain_extend : Addr
  d_after_weight : Addr
  d_Client_init : Addr
  d_Client_follow : Addr
  d_read_head : Addr
  d_archive_lines : Addr
  d_law_shows : Addr
  d_law_paper : Addr
  d_law_block : Addr
  d_law_reweighted : Addr
  d_law_is_integer : Addr
  d_law_line : Addr
  d_refuse_before_end : Addr
  d_entry_at : Addr
  d_read_archive : Addr
  d_law_lines : Addr
  d_law_due : Addr
  d_law_read : Addr
  d_law_spoilt : Addr
  P_MARKS : Addr
  M_MARKS_p : Addr
  M_MARKS_w : Addr
  M_MARKS_d : Addr
  M_MARKS_k : Addr
  C_BadCommand : Addr
  C_BadPaper : Addr
  C_TribunalError : Addr
  C_BadLine : Addr
  d_BadLine_init : Addr
  C_BadArchive : Addr
  d_BadArchive_init : Addr
  P_KINDS : Addr
structure Txt (K : PySem.W.Frag) (mg : Str → Option Value) (a : Ads) : Prop where
  n_len : mg "len" = none
  n_range : mg "range" = none
  n_isinstance : mg "isinstance" = none
  n_int : mg "int" = none
  n_bool : mg "bool" = none
  n_list : mg "list" = none
  n_tuple : mg "tuple" = none
  n_str : mg "str" = none
  n_zip : mg "zip" = none
  n_enumerate : mg "enumerate" = none
  n_max : mg "max" = none
  n_abs : mg "abs" = none
  n_sum : mg "sum" = none
  n_set : mg "set" = none
  n_sorted : mg "sorted" = none
  n_min : mg "min" = none
  n_super : mg "super" = none
  n_ValueError : mg "ValueError" = none
  n_all : mg "all" = none
  c_SIGNS : ∃ t, mg "SIGNS" = some (.str "0123456789ginasmtcehlujfyo" t)
  c_DIGITS : ∃ t, mg "DIGITS" = some (.str "0123456789" t)
  c_CODE_END : ∃ t, mg "CODE_END" = some (.str "z" t)
  c_MOST_DIGITS_wire : ∃ t, mg "MOST_DIGITS_wire" = some (.int 9 t)
  c_MOST_DIGITS_commands : ∃ t, mg "MOST_DIGITS_commands" = some (.int 6 t)
  c_MOST_SIGNS : ∃ t, mg "MOST_SIGNS" = some (.int 60 t)
  c_LETTERS : ∃ t, mg "LETTERS" = some (.str "abcdefghijklmnopqrstuvwxyz" t)
  c_BLOCK_SIGNS : ∃ t, mg "BLOCK_SIGNS" = some (.str "abcdefghijklmnopqrstuvwxyz0123456789" t)
  c_NONE : ∃ t, mg "NONE" = some (.str "-" t)
  c_HEAD : ∃ t, mg "HEAD" = some (.str "block" t)
  c_KIND : ∃ t, mg "KIND" = some (.int 0 t)
  c_HEIGHT : ∃ t, mg "HEIGHT" = some (.int 1 t)
  c_TURN : ∃ t, mg "TURN" = some (.int 2 t)
  c_BLOCK : ∃ t, mg "BLOCK" = some (.int 3 t)
  c_LEAN : ∃ t, mg "LEAN" = some (.int 4 t)
  c_MOST_MEMBERS : ∃ t, mg "MOST_MEMBERS" = some (.int 16 t)
  c_MOST_WEIGHT : ∃ t, mg "MOST_WEIGHT" = some (.int 1000000000000 t)
  g_Reader : mg "Reader" = some (.ref a.C_Reader)
  cl_Reader : Cls K a.C_Reader
  kc_Reader : PySem.W.keepIn K (.ref a.C_Reader) = true
  mk_Reader : PySem.W.makesIn K a.C_Reader = true
  a_Reader_text : NoAttr K a.C_Reader "text"
  a_Reader_at : NoAttr K a.C_Reader "at"
  g_Committee : mg "Committee" = some (.ref a.C_Committee)
  cl_Committee : Cls K a.C_Committee
  kc_Committee : PySem.W.keepIn K (.ref a.C_Committee) = true
  mk_Committee : PySem.W.makesIn K a.C_Committee = true
  a_Committee_weights : NoAttr K a.C_Committee "weights"
  a_Committee_size : NoAttr K a.C_Committee "size"
  a_Committee_total : NoAttr K a.C_Committee "total"
  g_Ledger : mg "Ledger" = some (.ref a.C_Ledger)
  cl_Ledger : Cls K a.C_Ledger
  kc_Ledger : PySem.W.keepIn K (.ref a.C_Ledger) = true
  mk_Ledger : PySem.W.makesIn K a.C_Ledger = true
  a_Ledger_balances : NoAttr K a.C_Ledger "balances"
  a_Ledger_codes : NoAttr K a.C_Ledger "codes"
  a_Ledger_stores : NoAttr K a.C_Ledger "stores"
  g_Chain : mg "Chain" = some (.ref a.C_Chain)
  cl_Chain : Cls K a.C_Chain
  kc_Chain : PySem.W.keepIn K (.ref a.C_Chain) = true
  mk_Chain : PySem.W.makesIn K a.C_Chain = true
  a_Chain_blocks : NoAttr K a.C_Chain "blocks"
  a_Chain_receipts : NoAttr K a.C_Chain "receipts"
  a_Chain_committees : NoAttr K a.C_Chain "committees"
  a_Chain_ledgers : NoAttr K a.C_Chain "ledgers"
  g_Client : mg "Client" = some (.ref a.C_Client)
  cl_Client : Cls K a.C_Client
  kc_Client : PySem.W.keepIn K (.ref a.C_Client) = true
  mk_Client : PySem.W.makesIn K a.C_Client = true
  a_Client_chain : NoAttr K a.C_Client "chain"
  d_prevote : DefAt K mg "prevote" s_prevote ["height", "turn", "block", "lean"] a.d_prevote
  d_precommit : DefAt K mg "precommit" s_precommit ["height", "turn", "block"] a.d_precommit
  d_is_number : DefAt K mg "is_number" s_is_number ["word"] a.d_is_number
  d_is_block : DefAt K mg "is_block" s_is_block ["word"] a.d_is_block
  d_word_at : DefAt K mg "_word_at" s_word_at ["words", "at"] a.d_word_at
  d_number_at : DefAt K mg "_number_at" s_number_at ["words", "at"] a.d_number_at
  d_kind_at : DefAt K mg "_kind_at" s_kind_at ["words", "at"] a.d_kind_at
  d_block_at : DefAt K mg "_block_at" s_block_at ["words", "at", "kind"] a.d_block_at
  d_lean_at : DefAt K mg "_lean_at" s_lean_at ["words", "at", "turn"] a.d_lean_at
  d_end_at : DefAt K mg "_end_at" s_end_at ["words", "at"] a.d_end_at
  d_read_letter : DefAt K mg "read_letter" s_read_letter ["line"] a.d_read_letter
  d_proposal : DefAt K mg "proposal" s_proposal ["height", "turn", "block"] a.d_proposal
  d_word : DefAt K mg "_word" s_word ["part"] a.d_word
  d_letter_line : DefAt K mg "letter_line" s_letter_line ["letter"] a.d_letter_line
  d_first_wrong : DefAt K mg "_first_wrong" s_first_wrong ["weights"] a.d_first_wrong
  d_Committee_init : MethAt K a.C_Committee "__init__" "Committee.__init__" s_Committee_init ["self", "weights"] a.d_Committee_init
  d_Committee_weight_of : MethAt K a.C_Committee "weight_of" "Committee.weight_of" s_Committee_weight_of ["self", "members"] a.d_Committee_weight_of
  d_Committee_is_quorum : MethAt K a.C_Committee "is_quorum" "Committee.is_quorum" s_Committee_is_quorum ["self", "members"] a.d_Committee_is_quorum
  d_votes_by_turn : DefAt K mg "votes_by_turn" s_votes_by_turn ["letters", "kind", "height", "block"] a.d_votes_by_turn
  d_counts : DefAt K mg "counts" s_counts ["prevote", "turns"] a.d_counts
  d_certified_turns : DefAt K mg "certified_turns" s_certified_turns ["committee", "letters", "height", "block"] a.d_certified_turns
  d_committed_turns : DefAt K mg "committed_turns" s_committed_turns ["committee", "letters", "height", "block"] a.d_committed_turns
  d_shown_turn : DefAt K mg "shown_turn" s_shown_turn ["committee", "height", "block", "letters"] a.d_shown_turn
  d_shows : DefAt K mg "shows" s_shows ["committee", "height", "block", "letters"] a.d_shows
  d_law_cell : DefAt K mg "_law_cell" s_law_cell ["script", "k"] a.d_law_cell
  d_law_row : DefAt K mg "_law_row" s_law_row ["cell", "count", "size"] a.d_law_row
  d_law_weights : DefAt K mg "_law_weights" s_law_weights ["cell", "most"] a.d_law_weights
  d_law_weight : DefAt K mg "_law_weight" s_law_weight ["weights", "members"] a.d_law_weight
  d_law_certified : DefAt K mg "_law_certified" s_law_certified ["weights", "letters", "height", "turn", "block"] a.d_law_certified
  d_law_committed : DefAt K mg "_law_committed" s_law_committed ["weights", "letters", "height", "turn", "block"] a.d_law_committed
  d_Reader_init : MethAt K a.C_Reader "__init__" "Reader.__init__" s_Reader_init ["self", "text"] a.d_Reader_init
  d_Reader_read_signs : MethAt K a.C_Reader "read_signs" "Reader.read_signs" s_Reader_read_signs ["self", "allowed"] a.d_Reader_read_signs
  d_Reader_skip : MethAt K a.C_Reader "skip" "Reader.skip" s_Reader_skip ["self", "mark"] a.d_Reader_skip
  d_Reader_read_number : MethAt K a.C_Reader "read_number" "Reader.read_number" s_Reader_read_number ["self"] a.d_Reader_read_number
  d_Reader_read_code : MethAt K a.C_Reader "read_code" "Reader.read_code" s_Reader_read_code ["self"] a.d_Reader_read_code
  d_Reader_read_command : MethAt K a.C_Reader "read_command" "Reader.read_command" s_Reader_read_command ["self"] a.d_Reader_read_command
  d_commands_of : DefAt K mg "commands_of" s_commands_of ["block"] a.d_commands_of
  d_Ledger_init : MethAt K a.C_Ledger "__init__" "Ledger.__init__" s_Ledger_init ["self", "balances", "codes", "stores"] a.d_Ledger_init
  d_first_ledger : DefAt K mg "first_ledger" s_first_ledger ["grants"] a.d_first_ledger
  d_Chain_init : MethAt K a.C_Chain "__init__" "Chain.__init__" s_Chain_init ["self", "weights", "grants"] a.d_Chain_init
  d_Chain_height : MethAt K a.C_Chain "height" "Chain.height" s_Chain_height ["self"] a.d_Chain_height
  d_Chain_committee : MethAt K a.C_Chain "committee" "Chain.committee" s_Chain_committee ["self"] a.d_Chain_committee
  d_Chain_extend : MethAt K a.C_Chain "extend" "Chain.extend" s_Chain_extend ["self", "block"] a.d_Chain_extend
  d_after_weight : DefAt K mg "_after_weight" s_after_weight ["weights", "command"] a.d_after_weight
  d_Client_init : MethAt K a.C_Client "__init__" "Client.__init__" s_Client_init ["self", "weights", "grants"] a.d_Client_init
  d_Client_follow : MethAt K a.C_Client "follow" "Client.follow" s_Client_follow ["self", "block", "paper"] a.d_Client_follow
  d_read_head : DefAt K mg "_read_head" s_read_head ["line"] a.d_read_head
  d_archive_lines : DefAt K mg "archive_lines" s_archive_lines ["blocks", "papers"] a.d_archive_lines
  d_law_shows : DefAt K mg "_law_shows" s_law_shows ["weights", "letters", "height", "block"] a.d_law_shows
  d_law_paper : DefAt K mg "_law_paper" s_law_paper ["cell", "size", "height", "block"] a.d_law_paper
  d_law_block : DefAt K mg "_law_block" s_law_block ["cell", "height"] a.d_law_block
  d_law_reweighted : DefAt K mg "_law_reweighted" s_law_reweighted ["weights", "block"] a.d_law_reweighted
  d_law_is_integer : DefAt K mg "_law_is_integer" s_law_is_integer ["actual"] a.d_law_is_integer
  d_law_line : DefAt K mg "_law_line" s_law_line ["letter"] a.d_law_line
  d_refuse_before_end : DefAt K mg "_refuse_before_end" s_refuse_before_end ["lines", "at"] a.d_refuse_before_end
  d_entry_at : DefAt K mg "_entry_at" s_entry_at ["lines", "at"] a.d_entry_at
  d_read_archive : DefAt K mg "read_archive" s_read_archive ["weights", "grants", "lines"] a.d_read_archive
  d_law_lines : DefAt K mg "_law_lines" s_law_lines ["entries"] a.d_law_lines
  d_law_due : DefAt K mg "_law_due" s_law_due ["weights", "entries", "heads"] a.d_law_due
  d_law_read : DefAt K mg "_law_read" s_law_read ["weights", "lines", "due", "at"] a.d_law_read
  d_law_spoilt : DefAt K mg "_law_spoilt" s_law_spoilt ["line", "head", "way"] a.d_law_spoilt
theorem Txt.m_Committee {K : PySem.W.Frag} {mg : Str → Option Value} {a : Ads} (T : Txt K mg a) : Mk K a.C_Committee a.d_Committee_init := ⟨T.mk_Committee, T.d_Committee_init.fi, T.d_Committee_init.isf, T.kc_Committee⟩
theorem Txt.me_Committee_weight_of {K : PySem.W.Frag} {mg : Str → Option Value} {a : Ads} (T : Txt K mg a) : Meth K a.C_Committee "weight_of" a.d_Committee_weight_of := ⟨T.d_Committee_weight_of.fi, T.d_Committee_weight_of.isf, T.d_Committee_weight_of.kp⟩
theorem Txt.me_Committee_is_quorum {K : PySem.W.Frag} {mg : Str → Option Value} {a : Ads} (T : Txt K mg a) : Meth K a.C_Committee "is_quorum" a.d_Committee_is_quorum := ⟨T.d_Committee_is_quorum.fi, T.d_Committee_is_quorum.isf, T.d_Committee_is_quorum.kp⟩
theorem Txt.m_Reader {K : PySem.W.Frag} {mg : Str → Option Value} {a : Ads} (T : Txt K mg a) : Mk K a.C_Reader a.d_Reader_init := ⟨T.mk_Reader, T.d_Reader_init.fi, T.d_Reader_init.isf, T.kc_Reader⟩
theorem Txt.me_Reader_read_signs {K : PySem.W.Frag} {mg : Str → Option Value} {a : Ads} (T : Txt K mg a) : Meth K a.C_Reader "read_signs" a.d_Reader_read_signs := ⟨T.d_Reader_read_signs.fi, T.d_Reader_read_signs.isf, T.d_Reader_read_signs.kp⟩
theorem Txt.me_Reader_skip {K : PySem.W.Frag} {mg : Str → Option Value} {a : Ads} (T : Txt K mg a) : Meth K a.C_Reader "skip" a.d_Reader_skip := ⟨T.d_Reader_skip.fi, T.d_Reader_skip.isf, T.d_Reader_skip.kp⟩
theorem Txt.me_Reader_read_number {K : PySem.W.Frag} {mg : Str → Option Value} {a : Ads} (T : Txt K mg a) : Meth K a.C_Reader "read_number" a.d_Reader_read_number := ⟨T.d_Reader_read_number.fi, T.d_Reader_read_number.isf, T.d_Reader_read_number.kp⟩
theorem Txt.me_Reader_read_code {K : PySem.W.Frag} {mg : Str → Option Value} {a : Ads} (T : Txt K mg a) : Meth K a.C_Reader "read_code" a.d_Reader_read_code := ⟨T.d_Reader_read_code.fi, T.d_Reader_read_code.isf, T.d_Reader_read_code.kp⟩
theorem Txt.me_Reader_read_command {K : PySem.W.Frag} {mg : Str → Option Value} {a : Ads} (T : Txt K mg a) : Meth K a.C_Reader "read_command" a.d_Reader_read_command := ⟨T.d_Reader_read_command.fi, T.d_Reader_read_command.isf, T.d_Reader_read_command.kp⟩
theorem Txt.m_Ledger {K : PySem.W.Frag} {mg : Str → Option Value} {a : Ads} (T : Txt K mg a) : Mk K a.C_Ledger a.d_Ledger_init := ⟨T.mk_Ledger, T.d_Ledger_init.fi, T.d_Ledger_init.isf, T.kc_Ledger⟩
theorem Txt.m_Chain {K : PySem.W.Frag} {mg : Str → Option Value} {a : Ads} (T : Txt K mg a) : Mk K a.C_Chain a.d_Chain_init := ⟨T.mk_Chain, T.d_Chain_init.fi, T.d_Chain_init.isf, T.kc_Chain⟩
theorem Txt.me_Chain_height {K : PySem.W.Frag} {mg : Str → Option Value} {a : Ads} (T : Txt K mg a) : Meth K a.C_Chain "height" a.d_Chain_height := ⟨T.d_Chain_height.fi, T.d_Chain_height.isf, T.d_Chain_height.kp⟩
theorem Txt.me_Chain_committee {K : PySem.W.Frag} {mg : Str → Option Value} {a : Ads} (T : Txt K mg a) : Meth K a.C_Chain "committee" a.d_Chain_committee := ⟨T.d_Chain_committee.fi, T.d_Chain_committee.isf, T.d_Chain_committee.kp⟩
theorem Txt.me_Chain_extend {K : PySem.W.Frag} {mg : Str → Option Value} {a : Ads} (T : Txt K mg a) : Meth K a.C_Chain "extend" a.d_Chain_extend := ⟨T.d_Chain_extend.fi, T.d_Chain_extend.isf, T.d_Chain_extend.kp⟩
theorem Txt.m_Client {K : PySem.W.Frag} {mg : Str → Option Value} {a : Ads} (T : Txt K mg a) : Mk K a.C_Client a.d_Client_init := ⟨T.mk_Client, T.d_Client_init.fi, T.d_Client_init.isf, T.kc_Client⟩
theorem Txt.me_Client_follow {K : PySem.W.Frag} {mg : Str → Option Value} {a : Ads} (T : Txt K mg a) : Meth K a.C_Client "follow" a.d_Client_follow := ⟨T.d_Client_follow.fi, T.d_Client_follow.isf, T.d_Client_follow.kp⟩
/-! ### max and min with default=None -/
end Toy
namespace Toy0
open PySem

section
variable {prog : Program} {w : World} {A : Around} {R : Result → Shared → Prop} {I : Addr} {fp wr : List Addr} {n : Nat} {P : Nat → Value → Prop} {St : Nat → Heap → Prop}
/-- the turns of max with keywords, from the place behind j on -/
theorem maxd_run (W : Walks prog w A.in1 I fp wr n P St) (up : Nat → Nat → Bool) (cm : CmpOf prog w A.in1 .Gt P up) (Z : Addr) (nZ : Z ∉ fp) (kw : List (Str × Value)) : ∀ (k j : Nat) (s : Shared) (b0 : Value) (c : Nat), n = j + 1 + k → St (j + 1) s.heap → P (argBest up j) b0 →
    s.heap.get? Z = some { cls := .type "list", dict := none, data := .seq #[b0, b0] c, slots := #[] } → (∀ v h2 t2, P (argBest up (n - 1)) v → (∀ x o, x ∉ wr → x ≠ Z → s.heap.get? x = some o → h2.get? x = some o) → R (.ok (.ret v)) { s with heap := h2, toks := t2 }) →
    codeAny (model prog w) A (.builtin "max.loop" ⟨[.ref I, .none, .ref Z], kw⟩) R s
  | 0, j, s, b0, c, hn, st, hP, hZ, q => by
    have nw : Z ∉ wr := fun z => nZ (W.sub _ z)
    have hin : j + 1 = n := hn.symm
    refine codeAny_builtin PySem.F.entry_max_loop (by
      rw [Around.under_plainId PySem.F.plain_max_loop _]
      show wpAny _ A.in1 (seqItems? (.ref Z) >>= _) _ _ s
      refine wpAny_bind (wpAny_seqItems hZ rfl ?_)
      show wpAny _ A.in1 (tryCatch (pyNext (.ref I)) _ >>= _) _ _ s
      refine wpAny_bind (wpAny_tryCatch (W.done s _ _ (by rw [← hin]; exact st) fun h2 t2 kp => ?_))
      have hZ2 := kp Z _ nw hZ
      show wpAny _ A.in1 (updateSeq Z (fun _ => #[]) >>= _) _ _ _
      refine wpAny_bind (wpAny_updateSeq hZ2 rfl (wpAny_bind (wpAny_letGo (wpAny_pure ?_))))
      exact q b0 _ t2 (by rw [show n - 1 = j by omega]; exact hP) fun x o xw xz e => (Heap.get?_update_other _ _ (fun z => xz z.symm)).trans (kp x o xw e))
  | k + 1, j, s, b0, c, hn, st, hP, hZ, q => by
    have nw : Z ∉ wr := fun z => nZ (W.sub _ z)
    have nm : (toString "max" ++ toString ".loop" : String) = "max.loop" := by decide
    refine codeAny_builtin PySem.F.entry_max_loop (by
      rw [Around.under_plainId PySem.F.plain_max_loop _]
      show wpAny _ A.in1 (seqItems? (.ref Z) >>= _) _ _ s
      refine wpAny_bind (wpAny_seqItems hZ rfl ?_)
      show wpAny _ A.in1 (tryCatch (pyNext (.ref I)) _ >>= _) _ _ s
      refine wpAny_bind (wpAny_tryCatch (W.item (j + 1) s _ _ (by omega) st fun v h2 t2 pv st2 kp => ?_))
      have hZ2 := kp Z _ nw hZ
      show wpAny _ A.in1 (tryCatch (holding [v, v] (richCompare .Gt v b0 >>= _)) _ >>= _) _ _ _
      refine wpAny_bind (wpAny_tryCatch (wpAny_holding (wpAny_bind (cm (j + 1) (argBest up j) v b0 _ _ _ pv hP ?_))))
      refine wpAny_bind (wpAny_holding (wpAny_truthy_bool (wpAny_bind (wpAny_letGo (wpAny_pure ?_)))))
      cases eb : up (j + 1) (argBest up j) with
      | true =>
        simp only [if_true]
        refine wpAny_bind (wpAny_updateSeq hZ2 rfl (wpAny_bind (wpAny_letGo ?_)))
        rw [nm]
        refine wpAny_pure ⟨plainId_quiet PySem.F.plain_max_loop _, maxd_run W up cm Z nZ kw k (j + 1) _ v _ (by omega) (W.frame _ _ _ st2 fun x hx o e => ?_) (by simp only [argBest, eb, if_true]; exact pv) (Heap.get?_update_self _ hZ2 rfl) fun v3 h3 t3 p3 kp3 => ?_⟩
        · exact (Heap.get?_update_other _ _ (fun z : Z = x => nZ (by rw [z]; exact hx))).trans e
        · exact q v3 h3 t3 p3 fun x o xw xz e => kp3 x o xw xz ((Heap.get?_update_other _ _ (fun z => xz z.symm)).trans (kp x o xw e))
      | false =>
        simp only [Bool.false_eq_true, if_false]
        refine wpAny_bind (wpAny_letGo ?_)
        rw [nm]
        refine wpAny_pure ⟨plainId_quiet PySem.F.plain_max_loop _, maxd_run W up cm Z nZ kw k (j + 1) _ b0 c (by omega) st2 (by simp only [argBest, eb, Bool.false_eq_true, if_false]; exact hP) hZ2 fun v3 h3 t3 p3 kp3 => ?_⟩
        exact q v3 h3 t3 p3 fun x o xw xz e => kp3 x o xw xz (kp x o xw e))
/-- its first turn -/
theorem maxd_start (W : Walks prog w A.in1 I fp wr n P St) (up : Nat → Nat → Bool) (cm : CmpOf prog w A.in1 .Gt P up) (Z : Addr) (nZ : Z ∉ fp) (d : Value) {s : Shared} {c : Nat} (st : St 0 s.heap) (hZ : s.heap.get? Z = some { cls := .type "list", dict := none, data := .seq #[] c, slots := #[] })
    (q0 : n = 0 → ∀ h2 t2, (∀ x o, x ∉ wr → x ≠ Z → s.heap.get? x = some o → h2.get? x = some o) → R (.ok (.ret d)) { s with heap := h2, toks := t2 })
    (q : 0 < n → ∀ v h2 t2, P (argBest up (n - 1)) v → (∀ x o, x ∉ wr → x ≠ Z → s.heap.get? x = some o → h2.get? x = some o) → R (.ok (.ret v)) { s with heap := h2, toks := t2 }) :
    codeAny (model prog w) A (.builtin "max.loop" ⟨[.ref I, .none, .ref Z], [(Str.ofString "default", d)]⟩) R s := by
  have nw : Z ∉ wr := fun z => nZ (W.sub _ z)
  have nm : (toString "max" ++ toString ".loop" : String) = "max.loop" := by decide
  refine codeAny_builtin PySem.F.entry_max_loop (by
    rw [Around.under_plainId PySem.F.plain_max_loop _]
    show wpAny _ A.in1 (seqItems? (.ref Z) >>= _) _ _ s
    refine wpAny_bind (wpAny_seqItems hZ rfl ?_)
    show wpAny _ A.in1 (tryCatch (pyNext (.ref I)) _ >>= _) _ _ s
    rcases Nat.eq_zero_or_pos n with n0 | n0
    · refine wpAny_bind (wpAny_tryCatch (W.done s _ _ (by rw [n0]; exact st) fun h2 t2 kp => ?_))
      show wpAny _ A.in1 (rule _ >>= _) _ _ _
      exact wpAny_bind (wpAny_rule (wpAny_pure (q0 n0 h2 t2 fun x o xw _ e => kp x o xw e)))
    · refine wpAny_bind (wpAny_tryCatch (W.item 0 s _ _ n0 st fun v h2 t2 pv st2 kp => ?_))
      have hZ2 := kp Z _ nw hZ
      show wpAny _ A.in1 (updateSeq Z (fun _ => #[v, v]) >>= _) _ _ _
      refine wpAny_bind (wpAny_updateSeq hZ2 rfl ?_)
      rw [nm]
      refine wpAny_pure ⟨plainId_quiet PySem.F.plain_max_loop _, maxd_run W up cm Z nZ _ (n - 1) 0 _ v _ (by omega) (W.frame _ _ _ st2 fun x hx o e => ?_) pv (Heap.get?_update_self _ hZ2 rfl) fun v3 h3 t3 p3 kp3 => ?_⟩
      · exact (Heap.get?_update_other _ _ (fun z : Z = x => nZ (by rw [z]; exact hx))).trans e
      · exact q n0 v3 h3 t3 p3 fun x o xw xz e => kp3 x o xw xz ((Heap.get?_update_other _ _ (fun z => xz z.symm)).trans (kp x o xw e)))
end
section
variable {prog : Program} {w : World} {A : Around} {E : Value → Shared → Prop} {s : Shared} {l : Addr} {xs : Array (Int × Tok)}
theorem maxd_args (a d : Value) : argsOk "max" ⟨[a], [(Str.ofString "default", d)]⟩ := by
  unfold argsOk
  kernel_rfl
theorem maxd_call {d : Value} {Q : Value → Shared → Prop} (hh : A.handled = none) (hl : s.heap.IsList l (intItems xs)) (q0 : xs.size = 0 → ∀ h2 t2, (∀ b o, s.heap.get? b = some o → h2.get? b = some o) → Q d { s with heap := h2, toks := t2 })
    (q : 0 < xs.size → ∀ v h2 t2, (intItems xs)[argBest (fun i j => decide (numAt xs i > numAt xs j)) (xs.size - 1)]? = some v → (∀ b o, s.heap.get? b = some o → h2.get? b = some o) → Q v { s with heap := h2, toks := t2 }) :
    wpAny (model prog w) A (call (.builtin "max") [.ref l] [(Str.ofString "default", d)]) Q E s := by
  have nm : (toString "max" ++ toString ".loop" : String) = "max.loop" := by decide
  refine PyProof.Rows.kmb_tree PySem.F.kind_max PySem.F.plain_max PySem.F.entry_max (maxd_args _ _) ?_
  show wpAny _ A.in1 (Builtin.Builtins.bindParams "max" ["key", "default"] 0 ⟨[], [(Str.ofString "default", d)]⟩ >>= _) _ _ s
  refine wpAny_bind (wpAny_of_eq (show Builtin.Builtins.bindParams "max" ["key", "default"] 0 ⟨[], [(Str.ofString "default", d)]⟩ = pure [none, some d] from rfl) ?_)
  refine wpAny_bind (wpAny_pure (wpAny_bind (iter_intList hl fun s2 e st hfp ne => ?_)))
  subst e
  refine wpAny_bind (wpAny_newObj_type ?_)
  have W := Walks.list (prog := prog) (w := w) (A := A.in1) hh s.heap.objs.size l ne (intItems xs)
  have hsz : (intItems xs).size = xs.size := by simp [intItems]
  rw [nm]
  have nS := fun hm => Nat.lt_irrefl _ (hfp _ hm)
  refine wpAny_pure ⟨plainId_quiet PySem.F.plain_max_loop _, ?_⟩
  refine maxd_start (c := 0) W (fun i j => decide (numAt xs i > numAt xs j)) (CmpOf.ints_gt (numAt xs) (fun _ _ => intItems_at)) _ nS d ?_ ?_ (fun n0 h2 t2 kp => ?_) fun n0 v h2 t2 p kp => ?_
  · exact W.frame _ _ _ st fun b _ o e => Heap.get?_push_of_some _ e
  · exact Heap.get?_push_size _ rfl
  · exact q0 (hsz ▸ n0) h2 t2 (old_kept fun b o nb e => kp b o nb (Nat.ne_of_lt (Heap.lt_size e)) (Heap.get?_push_of_some _ e))
  · rw [hsz] at n0 p
    exact q n0 v h2 t2 p (old_kept fun b o nb e => kp b o nb (Nat.ne_of_lt (Heap.lt_size e)) (Heap.get?_push_of_some _ e))
end

section
variable {prog : Program} {w : World} {A : Around} {R : Result → Shared → Prop} {I : Addr} {fp wr : List Addr} {n : Nat} {P : Nat → Value → Prop} {St : Nat → Heap → Prop}
/-- the turns of min with keywords, from the place behind j on -/
theorem mind_run (W : Walks prog w A.in1 I fp wr n P St) (up : Nat → Nat → Bool) (cm : CmpOf prog w A.in1 .Lt P up) (Z : Addr) (nZ : Z ∉ fp) (kw : List (Str × Value)) : ∀ (k j : Nat) (s : Shared) (b0 : Value) (c : Nat), n = j + 1 + k → St (j + 1) s.heap → P (argBest up j) b0 →
    s.heap.get? Z = some { cls := .type "list", dict := none, data := .seq #[b0, b0] c, slots := #[] } → (∀ v h2 t2, P (argBest up (n - 1)) v → (∀ x o, x ∉ wr → x ≠ Z → s.heap.get? x = some o → h2.get? x = some o) → R (.ok (.ret v)) { s with heap := h2, toks := t2 }) →
    codeAny (model prog w) A (.builtin "min.loop" ⟨[.ref I, .none, .ref Z], kw⟩) R s
  | 0, j, s, b0, c, hn, st, hP, hZ, q => by
    have nw : Z ∉ wr := fun z => nZ (W.sub _ z)
    have hin : j + 1 = n := hn.symm
    refine codeAny_builtin PySem.F.entry_min_loop (by
      rw [Around.under_plainId PySem.F.plain_min_loop _]
      show wpAny _ A.in1 (seqItems? (.ref Z) >>= _) _ _ s
      refine wpAny_bind (wpAny_seqItems hZ rfl ?_)
      show wpAny _ A.in1 (tryCatch (pyNext (.ref I)) _ >>= _) _ _ s
      refine wpAny_bind (wpAny_tryCatch (W.done s _ _ (by rw [← hin]; exact st) fun h2 t2 kp => ?_))
      have hZ2 := kp Z _ nw hZ
      show wpAny _ A.in1 (updateSeq Z (fun _ => #[]) >>= _) _ _ _
      refine wpAny_bind (wpAny_updateSeq hZ2 rfl (wpAny_bind (wpAny_letGo (wpAny_pure ?_))))
      exact q b0 _ t2 (by rw [show n - 1 = j by omega]; exact hP) fun x o xw xz e => (Heap.get?_update_other _ _ (fun z => xz z.symm)).trans (kp x o xw e))
  | k + 1, j, s, b0, c, hn, st, hP, hZ, q => by
    have nw : Z ∉ wr := fun z => nZ (W.sub _ z)
    have nm : (toString "min" ++ toString ".loop" : String) = "min.loop" := by decide
    refine codeAny_builtin PySem.F.entry_min_loop (by
      rw [Around.under_plainId PySem.F.plain_min_loop _]
      show wpAny _ A.in1 (seqItems? (.ref Z) >>= _) _ _ s
      refine wpAny_bind (wpAny_seqItems hZ rfl ?_)
      show wpAny _ A.in1 (tryCatch (pyNext (.ref I)) _ >>= _) _ _ s
      refine wpAny_bind (wpAny_tryCatch (W.item (j + 1) s _ _ (by omega) st fun v h2 t2 pv st2 kp => ?_))
      have hZ2 := kp Z _ nw hZ
      show wpAny _ A.in1 (tryCatch (holding [v, v] (richCompare .Lt v b0 >>= _)) _ >>= _) _ _ _
      refine wpAny_bind (wpAny_tryCatch (wpAny_holding (wpAny_bind (cm (j + 1) (argBest up j) v b0 _ _ _ pv hP ?_))))
      refine wpAny_bind (wpAny_holding (wpAny_truthy_bool (wpAny_bind (wpAny_letGo (wpAny_pure ?_)))))
      cases eb : up (j + 1) (argBest up j) with
      | true =>
        simp only [if_true]
        refine wpAny_bind (wpAny_updateSeq hZ2 rfl (wpAny_bind (wpAny_letGo ?_)))
        rw [nm]
        refine wpAny_pure ⟨plainId_quiet PySem.F.plain_min_loop _, mind_run W up cm Z nZ kw k (j + 1) _ v _ (by omega) (W.frame _ _ _ st2 fun x hx o e => ?_) (by simp only [argBest, eb, if_true]; exact pv) (Heap.get?_update_self _ hZ2 rfl) fun v3 h3 t3 p3 kp3 => ?_⟩
        · exact (Heap.get?_update_other _ _ (fun z : Z = x => nZ (by rw [z]; exact hx))).trans e
        · exact q v3 h3 t3 p3 fun x o xw xz e => kp3 x o xw xz ((Heap.get?_update_other _ _ (fun z => xz z.symm)).trans (kp x o xw e))
      | false =>
        simp only [Bool.false_eq_true, if_false]
        refine wpAny_bind (wpAny_letGo ?_)
        rw [nm]
        refine wpAny_pure ⟨plainId_quiet PySem.F.plain_min_loop _, mind_run W up cm Z nZ kw k (j + 1) _ b0 c (by omega) st2 (by simp only [argBest, eb, Bool.false_eq_true, if_false]; exact hP) hZ2 fun v3 h3 t3 p3 kp3 => ?_⟩
        exact q v3 h3 t3 p3 fun x o xw xz e => kp3 x o xw xz (kp x o xw e))
/-- its first turn -/
theorem mind_start (W : Walks prog w A.in1 I fp wr n P St) (up : Nat → Nat → Bool) (cm : CmpOf prog w A.in1 .Lt P up) (Z : Addr) (nZ : Z ∉ fp) (d : Value) {s : Shared} {c : Nat} (st : St 0 s.heap) (hZ : s.heap.get? Z = some { cls := .type "list", dict := none, data := .seq #[] c, slots := #[] })
    (q0 : n = 0 → ∀ h2 t2, (∀ x o, x ∉ wr → x ≠ Z → s.heap.get? x = some o → h2.get? x = some o) → R (.ok (.ret d)) { s with heap := h2, toks := t2 })
    (q : 0 < n → ∀ v h2 t2, P (argBest up (n - 1)) v → (∀ x o, x ∉ wr → x ≠ Z → s.heap.get? x = some o → h2.get? x = some o) → R (.ok (.ret v)) { s with heap := h2, toks := t2 }) :
    codeAny (model prog w) A (.builtin "min.loop" ⟨[.ref I, .none, .ref Z], [(Str.ofString "default", d)]⟩) R s := by
  have nw : Z ∉ wr := fun z => nZ (W.sub _ z)
  have nm : (toString "min" ++ toString ".loop" : String) = "min.loop" := by decide
  refine codeAny_builtin PySem.F.entry_min_loop (by
    rw [Around.under_plainId PySem.F.plain_min_loop _]
    show wpAny _ A.in1 (seqItems? (.ref Z) >>= _) _ _ s
    refine wpAny_bind (wpAny_seqItems hZ rfl ?_)
    show wpAny _ A.in1 (tryCatch (pyNext (.ref I)) _ >>= _) _ _ s
    rcases Nat.eq_zero_or_pos n with n0 | n0
    · refine wpAny_bind (wpAny_tryCatch (W.done s _ _ (by rw [n0]; exact st) fun h2 t2 kp => ?_))
      show wpAny _ A.in1 (rule _ >>= _) _ _ _
      exact wpAny_bind (wpAny_rule (wpAny_pure (q0 n0 h2 t2 fun x o xw _ e => kp x o xw e)))
    · refine wpAny_bind (wpAny_tryCatch (W.item 0 s _ _ n0 st fun v h2 t2 pv st2 kp => ?_))
      have hZ2 := kp Z _ nw hZ
      show wpAny _ A.in1 (updateSeq Z (fun _ => #[v, v]) >>= _) _ _ _
      refine wpAny_bind (wpAny_updateSeq hZ2 rfl ?_)
      rw [nm]
      refine wpAny_pure ⟨plainId_quiet PySem.F.plain_min_loop _, mind_run W up cm Z nZ _ (n - 1) 0 _ v _ (by omega) (W.frame _ _ _ st2 fun x hx o e => ?_) pv (Heap.get?_update_self _ hZ2 rfl) fun v3 h3 t3 p3 kp3 => ?_⟩
      · exact (Heap.get?_update_other _ _ (fun z : Z = x => nZ (by rw [z]; exact hx))).trans e
      · exact q n0 v3 h3 t3 p3 fun x o xw xz e => kp3 x o xw xz ((Heap.get?_update_other _ _ (fun z => xz z.symm)).trans (kp x o xw e)))
end
section
variable {prog : Program} {w : World} {A : Around} {E : Value → Shared → Prop} {s : Shared} {l : Addr} {xs : Array (Int × Tok)}
theorem mind_args (a d : Value) : argsOk "min" ⟨[a], [(Str.ofString "default", d)]⟩ := by
  unfold argsOk
  kernel_rfl
theorem mind_call {d : Value} {Q : Value → Shared → Prop} (hh : A.handled = none) (hl : s.heap.IsList l (intItems xs)) (q0 : xs.size = 0 → ∀ h2 t2, (∀ b o, s.heap.get? b = some o → h2.get? b = some o) → Q d { s with heap := h2, toks := t2 })
    (q : 0 < xs.size → ∀ v h2 t2, (intItems xs)[argBest (fun i j => decide (numAt xs i < numAt xs j)) (xs.size - 1)]? = some v → (∀ b o, s.heap.get? b = some o → h2.get? b = some o) → Q v { s with heap := h2, toks := t2 }) :
    wpAny (model prog w) A (call (.builtin "min") [.ref l] [(Str.ofString "default", d)]) Q E s := by
  have nm : (toString "min" ++ toString ".loop" : String) = "min.loop" := by decide
  refine PyProof.Rows.kmb_tree PySem.F.kind_min PySem.F.plain_min PySem.F.entry_min (mind_args _ _) ?_
  show wpAny _ A.in1 (Builtin.Builtins.bindParams "min" ["key", "default"] 0 ⟨[], [(Str.ofString "default", d)]⟩ >>= _) _ _ s
  refine wpAny_bind (wpAny_of_eq (show Builtin.Builtins.bindParams "min" ["key", "default"] 0 ⟨[], [(Str.ofString "default", d)]⟩ = pure [none, some d] from rfl) ?_)
  refine wpAny_bind (wpAny_pure (wpAny_bind (iter_intList hl fun s2 e st hfp ne => ?_)))
  subst e
  refine wpAny_bind (wpAny_newObj_type ?_)
  have W := Walks.list (prog := prog) (w := w) (A := A.in1) hh s.heap.objs.size l ne (intItems xs)
  have hsz : (intItems xs).size = xs.size := by simp [intItems]
  rw [nm]
  have nS := fun hm => Nat.lt_irrefl _ (hfp _ hm)
  refine wpAny_pure ⟨plainId_quiet PySem.F.plain_min_loop _, ?_⟩
  refine mind_start (c := 0) W (fun i j => decide (numAt xs i < numAt xs j)) (CmpOf.ints_lt (numAt xs) (fun _ _ => intItems_at)) _ nS d ?_ ?_ (fun n0 h2 t2 kp => ?_) fun n0 v h2 t2 p kp => ?_
  · exact W.frame _ _ _ st fun b _ o e => Heap.get?_push_of_some _ e
  · exact Heap.get?_push_size _ rfl
  · exact q0 (hsz ▸ n0) h2 t2 (old_kept fun b o nb e => kp b o nb (Nat.ne_of_lt (Heap.lt_size e)) (Heap.get?_push_of_some _ e))
  · rw [hsz] at n0 p
    exact q n0 v h2 t2 p (old_kept fun b o nb e => kp b o nb (Nat.ne_of_lt (Heap.lt_size e)) (Heap.get?_push_of_some _ e))
end
end Toy0
namespace Toy
open PySem L2
section
open PyProof.Rows

/-- max(xs, default=d) of a list of ints -/
def rmaxd (K : PySem.W.Frag) : List V → List V → Hp → VK → Prop := fun vs zs H Q => ∃ (a : Addr) (ns : List Int) (d : V), vs = [V.ref a] ∧ zs = [d] ∧ SqL K H a (ns.map V.int) ∧ (ns = [] → Q d H) ∧ ∀ m, m ∈ ns → (∀ y, y ∈ ns → y ≤ m) → Q (.int m) H
theorem cr_maxd {X : Cx} (hc : X.calm = true) : CallRK X (.builtin "max") [Str.ofString "default"] (rmaxd X.K) := by
  intro pins s σ H vs zs us wz Q I r rz h
  obtain ⟨a, ns, d, rfl, rfl, hs, q0, q⟩ := h
  obtain ⟨its, rv, hl, _⟩ := I.list hs
  obtain rfl := Vals.ref1 r
  obtain ⟨w1, rfl, e1⟩ := vals1 rz
  obtain ⟨xs, e⟩ := rv.ints.allInts.items
  have hn : numsOf (intItems xs).toList = ns := by rw [← e]; exact rv.ints.numsOf
  rw [nums_intItems] at hn
  have hl2 := hl.isList
  rw [e] at hl2
  have hlen : ns.length = xs.size := by rw [← hn, List.length_map, Array.length_toList]
  refine Toy0.maxd_call (I.ok.hd hc) hl2 (fun n0 h2 t2 kp => ?_) fun n0 v h2 t2 hv kp => ?_
  · exact ⟨d, H, I.kept kp, e1, q0 (List.eq_nil_of_length_eq_zero (by omega))⟩
  · obtain ⟨t, rfl⟩ := intItems_at hv
    obtain ⟨h1, h3⟩ := argBest_gt (numAt xs) (xs.size - 1)
    refine ⟨.int _, H, I.kept kp, ⟨_, rfl⟩, q _ ?_ fun y hy => ?_⟩
    · rw [← hn, numAt_eq]
      exact PySem.getD_mem (by rw [List.length_map, Array.length_toList]; omega)
    · rw [← hn] at hy
      obtain ⟨j, hj, rfl⟩ := mem_getD hy
      rw [List.length_map, Array.length_toList] at hj
      have := h3 j (by omega)
      rwa [← numAt_eq]

/-- min(xs, default=d) of a list of ints -/
def rmind (K : PySem.W.Frag) : List V → List V → Hp → VK → Prop := fun vs zs H Q => ∃ (a : Addr) (ns : List Int) (d : V), vs = [V.ref a] ∧ zs = [d] ∧ SqL K H a (ns.map V.int) ∧ (ns = [] → Q d H) ∧ ∀ m, m ∈ ns → (∀ y, y ∈ ns → m ≤ y) → Q (.int m) H
theorem cr_mind {X : Cx} (hc : X.calm = true) : CallRK X (.builtin "min") [Str.ofString "default"] (rmind X.K) := by
  intro pins s σ H vs zs us wz Q I r rz h
  obtain ⟨a, ns, d, rfl, rfl, hs, q0, q⟩ := h
  obtain ⟨its, rv, hl, _⟩ := I.list hs
  obtain rfl := Vals.ref1 r
  obtain ⟨w1, rfl, e1⟩ := vals1 rz
  obtain ⟨xs, e⟩ := rv.ints.allInts.items
  have hn : numsOf (intItems xs).toList = ns := by rw [← e]; exact rv.ints.numsOf
  rw [nums_intItems] at hn
  have hl2 := hl.isList
  rw [e] at hl2
  have hlen : ns.length = xs.size := by rw [← hn, List.length_map, Array.length_toList]
  refine Toy0.mind_call (I.ok.hd hc) hl2 (fun n0 h2 t2 kp => ?_) fun n0 v h2 t2 hv kp => ?_
  · exact ⟨d, H, I.kept kp, e1, q0 (List.eq_nil_of_length_eq_zero (by omega))⟩
  · obtain ⟨t, rfl⟩ := intItems_at hv
    obtain ⟨h1, h3⟩ := argBest_lt (numAt xs) (xs.size - 1)
    refine ⟨.int _, H, I.kept kp, ⟨_, rfl⟩, q _ ?_ fun y hy => ?_⟩
    · rw [← hn, numAt_eq]
      exact PySem.getD_mem (by rw [List.length_map, Array.length_toList]; omega)
    · rw [← hn] at hy
      obtain ⟨j, hj, rfl⟩ := mem_getD hy
      rw [List.length_map, Array.length_toList] at hj
      have := h3 j (by omega)
      rwa [← numAt_eq]
end

section
open PyProof.Rows
/-! ### own rules: set(list of ints), k in that set; enumerate(a tuple) -/
theorem any_firstMet (zs : List Int) (k : Int) : (PyProof.Rows.firstMet (fun i => zs.getD i 0) zs.length).any (· == k) = decide (k ∈ zs) := by
  rw [PyProof.Rows.firstMet_any, Bool.eq_iff_iff, List.any_eq_true, decide_eq_true_iff]
  constructor
  · rintro ⟨y, hy, e⟩
    obtain ⟨i, hi, rfl⟩ := List.mem_map.mp hy
    have hi' : i < zs.length := List.mem_range.mp hi
    have e' : zs.getD i 0 = k := by simpa using e
    rw [← e', List.getD_eq_getElem?_getD, List.getElem?_eq_getElem hi']
    exact List.getElem_mem hi'
  · intro hk
    obtain ⟨i, hi, e⟩ := List.getElem_of_mem hk
    refine ⟨k, List.mem_map.mpr ⟨i, List.mem_range.mpr hi, ?_⟩, by simp⟩
    show zs.getD i 0 = k
    rw [List.getD_eq_getElem?_getD, List.getElem?_eq_getElem hi]
    exact e
/-- set(xs), xs a list of ints -/
def rSetOfL (K : PySem.W.Frag) : List V → Hp → VK → Prop := fun vs H Q => ∃ (l : Addr) (zs : List Int), vs = [V.ref l] ∧ SqL K H l (zs.map V.int) ∧ zs.length ≤ 1000 ∧
  ∀ (p : Addr) (n : Nat), H p = Option.none → Q (.ref p) (upd H p (.set (fun k => decide (k ∈ zs)) n))
theorem cr_set {X : Cx} (calm : X.calm = true) : CallR X (.type "set") (rSetOfL X.K) := by
  intro pins sh σ H vs us Q I rel hyp
  obtain ⟨l, zs, rfl, hl, few, q⟩ := hyp
  rw [Vals.ref1 rel]
  obtain ⟨its, rv, pl, _⟩ := I.list hl
  have isI := ints_of_vals rv
  have same : its.toArray.size = zs.length := by
    have e := rv.length
    rw [List.length_map] at e
    rw [List.size_toArray]
    exact e.symm
  refine PySem.call_set_list (items := its.toArray) (ns := zs) (I.ok.hd calm) pl.isList (by simpa using isI) (by rw [same]; unfold scanBound; omega) fun h' tk S kp => ?_
  have fresh : H sh.heap.objs.size = Option.none := I.hok.fresh (Nat.le_refl _)
  have e : (fun k => (PyProof.Rows.firstMet (fun i => zs.getD i 0) its.toArray.size).any (· == k)) = fun k => decide (k ∈ zs) := by
    funext k
    rw [same]
    exact any_firstMet zs k
  rw [e] at S
  exact ⟨.ref sh.heap.objs.size, upd H sh.heap.objs.size (.set (fun k => decide (k ∈ zs)) _), I.laid (t' := tk) (fun b o ho => kp b o (Heap.lt_size ho) ho) (Nat.le_refl _) S, rfl, q _ _ fresh⟩
/-- k in such a set -/
def rInSt (neg : Bool) : R2 := fun x y H Q => ∃ (k : Int) (b : Addr) (S : Int → Bool) (n : Nat), x = V.int k ∧ y = V.ref b ∧ H b = some (.set S n) ∧ Q (.bl (if neg then !S k else S k)) H
theorem op_in_set {X : Cx} : OpR X (compareOp .In) (rInSt false) := by
  intro pins sh σ H x y v u Q I r1 r2 hyp
  obtain ⟨k, b, S, n, rfl, rfl, hb, q⟩ := hyp
  obtain ⟨tk, rfl⟩ := r1
  cases r2
  have hS : sh.heap.SetOf (intKind X.prog X.w) b S n := I.hok b _ hb
  exact PySem.wpAny_inSet_of (PySem.intKind_is _ _ _ _) rfl hS ⟨.bl (S k), H, I.tok _, rfl, q⟩
/-- the pairs of enumerate over the tuple at a -/
def Itu (K : PySem.W.Frag) (a : Addr) : It where
  go i H := ∃ (ys : List V) (y : V), SqT K H a ys ∧ ys[i]? = some y
  yld i H v H' := ∃ (p : Addr) (y : V), v = .ref p ∧ H p = Option.none ∧ H' = upd H p (.tup [.int (i : Nat), y]) ∧ ∀ ys, SqT K H a ys → ys[i]? = some y
  stop i H := ∃ ys : List V, SqT K H a ys ∧ ys.length = i
theorem turn_enumT {P : Program} {w : World} {K : PySem.W.Frag} {elts : List Expr} {kk : Nat} {tpos : Pos} (a en it : Addr) (na : a ≠ it) (ne : en ≠ it) (nea : en ≠ a) :
    Turn P w K (.Tuple elts kk tpos) (Itu K a) [en, it] en (fun i h => (∃ old, IsEnum h en it ((i : Nat) : Int) old) ∧ h.IsTupleIter it a i) where
  mem := List.mem_cons_self
  obj := by
    rintro i h ⟨⟨old, he⟩, ⟨o, ho, hc, hd⟩⟩ b hb
    rcases List.mem_cons.mp hb with rfl | hb
    · exact ⟨_, he, fun v z => nomatch z⟩
    · rw [List.mem_singleton.mp hb]
      exact ⟨o, ho, fun v z => by rw [hd] at z; cases z⟩
  keep := by
    rintro i h h' ⟨⟨old, he⟩, hi⟩ kp
    exact ⟨⟨old, kp en List.mem_cons_self _ he⟩, hi.at fun o z => kp it (List.mem_cons_of_mem _ List.mem_cons_self) o z⟩
  item := by
    intro X hP hw hK calm i pins sh σ H E I fp st hg
    subst hP hw hK
    obtain ⟨⟨old, he⟩, hit⟩ := st
    obtain ⟨ys, y, hy, hix⟩ := hg
    obtain ⟨its, rv, tp, _⟩ := I.tuple hy
    obtain ⟨u, hu, ru⟩ := rv.get hix
    have hT : sh.heap.IsTuple a its.toArray := tp
    have hlen : i < its.toArray.size := by
      rw [List.size_toArray]
      exact (List.getElem?_eq_some_iff.mp hu).1
    have len : en < sh.heap.objs.size := Heap.lt_size he
    have lit : it < sh.heap.objs.size := by
      obtain ⟨_, z, _⟩ := hit
      exact Heap.lt_size z
    refine wpAny_pyNext_enum_itemD (Draws.tuple (by simp [I.ok.hd calm]) it a na its.toArray) he ⟨hit, hT⟩ hlen ne (by simp [ne, nea]) fun x h' tk hx ho hst hnew hsz kp => ?_
    have ex : x = u := by
      rw [List.getElem?_toArray, hu] at hx
      exact (Option.some.inj hx).symm
    subst ex
    refine ⟨_, rfl, wpAny_letOwnedTupleGo_enum (s := { sh with heap := h', toks := tk + 1 }) ho fun h2 he2 sb => ?_⟩
    have new2 : h2.get? sh.heap.objs.size = some { cls := .type "tuple", data := .seq #[.int i tk, x] } := (sb.2 _ (Nat.ne_of_gt len)).trans hnew
    have okN : ObjOk X.prog X.w (upd H sh.heap.objs.size (.tup [.int (i : Nat), y])) h2 sh.heap.objs.size (.tup [.int (i : Nat), y]) := by
      refine ⟨(by show 2 ≤ sizeLine; decide), [.int i tk, x], .cons ⟨_, rfl⟩ (.cons ru .nil), ?_⟩
      exact ⟨_, new2, rfl, _, rfl⟩
    have I2 : Inv X pins σ (upd H sh.heap.objs.size (.tup [.int (i : Nat), y])) { sh with heap := h2, toks := tk + 1 } := by
      refine I.turnedNew (ch := [en, it]) (fun b ob hb z => ?_) fp (Nat.le_refl _) okN
      have b1 : b ≠ en := fun q => hb (by rw [q]; exact List.mem_cons_self)
      have b2 : b ≠ it := fun q => hb (by rw [q]; exact List.mem_cons_of_mem _ List.mem_cons_self)
      exact (sb.2 b b1).trans (kp b ob b1 b2 z)
    refine ⟨.ref sh.heap.objs.size, _, I2, rfl, ⟨_, y, rfl, I.hok.fresh (Nat.le_refl _), rfl, fun zs hz => ?_⟩, ⟨⟨x, ?_⟩, hst.1.at fun o z => (sb.2 it (Ne.symm ne)).trans z⟩, fun b hb => ?_⟩
    · rw [I.tuple_inj hz hy]
      exact hix
    · have e1 : ((i + 1 : Nat) : Int) = (i : Int) + 1 := by omega
      rw [e1]
      exact he2
    · have lb : b < sh.heap.objs.size := by
        rcases List.mem_cons.mp hb with rfl | hb
        · exact len
        · rw [List.mem_singleton.mp hb]
          exact lit
      rw [upd_ne (Nat.ne_of_lt lb)]
      exact (fp b hb).1
  done := by
    intro X hP hw hK calm i pins sh σ H E I fp st hg
    subst hP hw hK
    obtain ⟨⟨old, he⟩, hit⟩ := st
    obtain ⟨ys, hy, rfl⟩ := hg
    obtain ⟨its, rv, tp, _⟩ := I.tuple hy
    have hT : sh.heap.IsTuple a its.toArray := tp
    have e : ys.length = its.toArray.size := by
      rw [List.size_toArray]
      exact rv.length
    rw [e] at hit
    obtain ⟨g0, g1, g2, g3, g4, g5⟩ := fp it (List.mem_cons_of_mem _ List.mem_cons_self)
    exact wpAny_pyNext_enum_endD (Draws.tuple (by simp [I.ok.hd calm]) it a na its.toArray) he ⟨hit, hT⟩ fun h' eb => ⟨rfl, I.turned (t' := sh.toks) (fun b o hb z => eb b o hb z) g0 g1 g3 g4 g5⟩
  self := by
    rintro A i s Q E ⟨⟨_, he⟩, _⟩ h
    exact wpAny_pyIter_enum he h
theorem meets_enum1 {v : Value} {o : Obj} {Z : Heap → Prop} (B : Begins v o Z) :
    Meets (Builtin.«enumerate.__new__» ⟨[.type "enumerate", v], []⟩) (fun _ R s => Z s.heap ∧
      R (.ok (.ret (.ref (s.heap.push o).objs.size))) { s with heap := (s.heap.push o).push { cls := .type "enumerate", data := .fields #[.none, .bool false, .ref s.heap.objs.size, rawInt 0, .none, .none] } }) :=
  .of_wp fun prog w A R s hyp => by
    obtain ⟨hp, g, d, tk, os⟩ := s
    obtain ⟨hz, hyp⟩ := hyp
    have sube := sub_enumerate
    have step : ∀ {A' : Around} {E' : Value → Shared → Prop} {Q' : Value → Shared → Prop}, Q' (.ref hp.objs.size) ⟨hp.push o, g, d, tk, os⟩ → wpAny (model prog w) A' (pyIter v) Q' E' ⟨hp, g, d, tk, os⟩ :=
      fun z => B.iter prog w _ _ ⟨hp, g, d, tk, os⟩ _ hz z
    wp_walk using step
    refine wpAny_stack_any fun st => wpAny_pure ?_
    split
    · rename_i c _ _ _ _ _
      cases (c == Value.type "enumerate") <;> (wp_walk using step; exact ⟨_, rfl, hyp⟩)
    · wp_walk using step
      exact ⟨_, rfl, hyp⟩
theorem call_enum1 {prog : Program} {w : World} {A : Around} {E : Value → Shared → Prop} {s : Shared} {v : Value} {o : Obj} {Z : Heap → Prop} {Q : Value → Shared → Prop} (B : Begins v o Z) (hz : Z s.heap)
    (fin : ∀ h', IsEnum h' (s.heap.objs.size + 1) s.heap.objs.size 0 .none → h'.get? s.heap.objs.size = some o → (∀ b u, s.heap.get? b = some u → h'.get? b = some u) → Q (.ref (s.heap.objs.size + 1)) { s with heap := h' }) :
    wpAny (model prog w) A (call (.type "enumerate") [v]) Q E s := by
  have size1 : (s.heap.push o).objs.size = s.heap.objs.size + 1 := Heap.size_push ..
  refine callType_new F.called_enumerate (by decide) (F.typeCall_enumerate_1 _) (F.newCall_enumerate_1 _) (fun obj => F.args_object_init_2 obj _) F.entry_enumerate_new (meets_enum1 B) ⟨hz, ?_⟩
  rw [size1]
  have isE : IsEnum ((s.heap.push o).push { cls := .type "enumerate", data := .fields #[.none, .bool false, .ref s.heap.objs.size, rawInt 0, .none, .none] }) (s.heap.objs.size + 1) s.heap.objs.size 0 .none := by
    have z := Heap.get?_push_size (s.heap.push o) (o := { cls := .type "enumerate", data := .fields #[.none, .bool false, .ref s.heap.objs.size, rawInt 0, .none, .none] }) rfl
    rwa [size1] at z
  exact ⟨⟨_, isE, rfl⟩, fin _ isE (Heap.get?_push_of_some _ (Heap.get?_push_size _ B.free)) fun b u z => Heap.get?_push_of_some _ (Heap.get?_push_of_some _ z)⟩
def iEnumT (K : PySem.W.Frag) (ta : TA) : TI := fun σ H R => ta σ H fun vs H1 => ∃ (a : Addr) (ys : List V), vs = [.ref a] ∧ SqT K H1 a ys ∧ R (Itu K a) H1
theorem pi_enumT {X : Cx} {e : Expr} {ta : TA} {p pos tpos : Pos} {elts : List Expr} {kk : Nat} (gl : Gl X "enumerate") (no : X.mg "enumerate" = none) (pa : PA X [e] ta) (plain : starEach [e] X.env = [(false, eval e X.env)] := by rfl) :
    PI X (.Tuple elts kk tpos) (.Call (.Name "enumerate" p) [e] [] pos) (iEnumT X.K ta) := by
  constructor
  intro pins s σ H R I hyp
  refine PyProof.Rows.Call_ (ld_blt I gl no boot_enumerate (PyProof.Rows.callWith_type1 (thn (pa.run pos pins s σ H _ I hyp) fun us s1 got => ?_) plain rfl))
  obtain ⟨vs, H1, I1, rel, a, ys, rfl, hy, q⟩ := got
  rw [Vals.ref1 rel]
  obtain ⟨its, rv, tp, _⟩ := I1.tuple hy
  have hT : s1.heap.IsTuple a its.toArray := tp
  have la : a < s1.heap.objs.size := by
    obtain ⟨_, z, _⟩ := hT
    exact Heap.lt_size z
  refine call_enum1 (begins_tuple a its.toArray) hT fun h' isE hit kp => wpAny_pyIter_enum isE ?_
  have I2 : Inv X pins σ H1 { s1 with heap := h' } := I1.kept (t' := s1.toks) kp
  refine ⟨s1.heap.objs.size + 1, [s1.heap.objs.size + 1, s1.heap.objs.size], _, _, H1, rfl, I2, turn_enumT a (s1.heap.objs.size + 1) s1.heap.objs.size (Nat.ne_of_lt la) (Nat.succ_ne_self _) (Nat.ne_of_gt (Nat.lt_succ_of_lt la)), ⟨⟨.none, isE⟩, _, hit, rfl, rfl⟩, fun b hb => ?_, q⟩
  have le : s1.heap.objs.size ≤ b := by
    rcases List.mem_cons.mp hb with rfl | hb
    · exact Nat.le_succ _
    · rw [List.mem_singleton.mp hb]
      exact Nat.le_refl _
  exact I1.fpOk le (I1.hok.fresh le)
/-- the forms that one uses: a word by the turn -/
theorem for_enumT {K : PySem.W.Frag} {a : Addr} {ys : List V} {g : TG} {tb : TS} {D : Ends} {σ : L2.St} {H : Hp} (Pv : Nat → L2.St → Hp → Prop) (h0 : Pv 0 σ H) (src : ∀ i σ H, i ≤ ys.length → Pv i σ H → SqT K H a ys)
    (turn : ∀ i y σ H p, ys[i]? = some y → Pv i σ H → H p = Option.none → g (.ref p) σ (upd H p (.tup [.int (i : Nat), y])) fun σ2 H2 => tb { D with nx := Pv (i + 1), ct := Pv (i + 1), bk := D.nx } σ2 H2) (fin : ∀ σ H, Pv ys.length σ H → D.nx σ H) :
    ∃ W : Nat → Nat → L2.St → Hp → Prop, (∃ m, W 0 m σ H) ∧ ∀ i m σ H, W i m σ H →
      ((Itu K a).stop i H ∧ D.nx σ H) ∨ ((Itu K a).go i H ∧ ∃ N : L2.St → Hp → Prop, (∀ σ' H', N σ' H' → ∃ m', m' < m ∧ W (i + 1) m' σ' H') ∧ ∀ x H', (Itu K a).yld i H x H' → g x σ H' fun σ2 H2 => tb { D with nx := N, ct := N, bk := D.nx } σ2 H2) := by
  refine ⟨fun i m σ H => m + i = ys.length ∧ Pv i σ H, ⟨ys.length, Nat.add_zero _, h0⟩, ?_⟩
  rintro i m σ H ⟨em, pv⟩
  have s := src i σ H (by omega) pv
  rcases Nat.lt_or_ge i ys.length with lt | ge
  · refine .inr ⟨⟨ys, ys[i], s, List.getElem?_eq_getElem lt⟩, Pv (i + 1), fun σ' H' z => ⟨m - 1, by omega, by omega, z⟩, ?_⟩
    rintro x H' ⟨p, y, rfl, hp, rfl, hy⟩
    exact turn i y σ H p (hy ys s) pv hp
  · have e : i = ys.length := by omega
    subst e
    exact .inl ⟨⟨ys, s, rfl⟩, fin σ H pv⟩
theorem lc_enumT {K : PySem.W.Frag} {a : Addr} {ys : List V} {g : TG} {tt : TT} {te : TE} {vs : List Nat} {σ : L2.St} {H1 : Hp} {D : Addr} {Qd : Hp → Prop} (Pv : Nat → Hp → Prop) (h0 : Pv 0 (upd H1 D (.lst []))) (src : ∀ i H, i ≤ ys.length → Pv i H → SqT K H a ys)
    (turn : ∀ i y H p, ys[i]? = some y → Pv i H → H p = Option.none → g (.ref p) (wipe σ vs) (upd H p (.tup [.int (i : Nat), y])) fun σ2 H2 => wipe σ2 vs = wipe σ vs ∧ tt σ2 H2 fun b H3 =>
      if b = true then te σ2 H3 fun y H4 => ∃ acc, H4 D = some (.lst acc) ∧ acc.length < sizeLine ∧ Pv (i + 1) (upd H4 D (.lst (acc ++ [y]))) else Pv (i + 1) H3) (fin : ∀ H, Pv ys.length H → Qd H) :
    ∃ W : Nat → Nat → Hp → Prop, (∃ m, W 0 m (upd H1 D (.lst []))) ∧ ∀ i m H, W i m H →
      ((Itu K a).stop i H ∧ Qd H) ∨ ((Itu K a).go i H ∧ ∃ Nx : Hp → Prop, (∀ H', Nx H' → ∃ m', m' < m ∧ W (i + 1) m' H') ∧ ∀ x H', (Itu K a).yld i H x H' → g x (wipe σ vs) H' fun σ2 H2 => wipe σ2 vs = wipe σ vs ∧ tt σ2 H2 fun b H3 =>
        if b = true then te σ2 H3 fun y H4 => ∃ acc, H4 D = some (.lst acc) ∧ acc.length < sizeLine ∧ Nx (upd H4 D (.lst (acc ++ [y]))) else Nx H3) := by
  refine ⟨fun i m H => m + i = ys.length ∧ Pv i H, ⟨ys.length, Nat.add_zero _, h0⟩, ?_⟩
  rintro i m H ⟨em, pv⟩
  have s := src i H (by omega) pv
  rcases Nat.lt_or_ge i ys.length with lt | ge
  · refine .inr ⟨⟨ys, ys[i], s, List.getElem?_eq_getElem lt⟩, Pv (i + 1), fun H' z => ⟨m - 1, by omega, by omega, z⟩, ?_⟩
    rintro x H' ⟨p, y, rfl, hp, rfl, hy⟩
    exact turn i y H p (hy ys s) pv hp
  · have e : i = ys.length := by omega
    subst e
    exact .inl ⟨⟨ys, s, rfl⟩, fin H pv⟩
/-- sum(t), t a tuple of ints -/
def rSumT (K : PySem.W.Frag) : List V → Hp → VK → Prop := fun vs H Q => ∃ (a : Addr) (zs : List Int), vs = [V.ref a] ∧ SqT K H a (zs.map V.int) ∧ Q (.int zs.sum) H
theorem cr_sumT {X : Cx} (calm : X.calm = true) : CallR X (.builtin "sum") (rSumT X.K) := by
  intro pins sh σ H vs us Q I rel hyp
  obtain ⟨a, zs, rfl, hz, q⟩ := hyp
  rw [Vals.ref1 rel]
  obtain ⟨its, rv, tp, _⟩ := I.tuple hz
  have hT : sh.heap.IsTuple a its.toArray := tp
  have isI : IntsAre its zs := Vals.ints rv
  obtain ⟨xs, ex⟩ := isI.allInts.items
  have en : numsOf (intItems xs).toList = zs := by
    rw [← ex]
    exact isI.numsOf
  rw [nums_intItems] at en
  rw [ex] at hT
  refine PySem.W.ktm_sumG (I.ok.hd calm) hT fun h' tk t' kp => ?_
  rw [preSum_eq, List.take_of_length_le (by simp), en]
  exact ⟨.int zs.sum, H, I.kept kp, ⟨_, rfl⟩, q⟩
/-- enumerate over a list, by a word -/
theorem for_enumL {K : PySem.W.Frag} {a : Addr} {ys : List V} {g : TG} {tb : TS} {D : Ends} {σ : L2.St} {H : Hp} (Pv : Nat → L2.St → Hp → Prop) (h0 : Pv 0 σ H) (src : ∀ i σ H, i ≤ ys.length → Pv i σ H → SqL K H a ys)
    (turn : ∀ i y σ H p, ys[i]? = some y → Pv i σ H → H p = Option.none → g (.ref p) σ (upd H p (.tup [.int (i : Nat), y])) fun σ2 H2 => tb { D with nx := Pv (i + 1), ct := Pv (i + 1), bk := D.nx } σ2 H2) (fin : ∀ σ H, Pv ys.length σ H → D.nx σ H) :
    ∃ W : Nat → Nat → L2.St → Hp → Prop, (∃ m, W 0 m σ H) ∧ ∀ i m σ H, W i m σ H →
      ((Ite K a).stop i H ∧ D.nx σ H) ∨ ((Ite K a).go i H ∧ ∃ N : L2.St → Hp → Prop, (∀ σ' H', N σ' H' → ∃ m', m' < m ∧ W (i + 1) m' σ' H') ∧ ∀ x H', (Ite K a).yld i H x H' → g x σ H' fun σ2 H2 => tb { D with nx := N, ct := N, bk := D.nx } σ2 H2) := by
  refine ⟨fun i m σ H => m + i = ys.length ∧ Pv i σ H, ⟨ys.length, Nat.add_zero _, h0⟩, ?_⟩
  rintro i m σ H ⟨em, pv⟩
  have s := src i σ H (by omega) pv
  rcases Nat.lt_or_ge i ys.length with lt | ge
  · refine .inr ⟨⟨ys, ys[i], s, List.getElem?_eq_getElem lt⟩, Pv (i + 1), fun σ' H' z => ⟨m - 1, by omega, by omega, z⟩, ?_⟩
    rintro x H' ⟨p, y, rfl, hp, rfl, hy⟩
    exact turn i y σ H p (hy ys s) pv hp
  · have e : i = ys.length := by omega
    subst e
    exact .inl ⟨⟨ys, s, Nat.le_refl _⟩, fin σ H pv⟩
/-- k in xs, xs a list of ints -/
theorem inV_ints (zs : List Int) (k : Int) : inV (V.int k) (zs.map V.int) = decide (k ∈ zs) := by
  induction zs with
  | nil => rfl
  | cons a r ih =>
    have e : inV (V.int k) ((a :: r).map V.int) = (eqV (V.int a) (V.int k) || inV (V.int k) (r.map V.int)) := rfl
    rw [e, ih]
    by_cases h : a = k
    · subst h
      simp [eqV]
    · have h' : ¬ k = a := fun z => h z.symm
      simp [eqV, h, h']
theorem flat_ints (zs : List Int) : (zs.map V.int).all flatV = true := by
  rw [List.all_eq_true]
  intro x hx
  obtain ⟨z, _, rfl⟩ := List.mem_map.mp hx
  rfl
end

/-! ### the mathematics of weights -/
/-- the weights at the places below n that f lists, in order -/
def pick (ws : List Int) (f : Int → Bool) : Nat → List Int
  | 0 => []
  | n + 1 => if f (n : Int) then pick ws f n ++ [ws.getD n 0] else pick ws f n
def wt (ws : List Int) (f : Int → Bool) (n : Nat) : Int := (pick ws f n).sum
theorem wt_succ (ws : List Int) (f : Int → Bool) (n : Nat) : wt ws f (n + 1) = wt ws f n + (if f (n : Int) then ws.getD n 0 else 0) := by
  unfold wt
  rw [pick]
  split
  · rw [List.sum_append, List.sum_cons, List.sum_nil, Int.add_zero]
  · rw [Int.add_zero]
theorem pick_len (ws : List Int) (f : Int → Bool) : ∀ n, (pick ws f n).length ≤ n
  | 0 => Nat.le_refl _
  | n + 1 => by
    have ih := pick_len ws f n
    rw [pick]
    split
    · rw [List.length_append, List.length_singleton]
      omega
    · omega
theorem wt_congr (ws : List Int) (f g : Int → Bool) : ∀ n, (∀ k : Nat, k < n → f k = g k) → wt ws f n = wt ws g n
  | 0, _ => rfl
  | n + 1, h => by
    rw [wt_succ, wt_succ, wt_congr ws f g n fun k hk => h k (Nat.lt_succ_of_lt hk), h n (Nat.lt_succ_self n)]
theorem wt_take (ws : List Int) : ∀ n, n ≤ ws.length → wt ws (fun _ => true) n = (ws.take n).sum
  | 0, _ => by simp [wt, pick]
  | n + 1, h => by
    have hn : n < ws.length := h
    rw [wt_succ, wt_take ws n (Nat.le_of_lt hn), if_pos rfl, sum_take (List.getElem?_eq_getElem hn), List.getD_eq_getElem?_getD, List.getElem?_eq_getElem hn]
    rfl
theorem wt_all (ws : List Int) : wt ws (fun _ => true) ws.length = ws.sum := by
  rw [wt_take ws _ (Nat.le_refl _), List.take_length]
theorem wt_not (ws : List Int) (f : Int → Bool) : ∀ n, wt ws f n + wt ws (fun k => !f k) n = wt ws (fun _ => true) n
  | 0 => rfl
  | n + 1 => by
    have ih := wt_not ws f n
    rw [wt_succ, wt_succ, wt_succ, if_pos rfl]
    cases f (n : Int)
    · simp
      omega
    · simp
      omega
theorem wt_both (ws : List Int) (f g : Int → Bool) (pos : ∀ k : Nat, 0 ≤ ws.getD k 0) : ∀ n, wt ws f n + wt ws g n ≤ wt ws (fun k => f k && g k) n + wt ws (fun _ => true) n
  | 0 => Int.le_refl _
  | n + 1 => by
    have ih := wt_both ws f g pos n
    have p := pos n
    rw [wt_succ, wt_succ, wt_succ, wt_succ, if_pos rfl]
    cases f (n : Int) <;> cases g (n : Int) <;> simp only [Bool.and_self, Bool.and_true, Bool.and_false, Bool.true_and, Bool.false_and, if_true, Bool.false_eq_true, if_false] <;> omega
/-- the weight of some listed members -/
def wOf (ws ms : List Int) : Int := wt ws (fun k => decide (k ∈ ms)) ws.length
/-- the places below n that f lists -/
def sel (f : Int → Bool) : Nat → List Int
  | 0 => []
  | n + 1 => if f (n : Int) then sel f n ++ [(n : Int)] else sel f n
theorem sel_len (f : Int → Bool) : ∀ n, (sel f n).length ≤ n
  | 0 => Nat.le_refl _
  | n + 1 => by
    have ih := sel_len f n
    rw [sel]
    split
    · rw [List.length_append, List.length_singleton]
      omega
    · omega
theorem mem_sel (f : Int → Bool) (k : Nat) : ∀ n, (k : Int) ∈ sel f n ↔ k < n ∧ f k = true
  | 0 => by simp [sel]
  | n + 1 => by
    have ih := mem_sel f k n
    rw [sel]
    split
    · rename_i h
      rw [List.mem_append, ih, List.mem_singleton]
      constructor
      · rintro (⟨h1, h2⟩ | h1)
        · exact ⟨by omega, h2⟩
        · have e : k = n := by omega
          subst e
          exact ⟨Nat.lt_succ_self _, h⟩
      · rintro ⟨h1, h2⟩
        rcases Nat.lt_or_ge k n with h3 | h3
        · exact .inl ⟨h3, h2⟩
        · exact .inr (by omega)
    · rename_i h
      rw [ih]
      constructor
      · rintro ⟨h1, h2⟩
        exact ⟨by omega, h2⟩
      · rintro ⟨h1, h2⟩
        refine ⟨?_, h2⟩
        rcases Nat.lt_or_ge k n with h3 | h3
        · exact h3
        · have e : k = n := by omega
          subst e
          exact absurd h2 h
/-- who is not listed weighs what is left -/
theorem wOf_rest (ws ms : List Int) : wOf ws ms + wOf ws (sel (fun k => !decide (k ∈ ms)) ws.length) = ws.sum := by
  unfold wOf
  rw [wt_congr ws (fun k => decide (k ∈ sel (fun k => !decide (k ∈ ms)) ws.length)) (fun k => !decide (k ∈ ms)) ws.length fun k hk => ?_]
  · rw [wt_not, wt_all]
  · rw [Bool.eq_iff_iff, decide_eq_true_iff, mem_sel]
    exact ⟨fun z => z.2, fun z => ⟨hk, z⟩⟩
theorem wOf_common (ws ms ns : List Int) (pos : ∀ k : Nat, 0 ≤ ws.getD k 0) : wOf ws ms + wOf ws ns ≤ wOf ws (ms.filter fun k => decide (k ∈ ns)) + ws.sum := by
  unfold wOf
  have h := wt_both ws (fun k => decide (k ∈ ms)) (fun k => decide (k ∈ ns)) pos ws.length
  rw [wt_all] at h
  rw [wt_congr ws (fun k => decide (k ∈ ms.filter fun k => decide (k ∈ ns))) (fun k => decide (k ∈ ms) && decide (k ∈ ns)) ws.length fun k _ => ?_]
  · exact h
  · rw [Bool.eq_iff_iff]
    simp [List.mem_filter]

/-! ### a committee as it stands -/
theorem ne_ws : ¬ (("weights" : Str) = "size") := by decide +kernel
theorem ne_wt : ¬ (("weights" : Str) = "total") := by decide +kernel
theorem ne_st : ¬ (("size" : Str) = "total") := by decide +kernel
def cfs (t : Addr) (ws : List Int) : List (Str × V) := putF "total" (.int ws.sum) (putF "size" (.int ws.length) (putF "weights" (.ref t) []))
theorem cfs_w (t : Addr) (ws : List Int) : (cfs t ws).lookup ("weights" : Str) = some (.ref t) := by
  unfold cfs
  rw [lookup_putF, if_neg ne_wt, lookup_putF, if_neg ne_ws, lookup_putF, if_pos rfl]
theorem cfs_s (t : Addr) (ws : List Int) : (cfs t ws).lookup ("size" : Str) = some (.int ws.length) := by
  unfold cfs
  rw [lookup_putF, if_neg ne_st, lookup_putF, if_pos rfl]
theorem cfs_t (t : Addr) (ws : List Int) : (cfs t ws).lookup ("total" : Str) = some (.int ws.sum) := by
  unfold cfs
  rw [lookup_putF, if_pos rfl]
theorem cfs_no (t : Addr) (ws : List Int) {m : Str} (h1 : ¬ m = "weights") (h2 : ¬ m = "size") (h3 : ¬ m = "total") : (cfs t ws).lookup m = none := by
  unfold cfs
  rw [lookup_putF, if_neg h3, lookup_putF, if_neg h2, lookup_putF, if_neg h1]
  all_goals rfl
def CommAt (C : Addr) (H : Hp) (p : Addr) (ws : List Int) : Prop := ∃ dx t, H p = some (.ins C dx (cfs t ws)) ∧ H t = some (.tup (ws.map V.int))
theorem CommAt.same {C : Addr} {H H' : Hp} {p : Addr} {ws : List Int} (h : CommAt C H p ws) (s : Same H H') : CommAt C H' p ws := by
  obtain ⟨dx, t, h1, h2⟩ := h
  exact ⟨dx, t, s _ _ h1, s _ _ h2⟩
/-- weights that a committee takes -/
def GoodW (ws : List Int) : Prop := 0 < ws.length ∧ ws.length ≤ 16 ∧ ∀ w ∈ ws, 1 ≤ w ∧ w ≤ 1000000000000

/-! ### the data: a statement as the tuple that it is -/
inductive Kd where
  | prop | pre | com
  deriving DecidableEq
def Kd.s : Kd → Str
  | .prop => "proposal"
  | .pre => "prevote"
  | .com => "precommit"
structure Sm where
  k : Kd
  h : Int
  t : Int
  b : Option Str
  l : Option Int
def oS : Option Str → V
  | none => .non
  | some x => .str x
def oI : Option Int → V
  | none => .non
  | some x => .int x
def Sm.vals (m : Sm) : List V := match m.k with
  | .pre => [.str m.k.s, .int m.h, .int m.t, oS m.b, oI m.l]
  | _ => [.str m.k.s, .int m.h, .int m.t, oS m.b]
def SmAt (H : Hp) (p : Addr) (m : Sm) : Prop := H p = some (.tup m.vals)
theorem at0 (m : Sm) : atI m.vals 0 = some (.str m.k.s) := by
  cases m with | mk k h t b l => cases k <;> rfl
theorem at1 (m : Sm) : atI m.vals 1 = some (.int m.h) := by
  cases m with | mk k h t b l => cases k <;> rfl
theorem at2 (m : Sm) : atI m.vals 2 = some (.int m.t) := by
  cases m with | mk k h t b l => cases k <;> rfl
theorem at3 (m : Sm) : atI m.vals 3 = some (oS m.b) := by
  cases m with | mk k h t b l => cases k <;> rfl
theorem at4 (m : Sm) (e : m.k = .pre) : atI m.vals 4 = some (oI m.l) := by
  cases m with | mk k h t b l => cases k <;> first | rfl | cases e
theorem ks_pp : ¬ (("proposal" : Str) = "prevote") := by decide +kernel
theorem ks_pc : ¬ (("proposal" : Str) = "precommit") := by decide +kernel
theorem ks_vc : ¬ (("prevote" : Str) = "precommit") := by decide +kernel
theorem ks_vp : ¬ (("prevote" : Str) = "proposal") := fun e => ks_pp e.symm
theorem ks_cp : ¬ (("precommit" : Str) = "proposal") := fun e => ks_pc e.symm
theorem ks_cv : ¬ (("precommit" : Str) = "prevote") := fun e => ks_vc e.symm
theorem kd_inj (a b : Kd) : a.s = b.s ↔ a = b := by
  cases a <;> cases b <;> simp [Kd.s, ks_pp, ks_pc, ks_vc, ks_vp, ks_cp, ks_cv]
theorem dec_kd (a b : Kd) : decide (V.str a.s = V.str b.s) = decide (a = b) := by
  rw [Bool.eq_iff_iff, decide_eq_true_iff, decide_eq_true_iff]
  constructor
  · intro e
    injection e with e
    exact (kd_inj a b).mp e
  · intro e
    rw [e]
theorem kprop (a : Kd) : (V.str a.s = V.str "proposal") = (a = .prop) := propext (by simpa [Kd.s] using decide_eq_decide.mp (dec_kd a .prop))
theorem kpre (a : Kd) : (V.str a.s = V.str "prevote") = (a = .pre) := propext (by simpa [Kd.s] using decide_eq_decide.mp (dec_kd a .pre))
theorem kcom (a : Kd) : (V.str a.s = V.str "precommit") = (a = .com) := propext (by simpa [Kd.s] using decide_eq_decide.mp (dec_kd a .com))
theorem koS (a b : Option Str) : (oS a = oS b) = (a = b) := propext (by
  cases a <;> cases b <;> simp [oS])
theorem koSn (a : Option Str) : (oS a = V.non) = (a = none) := koS a none
theorem koIn (a : Option Int) : (oI a = V.non) = (a = none) := by cases a <;> simp [oI]
theorem dec_oS (a b : Option Str) : decide (oS a = oS b) = decide (a = b) := by
  rw [Bool.eq_iff_iff, decide_eq_true_iff, decide_eq_true_iff]
  constructor
  · intro e
    cases a <;> cases b <;> first | rfl | cases e
    rfl
  · intro e
    rw [e]
theorem dec_oSn (a : Option Str) : decide (oS a = V.non) = decide (a = none) := dec_oS a none
theorem dec_oIn (a : Option Int) : decide (oI a = V.non) = decide (a = none) := by
  cases a <;> rfl
theorem scal_oS (a b : Option Str) : scal (oS a) (oS b) = true := by
  cases a <;> cases b <;> rfl
/-! ### the mirror -/
def abandM (x y : Sm) : Bool :=
  if x.k = .com ∧ y.k = .pre ∧ x.b ≠ none ∧ y.b ≠ none ∧ x.b ≠ y.b ∧ x.t < y.t then (match y.l with | none => true | some l => decide (l < x.t)) else false
def clashM (x y : Sm) : Bool :=
  if x.h ≠ y.h then false
  else if x.k = y.k then (decide (x.k ≠ .prop) && (decide (x.t = y.t) && decide (x.b ≠ y.b)))
  else (abandM x y || abandM y x)
theorem clashM_comm (x y : Sm) : clashM x y = clashM y x := by
  unfold clashM
  by_cases h1 : x.h = y.h
  · by_cases h2 : x.k = y.k
    · simp only [h1, h2, ne_eq, not_true_eq_false, if_false, if_true]
      congr 1
      congr 1
      · exact decide_eq_decide.mpr ⟨Eq.symm, Eq.symm⟩
      · exact decide_eq_decide.mpr ⟨Ne.symm, Ne.symm⟩
    · have h3 : ¬ y.k = x.k := fun e => h2 e.symm
      simp only [h1, h2, h3, ne_eq, not_true_eq_false, if_false, Bool.or_comm]
  · have h3 : ¬ y.h = x.h := fun e => h1 e.symm
    simp only [h1, h3, ne_eq, not_false_eq_true, if_true]
def OkS (b : Option Str) : Prop := ∀ x, b = some x → PyData.strOk x = true
theorem okA : OkS (some "a") := fun x e => by
  cases e
  decide +kernel
theorem okB : OkS (some "b") := fun x e => by
  cases e
  decide +kernel
theorem okN : OkS none := fun x e => nomatch e
theorem pick5 {i : Int} (h0 : 0 ≤ i) (h5 : i < 5) : ∃ b : Option Str, atI [V.str "a", V.str "b", V.str "a", V.str "b", V.non] i = some (oS b) ∧ OkS b := by
  have h : i = 0 ∨ i = 1 ∨ i = 2 ∨ i = 3 ∨ i = 4 := by omega
  rcases h with rfl | rfl | rfl | rfl | rfl
  · exact ⟨some "a", rfl, okA⟩
  · exact ⟨some "b", rfl, okB⟩
  · exact ⟨some "a", rfl, okA⟩
  · exact ⟨some "b", rfl, okB⟩
  · exact ⟨none, rfl, okN⟩
def Sm.dat (m : Sm) : List PyData := match m.k with
  | .pre => [.str m.k.s, .int m.h, .int m.t, (match m.b with | none => .none | some x => .str x), (match m.l with | none => .none | some x => .int x)]
  | _ => [.str m.k.s, .int m.h, .int m.t, (match m.b with | none => .none | some x => .str x)]
theorem dp_oS {K : PySem.W.Frag} {H : Hp} (b : Option Str) : Dp K H (oS b) (match b with | none => .none | some x => .str x) := by
  cases b with
  | none => exact .non
  | some x => exact .str x
theorem dp_oI {K : PySem.W.Frag} {H : Hp} (b : Option Int) : Dp K H (oI b) (match b with | none => .none | some x => .int x) := by
  cases b with
  | none => exact .non
  | some x => exact .int x
theorem dp_sm {K : PySem.W.Frag} {H : Hp} {p : Addr} {m : Sm} (h : H p = some (.tup m.vals)) : Dp K H (.ref p) (.tuple m.dat) := by
  refine .tup (SqT.of h) ?_
  obtain ⟨mk, mh, mt, mb, ml⟩ := m
  cases mk
  · exact .cons (.str _) (.cons (.int _) (.cons (.int _) (.cons (dp_oS _) .nil)))
  · exact .cons (.str _) (.cons (.int _) (.cons (.int _) (.cons (dp_oS _) (.cons (dp_oI _) .nil))))
  · exact .cons (.str _) (.cons (.int _) (.cons (.int _) (.cons (dp_oS _) .nil)))
theorem ks_ok (k : Kd) : PyData.strOk k.s = true := by
  cases k <;> decide +kernel
theorem shaped_sm (m : Sm) (o : OkS m.b) : SeqAt.shaped (.tuple m.dat) = true := by
  obtain ⟨mk, mh, mt, mb, ml⟩ := m
  cases mk <;> cases mb <;> cases ml <;> simp [Sm.dat, SeqAt.shaped, PyData.canLay0, PyData.canLayAll0, PyData.depth, PyData.depthAll, ks_ok] <;> exact o _ rfl
theorem eqv_sm (m : Sm) (o : OkS m.b) : PyData.eqv (.tuple m.dat) (.tuple m.dat) = true := SeqAt.eqv_refl _ (by
  obtain ⟨mk, mh, mt, mb, ml⟩ := m
  cases mk <;> cases mb <;> cases ml <;> simp [Sm.dat, PyData.canLay0, PyData.canLayAll0, ks_ok] <;> exact o _ rfl)
def spVote (K : PySem.W.Frag) : Sp := fun vs H Q _ => ∃ (p : Addr) (m : Sm), vs = [.ref p] ∧ SmAt H p m ∧ ∀ H', Same H H' → Q (.bl (decide (m.k ≠ .prop))) H'
def spAband (K : PySem.W.Frag) : Sp := fun vs H Q _ => ∃ (p q : Addr) (m n : Sm), vs = [.ref p, .ref q] ∧ SmAt H p m ∧ SmAt H q n ∧ ∀ H', Same H H' → Q (.bl (abandM m n)) H'
def spClash (K : PySem.W.Frag) : Sp := fun vs H Q _ => ∃ (p q : Addr) (m n : Sm), vs = [.ref p, .ref q] ∧ SmAt H p m ∧ SmAt H q n ∧ ∀ H', Same H H' → Q (.bl (clashM m n)) H'

/-! ### letters, lists of letters, what is due -/
structure Lt where
  w : Int
  m : Sm
instance : Inhabited Lt := ⟨⟨0, ⟨.prop, 0, 0, none, none⟩⟩⟩
def LtAt (H : Hp) (p : Addr) (x : Lt) : Prop := ∃ q, H p = some (.tup [.int x.w, .ref q]) ∧ SmAt H q x.m
theorem LtAt.same {H H' : Hp} {p : Addr} {x : Lt} (h : LtAt H p x) (s : Same H H') : LtAt H' p x := by
  obtain ⟨q, h1, h2⟩ := h
  exact ⟨q, s _ _ h1, s _ _ h2⟩
theorem ne_lst {H : Hp} {p l : Addr} {xs ys : List V} (h : H p = some (.tup xs)) (hl : H l = some (.lst ys)) : p ≠ l := fun e => by
  rw [e, hl] at h
  cases h
theorem LtAt.upd {H : Hp} {p l : Addr} {x : Lt} {ys : List V} {o : HO} (h : LtAt H p x) (hl : H l = some (.lst ys)) : LtAt (upd H l o) p x := by
  obtain ⟨q, h1, h2⟩ := h
  have h2' : H q = some (.tup x.m.vals) := h2
  refine ⟨q, ?_, ?_⟩
  · rw [upd_ne (ne_lst h1 hl)]
    exact h1
  · unfold SmAt
    rw [upd_ne (ne_lst h2' hl)]
    exact h2
def LsAt (H : Hp) (ps : List Addr) (xs : List Lt) : Prop := ps.length = xs.length ∧ ∀ i, i < xs.length → LtAt H (ps.getD i 0) (xs.getD i default)
theorem LsAt.nil {H : Hp} : LsAt H [] [] := ⟨rfl, fun i h => absurd h (Nat.not_lt_zero i)⟩
theorem LsAt.same {H H' : Hp} {ps : List Addr} {xs : List Lt} (h : LsAt H ps xs) (s : Same H H') : LsAt H' ps xs := ⟨h.1, fun i hi => (h.2 i hi).same s⟩
theorem LsAt.upd {H : Hp} {ps : List Addr} {xs : List Lt} {l : Addr} {ys : List V} {o : HO} (h : LsAt H ps xs) (hl : H l = some (.lst ys)) : LsAt (upd H l o) ps xs := ⟨h.1, fun i hi => (h.2 i hi).upd hl⟩
theorem getD_left {α : Type} {d : α} {xs ys : List α} {i : Nat} (h : i < xs.length) : (xs ++ ys).getD i d = xs.getD i d := by
  rw [List.getD_eq_getElem?_getD, List.getD_eq_getElem?_getD, List.getElem?_append_left h]
theorem getD_last {α : Type} {d : α} {xs : List α} {x : α} : (xs ++ [x]).getD xs.length d = x := by
  rw [List.getD_eq_getElem?_getD, List.getElem?_append_right (Nat.le_refl _), Nat.sub_self]
  rfl
theorem LsAt.snoc {H : Hp} {ps : List Addr} {xs : List Lt} {p : Addr} {x : Lt} (h : LsAt H ps xs) (e : LtAt H p x) : LsAt H (ps ++ [p]) (xs ++ [x]) := by
  refine ⟨by rw [List.length_append, List.length_append, h.1]; rfl, fun i hi => ?_⟩
  rw [List.length_append, List.length_singleton] at hi
  rcases Nat.lt_or_ge i xs.length with z | z
  · rw [getD_left (by rw [h.1]; exact z), getD_left z]
    exact h.2 i z
  · have ei : i = xs.length := by omega
    subst ei
    rw [getD_last]
    have : (ps ++ [p]).getD xs.length 0 = p := by rw [← h.1, getD_last]
    rw [this]
    exact e
theorem at_refs {ps : List Addr} {i : Nat} (h : i < ps.length) : (ps.map V.ref)[i]? = some (.ref (ps.getD i 0)) := by
  rw [List.getElem?_map, List.getD_eq_getElem?_getD, List.getElem?_eq_getElem h]
  rfl
def ownOf (xs : List Lt) (who : Int) : List Lt := xs.filter fun x => decide (x.w = who)
theorem take_succ_getD {α : Type} {d : α} {xs : List α} {i : Nat} (h : i < xs.length) : xs.take (i + 1) = xs.take i ++ [xs.getD i d] := by
  rw [List.take_add_one, List.getElem?_eq_getElem h, List.getD_eq_getElem?_getD, List.getElem?_eq_getElem h]
  rfl
theorem own_yes {xs : List Lt} {who : Int} {i : Nat} (h : i < xs.length) (e : (xs.getD i default).w = who) : ownOf (xs.take (i + 1)) who = ownOf (xs.take i) who ++ [xs.getD i default] := by
  unfold ownOf
  rw [take_succ_getD (d := default) h, List.filter_append, List.filter_cons_of_pos (by exact decide_eq_true e)]
  rfl
theorem own_no {xs : List Lt} {who : Int} {i : Nat} (h : i < xs.length) (e : ¬ (xs.getD i default).w = who) : ownOf (xs.take (i + 1)) who = ownOf (xs.take i) who := by
  unfold ownOf
  rw [take_succ_getD (d := default) h, List.filter_append, List.filter_cons_of_neg (by simpa using e), List.filter_nil, List.append_nil]
theorem own_len (xs : List Lt) (who : Int) : (ownOf xs who).length ≤ xs.length := List.length_filter_le _ _
theorem own_mem {xs : List Lt} {who : Int} {x : Lt} (h : x ∈ ownOf xs who) : x ∈ xs ∧ x.w = who := by
  unfold ownOf at h
  rw [List.mem_filter] at h
  exact ⟨h.1, of_decide_eq_true h.2⟩
theorem getD_mem2 {α : Type} {d : α} {xs : List α} {i : Nat} (h : i < xs.length) : xs.getD i d ∈ xs := by
  rw [List.getD_eq_getElem?_getD, List.getElem?_eq_getElem h]
  exact List.getElem_mem h
/-- the first letter before place n with which the one at place a clashes -/
def rowDue (own : List Lt) (a : Nat) : Nat → Option (Lt × Lt)
  | 0 => none
  | n + 1 => match rowDue own a n with
    | some r => some r
    | none => if clashM (own.getD n default).m (own.getD a default).m then some (own.getD n default, own.getD a default) else none
def colDue (own : List Lt) : Nat → Option (Lt × Lt)
  | 0 => none
  | n + 1 => match colDue own n with
    | some r => some r
    | none => rowDue own n n
def due (own : List Lt) : Option (Lt × Lt) := colDue own own.length
theorem row_mono {own : List Lt} {a i : Nat} {r : Lt × Lt} (h : rowDue own a i = some r) : ∀ d, rowDue own a (i + d) = some r
  | 0 => h
  | d + 1 => by
    show rowDue own a (i + d + 1) = some r
    rw [rowDue, row_mono h d]
theorem col_mono {own : List Lt} {i : Nat} {r : Lt × Lt} (h : colDue own i = some r) : ∀ d, colDue own (i + d) = some r
  | 0 => h
  | d + 1 => by
    show colDue own (i + d + 1) = some r
    rw [colDue, col_mono h d]
theorem row_no {own : List Lt} {a n : Nat} (h : rowDue own a n = none) (c : clashM (own.getD n default).m (own.getD a default).m = false) : rowDue own a (n + 1) = none := by
  rw [rowDue, h]
  show (if _ then _ else _) = _
  rw [c]
  rfl
theorem due_at {own : List Lt} {a n : Nat} (ha : a < own.length) (hn : n < a) (hc : colDue own a = none) (h : rowDue own a n = none) (c : clashM (own.getD n default).m (own.getD a default).m = true) :
    due own = some (own.getD n default, own.getD a default) := by
  have h1 : rowDue own a (n + 1) = some (own.getD n default, own.getD a default) := by
    rw [rowDue, h]
    show (if _ then _ else _) = _
    rw [c]
    rfl
  have h2 : rowDue own a a = some (own.getD n default, own.getD a default) := by
    have := row_mono h1 (a - (n + 1))
    rwa [Nat.add_sub_cancel' hn] at this
  have h3 : colDue own (a + 1) = some (own.getD n default, own.getD a default) := by
    rw [colDue, hc]
    exact h2
  have := col_mono h3 (own.length - (a + 1))
  rw [Nat.add_sub_cancel' ha] at this
  exact this
theorem col_no {own : List Lt} {a : Nat} (hc : colDue own a = none) (h : rowDue own a a = none) : colDue own (a + 1) = none := by
  rw [colDue, hc]
  exact h
theorem row_ok {own : List Lt} {a : Nat} (ha : a < own.length) : ∀ n, n ≤ own.length → ∀ f s, rowDue own a n = some (f, s) → f ∈ own ∧ s ∈ own ∧ clashM f.m s.m = true
  | 0, _, f, s, h => nomatch h
  | n + 1, hn, f, s, h => by
    rw [rowDue] at h
    split at h
    · rename_i r e
      cases h
      exact row_ok ha n (Nat.le_of_lt hn) f s e
    · split at h
      · rename_i c
        cases h
        exact ⟨getD_mem2 hn, getD_mem2 ha, c⟩
      · cases h
theorem col_ok {own : List Lt} : ∀ n, n ≤ own.length → ∀ f s, colDue own n = some (f, s) → f ∈ own ∧ s ∈ own ∧ clashM f.m s.m = true
  | 0, _, f, s, h => nomatch h
  | n + 1, hn, f, s, h => by
    rw [colDue] at h
    split at h
    · rename_i r e
      cases h
      exact col_ok n (Nat.le_of_lt hn) f s e
    · exact row_ok hn n (Nat.le_of_lt hn) f s h
theorem due_ok {own : List Lt} {f s : Lt} (h : due own = some (f, s)) : f ∈ own ∧ s ∈ own ∧ clashM f.m s.m = true := col_ok _ (Nat.le_refl _) f s h
def DueAt (H : Hp) (v : V) : Option (Lt × Lt) → Prop
  | none => v = .non
  | some r => ∃ p a b, v = .ref p ∧ H p = some (.tup [.ref a, .ref b]) ∧ LtAt H a r.1 ∧ LtAt H b r.2
def OkL (xs : List Lt) : Prop := ∀ x ∈ xs, OkS x.m.b
def Lt.dat (x : Lt) : PyData := .tuple [.int x.w, .tuple x.m.dat]
theorem dp_lt {K : PySem.W.Frag} {H : Hp} {p : Addr} {x : Lt} (h : LtAt H p x) : Dp K H (.ref p) x.dat := by
  obtain ⟨q, h1, h2⟩ := h
  exact .tup (SqT.of h1) (.cons (.int _) (.cons (dp_sm h2) .nil))
theorem lay_sm (m : Sm) (o : OkS m.b) : PyData.canLay0 (.tuple m.dat) = true := by
  have h := shaped_sm m o
  exact (Bool.and_eq_true_iff.mp h).1
theorem depth_sm (m : Sm) : PyData.depth (.tuple m.dat) = 1 := by
  obtain ⟨mk, mh, mt, mb, ml⟩ := m
  cases mk <;> cases mb <;> cases ml <;> simp [Sm.dat, PyData.depth, PyData.depthAll]
theorem lay_lt {x : Lt} (o : OkS x.m.b) : PyData.canLay0 x.dat = true := by
  simp only [Lt.dat, PyData.canLay0, PyData.canLayAll0, Bool.true_and, Bool.and_true]
  exact lay_sm x.m o
theorem depth_lt (x : Lt) : PyData.depth x.dat = 2 := by
  have h := depth_sm x.m
  simp only [Lt.dat, PyData.depth, PyData.depthAll] at h ⊢
  omega
theorem shaped_lt {x : Lt} (o : OkS x.m.b) : SeqAt.shaped x.dat = true := by
  unfold SeqAt.shaped
  rw [lay_lt o, depth_lt]
  rfl
theorem eqv_lt {x : Lt} (o : OkS x.m.b) : PyData.eqv x.dat x.dat = true := SeqAt.eqv_refl _ (lay_lt o)
theorem LsAt.cons {H : Hp} {p : Addr} {ps : List Addr} {x : Lt} {xs : List Lt} (h : LsAt H (p :: ps) (x :: xs)) : LtAt H p x ∧ LsAt H ps xs :=
  ⟨h.2 0 (Nat.succ_pos _), Nat.succ.inj h.1, fun i hi => h.2 (i + 1) (Nat.succ_lt_succ hi)⟩
theorem dp_lts {K : PySem.W.Frag} {H : Hp} : ∀ {ps : List Addr} {xs : List Lt}, LsAt H ps xs → DpAll K H (ps.map V.ref) (xs.map Lt.dat)
  | [], [], _ => .nil
  | p :: ps, x :: xs, h => .cons (dp_lt h.cons.1) (dp_lts h.cons.2)
  | [], x :: xs, h => nomatch h.1
  | p :: ps, [], h => nomatch h.1
theorem lay_lts : ∀ {xs : List Lt}, OkL xs → PyData.canLayAll0 (xs.map Lt.dat) = true
  | [], _ => by simp [PyData.canLayAll0]
  | x :: xs, o => by
    simp only [List.map_cons, PyData.canLayAll0]
    rw [lay_lt (o x List.mem_cons_self), lay_lts fun y hy => o y (List.mem_cons_of_mem _ hy)]
    rfl
theorem depth_lts : ∀ xs : List Lt, PyData.depthAll (xs.map Lt.dat) ≤ 2
  | [] => by simp [PyData.depthAll]
  | x :: xs => by
    have := depth_lts xs
    have := depth_lt x
    simp only [List.map_cons, PyData.depthAll]
    omega
theorem shaped_lts {xs : List Lt} (o : OkL xs) : SeqAt.shaped (.list (xs.map Lt.dat)) = true := by
  have h := depth_lts xs
  unfold SeqAt.shaped
  have e : PyData.depth (.list (xs.map Lt.dat)) = PyData.depthAll (xs.map Lt.dat) + 1 := by simp only [PyData.depth]
  have l : PyData.canLay0 (.list (xs.map Lt.dat)) = true := by simp only [PyData.canLay0, lay_lts o]
  rw [l, e, decide_eq_true (show PyData.depthAll (xs.map Lt.dat) + 1 ≤ 64 by omega)]
  rfl
theorem eqv_lts {xs : List Lt} (o : OkL xs) : PyData.eqv (.list (xs.map Lt.dat)) (.list (xs.map Lt.dat)) = true := SeqAt.eqv_refl _ (by
  simp only [PyData.canLay0, lay_lts o])

/-! ### certificates, turn by turn -/
def qrm (ws ms : List Int) : Bool := decide (2 * ws.sum < 3 * wOf ws ms)
def cnt (h t : Int) (b : Option Str) (L : List Int) (x : Lt) : Bool := decide (x.m.k = .pre ∧ x.m.h = h ∧ x.m.t = t ∧ x.m.b = b) && (match x.m.l with | none => true | some l => decide (l ∈ L) && decide (l < t))
def memM (xs : List Lt) (h t : Int) (b : Option Str) (L : List Int) : List Int := (xs.filter (cnt h t b L)).map Lt.w
/-- the turns below n with a certificate -/
def lns (ws : List Int) (xs : List Lt) (h : Int) (b : Option Str) : Nat → List Int
  | 0 => []
  | n + 1 => if qrm ws (memM xs h n b (lns ws xs h b n)) then lns ws xs h b n ++ [(n : Int)] else lns ws xs h b n
def certM (ws : List Int) (xs : List Lt) (h : Int) (b : Option Str) (n : Nat) : Bool := qrm ws (memM xs h n b (lns ws xs h b n))
def comS (xs : List Lt) (h t : Int) (b : Option Str) : List Int := (xs.filter fun x => decide (x.m.k = .com ∧ x.m.h = h ∧ x.m.t = t ∧ x.m.b = b)).map Lt.w
def commM (ws : List Int) (xs : List Lt) (h : Int) (b : Option Str) (n : Nat) : Bool := qrm ws (comS xs h n b) && certM ws xs h b n
theorem lns_len (ws : List Int) (xs : List Lt) (h : Int) (b : Option Str) : ∀ n, (lns ws xs h b n).length ≤ n
  | 0 => Nat.le_refl _
  | n + 1 => by
    have := lns_len ws xs h b n
    rw [lns]
    split
    · rw [List.length_append, List.length_singleton]
      omega
    · omega
theorem mem_yes {xs : List Lt} {h t : Int} {b : Option Str} {L : List Int} {i : Nat} (hi : i < xs.length) (c : cnt h t b L (xs.getD i default) = true) : memM (xs.take (i + 1)) h t b L = memM (xs.take i) h t b L ++ [(xs.getD i default).w] := by
  unfold memM
  rw [take_succ_getD (d := default) hi, List.filter_append, List.filter_cons_of_pos c, List.map_append]
  rfl
theorem mem_no {xs : List Lt} {h t : Int} {b : Option Str} {L : List Int} {i : Nat} (hi : i < xs.length) (c : cnt h t b L (xs.getD i default) = false) : memM (xs.take (i + 1)) h t b L = memM (xs.take i) h t b L := by
  unfold memM
  rw [take_succ_getD (d := default) hi, List.filter_append, List.filter_cons_of_neg (by rw [c]; exact Bool.false_ne_true), List.filter_nil, List.append_nil]
theorem mem_len (xs : List Lt) (h t : Int) (b : Option Str) (L : List Int) : (memM xs h t b L).length ≤ xs.length := by
  unfold memM
  rw [List.length_map]
  exact List.length_filter_le _ _
theorem com_yes {xs : List Lt} {h t : Int} {b : Option Str} {i : Nat} (hi : i < xs.length) (c : (xs.getD i default).m.k = .com ∧ (xs.getD i default).m.h = h ∧ (xs.getD i default).m.t = t ∧ (xs.getD i default).m.b = b) : comS (xs.take (i + 1)) h t b = comS (xs.take i) h t b ++ [(xs.getD i default).w] := by
  unfold comS
  rw [take_succ_getD (d := default) hi, List.filter_append, List.filter_cons_of_pos (by exact decide_eq_true c), List.map_append]
  rfl
theorem com_no {xs : List Lt} {h t : Int} {b : Option Str} {i : Nat} (hi : i < xs.length) (c : ¬ ((xs.getD i default).m.k = .com ∧ (xs.getD i default).m.h = h ∧ (xs.getD i default).m.t = t ∧ (xs.getD i default).m.b = b)) : comS (xs.take (i + 1)) h t b = comS (xs.take i) h t b := by
  unfold comS
  rw [take_succ_getD (d := default) hi, List.filter_append, List.filter_cons_of_neg (by rw [decide_eq_false c]; exact Bool.false_ne_true), List.filter_nil, List.append_nil]
theorem com_len (xs : List Lt) (h t : Int) (b : Option Str) : (comS xs h t b).length ≤ xs.length := by
  unfold comS
  rw [List.length_map]
  exact List.length_filter_le _ _
/-- a list of turns behind None -/
def lnV (L : List Int) : List V := .non :: L.map V.int
theorem flat_lnV (L : List Int) : (lnV L).all flatV = true := by
  unfold lnV
  rw [List.all_cons, flat_ints]
  rfl
theorem inV_lnV (l : Option Int) (L : List Int) : inV (oI l) (lnV L) = (match l with | none => true | some i => decide (i ∈ L)) := by
  cases l with
  | none => rfl
  | some i =>
    show (eqV .non (.int i) || inV (.int i) (L.map V.int)) = _
    rw [inV_ints]
    rfl
theorem cnt_f {h t : Int} {b : Option Str} {L : List Int} {x : Lt} (c : ¬ (x.m.k = .pre ∧ x.m.h = h ∧ x.m.t = t ∧ x.m.b = b)) : cnt h t b L x = false := by
  unfold cnt
  rw [decide_eq_false c]
  rfl
theorem cnt_t {h t : Int} {b : Option Str} {L : List Int} {x : Lt} (c : x.m.k = .pre ∧ x.m.h = h ∧ x.m.t = t ∧ x.m.b = b) : cnt h t b L x = (match x.m.l with | none => true | some l => decide (l ∈ L) && decide (l < t)) := by
  unfold cnt
  rw [decide_eq_true c]
  rfl
theorem flat_oI (l : Option Int) : flatV (oI l) = true := by
  cases l <;> rfl
theorem lnV_snoc (L : List Int) (i : Int) : lnV (L ++ [i]) = lnV L ++ [.int i] := by simp [lnV]
theorem lns_yes {ws : List Int} {xs : List Lt} {h : Int} {b : Option Str} {n : Nat} (c : certM ws xs h b n = true) : lns ws xs h b (n + 1) = lns ws xs h b n ++ [(n : Int)] := by
  rw [lns]
  exact if_pos c
theorem lns_no {ws : List Int} {xs : List Lt} {h : Int} {b : Option Str} {n : Nat} (c : ¬ certM ws xs h b n = true) : lns ws xs h b (n + 1) = lns ws xs h b n := by
  rw [lns]
  exact if_neg c
/-- == with a precommit -/
theorem eqv_com (m : Sm) (h t : Int) (b : Option Str) : PyData.eqv (.tuple m.dat) (.tuple (Sm.dat ⟨.com, h, t, b, none⟩)) = decide (m.k = .com ∧ m.h = h ∧ m.t = t ∧ m.b = b) := by
  obtain ⟨mk, mh, mt, mb, ml⟩ := m
  rw [Bool.eq_iff_iff, decide_eq_true_iff]
  have ks : ∀ x y : Kd, (x.s == y.s) = decide (x = y) := fun x y => by
    rw [Bool.eq_iff_iff, beq_iff_eq, decide_eq_true_iff]
    exact kd_inj x y
  have kp : (Kd.prop.s == Kd.com.s) = false := by
    rw [ks]
    decide
  have kv : (Kd.pre.s == Kd.com.s) = false := by
    rw [ks]
    decide
  cases mk
  · simp only [Sm.dat, PyData.eqv, PyData.eqvAll, kp, Bool.false_and, Bool.false_eq_true, false_iff, not_and]
    intro z
    cases z
  · simp only [Sm.dat, PyData.eqv, PyData.eqvAll, kv, Bool.false_and, Bool.false_eq_true, false_iff, not_and]
    intro z
    cases z
  · cases mb <;> cases b <;> simp [Sm.dat, PyData.eqv, PyData.eqvAll]

/-! ### x in a dict of the module, x a text -/
section
open PyProof.Rows
/-- b: whether the dict has the key -/
def KHas (K : PySem.W.Frag) (w : World) (a : Addr) (x : Str) (b : Bool) : Prop := ∃ es n r, K.lookup a = some ⟨.type "dict", none, .dict es n, #[]⟩ ∧ PySem.W.KeysLit w.params es.toList ∧ (a == sysModules) = false ∧ PySem.W.nsIn K a x = some r ∧ b = r.isSome
theorem op_inKd {X : Cx} : OpR X (compareOp .In) (fun x y H Q => ∃ p z b, x = .str z ∧ y = .ref p ∧ KHas X.K X.w p z b ∧ Q (.bl b) H) := by
  intro pins s σ H x y v u Q I rx ry h
  obtain ⟨p, z, b, rfl, rfl, ⟨es, n, r, hl, hk, low, e, rfl⟩, q⟩ := h
  obtain ⟨t, rfl⟩ := rx
  obtain rfl : u = Value.ref p := ry
  refine wpAny_in_of (strKind_is X.prog X.w z t) low (PySem.W.mapOf_K (prog := X.prog) (w := X.w) I.kIn hl hk) ?_
  rw [PySem.W.find_K hl e]
  exact ⟨.bl _, H, I.tok _, rfl, q⟩
theorem op_notInKd {X : Cx} : OpR X (compareOp .NotIn) (fun x y H Q => ∃ p z b, x = .str z ∧ y = .ref p ∧ KHas X.K X.w p z b ∧ Q (.bl (!b)) H) := by
  intro pins s σ H x y v u Q I rx ry h
  obtain ⟨p, z, b, rfl, rfl, ⟨es, n, r, hl, hk, low, e, rfl⟩, q⟩ := h
  obtain ⟨t, rfl⟩ := rx
  obtain rfl : u = Value.ref p := ry
  refine wpAny_notIn_of (strKind_is X.prog X.w z t) low (PySem.W.mapOf_K (prog := X.prog) (w := X.w) I.kIn hl hk) ?_
  rw [PySem.W.find_K hl e]
  exact ⟨.bl _, H, I.tok _, rfl, q⟩
end
section
open PyProof.Rows
theorem nsIn_dict {K : PySem.W.Frag} {P : Params} {a : Addr} {es : Array DictEntry} {n : Nat} (hl : K.lookup a = some ⟨.type "dict", none, .dict es n, #[]⟩) (hk : PySem.W.KeysLit P es.toList) (x : Str) :
    PySem.W.nsIn K a x = some ((es.toList.find? fun d => d.key.isStr x).map (·.val)) := by
  unfold PySem.W.nsIn
  rw [hl]
  cases e : es.toList.find? fun d => d.key.isStr x with
  | some d => simp [e]
  | none =>
    have nr : (es.toList.any fun d => d.refKey) = false := by
      rw [List.any_eq_false]
      intro d hd
      obtain ⟨y, t, e1, _⟩ := hk.all d hd
      unfold DictEntry.refKey
      rw [e1]
      simp
    simp [e, nr]
/-- a dict of the module: its keys, texts, and what stands there -/
structure KTab (K : PySem.W.Frag) (w : World) (a : Addr) (kvs : List (Str × Addr)) : Prop where
  at_ : ∃ es n, K.lookup a = some ⟨.type "dict", none, .dict es n, #[]⟩ ∧ PySem.W.KeysLit w.params es.toList ∧ ∀ x : Str, (es.toList.find? fun d => d.key.isStr x).map (·.val) = (kvs.lookup x).map Value.ref
  low : (a == sysModules) = false
theorem KTab.has {K : PySem.W.Frag} {w : World} {a : Addr} {kvs : List (Str × Addr)} (h : KTab K w a kvs) (x : Str) : KHas K w a x (kvs.lookup x).isSome := by
  obtain ⟨es, n, hl, hk, e⟩ := h.at_
  refine ⟨es, n, _, hl, hk, h.low, nsIn_dict hl hk x, ?_⟩
  rw [e]
  cases kvs.lookup x <;> rfl
theorem KTab.get {K : PySem.W.Frag} {w : World} {a : Addr} {kvs : List (Str × Addr)} (h : KTab K w a kvs) {x : Str} {b : Addr} (hx : kvs.lookup x = some b) : KDct K w a x (.ref b) := by
  obtain ⟨es, n, hl, hk, e⟩ := h.at_
  have q := nsIn_dict hl hk x
  rw [e, hx] at q
  exact ⟨es, n, _, hl, hk, q, rfl⟩
theorem isStr_eq {x y : Str} {t : Tok} : (Value.str y t).isStr x = decide (x = y) := by
  show (y == x) = _
  by_cases h : x = y
  · rw [h, decide_eq_true rfl, beq_self_eq_true]
  · rw [decide_eq_false h, beq_eq_false_iff_ne.mpr fun e => h e.symm]
def TabEs : List DictEntry → List (Str × Addr) → Prop
  | [], [] => True
  | d :: l, kv :: r => (∃ t, d.key = .str kv.1 t ∧ d.val = .ref kv.2) ∧ TabEs l r
  | _, _ => False
theorem find_tab (x : Str) : ∀ {l : List DictEntry} {kvs : List (Str × Addr)}, TabEs l kvs → (l.find? fun d => d.key.isStr x).map (·.val) = (kvs.lookup x).map Value.ref
  | [], [], _ => rfl
  | d :: l, (k, b) :: r, h => by
    obtain ⟨⟨t, e1, e2⟩, hr⟩ := h
    have ih := find_tab x hr
    by_cases c : x = k
    · have c1 : d.key.isStr x = true := by rw [e1, isStr_eq, decide_eq_true c]
      rw [List.find?_cons_of_pos (p := fun d : DictEntry => d.key.isStr x) c1, c]
      simp [List.lookup, e2]
    · have c1 : ¬ d.key.isStr x = true := by rw [e1, isStr_eq, decide_eq_false c]; exact Bool.false_ne_true
      rw [List.find?_cons_of_neg (p := fun d : DictEntry => d.key.isStr x) c1, ih]
      have c2 : (x == k) = false := beq_eq_false_iff_ne.mpr c
      simp [List.lookup, c2]
theorem ktab_mk {K : PySem.W.Frag} {w : World} {a : Addr} {es : Array DictEntry} {n : Nat} {kvs : List (Str × Addr)} (hl : K.lookup a = some ⟨.type "dict", none, .dict es n, #[]⟩) (hk : PySem.W.KeysLit w.params es.toList) (low : (a == sysModules) = false) (he : TabEs es.toList kvs) : KTab K w a kvs :=
  ⟨⟨es, n, hl, hk, fun x => find_tab x he⟩, low⟩
end

/-! ### an own error over ValueError whose __init__(self, x) says super().__init__(a message) and self.field = x -/
section
open PySem.W (ksEnv ksFn ks_superIn kxs_mw)
/-- the context of such an __init__ -/
def cxSup (CX : CXT) (P : Program) (w : World) (K : PySem.W.Frag) (mg : Str → Option Value) (base : Heap) (N : List Str) (qual : Str) (scope : Scope) (f : Addr) (cd : Value) (cc : Addr) (A : Around) (outer : List Env) (s : Shared) (H : Hp) (E : XK) : Cx where
  prog := P
  w := w
  K := K
  mg := mg
  base := base
  A := A.deeper (ksEnv qual scope s.heap.objs.size f cd cc)
  N := N
  s_0 := s
  H_0 := H
  env := ksEnv qual scope s.heap.objs.size f cd cc
  outer := outer
  stack := ksEnv qual scope s.heap.objs.size f cd cc :: outer
  ex := []
  fn := fun _ => false
  calm := true
  pn := []
  xe := fun e s' => wpAny (model P w) (A.deeper (ksEnv qual scope s.heap.objs.size f cd cc)) (leaving (ksEnv qual scope s.heap.objs.size f cd cc) e) (fun _ s2 => CX outer H s E e s2) (fun e2 s2 => CX outer H s E e2 s2) s'
/-- what the written part says of the class at C and of its __init__ at f -/
structure SupCls (P : Program) (K : PySem.W.Frag) (C : Addr) (qual par fld : Str) (st : Stmt) (f : Addr) (fd : FuncData) : Prop where
  fn : ∃ (oc od : _) (kV doc pm : Value) (an : Option Addr) (cda : Addr) (ct : Value) (osl : Array (Option Value)) (cc : Addr) (cl : Value) (cld : Option Addr) (csl : Array (Option Value)) (ccl : Value) (cdd : Option Addr) (vs : Array Value) (ccs : Array (Option Value)) (file : Str) (tf : Tok),
    fd = ksFn "__init__" qual (defArgs st) (defBody st) (defScope st) .none kV doc pm an (.ref cda) ct cc ∧ K.lookup f = some ⟨oc, od, .func fd, osl⟩ ∧ PySem.W.codeIn K (.ref cda) qual = true ∧
    K.lookup cc = some ⟨cl, cld, .cell (some (.ref C)), csl⟩ ∧ K.lookup cda = some ⟨ccl, cdd, .fields vs, ccs⟩ ∧ vs[2]? = some (.str file tf) ∧ ((P.main.file : Str) == file) = true
  oex : OexC K C
  sup : ks_superIn K C C "__init__" = some (some (.builtin "ValueError.__init__"))
  opq : PySem.W.nsIn K cStatics "thirdparty.any" = some none
  subV : PySem.W.subIn K (.ref C) (.type "ValueError") = some true
  mroC : PySem.W.mroIn K C (.ref C) = some true
  nof : PySem.W.findIn K (.ref C) fld = some none
  topS : (P.main.scope.names.lookup ("super" : Str)).isSome = false
/-- the shape of the text -/
structure SupTxt (par fld : Str) (st : Stmt) (msg : Expr) (p0 p1 p2 p3 p4 p5 p6 p7 p8 : Pos) : Prop where
  body : defBody st = [.Expr (.Call (.Attribute (.Call (.Name "super" p0) [] [] p1) "__init__" p2) [msg] [] p3) p4, .Assign [.Attribute (.Name "self" p5) fld p6] (.Name par p7) p8]
  kind : (defScope st).kind = .function
  co : (defScope st).isCoroutine = false
  gen : (defScope st).isGenerator = false
  s1 : (defScope st).names.lookup ("self" : Str) = some .local
  s2 : (defScope st).names.lookup par = some .local
  s3 : (defScope st).names.lookup ("__class__" : Str) = some .free
  s4 : (defScope st).names.lookup ("super" : Str) = some .globalImplicit
  only : ∀ y ∈ (defScope st).names, y.2 ≠ .cell ∧ (y.2 = .free → y.1 = "__class__")
  ps : ∃ ar, ((defArgs st).posonlyargs ++ (defArgs st).args).head? = some ar ∧ ar.arg = "self"
theorem inv_sup {CX : CXT} {P : Program} {w : World} {K : PySem.W.Frag} {mg : Str → Option Value} {base : Heap} {par qual : Str} {scope : Scope} {f cc : Addr} {cd : Value} {A : Around} {outer : List Env} {s : Shared} {h1 : Heap} {H : Hp} {E : XK} {u0 u1 : Value} {v0 v1 : V} {tk : Nat} {D : Value}
    (kind : scope.kind = .function) (only : ∀ y ∈ scope.names, y.2 ≠ .cell ∧ (y.2 = .free → y.1 = ("__class__" : Str))) (l1 : scope.names.lookup ("self" : Str) = some .local) (l2 : scope.names.lookup par = some .local) (np : ¬ ("self" : Str) = par)
    (hd : A.handled = none) (e0 : Env0 P w K mg base A outer s H) (r0 : RelV v0 u0) (r1 : RelV v1 u1)
    (cell : s.heap.IsCell cc (some D)) (free : H cc = Option.none) (small : cc < s.heap.objs.size)
    (ns : h1.Ns s.heap.objs.size (fun x => [(par, u1), (("self" : Str), u0)].lookup x)) (kp : ∀ b o, s.heap.get? b = some o → h1.get? b = some o) :
    L2.Inv (cxSup CX P w K mg base ["self", par] qual scope f cd cc A outer s H E) [] (start ["self", par] [v0, v1]) H { s with heap := h1, toks := tk } := by
  have one : ∀ (x : Str) (c : Addr), (ksEnv qual scope s.heap.objs.size f cd cc).cells.lookup x = some c → x = "__class__" ∧ c = cc := fun x c e => by
    have e' : [(("__class__" : Str), cc)].lookup x = some c := e
    by_cases z : x = "__class__"
    · subst z
      exact ⟨rfl, (Option.some.inj ((show some cc = some c from by simpa [List.lookup] using e'))).symm⟩
    · have b : (x == ("__class__" : Str)) = false := by simpa using z
      simp [List.lookup, b] at e'
  have noA : ∀ b : Addr, b ∉ (cxSup CX P w K mg base ["self", par] qual scope f cd cc A outer s H E).ex := fun b z => absurd (show b ∈ ([] : List Addr) from z) (by simp)
  have ok : (cxSup CX P w K mg base ["self", par] qual scope f cd cc A outer s H E).Ok := {
    mod := e0.mod
    kind := kind
    glob := rfl
    blt := rfl
    above := Nat.le_refl _
    inj := fun x y c h1 h2 => (one x c h1).1.trans (one y c h2).1.symm
    has := fun x hx => by
      have hx' : scope.names.lookup x = some .cell ∨ scope.names.lookup x = some .free := hx
      rcases hx' with hx' | hx'
      · exact absurd rfl (only _ (PySem.mem_of_lookup hx')).1
      · have e : x = "__class__" := (only _ (PySem.mem_of_lookup hx')).2 rfl
        subst e
        exact ⟨cc, rfl⟩
    cab := fun x c h => Bool.noConfusion h
    hd := fun _ => hd
    frames := Around.frames_deeper e0.frames
    stk := .inr ⟨rfl, rfl⟩
    exf := fun b z => absurd z (noA b)
    bs := e0.bs
    bsz := e0.bsz
    noex := fun b _ _ => noA b
    exfs := fun b z => absurd z (noA b)
    funs := e0.funs
    frf := e0.frf }
  exact {
    ok := ok
    os := rfl
    bare := e0.bare
    base := Un.kept kp
    loc := ⟨_, ns, fun i x v h1 h2 h3 => by
      match i, h1, h2 with
      | 0, h1, h2 =>
        cases h1
        cases h2
        refine ⟨u0, r0, .inl ⟨l1, ?_⟩⟩
        show [(par, u1), (("self" : Str), u0)].lookup ("self" : Str) = some u0
        have b : (("self" : Str) == par) = false := by simpa using np
        simp [List.lookup, b]
      | 1, h1, h2 =>
        cases h1
        cases h2
        refine ⟨u1, r1, .inl ⟨l2, ?_⟩⟩
        show (match par == par with | true => some u1 | false => [(("self" : Str), u0)].lookup par) = some u1
        rw [beq_self_eq_true]
      | i + 2, h1, h2 =>
        have h3 : (["self", par] : List Str)[i + 2]? = some x := h1
        simp at h3⟩
    cell := fun x c e => by
      obtain ⟨_, rfl⟩ := one x c e
      obtain ⟨o, ho, hc⟩ := cell
      exact ⟨_, o, kp _ _ ho, hc⟩
    free := e0.hok.fresh (Nat.le_refl _)
    freeC := fun x c e => by
      obtain ⟨_, rfl⟩ := one x c e
      exact free
    pin := fun p hp => absurd (show p ∈ ([] : List (Addr × Obj)) from hp) (by simp)
    hok := e0.hok.kept kp
    len := rfl }
/-- what such an __init__ promises -/
def spSup (C : Addr) (fld : Str) (good : V → Prop) : Sp := fun vs H Q _ => ∃ (e : Addr) (v : V), vs = [.ref e, v] ∧ H e = some (exo e C Option.none) ∧ good v ∧
  ∀ dx, H dx = Option.none → dx ≠ e → Q .non (upd (upd H dx (exd dx [(fld, v)])) e (exo e C (some dx)))
theorem exo_again {X : Cx} {pins : List (Addr × Obj)} {σ : L2.St} {H : Hp} {a C t1 : Addr} {hp h' : Heap} {g : Array GenState} {d : Drawn} {t t' : Nat} {os : OsState} (I : L2.Inv X pins σ H ⟨hp, g, d, t, os⟩) (e : H a = some (exo a C Option.none))
    (kp : ∀ b o, b ≠ a → hp.get? b = some o → h'.get? b = some o) (hx : h'.get? a = some ({ cls := .ref C, dict := Option.none, data := .fields #[.ref t1, .none, .none, .none, .bool false, .none] } : Obj)) : L2.Inv X pins σ H ⟨h', g, d, t', os⟩ := by
  have same : upd H a (exo a C Option.none) = H := by
    funext b
    unfold upd
    split
    · rename_i z
      rw [z, e]
    · rfl
  have J := I.write (t' := t') (x := a) (e := a) (o := exo a C Option.none) (by rw [e]; exact True.intro) (.inl rfl) kp ⟨_, hx⟩ (exo_ok hx)
  rwa [same] at J
/-- the bound ValueError.__init__, called: the error's arguments are laid anew, nothing of it is told -/
theorem call_mw {X : Cx} {pins : List (Addr × Obj)} {σ : L2.St} {H : Hp} {s : Shared} {e C u : Addr} {rest : List Value} {Q : Value → Shared → Prop} {E : Value → Shared → Prop} (T : OexC X.K C) (I : L2.Inv X pins σ H s) (he : H e = some (exo e C Option.none)) (hu : s.heap.get? u = some (kxs_mw "ValueError.__init__" e))
    (few : rest.length ≤ sizeLine) (fin : ∀ s', L2.Inv X pins σ H s' → Q .none s') : wpAny (model X.prog X.w) X.A (call (.ref u) rest) Q E s := by
  obtain ⟨nm, qn, N, bs, bm, sn, sub, ab, col, dd, k0, k1, k2, k3, k5, hC, hbm⟩ := T.cls
  obtain ⟨t1, ho⟩ := exo_at I.hok he
  have hC' := I.kIn _ _ hC
  obtain ⟨hp, g, d, tk, os⟩ := s
  refine wpAny_call (codeAny_of_tree ?_)
  show wpAny _ X.A.in1 (callAny (.ref u) ⟨rest, []⟩) _ _ _
  unfold callAny
  refine wpAny_bind (wpAny_load hu ?_)
  have b : (Value.type "method-wrapper" == Value.type "method" || Value.type "method-wrapper" == Value.type "builtin_function_or_method" ||
      Value.type "method-wrapper" == Value.type "method-wrapper") = true := by decide
  simp only [b, if_true]
  refine PySem.W.KFB.if_so (by decide) (wpAny_bind ?_)
  refine PySem.W.check_bound_init F.excBase_ValueError.toExcCallFacts hC' ho rfl (wpAny_bind (wpAny_pure (wpAny_pure ⟨plainId_quiet F.excBase_ValueError.init.plain _, ?_⟩)))
  refine codeAny_builtin F.excBase_ValueError.initEntry ?_
  exact PySem.W.exc_init_tree (cls := .ref C) (t0 := t1) (dv := Option.none) (c2 := .none) (c3 := .none) (b4 := .bool false) ho few fun h' kp hx _ => fin _ (exo_again I he kp hx)
/-- THE RULE: such an __init__ keeps its promise -/
theorem ok_sup {CX : CXT} {P : Program} {w : World} {K : PySem.W.Frag} {mg : Str → Option Value} {base : Heap} {C f : Addr} {fd : FuncData} {qual par fld : Str} {st : Stmt} {msg : Expr} {p0 p1 p2 p3 p4 p5 p6 p7 p8 : Pos} {good : V → Prop}
    (S : SupCls P K C qual par fld st f fd) (T : SupTxt par fld st msg p0 p1 p2 p3 p4 p5 p6 p7 p8) (np : ¬ ("self" : Str) = par) (nd : (par == ("__debug__" : Str)) = false) (nc : (par == ("__classdict__" : Str)) = false) (noS : mg "super" = Option.none)
    (hmsg : ∀ (cd : Value) (cc : Addr) (A : Around) (outer : List Env) (s : Shared) (H : Hp) (E : XK) (e : Addr) (v : V), good v →
      ∃ ta, PA (cxSup CX P w K mg base ["self", par] qual (defScope st) f cd cc A outer s H E) [msg] ta ∧ ∀ H1 Q, (∀ x, Q [x] H1) → ta (start ["self", par] [.ref e, v]) H1 Q)
    (star : ∀ env, starEach [msg] env = [(false, eval msg env)]) (inter : ∀ L g cd cc, interactive (ksEnv qual (defScope st) L g cd cc) = false) (swap : ∀ L g cd cc, swapsWith (.Call (.Attribute (.Call (.Name "super" p0) [] [] p1) "__init__" p2) [msg] [] p3) Option.none p4.line (ksEnv qual (defScope st) L g cd cc) = pure false)
    (swap2 : ∀ L g cd cc, swapsWith (.Name par p7) (some (.Attribute (.Name "self" p5) fld p6)) p8.line (ksEnv qual (defScope st) L g cd cc) = pure false)
    (pl : Sem Bool) (he : ∀ (env : Env), eval (.Call (.Attribute (.Call (.Name "super" p0) [] [] p1) "__init__" p2) [msg] [] p3) env = (do
      let ov ← attributeBase (.Call (.Name "super" p0) [] [] p1) "__init__" env (eval (.Call (.Name "super" p0) [] [] p1) env)
      standAt p2.atName
      let (f, first) ← holding [ov] (getMethod ov "__init__" pl)
      callWith p3 f first (backTo p3 (starEach [msg] env)) [])) :
    FnOk P w K mg base CX 1 f fd ["self", par] (spSup C fld good) := by
  obtain ⟨oc, od, kV, doc, pm, an, cda, ct, osl, cc, cl, cld, csl, ccl, cdd, vs, ccs, file, tf, rfl, lk, hcd, hcell, hcode, hvs, hfile⟩ := S.fn
  refine ⟨fun vs H Q E h => ?_, fun A outer s H args us vs0 Q E hr e0 hb rel hsp => ?_⟩
  · obtain ⟨e, v, rfl, _⟩ := h
    rfl
  obtain ⟨e, v, rfl, hexo, hgood, fin⟩ := hsp
  have KX : K.In s.heap := e0.mod.kin.keeps fun b o z => (e0.bs b o z).1
  have lim : s.heap.NoLimit := e0.mod.nolimit.keeps fun b o z => (e0.bs b o z).1
  obtain ⟨u0, u1, rfl, r0, r1⟩ := vals2 rel
  have isCell : s.heap.IsCell cc (some (.ref C)) := ⟨_, KX _ _ hcell, rfl⟩
  have freeC : H cc = Option.none := (e0.bs _ _ (e0.mod.kin _ _ hcell)).2
  refine ks_codeAny_call_defAt (fd := ksFn "__init__" qual (defArgs st) (defBody st) (defScope st) .none kV doc pm an (.ref cda) ct cc) (body := defBody st) (binds := [(("self" : Str), u0), (par, u1)]) hr.depth (KX _ _ lk) rfl lim (PySem.W.codeRec_of KX hcd) rfl hb (fun x hx => (T.only x hx).1) ?_ (fun h1 ns kp => ?_) T.co T.gen T.kind
  · intro y hy
    rcases List.mem_cons.mp hy with rfl | hy
    · exact T.s1
    · rw [List.mem_singleton.mp hy]
      exact T.s2
  have I : L2.Inv (cxSup CX P w K mg base ["self", par] qual (defScope st) f (.ref cda) cc A outer s H E) [] (start ["self", par] [.ref e, v]) H { s with heap := h1, toks := s.toks + 2 } :=
    inv_sup T.kind T.only T.s1 T.s2 np hr.hd e0 r0 r1 isCell freeC (Heap.lt_size (KX _ _ hcell)) ns kp
  show wpAt (model P w) (A.deeper (ksEnv qual (defScope st) s.heap.objs.size f (.ref cda) cc)) (.func (defBody st) (ksEnv qual (defScope st) s.heap.objs.size f (.ref cda) cc)) (execs (defBody st) (ksEnv qual (defScope st) s.heap.objs.size f (.ref cda) cc)) _ _ _
  rw [T.body]
  obtain ⟨hp, g, d, tk, os⟩ := s
  have up : ∀ b o, base.get? b = some o → h1.get? b = some o := fun b o z => kp b o (e0.bs b o z).1
  have K1 : K.In h1 := e0.mod.kin.keeps up
  obtain ⟨mb, hmb, hbb⟩ := e0.mod.blt
  obtain ⟨ar, har, earg⟩ := T.ps
  cases (show u0 = Value.ref e from r0)
  obtain ⟨t1, hx⟩ := exo_at I.hok hexo
  obtain ⟨nm, qn, N, bs, bm, sn, sub, ab, col, dd, k0, k1, k2, k3, k5, hC, hbm⟩ := S.oex.cls
  have hcl : PySem.W.clsIn K C = some { name := nm, bases := bs, mro := .ref C :: bm, ns := N, qualname := qn, hasDict := true, slotNames := sn, subclasses := sub, abstract := ab, collection := col, hasDel := false } := by
    unfold PySem.W.clsIn
    rw [hC]
  refine ks_wpAt_execs_cons (ks_wpAt_Expr_any (ks_wpAt_MethodCall (pl := pl) ?_ (he _)) (inter _ _ _ _) (swap _ _ _ _))
  refine ks_wpAt_super_base (env := ksEnv qual (defScope st) hp.objs.size f (.ref cda) cc) T.s4 T.s3 (by decide) rfl (kp _ _ (KX _ _ lk)) rfl har rfl (K1 _ _ hcode) rfl hvs hfile S.topS ?_
  refine PySem.W.ks_loadName_global T.kind T.s4 (PySem.Calls.loadGlobal_builtin (env := ksEnv qual (defScope st) hp.objs.size f (.ref cda) cc) (e0.mod.glob.keeps up) noS (hmb.keeps up) ((hbb "super" (by decide)).trans (by decide +kernel)) ⟨rfl, ?_⟩)
  refine wpAny_loadName_free T.kind T.s3 rfl ⟨_, K1 _ _ hcell, rfl⟩ ?_
  rw [earg]
  refine wpAny_loadName_local T.kind T.s1 ns (v := .ref e) ?_ ?_
  · show [(par, u1), (("self" : Str), Value.ref e)].lookup ("self" : Str) = some (.ref e)
    have b : (("self" : Str) == par) = false := by simpa using np
    simp [List.lookup, b]
  refine ks_wpAny_isType_cls (K1 _ _ hC) rfl ⟨rfl, ?_⟩
  refine ks_wpAny_call_super (K1 _ _ hC) rfl hx rfl (fun c z => by cases z) (PySem.W.looks_mroIn K1 S.mroC) (fun h2 hso kp2 => ?_)
  have K2 : K.In h2 := K1.keeps kp2
  have hx2 := kp2 _ _ hx
  have inst : PySem.W.InstAt h2 e { cls := .ref C, dict := Option.none, data := .fields #[.ref t1, .none, .none, .none, .bool false, .none] } C Option.none := ⟨hx2, rfl, rfl, trivial⟩
  have hf := S.sup
  unfold ks_superIn at hf
  rw [hcl] at hf
  have neC : e ≠ C := fun z => by
    have q := (e0.bs _ _ (e0.mod.kin _ _ hC)).2
    rw [← z, hexo] at q
    cases q
  refine PySem.W.kxs_getMethod PySem.W.kxs_ValueError hso (PySem.W.looks_opaque K2 S.opq) (l₀ := .ref C :: bm) ((PySem.W.looks_clsIn K2 hcl).andThen .now) rfl K2 hf (inst.type.andThen (PySem.W.looks_subIn K2 S.subV)) neC (by decide) ?_
  have hmw : (h2.push (kxs_mw "ValueError.__init__" e)).get? h2.objs.size = some (kxs_mw "ValueError.__init__" e) := Heap.get?_push_size _ rfl
  have kp3 : ∀ b o, h1.get? b = some o → (h2.push (kxs_mw "ValueError.__init__" e)).get? b = some o := fun b o z => Heap.get?_push_of_some _ (kp2 b o z)
  have Ih := I.kept (h' := h2) (t' := tk + 2) kp2
  have I2 := I.kept (h' := h2.push (kxs_mw "ValueError.__init__" e)) (t' := tk + 2 + 1) kp3
  have I3 : L2.Inv (cxSup CX P w K mg base ["self", par] qual (defScope st) f (.ref cda) cc A outer ⟨hp, g, d, tk, os⟩ H E) [(h2.objs.size, kxs_mw "ValueError.__init__" e)] (start ["self", par] [.ref e, v]) H ⟨h2.push (kxs_mw "ValueError.__init__" e), g, d, tk + 2 + 1, os⟩ := { I2 with
    pin := fun p hp' => by
      cases List.mem_singleton.mp hp'
      refine ⟨hmw, Ih.hok.fresh (Nat.le_refl _), Nat.ne_of_gt Ih.lt, Ih.nofs (Nat.le_refl _), fun c z => by cases z⟩ }
  obtain ⟨ta, pa, rd⟩ := hmsg (.ref cda) cc A outer ⟨hp, g, d, tk, os⟩ H E e v hgood
  have st1 := star (ksEnv qual (defScope st) hp.objs.size f (.ref cda) cc)
  have ran : wpAny (model P w) (A.deeper (ksEnv qual (defScope st) hp.objs.size f (.ref cda) cc)) (spliced (backTo p3 (starEach [msg] (ksEnv qual (defScope st) hp.objs.size f (.ref cda) cc)))) _ _ _ :=
    pa.run p3 _ _ _ _ (fun vs H1 => H1 = H ∧ vs.length = 1) I3 (rd H _ fun x => ⟨rfl, rfl⟩)
  show wpAny _ _ (callWith p3 (.ref h2.objs.size) [] (backTo p3 (starEach [msg] (ksEnv qual (defScope st) hp.objs.size f (.ref cda) cc))) []) _ _ _
  rw [st1] at ran ⊢
  refine PySem.W.kxs_callWith (i := "ValueError.__init__") (x := e) (u := h2.objs.size) rfl (PySem.Calls.evalArgs_plain (thn ran fun us s3 got => ?_))
  obtain ⟨vs1, H1, I4, rel1, rfl, len1⟩ := got
  have hu := (I4.pin _ List.mem_cons_self).1
  refine ⟨hu, call_mw S.oex I4 hexo hu (by show us.length ≤ sizeLine; rw [← Vals.length rel1, len1, sizeLine_eq]; decide) fun s4 I5 => ?_⟩
  have last : PSs (cxSup CX P w K mg base ["self", par] qual (defScope st) f (.ref cda) cc A outer ⟨hp, g, d, tk, os⟩ H1 E) [.Assign [.Attribute (.Name "self" p5) fld p6] (.Name par p7) p8] _ :=
    pss_one (ps_ost (pv 0 rfl (.inl T.s1)) (pv 1 rfl (.inl T.s2) nd nc) (swap2 _ _ _ _))
  refine wpAt_of_wpAny (thn (last.run _ s4 _ H1 { nx := fun _ H2 => Q .non H2, rt := Q } I5 ⟨v, rfl, .ref e, rfl, e, C, rfl, S.oex, S.nof, .inl ⟨hexo, fin⟩⟩) fun fl s5 got => ?_)
  cases fl with
  | next =>
    obtain ⟨σ', H', J, q⟩ := got
    exact ⟨V.non, H', J.os, J.bare, J.base, J.hok, rfl, q⟩
  | ret u =>
    obtain ⟨y, σ', H', J, ry, q⟩ := got
    exact ⟨y, H', J.os, J.bare, J.base, J.hok, ry, q⟩
  | brk =>
    obtain ⟨_, _, _, q⟩ := got
    exact q.elim
  | cont =>
    obtain ⟨_, _, _, q⟩ := got
    exact q.elim
end

/-! ### raising such an error where nothing is handled; a new object whose __init__ may raise; isinstance of a caught error -/
theorem fun_okN {P : Program} {w : World} {K : PySem.W.Frag} {mg : Str → Option Value} {base : Heap} {x qual : Str} {st : Stmt} {f : Addr} {fd : FuncData} {N ps : List Str} {k : Nat} {sp : Sp} (F : Fun K x qual st f fd) (S : FnScope N ps (defScope st))
    (len : ∀ vs H Q E, sp vs H Q E → vs.length = ps.length)
    (body : ∀ (cdv : Value) (A : Around) (outer : List Env) (s : Shared) (H : Hp) (vs : List V) (Q : VK) (E : XK), Room k (A.deeper (PyProof.Rows.envOfC qual (defScope st) s.heap.objs.size f cdv)) → sp vs H Q E →
      ∃ t, PSs (cxOf (L2N.CX P w) P w K mg base N qual (defScope st) f cdv A outer s H E) (defBody st) t ∧ t { nx := fun _ H' => Q .non H', rt := Q } (start N vs) H) : FnOk P w K mg base (L2N.CX P w) (k + 1) f fd ps sp := by
  obtain ⟨oc, od, kV, doc, pm, an, cdv, ct, osl, rfl, lk, hcd⟩ := F.ex
  exact fn_of lk hcd S len fun A outer s H vs Q E hr h => body cdv A outer s H vs Q E hr h
/-- a def that lets nothing out lets nothing out -/
theorem weak_cx {P : Program} {w : World} {K : PySem.W.Frag} {mg : Str → Option Value} {base : Heap} {CX : CXT} {k : Nat} {f : Addr} {fd : FuncData} {ps : List Str} {sp : Sp} (F : FnOk P w K mg base CX0 k f fd ps sp) : FnOk P w K mg base CX k f fd ps sp :=
  ⟨F.len, fun A outer s H args us vs Q E hr e0 hb r h => codeAny_mono (F.run A outer s H args us vs Q E hr e0 hb r h) fun res s' q => by
    cases res with
    | error e => exact False.elim q
    | ok fl => cases fl <;> exact q⟩
def tSup (C : Addr) (fld : Str) (good : V → Prop) (ta : TA) : L2.St → Hp → XK → Prop := fun σ H Q => ta σ H fun vs H1 => ∃ v, vs = [v] ∧ good v ∧ ∀ d, H1 d = Option.none → Q (.ref C) (some d) (upd H1 d (.xd [(fld, v)]))
theorem sup_heap {H : Hp} {a d C : Addr} {fs : List (Str × V)} (ha : H a = Option.none) (ne : d ≠ a) : upd (del (upd (upd (upd H a (exo a C Option.none)) d (exd d fs)) a (exo a C (some d))) a) d (.xd fs) = upd H d (.xd fs) := by
  funext b
  by_cases hd : b = d
  · subst hd
    rw [upd_same, upd_same]
  · rw [upd_ne hd, upd_ne hd]
    by_cases hb : b = a
    · subst hb
      rw [del_same, ha]
    · rw [del_ne hb, upd_ne hb, upd_ne hd, upd_ne hb]
theorem pmk_sup {X : Cx} {x fld par : Str} {e : Expr} {ta : TA} {p pos : Pos} {C fI : Addr} {fd : FuncData} {good : V → Prop} (T : OexC X.K C) (iC : PySem.W.findIn X.K (.ref C) "__init__" = some (some (.ref fI))) (tI : PySem.W.typeIn X.K (.ref fI) = some (.type "function"))
    (F1 : FnOk X.prog X.w X.K X.mg X.base CX0 1 fI fd ["self", par] (spSup C fld good)) (hr : Room 2 X.A) (hb : Binds X.K fd ["self", par] []) (hg : Gl X x) (hm : X.mg x = some (.ref C)) (ha : PA X [e] ta)
    (hdb : (x == ("__debug__" : Str)) = false := by decide) (he : starEach (e :: []) X.env = (false, eval e X.env) :: starEach [] X.env := by rfl) (hpl : (backTo pos (starEach [] X.env)).any (·.1) = false := by rfl) :
    L2N.PMk X (.Call (.Name x p) [e] [] pos) (tSup C fld good ta) := by
  intro pins s σ H Q I hyp
  obtain ⟨nm, qn, N, bs, bm, sn, sub, ab, col, dd, k0, k1, k2, k3, k5, hC, hbm⟩ := T.cls
  refine wpAny_Call_Name_kw (ld_glob I hg hm ?_ hdb)
  refine PySem.W.callWith_K (h₀ := X.base) I.ok.mod.kin T.kC (thn (ha.run pos pins s σ H _ I hyp) fun us s1 got => ?_) he hpl
  obtain ⟨vs, H1, I1, rel, v, rfl, gv, q⟩ := got
  refine ⟨I1.kIn, ?_⟩
  show wpAny _ _ (call (.ref C) us) _ _ _
  obtain ⟨hp, g, dr, tk, os⟩ := s1
  have above : hp.objs.size ≤ hp.objs.size + 1 := Nat.le_succ _
  have free : H1 (hp.objs.size + 1) = Option.none := I1.hok.fresh above
  have grown : ∀ b o, hp.get? b = some o → ((hp.push (PySem.W.kdv_tup us)).push (PySem.HandSPX.excO C hp.objs.size)).get? b = some o := fun b o z => Heap.get?_push_of_some _ (Heap.get?_push_of_some _ z)
  have there : ((hp.push (PySem.W.kdv_tup us)).push (PySem.HandSPX.excO C hp.objs.size)).get? (hp.objs.size + 1) = some (PySem.HandSPX.excO C hp.objs.size) := by heap_get
  have I2 := I1.laid (t' := tk) (a := hp.objs.size + 1) (o := exo (hp.objs.size + 1) C Option.none) (h' := (hp.push (PySem.W.kdv_tup us)).push (PySem.HandSPX.excO C hp.objs.size)) grown above (exo_ok there)
  have rel2 : Vals [V.ref (hp.objs.size + 1), v] (Value.ref (hp.objs.size + 1) :: us) := .cons rfl rel
  have two : (Value.ref (hp.objs.size + 1) :: us).length = 2 := rel2.length.symm
  have bind := hb ⟨(hp.push (PySem.W.kdv_tup us)).push (PySem.HandSPX.excO C hp.objs.size), g, dr, tk, os⟩ (Value.ref (hp.objs.size + 1) :: us) I2.kIn (by rw [List.append_nil]; exact two)
  rw [List.append_nil] at bind
  have few : us.length ≤ sizeLine := by
    rw [← Vals.length rel, sizeLine_eq]
    show 1 ≤ 16777216
    decide
  refine wpAny_call (PySem.HandSPX.call_own F.excBase_ValueError (fun Y => PySem.HandSPX.refsVE_contains Y bm hbm) (I1.kIn _ _ hC) (PySem.W.looks_findIn I1.kIn iC) (fun self => PySem.W.bind_fn I1.kIn self tI) few ?_)
  refine codeAny_mono (F1.run _ X.stack _ _ ⟨Value.ref (hp.objs.size + 1) :: us, []⟩ _ _ (fun y H2 => y = .non ∧ ∃ d, H1 d = Option.none ∧ d ≠ hp.objs.size + 1 ∧ H2 = upd (upd (upd H1 (hp.objs.size + 1) (exo (hp.objs.size + 1) C Option.none)) d (exd d [(fld, v)])) (hp.objs.size + 1) (exo (hp.objs.size + 1) C (some d)))
    (fun _ _ _ => False) ((hr.make (k := 1) C us [])) (I2.env0.make C us []) bind rel2 ⟨_, v, rfl, upd_same, gv, fun d hd nd => ⟨rfl, d, (by rwa [upd_ne nd] at hd), nd, rfl⟩⟩) fun res s2 fin => ?_
  cases res with
  | error z => exact False.elim fin
  | ok fl =>
    cases fl with
    | ret u =>
      obtain ⟨y, H2, os2, bare2, un2, hok2, ry, rfl, d, hd, nd, rfl⟩ := fin
      obtain ⟨h2, g2, d2, t2, os'⟩ := s2
      have ea : upd (upd (upd H1 (hp.objs.size + 1) (exo (hp.objs.size + 1) C Option.none)) d (exd d [(fld, v)])) (hp.objs.size + 1) (exo (hp.objs.size + 1) C (some d)) (hp.objs.size + 1) = some (exo (hp.objs.size + 1) C (some d)) := upd_same
      have ed : upd (upd (upd H1 (hp.objs.size + 1) (exo (hp.objs.size + 1) C Option.none)) d (exd d [(fld, v)])) (hp.objs.size + 1) (exo (hp.objs.size + 1) C (some d)) d = some (exd d [(fld, v)]) := by rw [upd_ne nd, upd_same]
      obtain ⟨t0, G, J, kG, ge, hoe, na⟩ := mk_end0 (d2 := d2) (t2 := t2) I1 above grown un2 hok2 os2 bare2 ea ed hd
      rw [sup_heap free nd] at J na
      refine ⟨ry, hp.objs.size + 1, _, _, ⟨G, g2, d2, t2, os'⟩, _, .ref C, some d, rfl, J, kG, ge, hoe, ⟨rfl, rfl, fun fv z => ?_⟩, rfl, rfl, na, rfl, bare2, raises_own T.exC T.tyC, q d hd⟩
      cases z
      rfl
    | next => exact False.elim fin
    | brk => exact False.elim fin
    | cont => exact False.elim fin
/-- C(e, ..) within a try: what __init__ lets out is wished for at the slots -/
def tMakeS (C : Addr) (sp : Sp) (E : L2.St → XK) (t : TA) : TE := fun σ H Q => t σ H fun vs H1 => ∀ x dx, H1 x = Option.none → H1 dx = Option.none → dx ≠ x → sp (.ref x :: vs) (upd (upd H1 dx (.own x)) x (.ins C dx [])) (fun v H2 => v = .non ∧ Q (.ref x) H2) (E σ)
theorem pe_makeS {X : Cx} {CX : CXT} {k : Nat} {f C : Addr} {fd : FuncData} {ps : List Str} {sp : Sp} {E : L2.St → XK} {x : Str} {p pos : Pos} {e : Expr} {es : List Expr} {t : TA} (M : Mk X.K C f) (F : FnOk X.prog X.w X.K X.mg X.base CX k f fd ps sp) (hr : Room (k + 1) X.A) (hg : Gl X x) (hm : X.mg x = some (.ref C))
    (hb : Binds X.K fd ps []) (hx : ∀ (pins : List (Addr × Obj)) (σ : L2.St) (H : Hp) (s : Shared) (u : Value) (s' : Shared), L2.Inv X pins σ H s → CX X.stack H s (E σ) u s' → X.xe u s')
    (ha : PA X (e :: es) t) (hdb : (x == ("__debug__" : Str)) = false := by decide) (he : starEach (e :: es) X.env = (false, eval e X.env) :: starEach es X.env := by rfl) (hpl : (backTo pos (starEach es X.env)).any (·.1) = false := by rfl) :
    PE X (.Call (.Name x p) (e :: es) [] pos) (tMakeS C sp E t) := by
  constructor
  intro pins s σ H Q I hyp
  refine wpAny_Call_Name_kw (ld_glob I hg hm ?_ hdb)
  refine PySem.W.callWith_K (h₀ := X.base) I.ok.mod.kin M.kp (thn (ha.run pos pins s σ H _ I hyp) fun us s1 got => ?_) he hpl
  obtain ⟨vs, H1, I1, rel, q⟩ := got
  refine ⟨I1.kIn, ?_⟩
  have I2 := Inv.made (C := C) I1
  have prom := q (s1.heap.objs.size + 1) s1.heap.objs.size (I1.hok.fresh (Nat.le_succ _)) (I1.hok.fresh (Nat.le_refl _)) (Nat.ne_of_lt (Nat.lt_succ_self _))
  have rel2 : Vals (V.ref (s1.heap.objs.size + 1) :: vs) (Value.ref (s1.heap.objs.size + 1) :: us) := .cons rfl rel
  have len : (Value.ref (s1.heap.objs.size + 1) :: us ++ []).length = ps.length := by
    rw [List.append_nil, ← F.len _ _ _ _ prom]
    exact rel2.length.symm
  have bind := hb _ (Value.ref (s1.heap.objs.size + 1) :: us) I2.kIn len
  rw [List.append_nil] at bind
  refine wpAny_call (make_map (f := f) I1.kIn M.makes M.init (beq_iff_eq.mp M.fn) (codeAny_mono (F.run _ X.stack _ _ ⟨Value.ref (s1.heap.objs.size + 1) :: us, []⟩ _ _ _ (E σ) (hr.make C us []) (I2.env0.make C us []) bind rel2 prom) fun res s2 fin => ?_))
  cases res with
  | error z => exact hx pins σ _ _ z s2 I2 fin
  | ok fl =>
    cases fl with
    | ret u =>
      obtain ⟨v, H', I3, rv, rfl, q3⟩ := I2.after fin
      exact ⟨rv, V.ref (s1.heap.objs.size + 1), H', I3, rfl, q3⟩
    | next => exact False.elim fin
    | brk => exact False.elim fin
    | cont => exact False.elim fin
/-- isinstance(e, a class), e the caught error of the class at D with its dict -/
structure XcC (K : PySem.W.Frag) (D : Addr) : Prop where
  cl : (PySem.W.clsIn K D).isSome = true
  ga : PySem.W.findIn K (.ref D) "__getattribute__" = some (some (.builtin "BaseException.__getattribute__"))
  gt : PySem.W.findIn K (.ref D) "__getattr__" = some Option.none
  sub : PySem.W.subIn K (.ref D) (.type "BaseException") = some true
  has : PySem.W.hasDictIn K D = true
  cls : PySem.W.findIn K (.ref D) "__class__" = some (some (.builtin "object.__class__"))
  get : PySem.W.specialIn K (.builtin "object.__class__") "__get__" = some (some (.builtin "getset_descriptor.__get__"))
  tk : PySem.W.takesIn K (.builtin "object.__class__") = some true
  obj : PySem.W.mroIn K D (.type "object") = some true
theorem xc_at {X : Cx} {pins : List (Addr × Obj)} {σ : L2.St} {H : Hp} {s : Shared} {a D dd : Addr} {oe : Obj} {pn : List (Addr × Obj)} {fs : List (Str × V)} (I : L2.Inv (X.suite a ((a, oe) :: pn)) pins σ H s) (hz : Zc (.ref D) (some dd) oe) (hf : ∃ vs, oe.data = .fields vs) (hd : H dd = some (.xd fs)) :
    ∃ od, PySem.W.InstAt s.heap a oe D (some od) := by
  obtain ⟨got, _⟩ := I.pin (a, oe) (List.mem_append_left _ List.mem_cons_self)
  obtain ⟨vs, hv⟩ := hf
  have x : ObjOk X.prog X.w H s.heap dd (.xd fs) := I.hok dd _ hd
  obtain ⟨mA, ⟨od, _, _, ho, _⟩, _⟩ := x
  obtain ⟨oc, odd, oda, osl⟩ := oe
  obtain ⟨h1, h2⟩ := hz
  dsimp only at h1 h2 hv
  subst h1 h2 hv
  exact ⟨od, got, rfl, rfl, ho⟩
def rIsX (K : PySem.W.Frag) (a : Addr) (cls : Value) (d : Option Addr) : List V → Hp → VK → Prop := fun xs H Q => ∃ (D dd : Addr) (c : V) (cv : Value) (b : Bool) (fs : List (Str × V)), xs = [.ref a, c] ∧ cls = .ref D ∧ d = some dd ∧ XcC K D ∧ ClsV c cv ∧ H dd = some (.xd fs) ∧
  PySem.W.kitOne K (.ref D) cv = some b ∧ Q (.bl b) H
theorem call_isX {X : Cx} {a : Addr} {cls : Value} {d : Option Addr} {oe : Obj} {pn : List (Addr × Obj)} (hz : Zc cls d oe) (hf : ∃ vs, oe.data = .fields vs) : CallR (X.suite a ((a, oe) :: pn)) (.builtin "isinstance") (rIsX X.K a cls d) := by
  intro pins sh σ H xs us Q I rel hyp
  obtain ⟨D, dd, c, cv, b, fs, rfl, rfl, rfl, C, hcv, hd, e, q⟩ := hyp
  obtain ⟨u1, u2, rfl, r1, r2⟩ := vals2 rel
  have e2 := hcv.eq r2
  subst e2
  cases r1
  obtain ⟨od, J⟩ := xc_at I hz hf hd
  exact PySem.W.kia_one (PySem.W.kitx_exc C.cl C.ga C.gt C.sub C.cls C.get C.tk C.obj) I.kIn J e (fun z => nomatch z) fun tk => ⟨.bl b, H, I.kept (t' := tk) fun _ _ z => z, rfl, q⟩
def rIsXT (K : PySem.W.Frag) (a : Addr) (cls : Value) (d : Option Addr) : List V → Hp → VK → Prop := fun xs H Q => ∃ (D dd tp : Addr) (cs : List V) (cvs : List Value) (b : Bool) (fs : List (Str × V)), xs = [.ref a, .ref tp] ∧ cls = .ref D ∧ d = some dd ∧ XcC K D ∧
  H tp = some (.tup cs) ∧ Paired ClsV cs cvs ∧ H dd = some (.xd fs) ∧ PySem.W.kitAny K (.ref D) cvs = some b ∧ Q (.bl b) H
theorem call_isXT {X : Cx} {a : Addr} {cls : Value} {d : Option Addr} {oe : Obj} {pn : List (Addr × Obj)} (hz : Zc cls d oe) (hf : ∃ vs, oe.data = .fields vs) : CallR (X.suite a ((a, oe) :: pn)) (.builtin "isinstance") (rIsXT X.K a cls d) := by
  intro pins sh σ H xs us Q I rel hyp
  obtain ⟨D, dd, tp, cs, cvs, b, fs, rfl, rfl, rfl, C, ht, hcs, hd, e, q⟩ := hyp
  obtain ⟨u1, u2, rfl, r1, r2⟩ := vals2 rel
  cases r1
  cases (show u2 = Value.ref tp from r2)
  obtain ⟨od, J⟩ := xc_at I hz hf hd
  have x : ObjOk X.prog X.w H sh.heap tp (.tup cs) := I.hok tp _ ht
  obtain ⟨_, its, rv, ⟨oc, odd, oda, osl⟩, h1, h2, n, h3⟩ := x
  have e3 := ClsV.all hcs rv
  subst e3
  simp only at h2 h3
  subst h2 h3
  exact PySem.W.kia_tup (PySem.W.kitx_exc C.cl C.ga C.gt C.sub C.cls C.get C.tk C.obj) I.kIn J h1 e (fun z => nomatch z) fun tk => ⟨.bl b, H, I.kept (t' := tk) fun _ _ z => z, rfl, q⟩
theorem takes0N {X : Cx} : L2N.Takes X (fun _ _ _ _ => False) := fun _ _ x => by
  obtain ⟨_, _, _, _, _, _, _, _, _, _, _, _, _, _, _, _, z⟩ := x
  exact z.elim
theorem hot_of {X : Cx} {a : Addr} {cls : Value} {d : Option Addr} {oe : Obj} {pn : List (Addr × Obj)} (hz : L2N.Zn cls d oe) (hf : ∃ vs, oe.data = .fields vs) : L2H.HotC (X.suite a ((a, oe) :: pn)) := by
  obtain ⟨vs, hv⟩ := hf
  exact ⟨(a, oe), ⟨rfl, vs, hv, hz.2.2 vs hv⟩, List.mem_cons_self⟩
theorem fun_okH {P : Program} {w : World} {K : PySem.W.Frag} {mg : Str → Option Value} {base : Heap} {x qual : Str} {st : Stmt} {f : Addr} {fd : FuncData} {N ps : List Str} {k : Nat} {sp : Sp} (F : Fun K x qual st f fd) (S : FnScope N ps (defScope st))
    (len : ∀ vs H Q E, sp vs H Q E → vs.length = ps.length)
    (body : ∀ (cdv : Value) (A : Around) (outer : List Env) (s : Shared) (H : Hp) (vs : List V) (Q : VK) (E : XK) (p : Addr × Obj), L2H.RoomH k (A.deeper (PyProof.Rows.envOfC qual (defScope st) s.heap.objs.size f cdv)) → sp vs H Q E →
      ∃ t, PSs (L2H.cxH CX0 P w K mg base N qual (defScope st) f cdv A outer s H E p) (defBody st) t ∧ t { nx := fun _ H' => Q .non H', rt := Q } (start N vs) H) : L2H.FnH P w K mg base CX0 (k + 1) f fd ps sp := by
  obtain ⟨oc, od, kV, doc, pm, an, cdv, ct, osl, rfl, lk, hcd⟩ := F.ex
  exact L2H.fn_ofH lk hcd S len fun A outer s H vs Q E p _ hr h => body cdv A outer s H vs Q E p hr h

/-- e.f where the written part is told -/
theorem pe_fldK {X : Cx} {K : PySem.W.Frag} {e : Expr} {f : Str} {ta : TE} {pos : Pos} (hK : X.K = K) (he : PE X e ta) (hb : attributeBase e f X.env (eval e X.env) = eval e X.env) : PE X (.Attribute e f pos) (tFld K ta f) := by
  subst hK
  exact pe_fld he hb
/-- list(xs) where the written part is told -/
def rListOf (K : PySem.W.Frag) : List V → Hp → VK → Prop := fun zs H Q => ∃ (p : Addr) (ys : List V), zs = [V.ref p] ∧ (SqL K H p ys ∨ SqT K H p ys) ∧ (∀ l : Addr, H l = none → Q (.ref l) (upd H l (.lst ys)))
theorem cr_listK {X : Cx} {K : PySem.W.Frag} (hK : X.K = K) : CallR X (.type "list") (rListOf K) := by
  subst hK
  exact call_list_of
/-- len of a list or tuple where the written part is told -/
def rLenOf (K : PySem.W.Frag) : List V → Hp → VK → Prop := fun zs H Q => ∃ (p : Addr) (ys : List V), zs = [V.ref p] ∧ (SqL K H p ys ∨ SqT K H p ys) ∧ Q (.int (ys.length : Int)) H
theorem cr_lenK {X : Cx} {K : PySem.W.Frag} (hK : X.K = K) : CallR X (.builtin "len") (rLenOf K) := by
  subst hK
  exact call_len_seq
/-- o.m(e, ..), m of a built-in type, where the written part is told -/
theorem pe_bmK {X : Cx} {K : PySem.W.Frag} {T id : String} {name : Str} {r : V → List V → Hp → VK → Prop} {o e : Expr} {es : List Expr} {to : TE} {t : TA} {apos cpos : Pos} (hK : X.K = K) (pa : PySem.PlainAttrs T) (slot : PySem.Slot T name id) (hty : typeOf (.builtin id) = pure (.type "method_descriptor")) (hm : MtR X id r) (ho : PE X o to) (ha : PA X (e :: es) t)
    (hbase : attributeBase o name X.env (eval o X.env) = eval o X.env := by rfl)
    (hfew : ((backTo cpos (starEach (e :: es) X.env)).all (fun x => !x.1) && (backToKw cpos (keywordEach [] X.env)).all (fun x => x.1.isSome)
      && decide ((e :: es).length + ([] : List Keyword).length + (if ([] : List Keyword).isEmpty then 0 else 1) < 30)) = true := by rfl)
    (hline : (apos.endLine == cpos.line) = true := by rfl) (hs : starEach (e :: es) X.env = (false, eval e X.env) :: starEach es X.env := by rfl) (hplain : (backTo cpos (starEach es X.env)).any (·.1) = false := by rfl) :
    PE X (.Call (.Attribute o name apos) (e :: es) [] cpos) (tBM K T r to t) := by
  subst hK
  exact pe_bm pa slot hty hm ho ha hbase hfew hline hs hplain

/-- o.m(e, ..) within a try: what the method lets out is wished for at the slots -/
def tMethT (C : Addr) (m : Str) (sp : Sp) (E : L2.St → XK) (ta : TE) (t : TA) : TE := fun σ H Q => ta σ H fun x H1 => ∃ (j dx : Addr) (fs : List (Str × V)), x = V.ref j ∧ H1 j = some (HO.ins C dx fs) ∧ fs.lookup m = Option.none ∧ (t σ H1 fun vs H2 => sp (x :: vs) H2 Q (E σ))
theorem pe_methT {X : Cx} {CX : CXT} {k : Nat} {f C : Addr} {fd : FuncData} {ps : List Str} {sp : Sp} {E : L2.St → XK} {m : Str} {apos pos : Pos} {o e : Expr} {es : List Expr} {ta : TE} {t : TA} {pl : Sem Bool} (he : PE X o ta) (c : L2.Cls X.K C) (hm : L2.Meth X.K C m f) (F : FnOk X.prog X.w X.K X.mg X.base CX k f fd ps sp)
    (hr : Room k X.A) (hb : Binds X.K fd ps []) (hx : ∀ σ, PassesAt CX X σ (E σ)) (ha : PA X (e :: es) t) (one : starEach (e :: es) X.env = (false, eval e X.env) :: starEach es X.env := by rfl) (nost : (backTo pos (starEach es X.env)).any (·.1) = false := by rfl)
    (text : eval (.Call (.Attribute o m apos) (e :: es) [] pos) X.env = (do let ov ← eval o X.env; standAt apos.atName; let (f, first) ← holding [ov] (getMethod ov m pl); callWith pos f first (backTo pos (starEach (e :: es) X.env)) (backToKw pos (keywordEach [] X.env))) := by rfl) :
    PE X (.Call (.Attribute o m apos) (e :: es) [] pos) (tMethT C m sp E ta t) := by
  constructor
  intro pins s σ H Q I hyp
  refine PySem.W.methodCall_KW (pl := pl) (thn (he.run pins s σ H _ I hyp) fun u s1 got => ?_) text
  obtain ⟨x, H1, I1, rx, j, dx, fs, ex, ej, nf, q⟩ := got
  subst ex
  have eu : u = Value.ref j := rx
  subst eu
  refine getmeth_ok I1 ej c hm nf (PySem.W.callWith_K (first := [Value.ref j]) (h₀ := X.base) I.ok.mod.kin hm.kp (thn (ha.run pos pins s1 σ H1 _ I1 q) fun us s2 got2 => ?_) one nost)
  obtain ⟨vs, H2, I2, rel, q2⟩ := got2
  exact ⟨I2.kIn, run_fnS (us := Value.ref j :: us) (vs := V.ref j :: vs) F hr hb (hx σ) I2 (.cons rfl rel) q2⟩
/-- str of a text or of an int -/
def rStrA : List V → Hp → VK → Prop := fun vs H Q => (∃ i : Int, vs = [V.int i] ∧ i.natAbs.log2 < 1920 ∧ Q (.str (toString i)) H) ∨ ∃ x : Str, vs = [V.str x] ∧ Q (.str x) H
theorem cr_strA {X : Cx} : CallR X (.type "str") rStrA := by
  intro pins sh σ H vs us Q I rel hyp
  rcases hyp with ⟨i, rfl, small, q⟩ | ⟨x, rfl, q⟩
  · exact call_str_int pins sh σ H _ us Q I rel ⟨i, rfl, small, q⟩
  · exact SkE.call_str_str pins sh σ H _ us Q I rel ⟨x, rfl, q⟩

/-! ### the same where an exception is handled -/
section
open PySem.W (ksEnv ksFn ks_superIn kxs_mw)
/-- the context of such an __init__, called while an exception is handled -/
def cxSupH (CX : CXT) (P : Program) (w : World) (K : PySem.W.Frag) (mg : Str → Option Value) (base : Heap) (N : List Str) (qual : Str) (scope : Scope) (f : Addr) (cd : Value) (cc : Addr) (A : Around) (outer : List Env) (s : Shared) (H : Hp) (E : XK) (p : Addr × Obj) : Cx where
  prog := P
  w := w
  K := K
  mg := mg
  base := base
  A := A.deeper (ksEnv qual scope s.heap.objs.size f cd cc)
  N := N
  s_0 := s
  H_0 := H
  env := ksEnv qual scope s.heap.objs.size f cd cc
  outer := outer
  stack := ksEnv qual scope s.heap.objs.size f cd cc :: outer
  ex := []
  fn := fun _ => false
  calm := false
  pn := [p]
  xe := fun e s' => wpAny (model P w) (A.deeper (ksEnv qual scope s.heap.objs.size f cd cc)) (leaving (ksEnv qual scope s.heap.objs.size f cd cc) e) (fun _ s2 => CX outer H s E e s2) (fun e2 s2 => CX outer H s E e2 s2) s'
theorem inv_supH {CX : CXT} {P : Program} {w : World} {K : PySem.W.Frag} {mg : Str → Option Value} {base : Heap} {par qual : Str} {scope : Scope} {f cc : Addr} {cd : Value} {A : Around} {outer : List Env} {s : Shared} {h1 : Heap} {H : Hp} {E : XK} {u0 u1 : Value} {v0 v1 : V} {tk : Nat} {D : Value}
    (kind : scope.kind = .function) (only : ∀ y ∈ scope.names, y.2 ≠ .cell ∧ (y.2 = .free → y.1 = ("__class__" : Str))) (l1 : scope.names.lookup ("self" : Str) = some .local) (l2 : scope.names.lookup par = some .local) (np : ¬ ("self" : Str) = par)
    {p : Addr × Obj} (hpin : L2H.PinOk outer H s p) (e0 : Env0 P w K mg base A outer s H) (r0 : RelV v0 u0) (r1 : RelV v1 u1)
    (cell : s.heap.IsCell cc (some D)) (free : H cc = Option.none) (small : cc < s.heap.objs.size)
    (ns : h1.Ns s.heap.objs.size (fun x => [(par, u1), (("self" : Str), u0)].lookup x)) (kp : ∀ b o, s.heap.get? b = some o → h1.get? b = some o) :
    L2.Inv (cxSupH CX P w K mg base ["self", par] qual scope f cd cc A outer s H E p) [] (start ["self", par] [v0, v1]) H { s with heap := h1, toks := tk } := by
  have one : ∀ (x : Str) (c : Addr), (ksEnv qual scope s.heap.objs.size f cd cc).cells.lookup x = some c → x = "__class__" ∧ c = cc := fun x c e => by
    have e' : [(("__class__" : Str), cc)].lookup x = some c := e
    by_cases z : x = "__class__"
    · subst z
      exact ⟨rfl, (Option.some.inj ((show some cc = some c from by simpa [List.lookup] using e'))).symm⟩
    · have b : (x == ("__class__" : Str)) = false := by simpa using z
      simp [List.lookup, b] at e'
  have noA : ∀ b : Addr, b ∉ (cxSupH CX P w K mg base ["self", par] qual scope f cd cc A outer s H E p).ex := fun b z => absurd (show b ∈ ([] : List Addr) from z) (by simp)
  have ok : (cxSupH CX P w K mg base ["self", par] qual scope f cd cc A outer s H E p).Ok := {
    mod := e0.mod
    kind := kind
    glob := rfl
    blt := rfl
    above := Nat.le_refl _
    inj := fun x y c h1 h2 => (one x c h1).1.trans (one y c h2).1.symm
    has := fun x hx => by
      have hx' : scope.names.lookup x = some .cell ∨ scope.names.lookup x = some .free := hx
      rcases hx' with hx' | hx'
      · exact absurd rfl (only _ (PySem.mem_of_lookup hx')).1
      · have e : x = "__class__" := (only _ (PySem.mem_of_lookup hx')).2 rfl
        subst e
        exact ⟨cc, rfl⟩
    cab := fun x c h => Bool.noConfusion h
    hd := fun z => Bool.noConfusion (show false = true from z)
    frames := Around.frames_deeper e0.frames
    stk := .inr ⟨rfl, rfl⟩
    exf := fun b z => absurd z (noA b)
    bs := e0.bs
    bsz := e0.bsz
    noex := fun b _ _ => noA b
    exfs := fun b z => absurd z (noA b)
    funs := e0.funs
    frf := e0.frf }
  exact {
    ok := ok
    os := rfl
    bare := e0.bare
    base := Un.kept kp
    loc := ⟨_, ns, fun i x v h1 h2 h3 => by
      match i, h1, h2 with
      | 0, h1, h2 =>
        cases h1
        cases h2
        refine ⟨u0, r0, .inl ⟨l1, ?_⟩⟩
        show [(par, u1), (("self" : Str), u0)].lookup ("self" : Str) = some u0
        have b : (("self" : Str) == par) = false := by simpa using np
        simp [List.lookup, b]
      | 1, h1, h2 =>
        cases h1
        cases h2
        refine ⟨u1, r1, .inl ⟨l2, ?_⟩⟩
        show (match par == par with | true => some u1 | false => [(("self" : Str), u0)].lookup par) = some u1
        rw [beq_self_eq_true]
      | i + 2, h1, h2 =>
        have h3 : (["self", par] : List Str)[i + 2]? = some x := h1
        simp at h3⟩
    cell := fun x c e => by
      obtain ⟨_, rfl⟩ := one x c e
      obtain ⟨o, ho, hc⟩ := cell
      exact ⟨_, o, kp _ _ ho, hc⟩
    free := e0.hok.fresh (Nat.le_refl _)
    freeC := fun x c e => by
      obtain ⟨_, rfl⟩ := one x c e
      exact free
    pin := fun q hq => by
      have eq : q = p := by simpa using (show q ∈ [p] ++ ([] : List (Addr × Obj)) from hq)
      rw [eq]
      exact ⟨kp _ _ hpin.get, hpin.free, Nat.ne_of_lt (Heap.lt_size hpin.get), hpin.nofs, hpin.nocell⟩
    hok := e0.hok.kept kp
    len := rfl }
/-- THE RULE, where an exception is handled: such an __init__ keeps its promise -/
theorem ok_supH {CX : CXT} {P : Program} {w : World} {K : PySem.W.Frag} {mg : Str → Option Value} {base : Heap} {C f : Addr} {fd : FuncData} {qual par fld : Str} {st : Stmt} {msg : Expr} {p0 p1 p2 p3 p4 p5 p6 p7 p8 : Pos} {good : V → Prop}
    (S : SupCls P K C qual par fld st f fd) (T : SupTxt par fld st msg p0 p1 p2 p3 p4 p5 p6 p7 p8) (np : ¬ ("self" : Str) = par) (nd : (par == ("__debug__" : Str)) = false) (nc : (par == ("__classdict__" : Str)) = false) (noS : mg "super" = Option.none)
    (hmsg : ∀ (cd : Value) (cc : Addr) (A : Around) (outer : List Env) (s : Shared) (H : Hp) (E : XK) (p : Addr × Obj) (e : Addr) (v : V), good v →
      ∃ ta, PA (cxSupH CX P w K mg base ["self", par] qual (defScope st) f cd cc A outer s H E p) [msg] ta ∧ ∀ H1 Q, (∀ x, Q [x] H1) → ta (start ["self", par] [.ref e, v]) H1 Q)
    (star : ∀ env, starEach [msg] env = [(false, eval msg env)]) (inter : ∀ L g cd cc, interactive (ksEnv qual (defScope st) L g cd cc) = false) (swap : ∀ L g cd cc, swapsWith (.Call (.Attribute (.Call (.Name "super" p0) [] [] p1) "__init__" p2) [msg] [] p3) Option.none p4.line (ksEnv qual (defScope st) L g cd cc) = pure false)
    (swap2 : ∀ L g cd cc, swapsWith (.Name par p7) (some (.Attribute (.Name "self" p5) fld p6)) p8.line (ksEnv qual (defScope st) L g cd cc) = pure false)
    (pl : Sem Bool) (he : ∀ (env : Env), eval (.Call (.Attribute (.Call (.Name "super" p0) [] [] p1) "__init__" p2) [msg] [] p3) env = (do
      let ov ← attributeBase (.Call (.Name "super" p0) [] [] p1) "__init__" env (eval (.Call (.Name "super" p0) [] [] p1) env)
      standAt p2.atName
      let (f, first) ← holding [ov] (getMethod ov "__init__" pl)
      callWith p3 f first (backTo p3 (starEach [msg] env)) [])) :
    L2H.FnH P w K mg base CX 1 f fd ["self", par] (spSup C fld good) := by
  obtain ⟨oc, od, kV, doc, pm, an, cda, ct, osl, cc, cl, cld, csl, ccl, cdd, vs, ccs, file, tf, rfl, lk, hcd, hcell, hcode, hvs, hfile⟩ := S.fn
  refine ⟨fun vs H Q E h => ?_, fun A outer s H args us vs0 Q E p hr hot hpin e0 hb rel hsp => ?_⟩
  · obtain ⟨e, v, rfl, _⟩ := h
    rfl
  obtain ⟨e, v, rfl, hexo, hgood, fin⟩ := hsp
  have KX : K.In s.heap := e0.mod.kin.keeps fun b o z => (e0.bs b o z).1
  have lim : s.heap.NoLimit := e0.mod.nolimit.keeps fun b o z => (e0.bs b o z).1
  obtain ⟨u0, u1, rfl, r0, r1⟩ := vals2 rel
  have isCell : s.heap.IsCell cc (some (.ref C)) := ⟨_, KX _ _ hcell, rfl⟩
  have freeC : H cc = Option.none := (e0.bs _ _ (e0.mod.kin _ _ hcell)).2
  refine ks_codeAny_call_defAt (fd := ksFn "__init__" qual (defArgs st) (defBody st) (defScope st) .none kV doc pm an (.ref cda) ct cc) (body := defBody st) (binds := [(("self" : Str), u0), (par, u1)]) hr.depth (KX _ _ lk) rfl lim (PySem.W.codeRec_of KX hcd) rfl hb (fun x hx => (T.only x hx).1) ?_ (fun h1 ns kp => ?_) T.co T.gen T.kind
  · intro y hy
    rcases List.mem_cons.mp hy with rfl | hy
    · exact T.s1
    · rw [List.mem_singleton.mp hy]
      exact T.s2
  have I : L2.Inv (cxSupH CX P w K mg base ["self", par] qual (defScope st) f (.ref cda) cc A outer s H E p) [] (start ["self", par] [.ref e, v]) H { s with heap := h1, toks := s.toks + 2 } :=
    inv_supH T.kind T.only T.s1 T.s2 np hpin e0 r0 r1 isCell freeC (Heap.lt_size (KX _ _ hcell)) ns kp
  show wpAt (model P w) (A.deeper (ksEnv qual (defScope st) s.heap.objs.size f (.ref cda) cc)) (.func (defBody st) (ksEnv qual (defScope st) s.heap.objs.size f (.ref cda) cc)) (execs (defBody st) (ksEnv qual (defScope st) s.heap.objs.size f (.ref cda) cc)) _ _ _
  rw [T.body]
  obtain ⟨hp, g, d, tk, os⟩ := s
  have up : ∀ b o, base.get? b = some o → h1.get? b = some o := fun b o z => kp b o (e0.bs b o z).1
  have K1 : K.In h1 := e0.mod.kin.keeps up
  obtain ⟨mb, hmb, hbb⟩ := e0.mod.blt
  obtain ⟨ar, har, earg⟩ := T.ps
  cases (show u0 = Value.ref e from r0)
  obtain ⟨t1, hx⟩ := exo_at I.hok hexo
  obtain ⟨nm, qn, N, bs, bm, sn, sub, ab, col, dd, k0, k1, k2, k3, k5, hC, hbm⟩ := S.oex.cls
  have hcl : PySem.W.clsIn K C = some { name := nm, bases := bs, mro := .ref C :: bm, ns := N, qualname := qn, hasDict := true, slotNames := sn, subclasses := sub, abstract := ab, collection := col, hasDel := false } := by
    unfold PySem.W.clsIn
    rw [hC]
  refine ks_wpAt_execs_cons (ks_wpAt_Expr_any (ks_wpAt_MethodCall (pl := pl) ?_ (he _)) (inter _ _ _ _) (swap _ _ _ _))
  refine ks_wpAt_super_base (env := ksEnv qual (defScope st) hp.objs.size f (.ref cda) cc) T.s4 T.s3 (by decide) rfl (kp _ _ (KX _ _ lk)) rfl har rfl (K1 _ _ hcode) rfl hvs hfile S.topS ?_
  refine PySem.W.ks_loadName_global T.kind T.s4 (PySem.Calls.loadGlobal_builtin (env := ksEnv qual (defScope st) hp.objs.size f (.ref cda) cc) (e0.mod.glob.keeps up) noS (hmb.keeps up) ((hbb "super" (by decide)).trans (by decide +kernel)) ⟨rfl, ?_⟩)
  refine wpAny_loadName_free T.kind T.s3 rfl ⟨_, K1 _ _ hcell, rfl⟩ ?_
  rw [earg]
  refine wpAny_loadName_local T.kind T.s1 ns (v := .ref e) ?_ ?_
  · show [(par, u1), (("self" : Str), Value.ref e)].lookup ("self" : Str) = some (.ref e)
    have b : (("self" : Str) == par) = false := by simpa using np
    simp [List.lookup, b]
  refine ks_wpAny_isType_cls (K1 _ _ hC) rfl ⟨rfl, ?_⟩
  refine ks_wpAny_call_super (K1 _ _ hC) rfl hx rfl (fun c z => by cases z) (PySem.W.looks_mroIn K1 S.mroC) (fun h2 hso kp2 => ?_)
  have K2 : K.In h2 := K1.keeps kp2
  have hx2 := kp2 _ _ hx
  have inst : PySem.W.InstAt h2 e { cls := .ref C, dict := Option.none, data := .fields #[.ref t1, .none, .none, .none, .bool false, .none] } C Option.none := ⟨hx2, rfl, rfl, trivial⟩
  have hf := S.sup
  unfold ks_superIn at hf
  rw [hcl] at hf
  have neC : e ≠ C := fun z => by
    have q := (e0.bs _ _ (e0.mod.kin _ _ hC)).2
    rw [← z, hexo] at q
    cases q
  refine PySem.W.kxs_getMethod PySem.W.kxs_ValueError hso (PySem.W.looks_opaque K2 S.opq) (l₀ := .ref C :: bm) ((PySem.W.looks_clsIn K2 hcl).andThen .now) rfl K2 hf (inst.type.andThen (PySem.W.looks_subIn K2 S.subV)) neC (by decide) ?_
  have hmw : (h2.push (kxs_mw "ValueError.__init__" e)).get? h2.objs.size = some (kxs_mw "ValueError.__init__" e) := Heap.get?_push_size _ rfl
  have kp3 : ∀ b o, h1.get? b = some o → (h2.push (kxs_mw "ValueError.__init__" e)).get? b = some o := fun b o z => Heap.get?_push_of_some _ (kp2 b o z)
  have Ih := I.kept (h' := h2) (t' := tk + 2) kp2
  have I2 := I.kept (h' := h2.push (kxs_mw "ValueError.__init__" e)) (t' := tk + 2 + 1) kp3
  have I3 : L2.Inv (cxSupH CX P w K mg base ["self", par] qual (defScope st) f (.ref cda) cc A outer ⟨hp, g, d, tk, os⟩ H E p) [(h2.objs.size, kxs_mw "ValueError.__init__" e)] (start ["self", par] [.ref e, v]) H ⟨h2.push (kxs_mw "ValueError.__init__" e), g, d, tk + 2 + 1, os⟩ := { I2 with
    pin := fun q hq => by
      rcases List.mem_append.mp (show q ∈ [p] ++ [(h2.objs.size, kxs_mw "ValueError.__init__" e)] from hq) with hq | hq
      · exact I2.pin q (List.mem_append_left _ hq)
      cases List.mem_singleton.mp hq
      refine ⟨hmw, Ih.hok.fresh (Nat.le_refl _), Nat.ne_of_gt Ih.lt, Ih.nofs (Nat.le_refl _), fun c z => by cases z⟩ }
  obtain ⟨ta, pa, rd⟩ := hmsg (.ref cda) cc A outer ⟨hp, g, d, tk, os⟩ H E p e v hgood
  have st1 := star (ksEnv qual (defScope st) hp.objs.size f (.ref cda) cc)
  have ran : wpAny (model P w) (A.deeper (ksEnv qual (defScope st) hp.objs.size f (.ref cda) cc)) (spliced (backTo p3 (starEach [msg] (ksEnv qual (defScope st) hp.objs.size f (.ref cda) cc)))) _ _ _ :=
    pa.run p3 _ _ _ _ (fun vs H1 => H1 = H ∧ vs.length = 1) I3 (rd H _ fun x => ⟨rfl, rfl⟩)
  show wpAny _ _ (callWith p3 (.ref h2.objs.size) [] (backTo p3 (starEach [msg] (ksEnv qual (defScope st) hp.objs.size f (.ref cda) cc))) []) _ _ _
  rw [st1] at ran ⊢
  refine PySem.W.kxs_callWith (i := "ValueError.__init__") (x := e) (u := h2.objs.size) rfl (PySem.Calls.evalArgs_plain (thn ran fun us s3 got => ?_))
  obtain ⟨vs1, H1, I4, rel1, rfl, len1⟩ := got
  have hu := (I4.pin _ (List.mem_append_right [p] List.mem_cons_self)).1
  refine ⟨hu, call_mw S.oex I4 hexo hu (by show us.length ≤ sizeLine; rw [← Vals.length rel1, len1, sizeLine_eq]; decide) fun s4 I5 => ?_⟩
  have last : PSs (cxSupH CX P w K mg base ["self", par] qual (defScope st) f (.ref cda) cc A outer ⟨hp, g, d, tk, os⟩ H1 E p) [.Assign [.Attribute (.Name "self" p5) fld p6] (.Name par p7) p8] _ :=
    pss_one (ps_ost (pv 0 rfl (.inl T.s1)) (pv 1 rfl (.inl T.s2) nd nc) (swap2 _ _ _ _))
  refine wpAt_of_wpAny (thn (last.run _ s4 _ H1 { nx := fun _ H2 => Q .non H2, rt := Q } I5 ⟨v, rfl, .ref e, rfl, e, C, rfl, S.oex, S.nof, .inl ⟨hexo, fin⟩⟩) fun fl s5 got => ?_)
  cases fl with
  | next =>
    obtain ⟨σ', H', J, q⟩ := got
    exact ⟨V.non, H', J.os, J.bare, J.base, J.hok, rfl, q⟩
  | ret u =>
    obtain ⟨y, σ', H', J, ry, q⟩ := got
    exact ⟨y, H', J.os, J.bare, J.base, J.hok, ry, q⟩
  | brk =>
    obtain ⟨_, _, _, q⟩ := got
    exact q.elim
  | cont =>
    obtain ⟨_, _, _, q⟩ := got
    exact q.elim
end
theorem pmk_weak {X : Cx} {e : Expr} {t : L2.St → Hp → XK → Prop} (h : L2N.PMk X e t) : PMk X e t := fun pins s σ H Q I q => thn (h pins s σ H Q I q) fun _ _ ⟨a, oe, vs, sI, H1, cls, d, e1, J, k, e2, e3, z, x⟩ => ⟨a, oe, vs, sI, H1, cls, d, e1, J, k, e2, e3, z.zc, x⟩
theorem sky_imp {B : Heap} {l : List Env} {a L : Addr} {Z Z' : Obj → Prop} {h : Heap} (z : ∀ o, Z o → Z' o) (x : Sky B l a Z L h) : Sky B l a Z' L h := by
  rcases x with ⟨h1, h2, h3, oe, vs, e1, e2, e3⟩ | x | ⟨h1, h2, h3, x⟩
  · exact .inl ⟨h1, h2, h3, oe, vs, e1, z _ e2, e3⟩
  · exact .inr (.inl (L2H.flyingZ_imp z x))
  · exact .inr (.inr ⟨h1, h2, h3, L2H.tracedZ_imp z x⟩)
theorem takesN_of {X : Cx} {W : WX} (tk : Takes X W) : L2N.Takes X W := fun u s' ⟨a, B, sI, pins, σ, H, cls, d, e, I, nb, up, sky, x⟩ => tk u s' ⟨a, B, sI, pins, σ, H, cls, d, e, I, nb, up, sky_imp (fun _ z => z.zc) sky, x⟩
/-- a statement whose reading is kept whole -/
def tWhole (t : TS) : TS := t
theorem ps_whole {X : Cx} {st : Stmt} {t : TS} (h : PS X st t) : PS X st (tWhole t) := h

/-! ### a def called while any exception is handled -/
structure FnW (P : Program) (w : World) (K : PySem.W.Frag) (mg : Str → Option Value) (base : Heap) (k : Nat) (f : Addr) (fd : FuncData) (ps : List Str) (sp : Sp) : Prop where
  len : ∀ vs H Q E, sp vs H Q E → vs.length = ps.length
  run : ∀ (A : Around) (out : List Env) (s : Shared) (H : Hp) (ar : Args) (us : List Value) (vs : List V) (Q : VK) (E : XK) (p : Addr × Obj), L2H.RoomH k A → L2H.PinOk out H s p → Env0 P w K mg base A out s H →
    BindsTo s fd ar (ps.zip us) → Vals vs us → sp vs H Q E → codeAny (model P w) A (.call (.ref f) ar) (CR CX0 out P w H s Q E) s
theorem fun_okW {P : Program} {w : World} {K : PySem.W.Frag} {mg : Str → Option Value} {base : Heap} {x qual : Str} {st : Stmt} {f : Addr} {fd : FuncData} {N ps : List Str} {k : Nat} {sp : Sp} (F : Fun K x qual st f fd) (S : FnScope N ps (defScope st))
    (len : ∀ vs H Q E, sp vs H Q E → vs.length = ps.length)
    (body : ∀ (cdv : Value) (A : Around) (out : List Env) (s : Shared) (H : Hp) (vs : List V) (Q : VK) (E : XK) (p : Addr × Obj), L2H.RoomH k (A.deeper (PyProof.Rows.envOfC qual (defScope st) s.heap.objs.size f cdv)) → sp vs H Q E →
      ∃ t, PSs (L2H.cxH CX0 P w K mg base N qual (defScope st) f cdv A out s H E p) (defBody st) t ∧ t { nx := fun _ H' => Q .non H', rt := Q } (start N vs) H) : FnW P w K mg base (k + 1) f fd ps sp := by
  obtain ⟨oc, od, kV, doc, pm, an, cdv, ct, osl, rfl, lk, hcd⟩ := F.ex
  constructor
  · exact len
  intro A out s H ar us vs Q E p room pin env bind vals want
  have up : ∀ b o, base.get? b = some o → s.heap.get? b = some o := fun b o z => (env.bs b o z).1
  have KX : K.In s.heap := env.mod.kin.keeps up
  have places : ∀ y ∈ ps.zip us, (defScope st).names.lookup y.1 = some .local ∨ ((defScope st).names.lookup y.1 = some .cell ∧ ((cellsFrom (s.heap.objs.size + 1) (defScope st).names []).lookup y.1).isSome = true) := by
    rintro ⟨n, v⟩ hy
    exact (S.par n (List.of_mem_zip hy).1).imp id fun q => ⟨q, PySem.W.cellsFrom_some _ _ _ (.inl q)⟩
  refine codeAny_call_function room.depth (KX _ _ lk) rfl S.co S.gen rfl (PySem.W.codeRec_of KX hcd) (bind _ _ _ _ ?_)
  refine wpAny_newFunctionEnv_cells S.kind places fun e he s1 x => ?_
  cases he
  refine ⟨(env.mod.nolimit.keeps up).keeps x.toInCall.keep, codeAny_func ?_⟩
  obtain ⟨t, ht, hq⟩ := body cdv A out s H vs Q E p (room.deeper _) want
  refine wpAny_mono (ht.run [] s1 _ H _ (L2H.inv_startH S pin env (len _ _ _ _ want) vals x) hq) (fun fl s' got => ?_) fun _ _ z => z
  cases fl with
  | next =>
    obtain ⟨_, H2, J, q⟩ := got
    exact ⟨V.non, H2, J.os, J.bare, J.base, J.hok, rfl, q⟩
  | ret u =>
    obtain ⟨v, _, H2, J, rv, q⟩ := got
    exact ⟨v, H2, J.os, J.bare, J.base, J.hok, rv, q⟩
  | brk => exact got.elim fun _ z => z.elim fun _ z => z.2.elim
  | cont => exact got.elim fun _ z => z.elim fun _ z => z.2.elim
theorem pe_callW {X : Cx} {k : Nat} {f : Addr} {fd : FuncData} {ps : List Str} {sp : Sp} {x : Str} {q pos : Pos} {e : Expr} {es : List Expr} {t : TA} {p : Addr × Obj} (F : FnW X.prog X.w X.K X.mg X.base k f fd ps sp) (room : L2H.RoomH k X.A) (hp : p ∈ X.pn) (hg : Gl X x) (hm : X.mg x = some (.ref f)) (hk : PySem.W.keepIn X.K (.ref f) = true)
    (hb : Binds X.K fd ps []) (ha : PA X (e :: es) t) (hdb : (x == ("__debug__" : Str)) = false := by decide) (he : starEach (e :: es) X.env = (false, eval e X.env) :: starEach es X.env := by rfl) (hpl : (backTo pos (starEach es X.env)).any (·.1) = false := by rfl) :
    PE X (.Call (.Name x q) (e :: es) [] pos) (tCallS sp (fun _ => E0) t) := by
  constructor
  intro pins s σ H Q I want
  refine wpAny_Call_Name_kw (ld_glob I hg hm ?_ hdb)
  refine PySem.W.callWith_K (h₀ := X.base) I.ok.mod.kin hk (thn (ha.run pos pins s σ H _ I want) fun us s1 got => ?_) he hpl
  obtain ⟨vs, H1, I1, vals, ask⟩ := got
  refine ⟨I1.kIn, ?_⟩
  have same : us.length = ps.length := vals.length.symm.trans (F.len _ _ _ _ ask)
  have bind := hb s1 us I1.kIn ((congrArg List.length (List.append_nil us)).trans same)
  rw [List.append_nil] at bind
  have at1 := I1.pin p (List.mem_append_left _ hp)
  have pin : L2H.PinOk X.stack H1 s1 p := by
    refine ⟨at1.1, at1.2.1, fun hmm => ?_, at1.2.2.2.2⟩
    rcases List.mem_cons.mp (I1.stkSub p.1 hmm) with z | z
    · exact at1.2.2.1 z
    · exact at1.2.2.2.1 z
  refine wpAny_call (codeAny_mono (F.run X.A X.stack s1 H1 ⟨us, []⟩ us vs Q E0 p room pin I1.env0 bind vals ask) fun r s2 fin => ?_)
  cases r with
  | error z => exact (fin : False).elim
  | ok fl =>
    cases fl with
    | ret u => exact I1.after fin
    | next => exact (fin : False).elim
    | brk => exact (fin : False).elim
    | cont => exact (fin : False).elim

/-! ### a tuple times nought -/
section
open PyProof.Rows
theorem tuple_mul0 (l : Addr) (items : Array Value) (n : Nat) (dd : Option Addr) (sl : Array (Option Value)) (u : Tok) (c1 : (items.isEmpty || (0 : Int) == 1) = false) :
    Meets (Builtin.«tuple.__mul__» ⟨[.ref l, .int 0 u], []⟩) (fun _ R s => s.heap.get? l = some { cls := .type "tuple", dict := dd, data := .seq items n, slots := sl } ∧
      R (.ok (.ret (Value.ref s.heap.objs.size))) { s with heap := s.heap.push { cls := Value.type "tuple", data := Data.seq #[] }, toks := s.toks }) :=
  .of_wp fun prog w A R s h => by
    obtain ⟨hp, g, d, tk, os⟩ := s
    obtain ⟨hl, h⟩ := h
    have f1 := AutoSeq1.idx_int
    have c0 : (decide ((0 : Int) < -(2 ^ 63)) || decide ((0 : Int) ≥ 2 ^ 63)) = false := by decide
    have c2 : (decide ((0 : Int) ≤ 0) || items.isEmpty) = true := rfl
    wp_walk using wpAny_loadPart' hl
    repeat (first
      | (refine wpAny_ite_false (decide_eq_false (by rw [c0]; exact Bool.false_ne_true)) ?_; wp_walk using wpAny_loadPart' hl)
      | (refine wpAny_ite_false (decide_eq_false (by rw [c1]; exact Bool.false_ne_true)) ?_; wp_walk using wpAny_loadPart' hl)
      | (refine wpAny_ite_true (decide_eq_true (by rw [c2])) ?_; wp_walk using wpAny_loadPart' hl))
    exact ⟨_, rfl, h⟩
def rRepT0 (K : PySem.W.Frag) : R2 := fun x y H Q => ∃ l xs, x = .ref l ∧ y = .int 0 ∧ SqT K H l xs ∧ xs ≠ [] ∧ ∀ p, H p = none → Q (.ref p) (_root_.L2.upd H p (.tup []))
theorem op_repT0 {X : Cx} : OpR X (binaryOp .Mult) (rRepT0 X.K) := by
  intro pins s σ H x y v u Q I rx ry h
  obtain ⟨l, xs, rfl, rfl, hT, hne, q⟩ := h
  cases rx
  obtain ⟨t, rfl⟩ := ry
  obtain ⟨its, r, ⟨⟨cls, dd, data, sl⟩, ho, hc, n, hd⟩, hs⟩ := I.tuple hT
  simp only at hc hd
  subst hc hd
  have hle : its.length = xs.length := r.length.symm
  have hn : its ≠ [] := fun e => hne (by
    rw [e] at hle
    exact List.eq_nil_of_length_eq_zero hle.symm)
  have hi : its.toArray.isEmpty = false := by
    cases its with
    | nil => exact absurd rfl hn
    | cons a b => rfl
  have c1 : (its.toArray.isEmpty || (0 : Int) == 1) = false := by
    rw [hi, Bool.false_or]
    rfl
  refine wpAny_binaryOp_repeat_ref (T := "tuple") (U := "int") (by decide) ⟨_, ho, rfl⟩ (fun s' => typeIs_int s' 0 t) noFill_tuple_mul F.fills_int_mul F.slot_int_rmul repeat_tuple F.slot_int_index.lookup
    (call_meets F.slot_int_rmul (typeIs_int s 0 t) F.entry_int_rmul (F.args_int_rmul_2 _ _) (int_rmul_tuple 0 t l its.toArray n dd sl)
      ⟨ho, rfl, ⟨_, ho, rfl⟩, call_meets F.slot_tuple_mul ⟨_, ho, rfl⟩ F.entry_tuple_mul (F.args_tuple_mul_2 _ _) (tuple_mul0 l its.toArray n dd sl t c1) ⟨ho, ?_⟩⟩)
  refine ⟨.ref s.heap.objs.size, _, I.laid (t' := s.toks) (o := .tup []) (fun b ob q => Heap.get?_push_of_some _ q) (Nat.le_refl _) ?_, rfl, q _ (I.hok.fresh (Nat.le_refl _))⟩
  exact ⟨(by show 0 ≤ sizeLine; decide), [], .nil, IsTup.new _ _⟩
end

structure TxtE (P : Program) (w : World) (K : PySem.W.Frag) (mg : Str → Option Value) (a : Ads) : Prop where
  g_MARKS : mg "MARKS" = some (.ref a.P_MARKS)
  tab_MARKS : KTab K w a.P_MARKS [("p", a.M_MARKS_p), ("w", a.M_MARKS_w), ("d", a.M_MARKS_d), ("k", a.M_MARKS_k)]
  s_MARKS_p : ∀ H, SqT K H a.M_MARKS_p [V.str "p", V.str "q", V.str "r"]
  s_MARKS_w : ∀ H, SqT K H a.M_MARKS_w [V.str "w", V.str "x"]
  s_MARKS_d : ∀ H, SqT K H a.M_MARKS_d [V.str "d", V.str "z"]
  s_MARKS_k : ∀ H, SqT K H a.M_MARKS_k [V.str "k", V.str "b", V.str "v"]
  g_BadCommand : mg "BadCommand" = some (.ref a.C_BadCommand)
  x_BadCommand : PySem.W.excIn K a.C_BadCommand [.type "ValueError", .type "Exception", .type "BaseException", .type "object"] "ValueError.__new__" = true
  kc_BadCommand : PySem.W.keepIn K (.ref a.C_BadCommand) = true
  b_BadCommand : PySem.W.subIn K (.ref a.C_BadCommand) (.type "BaseException") = some true
  t_BadCommand : PySem.W.typeIn K (.ref a.C_BadCommand) = some (.type "type")
  xc_BadCommand : XcC K a.C_BadCommand
  exm_BadCommand_BadCommand : PySem.W.exmOne K (.ref a.C_BadCommand) (.ref a.C_BadCommand) = some true
  g_BadPaper : mg "BadPaper" = some (.ref a.C_BadPaper)
  x_BadPaper : PySem.W.excIn K a.C_BadPaper [.type "ValueError", .type "Exception", .type "BaseException", .type "object"] "ValueError.__new__" = true
  kc_BadPaper : PySem.W.keepIn K (.ref a.C_BadPaper) = true
  b_BadPaper : PySem.W.subIn K (.ref a.C_BadPaper) (.type "BaseException") = some true
  t_BadPaper : PySem.W.typeIn K (.ref a.C_BadPaper) = some (.type "type")
  xc_BadPaper : XcC K a.C_BadPaper
  kt_BadPaper_BadPaper : PySem.W.kitOne K (.ref a.C_BadPaper) (.ref a.C_BadPaper) = some true
  exm_BadPaper_BadPaper : PySem.W.exmOne K (.ref a.C_BadPaper) (.ref a.C_BadPaper) = some true
  g_BadLine : mg "BadLine" = some (.ref a.C_BadLine)
  sup_BadLine : ∃ fd, SupCls P K a.C_BadLine "BadLine.__init__" "at" "at" s_BadLine_init a.d_BadLine_init fd ∧ Binds K fd ["self", "at"] []
  iC_BadLine : PySem.W.findIn K (.ref a.C_BadLine) "__init__" = some (some (.ref a.d_BadLine_init))
  tI_BadLine : PySem.W.typeIn K (.ref a.d_BadLine_init) = some (.type "function")
  oex_BadLine : OexC K a.C_BadLine
  xc_BadLine : XcC K a.C_BadLine
  g_BadArchive : mg "BadArchive" = some (.ref a.C_BadArchive)
  sup_BadArchive : ∃ fd, SupCls P K a.C_BadArchive "BadArchive.__init__" "at" "at" s_BadArchive_init a.d_BadArchive_init fd ∧ Binds K fd ["self", "at"] []
  iC_BadArchive : PySem.W.findIn K (.ref a.C_BadArchive) "__init__" = some (some (.ref a.d_BadArchive_init))
  tI_BadArchive : PySem.W.typeIn K (.ref a.d_BadArchive_init) = some (.type "function")
  oex_BadArchive : OexC K a.C_BadArchive
  xc_BadArchive : XcC K a.C_BadArchive
  g_KINDS : mg "KINDS" = some (.ref a.P_KINDS)
  s_KINDS : ∀ H, SqT K H a.P_KINDS [V.str "proposal", V.str "prevote", V.str "precommit"]
  exm_BadLine_BadLine : PySem.W.exmOne K (.ref a.C_BadLine) (.ref a.C_BadLine) = some true
  g_TribunalError : mg "TribunalError" = some (.ref a.C_TribunalError)
  exm_TribunalError_BadArchive : PySem.W.exmOne K (.ref a.C_BadArchive) (.ref a.C_TribunalError) = some true
  kta_BadArchive_BadLine_BadPaper : PySem.W.kitAny K (.ref a.C_BadArchive) [.ref a.C_BadLine, .ref a.C_BadPaper] = some false
  kt_BadArchive_BadArchive : PySem.W.kitOne K (.ref a.C_BadArchive) (.ref a.C_BadArchive) = some true

def spFirst (K : PySem.W.Frag) : Sp := fun vs H Q _ => ∃ (p : Addr) (ws : List Int), vs = [.ref p] ∧ SqL K H p (ws.map V.int) ∧ GoodW ws ∧ ∀ H', Same H H' → Q .non H'
def spInit (K : PySem.W.Frag) (C : Addr) : Sp := fun vs H Q _ => ∃ (p dx l : Addr) (ws : List Int), vs = [.ref p, .ref l] ∧ H p = some (.ins C dx []) ∧ SqL K H l (ws.map V.int) ∧ GoodW ws ∧
  ∀ H' : Hp, CommAt C H' p ws → (∀ b o, H b = some o → b ≠ p → H' b = some o) → Q .non H'

def spWof (K : PySem.W.Frag) (C : Addr) : Sp := fun vs H Q _ => ∃ (p l : Addr) (ws ms : List Int), vs = [.ref p, .ref l] ∧ CommAt C H p ws ∧ ws.length ≤ 16 ∧ SqL K H l (ms.map V.int) ∧ ms.length ≤ 1000 ∧ ∀ H', Same H H' → Q (.int (wOf ws ms)) H'
def spQuorum (K : PySem.W.Frag) (C : Addr) : Sp := fun vs H Q _ => ∃ (p l : Addr) (ws ms : List Int), vs = [.ref p, .ref l] ∧ CommAt C H p ws ∧ ws.length ≤ 16 ∧ SqL K H l (ms.map V.int) ∧ ms.length ≤ 1000 ∧ ∀ H', Same H H' → Q (.bl (decide (2 * ws.sum < 3 * wOf ws ms))) H'

/-! ### votes by turn, and the turns that they certify -/
def selV (kd : Kd) (h : Int) (b : Option Str) (x : Lt) : Bool := decide (b ≠ none ∧ x.m.k = kd ∧ x.m.h = h ∧ x.m.b = b)
def inT (kd : Kd) (h : Int) (b : Option Str) (t : Int) (x : Lt) : Bool := selV kd h b x && decide (x.m.t = t)
def vbK (ks : List (Int × Addr)) : List (Key × V) := ks.map fun e => (Sum.inl e.1, V.ref e.2)
structure VbAt (H : Hp) (D : Addr) (xs : List Lt) (kd : Kd) (h : Int) (b : Option Str) (ks : List (Int × Addr)) : Prop where
  here : H D = some (.dK (vbK ks))
  nd : (ks.map (·.1)).Nodup
  nl : (ks.map (·.2)).Nodup
  ls : ∀ e ∈ ks, ∃ qs, H e.2 = some (.lst (qs.map V.ref)) ∧ LsAt H qs (xs.filter (inT kd h b e.1))
  ky : ∀ t : Int, t ∈ ks.map (·.1) ↔ ∃ x ∈ xs, inT kd h b t x = true
  few : ks.length ≤ xs.length
theorem VbAt.same {H H' : Hp} {D : Addr} {xs : List Lt} {kd : Kd} {h : Int} {b : Option Str} {ks : List (Int × Addr)} (v : VbAt H D xs kd h b ks) (s : Same H H') : VbAt H' D xs kd h b ks :=
  ⟨s _ _ v.here, v.nd, v.nl, fun e he => let ⟨qs, h1, h2⟩ := v.ls e he; ⟨qs, s _ _ h1, h2.same s⟩, v.ky, v.few⟩
theorem val_vb {t : Int} : ∀ {ks : List (Int × Addr)}, t ∈ ks.map (·.1) → ∃ l, (t, l) ∈ ks ∧ valV (vbK ks) (Sum.inl t) = some (.ref l)
  | [], h => nomatch h
  | e :: ks, h => by
    by_cases c : e.1 = t
    · exact ⟨e.2, by rw [← c]; exact List.mem_cons_self, valV_pos (p := (Sum.inl e.1, V.ref e.2)) (by rw [c])⟩
    · obtain ⟨l, h1, h2⟩ := val_vb (ks := ks) ((List.mem_cons.mp h).resolve_left fun z => c z.symm)
      exact ⟨l, List.mem_cons_of_mem _ h1, (valV_neg (p := (Sum.inl e.1, V.ref e.2)) (fun z => c (Sum.inl.inj z))).trans h2⟩
theorem val_vbn {t : Int} : ∀ {ks : List (Int × Addr)}, t ∉ ks.map (·.1) → valV (vbK ks) (Sum.inl t) = none
  | [], _ => rfl
  | e :: ks, h => by
    have c : ¬ e.1 = t := fun z => h (by rw [← z]; exact List.mem_cons_self)
    exact (valV_neg (p := (Sum.inl e.1, V.ref e.2)) (fun z => c (Sum.inl.inj z))).trans (val_vbn fun z => h (List.mem_cons_of_mem _ z))
theorem putK_new {kvs : List (Key × V)} {k : Key} {v : V} (h : valV kvs k = none) : putK kvs k v = kvs ++ [(k, v)] := by
  unfold putK
  rw [valV_any, h]
  rfl
theorem filt_no {xs : List Lt} {x : Lt} {p : Lt → Bool} (h : p x = false) : (xs ++ [x]).filter p = xs.filter p := by
  rw [List.filter_append, List.filter_cons_of_neg (by rw [h]; exact Bool.false_ne_true), List.filter_nil, List.append_nil]
theorem filt_yes {xs : List Lt} {x : Lt} {p : Lt → Bool} (h : p x = true) : (xs ++ [x]).filter p = xs.filter p ++ [x] := by
  rw [List.filter_append, List.filter_cons_of_pos h, List.filter_nil]
theorem inT_t {kd : Kd} {h : Int} {b : Option Str} {t : Int} {x : Lt} (c : inT kd h b t x = true) : t = x.m.t := by
  unfold inT at c
  exact (of_decide_eq_true (Bool.and_eq_true_iff.mp c).2).symm
theorem inT_self {kd : Kd} {h : Int} {b : Option Str} {x : Lt} (c : selV kd h b x = true) : inT kd h b x.m.t x = true := by
  unfold inT
  rw [c]
  simp
theorem inT_no {kd : Kd} {h : Int} {b : Option Str} {t : Int} {x : Lt} (c : selV kd h b x = false) : inT kd h b t x = false := by
  unfold inT
  rw [c]
  rfl
theorem VbAt.skip {H : Hp} {D : Addr} {xs : List Lt} {x : Lt} {kd : Kd} {h : Int} {b : Option Str} {ks : List (Int × Addr)} (v : VbAt H D xs kd h b ks) (c : selV kd h b x = false) : VbAt H D (xs ++ [x]) kd h b ks := by
  refine ⟨v.here, v.nd, v.nl, fun e he => ?_, fun t => ?_, ?_⟩
  · rw [filt_no (inT_no c)]
    exact v.ls e he
  · rw [v.ky t]
    constructor
    · rintro ⟨y, hy, z⟩
      exact ⟨y, List.mem_append_left _ hy, z⟩
    · rintro ⟨y, hy, z⟩
      rcases List.mem_append.mp hy with hy | hy
      · exact ⟨y, hy, z⟩
      · rw [List.mem_singleton.mp hy, inT_no c] at z
        cases z
  · have := v.few
    rw [List.length_append]
    omega
theorem ne_dk {H : Hp} {D l : Addr} {kvs : List (Key × V)} {ys : List V} (h : H D = some (.dK kvs)) (hl : H l = some (.lst ys)) : D ≠ l := fun e => by
  rw [e, hl] at h
  cases h
theorem nodup_snd {ks : List (Int × Addr)} {e f : Int × Addr} (nl : (ks.map (·.2)).Nodup) (he : e ∈ ks) (hf : f ∈ ks) (ne : e ≠ f) : e.2 ≠ f.2 := by
  intro z
  induction ks with
  | nil => cases he
  | cons g ks ih =>
    rw [List.map_cons, List.nodup_cons] at nl
    rcases List.mem_cons.mp he with rfl | he' <;> rcases List.mem_cons.mp hf with rfl | hf'
    · exact ne rfl
    · exact nl.1 (by rw [z]; exact List.mem_map.mpr ⟨f, hf', rfl⟩)
    · exact nl.1 (by rw [← z]; exact List.mem_map.mpr ⟨e, he', rfl⟩)
    · exact ih nl.2 he' hf'
theorem nodup_fst {ks : List (Int × Addr)} {e f : Int × Addr} (nd : (ks.map (·.1)).Nodup) (he : e ∈ ks) (hf : f ∈ ks) (q : e.1 = f.1) : e = f := by
  induction ks with
  | nil => cases he
  | cons g ks ih =>
    rw [List.map_cons, List.nodup_cons] at nd
    rcases List.mem_cons.mp he with rfl | he' <;> rcases List.mem_cons.mp hf with rfl | hf'
    · rfl
    · exact (nd.1 (by rw [q]; exact List.mem_map.mpr ⟨f, hf', rfl⟩)).elim
    · exact (nd.1 (by rw [← q]; exact List.mem_map.mpr ⟨e, he', rfl⟩)).elim
    · exact ih nd.2 he' hf'
/-- one more letter in the list that its turn has -/
theorem VbAt.more {H : Hp} {D l p : Addr} {xs : List Lt} {x : Lt} {kd : Kd} {h : Int} {b : Option Str} {ks : List (Int × Addr)} {qs : List Addr} (v : VbAt H D xs kd h b ks) (c : selV kd h b x = true) (hm : (x.m.t, l) ∈ ks)
    (hl : H l = some (.lst (qs.map V.ref))) (hx : LtAt H p x) : VbAt (upd H l (.lst (qs.map V.ref ++ [.ref p]))) D (xs ++ [x]) kd h b ks := by
  refine ⟨by rw [upd_ne (ne_dk v.here hl)]; exact v.here, v.nd, v.nl, fun e he => ?_, fun t => ?_, ?_⟩
  · obtain ⟨rs, h1, h2⟩ := v.ls e he
    by_cases z : e = (x.m.t, l)
    · subst z
      have er : rs.map V.ref = qs.map V.ref := by
        rw [hl] at h1
        injection h1 with h1
        injection h1 with h1
        exact h1.symm
      have er2 : rs = qs := by
        have := congrArg (List.map fun v : V => match v with | .ref a => a | _ => 0) er
        simpa [List.map_map, Function.comp_def] using this
      subst er2
      refine ⟨rs ++ [p], by rw [upd_same]; simp, ?_⟩
      rw [filt_yes (inT_self c)]
      exact (h2.snoc hx).upd hl
    · have n2 := nodup_snd v.nl he hm z
      refine ⟨rs, by rw [upd_ne n2]; exact h1, ?_⟩
      rw [filt_no]
      · exact h2.upd hl
      · cases q : inT kd h b e.1 x with
        | false => rfl
        | true => exact absurd (nodup_fst v.nd he hm (inT_t q)) z
  · rw [v.ky t]
    constructor
    · rintro ⟨y, hy, z⟩
      exact ⟨y, List.mem_append_left _ hy, z⟩
    · rintro ⟨y, hy, z⟩
      rcases List.mem_append.mp hy with hy | hy
      · exact ⟨y, hy, z⟩
      · rw [List.mem_singleton.mp hy] at z
        rw [inT_t z]
        exact (v.ky _).mp (List.mem_map.mpr ⟨_, hm, rfl⟩)
  · have := v.few
    rw [List.length_append]
    omega
/-- the first letter of its turn -/
theorem VbAt.first {H : Hp} {D l p : Addr} {xs : List Lt} {x : Lt} {kd : Kd} {h : Int} {b : Option Str} {ks : List (Int × Addr)} (v : VbAt H D xs kd h b ks) (c : selV kd h b x = true) (hn : x.m.t ∉ ks.map (·.1))
    (hl : H l = some (.lst [])) (nl : l ∉ ks.map (·.2)) (hx : LtAt H p x) : VbAt (upd (upd H D (.dK (vbK (ks ++ [(x.m.t, l)])))) l (.lst [.ref p])) D (xs ++ [x]) kd h b (ks ++ [(x.m.t, l)]) := by
  have nDl : D ≠ l := ne_dk v.here hl
  have hD2 : (upd H D (.dK (vbK (ks ++ [(x.m.t, l)])))) l = some (.lst []) := by rw [upd_ne nDl.symm]; exact hl
  have lk : ∀ {q : Addr} {y : Lt}, LtAt H q y → LtAt (upd (upd H D (.dK (vbK (ks ++ [(x.m.t, l)])))) l (.lst [.ref p])) q y := fun {q y} hy => by
    refine LtAt.upd ?_ hD2
    obtain ⟨r, h1, h2⟩ := hy
    have h2' : H r = some (.tup y.m.vals) := h2
    refine ⟨r, by rw [upd_ne (fun z => by rw [z, v.here] at h1; cases h1)]; exact h1, ?_⟩
    unfold SmAt
    rw [upd_ne (fun z => by rw [z, v.here] at h2'; cases h2')]
    exact h2
  refine ⟨by rw [upd_ne nDl, upd_same], ?_, ?_, fun e he => ?_, fun t => ?_, ?_⟩
  · rw [List.map_append, List.nodup_append]
    refine ⟨v.nd, by simp, fun a ha y hy e => ?_⟩
    rw [List.map_cons, List.map_nil, List.mem_singleton] at hy
    rw [e, hy] at ha
    exact hn ha
  · rw [List.map_append, List.nodup_append]
    refine ⟨v.nl, by simp, fun a ha y hy e => ?_⟩
    rw [List.map_cons, List.map_nil, List.mem_singleton] at hy
    rw [e, hy] at ha
    exact nl ha
  · rcases List.mem_append.mp he with he | he
    · obtain ⟨rs, h1, h2⟩ := v.ls e he
      have n2 : e.2 ≠ l := fun z => nl (by rw [← z]; exact List.mem_map.mpr ⟨e, he, rfl⟩)
      refine ⟨rs, by rw [upd_ne n2, upd_ne (ne_dk v.here h1).symm]; exact h1, ?_⟩
      rw [filt_no]
      · exact ⟨h2.1, fun i hi => lk (h2.2 i hi)⟩
      · cases q : inT kd h b e.1 x with
        | false => rfl
        | true => exact absurd (by rw [← inT_t q]; exact List.mem_map.mpr ⟨e, he, rfl⟩) hn
    · rw [List.mem_singleton.mp he]
      refine ⟨[p], by rw [upd_same]; rfl, ?_⟩
      rw [filt_yes (inT_self c)]
      have e0 : xs.filter (inT kd h b x.m.t) = [] := by
        rw [List.filter_eq_nil_iff]
        intro y hy z
        exact hn ((v.ky _).mpr ⟨y, hy, z⟩)
      rw [e0]
      exact LsAt.nil.snoc (lk hx)
  · rw [List.map_append, List.mem_append, v.ky t]
    constructor
    · rintro (⟨y, hy, z⟩ | z)
      · exact ⟨y, List.mem_append_left _ hy, z⟩
      · rw [List.map_cons, List.map_nil, List.mem_singleton] at z
        exact ⟨x, List.mem_append_right _ (List.mem_singleton.mpr rfl), by rw [z]; exact inT_self c⟩
    · rintro ⟨y, hy, z⟩
      rcases List.mem_append.mp hy with hy | hy
      · exact .inl ⟨y, hy, z⟩
      · rw [List.mem_singleton.mp hy] at z
        exact .inr (by rw [inT_t z]; exact List.mem_singleton.mpr rfl)
  · have := v.few
    rw [List.length_append, List.length_append]
    simp
    omega
def spVbt (K : PySem.W.Frag) : Sp := fun vs H Q _ => ∃ (l : Addr) (ps : List Addr) (xs : List Lt) (kd : Kd) (h : Int) (b : Option Str), vs = [.ref l, .str kd.s, .int h, oS b] ∧ H l = some (.lst (ps.map V.ref)) ∧ LsAt H ps xs ∧ xs.length ≤ 900 ∧
  ∀ (D : Addr) (ks : List (Int × Addr)) H', Same H H' → VbAt H' D xs kd h b ks → Q (.ref D) H'
/-- a dict of turns -/
def tru (L : List Int) : List (Key × V) := L.map fun t => (Sum.inl t, V.bl true)
theorem val_tru {t : Int} : ∀ {L : List Int}, (valV (tru L) (Sum.inl t)).isSome = decide (t ∈ L)
  | [] => by simp [tru, valV]
  | e :: L => by
    have ih := val_tru (t := t) (L := L)
    by_cases c : e = t
    · rw [show valV (tru (e :: L)) (Sum.inl t) = some (.bl true) from valV_pos (p := (Sum.inl e, V.bl true)) (by rw [c])]
      simp [c]
    · rw [show valV (tru (e :: L)) (Sum.inl t) = valV (tru L) (Sum.inl t) from valV_neg (p := (Sum.inl e, V.bl true)) (fun z => c (Sum.inl.inj z)), ih]
      exact decide_eq_decide.mpr ⟨fun m => List.mem_cons_of_mem _ m, fun m => (List.mem_cons.mp m).resolve_left fun z => c z.symm⟩
def cntL (m : Sm) (L : List Int) : Bool := match m.l with | none => true | some l => decide (l < m.t) && decide (l ∈ L)
def spCounts (K : PySem.W.Frag) : Sp := fun vs H Q _ => ∃ (p D : Addr) (m : Sm) (L : List Int), vs = [.ref p, .ref D] ∧ SmAt H p m ∧ m.k = .pre ∧ H D = some (.dK (tru L)) ∧ ∀ H', Same H H' → Q (.bl (cntL m L)) H'
def TB (xs : List Lt) : Prop := ∀ x ∈ xs, 0 ≤ x.m.t ∧ x.m.t < 60
def ctL (ws : List Int) (xs : List Lt) (h : Int) (b : Option Str) : List Int := match b with | none => [] | some _ => lns ws xs h b 60
def spCts (K : PySem.W.Frag) (C : Addr) : Sp := fun vs H Q _ => ∃ (c l : Addr) (ws : List Int) (ps : List Addr) (xs : List Lt) (h : Int) (b : Option Str), vs = [.ref c, .ref l, .int h, oS b] ∧ CommAt C H c ws ∧ GoodW ws ∧ H l = some (.lst (ps.map V.ref)) ∧ LsAt H ps xs ∧ xs.length ≤ 900 ∧ TB xs ∧
  ∀ (R : Addr) H', Same H H' → H R = none → H' R = some (.lst ((ctL ws xs h b).map V.int)) → Q (.ref R) H'
def cmL (ws : List Int) (xs : List Lt) (h : Int) (b : Option Str) : List Int := (ctL ws xs h b).filter fun t => qrm ws (comS xs h t b)
def spCms (K : PySem.W.Frag) (C : Addr) : Sp := fun vs H Q _ => ∃ (c l : Addr) (ws : List Int) (ps : List Addr) (xs : List Lt) (h : Int) (b : Option Str), vs = [.ref c, .ref l, .int h, oS b] ∧ CommAt C H c ws ∧ GoodW ws ∧ H l = some (.lst (ps.map V.ref)) ∧ LsAt H ps xs ∧ xs.length ≤ 900 ∧ TB xs ∧
  ∀ (R : Addr) H', Same H H' → H R = none → H' R = some (.lst ((cmL ws xs h b).map V.int)) → Q (.ref R) H'
theorem mem_lnsI {ws : List Int} {xs : List Lt} {h : Int} {b : Option Str} (t : Int) : ∀ n, t ∈ lns ws xs h b n ↔ 0 ≤ t ∧ t < n ∧ certM ws xs h b t.toNat = true
  | 0 => by
    simp [lns]
    omega
  | n + 1 => by
    have ih := mem_lnsI (ws := ws) (xs := xs) (h := h) (b := b) t n
    by_cases c : certM ws xs h b n = true
    · rw [lns_yes c, List.mem_append, ih, List.mem_singleton]
      constructor
      · rintro (⟨h1, h2, h3⟩ | z)
        · exact ⟨h1, by omega, h3⟩
        · rw [z]
          exact ⟨by omega, by omega, by rw [Int.toNat_natCast]; exact c⟩
      · rintro ⟨h1, h2, h3⟩
        rcases Int.lt_or_le t n with z | z
        · exact .inl ⟨h1, z, h3⟩
        · exact .inr (by omega)
    · rw [lns_no c, ih]
      constructor
      · rintro ⟨h1, h2, h3⟩
        exact ⟨h1, by omega, h3⟩
      · rintro ⟨h1, h2, h3⟩
        refine ⟨h1, ?_, h3⟩
        rcases Int.lt_or_le t n with z | z
        · exact z
        · have e : t.toNat = n := by omega
          rw [e] at h3
          exact absurd h3 c
theorem lns_gap {ws : List Int} {xs : List Lt} {h : Int} {b : Option Str} {a : Nat} : ∀ d, (∀ n, a ≤ n → n < a + d → certM ws xs h b n = false) → lns ws xs h b (a + d) = lns ws xs h b a
  | 0, _ => rfl
  | d + 1, z => by
    have := lns_gap d fun n h1 h2 => z n h1 (by omega)
    rw [← this]
    exact lns_no (n := a + d) (fun y => Bool.false_ne_true ((z (a + d) (by omega) (by omega)).symm.trans y))
theorem wt_none (ws : List Int) : ∀ n, wt ws (fun k => decide (k ∈ ([] : List Int))) n = 0
  | 0 => rfl
  | n + 1 => by
    rw [wt_succ, wt_none ws n]
    simp
theorem good_sum : ∀ {ws : List Int}, (∀ w ∈ ws, 1 ≤ w) → 0 < ws.length → 0 < ws.sum
  | [], _, h => absurd h (Nat.lt_irrefl 0)
  | [w], g, _ => by
    have := g w List.mem_cons_self
    simp
    omega
  | w :: v :: ws, g, _ => by
    have h1 := g w List.mem_cons_self
    have h2 := good_sum (ws := v :: ws) (fun x hx => g x (List.mem_cons_of_mem _ hx)) (by simp)
    rw [List.sum_cons]
    omega
theorem GoodW.sum {ws : List Int} (g : GoodW ws) : 0 < ws.sum := good_sum (fun w hw => (g.2.2 w hw).1) g.1
theorem qrm_nil {ws : List Int} (g : GoodW ws) : qrm ws [] = false := by
  unfold qrm wOf
  rw [wt_none]
  have := g.sum
  exact decide_eq_false (by omega)
theorem cnt_inT {h t : Int} {b : Option Str} {L : List Int} {x : Lt} (nb : b ≠ none) : cnt h t b L x = (inT .pre h b t x && cntL x.m L) := by
  unfold cnt inT selV cntL
  by_cases c : x.m.k = .pre ∧ x.m.h = h ∧ x.m.t = t ∧ x.m.b = b
  · obtain ⟨c1, c2, c3, c4⟩ := c
    simp only [c1, c2, c3, c4, nb, ne_eq, not_false_eq_true, and_self, decide_true, Bool.true_and]
    cases x.m.l with
    | none => rfl
    | some l => exact Bool.and_comm _ _
  · rw [decide_eq_false c, Bool.false_and]
    symm
    rw [Bool.and_eq_false_iff]
    left
    rw [Bool.and_eq_false_iff]
    by_cases c3 : x.m.t = t
    · left
      exact decide_eq_false fun z => c ⟨z.2.1, z.2.2.1, c3, z.2.2.2⟩
    · right
      exact decide_eq_false c3
theorem mem_inT {xs : List Lt} {h t : Int} {b : Option Str} {L : List Int} (nb : b ≠ none) : memM xs h t b L = ((xs.filter (inT .pre h b t)).filter fun x => cntL x.m L).map Lt.w := by
  unfold memM
  rw [List.filter_filter]
  congr 1
  refine List.filter_congr fun x _ => ?_
  rw [cnt_inT nb, Bool.and_comm]
theorem com_inT {xs : List Lt} {h t : Int} {b : Option Str} (nb : b ≠ none) : comS xs h t b = (xs.filter (inT .com h b t)).map Lt.w := by
  unfold comS
  congr 1
  refine List.filter_congr fun x _ => ?_
  unfold inT selV
  rw [Bool.eq_iff_iff, Bool.and_eq_true_iff, decide_eq_true_iff, decide_eq_true_iff, decide_eq_true_iff]
  exact ⟨fun ⟨z1, z2, z3, z4⟩ => ⟨⟨nb, z1, z2, z4⟩, z3⟩, fun ⟨⟨_, z1, z2, z4⟩, z3⟩ => ⟨z1, z2, z3, z4⟩⟩
/-- no prevote in a turn: no certificate -/
theorem cert_none {ws : List Int} {xs : List Lt} {h : Int} {b : Option Str} {n : Nat} (g : GoodW ws) (nb : b ≠ none) (z : ¬ ∃ x ∈ xs, inT .pre h b (n : Int) x = true) : certM ws xs h b n = false := by
  unfold certM
  rw [mem_inT nb]
  have e : xs.filter (inT .pre h b (n : Int)) = [] := List.filter_eq_nil_iff.mpr fun x hx y => z ⟨x, hx, y⟩
  rw [e]
  exact qrm_nil g
theorem nodup_few : ∀ (n : Nat) {L : List Int}, L.Nodup → (∀ t ∈ L, 0 ≤ t ∧ t < n) → L.length ≤ n
  | 0, [], _, _ => Nat.le_refl _
  | 0, t :: L, _, h => by
    have := h t List.mem_cons_self
    omega
  | n + 1, L, nd, h => by
    by_cases c : (n : Int) ∈ L
    · have l1 := List.length_erase_of_mem c
      have ih := nodup_few n (nd.erase (n : Int)) fun t ht => by
        have h2 := (nd.mem_erase_iff).mp ht
        have h3 := h t h2.2
        have h4 := h2.1
        omega
      omega
    · have := nodup_few n nd fun t ht => by
        have h3 := h t ht
        have h4 : t ≠ (n : Int) := fun z => c (z ▸ ht)
        omega
      omega
theorem tru_snoc (L : List Int) (t : Int) : tru (L ++ [t]) = tru L ++ [(Sum.inl t, V.bl true)] := by simp [tru]
theorem take_len {α : Type} (xs : List α) : xs.take xs.length = xs := List.take_length
theorem srt_lt {ts : List Int} (pw : ts.Pairwise (· ≤ ·)) (nd : ts.Nodup) {i j : Nat} (h : i < j) (hj : j < ts.length) : ts.getD i 0 < ts.getD j 0 := by
  have hi : i < ts.length := by omega
  have e1 : ts.getD i 0 = ts[i] := by rw [List.getD_eq_getElem?_getD, List.getElem?_eq_getElem hi]; rfl
  have e2 : ts.getD j 0 = ts[j] := by rw [List.getD_eq_getElem?_getD, List.getElem?_eq_getElem hj]; rfl
  rw [e1, e2]
  have h1 := List.pairwise_iff_getElem.mp pw i j hi hj h
  have h2 := List.pairwise_iff_getElem.mp nd i j hi hj h
  omega
/-- behind the turn before the place i -/
def nxt (ts : List Int) : Nat → Nat
  | 0 => 0
  | i + 1 => (ts.getD i 0 + 1).toNat
theorem gap_gen {ws : List Int} {xs : List Lt} {h : Int} {b : Option Str} {ts : List Int} (g : GoodW ws) (nb : b ≠ none) (ky : ∀ t : Int, t ∈ ts ↔ ∃ x ∈ xs, inT .pre h b t x = true) (pw : ts.Pairwise (· ≤ ·)) (nd : ts.Nodup)
    {i m : Nat} (hi : i ≤ ts.length) (le : nxt ts i ≤ m) (up : ∀ j, i ≤ j → j < ts.length → (m : Int) ≤ ts.getD j 0) : lns ws xs h b m = lns ws xs h b (nxt ts i) := by
  obtain ⟨d, rfl⟩ : ∃ d, m = nxt ts i + d := ⟨m - nxt ts i, by omega⟩
  refine lns_gap d fun n h1 h2 => cert_none g nb fun ex => ?_
  obtain ⟨j, hj, ej⟩ := List.getElem_of_mem ((ky n).mpr ex)
  have ej2 : ts.getD j 0 = (n : Int) := by rw [List.getD_eq_getElem?_getD, List.getElem?_eq_getElem hj]; exact ej
  rcases Nat.lt_or_ge j i with z | z
  · cases i with
    | zero => omega
    | succ k =>
      have h3 : ts.getD j 0 ≤ ts.getD k 0 := by
        rcases Nat.lt_or_ge j k with y | y
        · have := srt_lt pw nd y (by omega)
          omega
        · have : j = k := by omega
          rw [this]
          exact Int.le_refl _
      have h4 : nxt ts (k + 1) = (ts.getD k 0 + 1).toNat := rfl
      omega
  · have := up j z hj
    omega
theorem inT_some {kd : Kd} {h t : Int} {b : Option Str} {x : Lt} (c : inT kd h b t x = true) : b ≠ none ∧ x.m.k = kd := by
  unfold inT selV at c
  have := of_decide_eq_true (Bool.and_eq_true_iff.mp c).1
  exact ⟨this.1, this.2.1⟩
theorem filt_mem {xs : List Lt} {p : Lt → Bool} {i : Nat} (h : i < (xs.filter p).length) : (xs.filter p).getD i default ∈ xs ∧ p ((xs.filter p).getD i default) = true := List.mem_filter.mp (getD_mem2 h)

/-! ### papers -/
def spShown (K : PySem.W.Frag) (C : Addr) : Sp := fun vs H Q _ => ∃ (c l : Addr) (ws : List Int) (ps : List Addr) (xs : List Lt) (h : Int) (b : Option Str), vs = [.ref c, .int h, oS b, .ref l] ∧ CommAt C H c ws ∧ GoodW ws ∧ H l = some (.lst (ps.map V.ref)) ∧ LsAt H ps xs ∧ xs.length ≤ 900 ∧ TB xs ∧
  ∀ (v : V) H', Same H H' → (cmL ws xs h b = [] → v = .non) → (cmL ws xs h b ≠ [] → ∃ m ∈ cmL ws xs h b, (∀ y ∈ cmL ws xs h b, m ≤ y) ∧ v = .int m) → Q v H'
def shM (ws : List Int) (xs : List Lt) (h : Int) (b : Option Str) : Bool := !(cmL ws xs h b).isEmpty
def spShows (K : PySem.W.Frag) (C : Addr) : Sp := fun vs H Q _ => ∃ (c l : Addr) (ws : List Int) (ps : List Addr) (xs : List Lt) (h : Int) (b : Option Str), vs = [.ref c, .int h, oS b, .ref l] ∧ CommAt C H c ws ∧ GoodW ws ∧ H l = some (.lst (ps.map V.ref)) ∧ LsAt H ps xs ∧ xs.length ≤ 900 ∧ TB xs ∧
  ∀ H', Same H H' → Q (.bl (shM ws xs h b)) H'

def spCell (K : PySem.W.Frag) : Sp := fun vs H Q _ => ∃ (a : Addr) (ns : List Int) (k : Int), vs = [.ref a, .int k] ∧ SqL K H a (ns.map V.int) ∧ ns.length ≤ 63 ∧ 0 ≤ k ∧ Q (.int (ns.getD k.toNat 0)) H
def spRow (K : PySem.W.Frag) : Sp := fun vs H Q _ => ∃ (cell count size : Int), vs = [.int cell, .int count, .int size] ∧ 0 ≤ count ∧ count ≤ 1000 ∧ 0 < size ∧ size < 1000 ∧
  ∀ p (row : List Int) H', Same H H' → H' p = some (.lst (row.map V.int)) → row.length = count.toNat → (∀ x ∈ row, 0 ≤ x ∧ x < size) → H p = none → Q (.ref p) H'
def spWeights (K : PySem.W.Frag) : Sp := fun vs H Q _ => ∃ (cell most : Int), vs = [.int cell, .int most] ∧ 0 < most ∧ most ≤ 16 ∧ ∀ p (ws : List Int) H', Same H H' → H' p = some (.lst (ws.map V.int)) → GoodW ws → ws.length ≤ most.toNat → Q (.ref p) H'
def spWeight (K : PySem.W.Frag) : Sp := fun vs H Q _ => ∃ (p q : Addr) (ws ms : List Int), vs = [.ref p, .ref q] ∧ SqL K H p (ws.map V.int) ∧ SqL K H q (ms.map V.int) ∧ ws.length ≤ 16 ∧ ∀ H', Same H H' → Q (.int (wOf ws ms)) H'
def spLCert (K : PySem.W.Frag) : Sp := fun vs H Q _ => ∃ (pw l : Addr) (ws : List Int) (ps : List Addr) (xs : List Lt) (h t : Int) (b : Option Str), vs = [.ref pw, .ref l, .int h, .int t, oS b] ∧ SqL K H pw (ws.map V.int) ∧ ws.length ≤ 16 ∧ H l = some (.lst (ps.map V.ref)) ∧ LsAt H ps xs ∧ xs.length ≤ 100 ∧
  0 ≤ t ∧ t ≤ 12 ∧ ∀ H', Same H H' → Q (.bl (certM ws xs h b t.toNat)) H'
def spLComm (K : PySem.W.Frag) : Sp := fun vs H Q _ => ∃ (pw l : Addr) (ws : List Int) (ps : List Addr) (xs : List Lt) (h t : Int) (b : Option Str), vs = [.ref pw, .ref l, .int h, .int t, oS b] ∧ SqL K H pw (ws.map V.int) ∧ ws.length ≤ 16 ∧ H l = some (.lst (ps.map V.ref)) ∧ LsAt H ps xs ∧ xs.length ≤ 100 ∧
  0 ≤ t ∧ t ≤ 12 ∧ OkS b ∧ OkL xs ∧ ∀ H', Same H H' → Q (.bl (commM ws xs h b t.toNat)) H'

/-- a command -/
inductive Cm where
  | p (a b c : Int)
  | w (a b : Int)
  | k (a b c : Int)
  | d (a : Int) (code : Str)
def nu (i : Int) : Str := Str.ofString (toString i)
def Cm.ki : Cm → Str
  | .p _ _ _ => "p"
  | .w _ _ => "w"
  | .k _ _ _ => "k"
  | .d _ _ => "d"
def Cm.ps : Cm → List V
  | .p a b c => [.int a, .int b, .int c]
  | .w a b => [.int a, .int b]
  | .k a b c => [.int a, .int b, .int c]
  | .d a s => [.int a, .str s]
def Cm.txt : Cm → Str
  | .p a b c => "p" ++ nu a ++ "q" ++ nu b ++ "r" ++ nu c
  | .w a b => "w" ++ nu a ++ "x" ++ nu b
  | .k a b c => "k" ++ nu a ++ "b" ++ nu b ++ "v" ++ nu c
  | .d a s => "d" ++ nu a ++ "z" ++ s ++ "z"
/-- what stands before each part -/
def Cm.ms : Cm → List Str
  | .p _ _ _ => ["p", "q", "r"]
  | .w _ _ => ["w", "x"]
  | .k _ _ _ => ["k", "b", "v"]
  | .d _ _ => ["d", "z"]
def Cm.ma (a : Ads) : Cm → Addr
  | .p _ _ _ => a.M_MARKS_p
  | .w _ _ => a.M_MARKS_w
  | .k _ _ _ => a.M_MARKS_k
  | .d _ _ => a.M_MARKS_d
/-- each part behind its mark -/
def Cm.bits : Cm → List Str
  | .p a b c => ["p" ++ nu a, "q" ++ nu b, "r" ++ nu c]
  | .w a b => ["w" ++ nu a, "x" ++ nu b]
  | .k a b c => ["k" ++ nu a, "b" ++ nu b, "v" ++ nu c]
  | .d a s => ["d" ++ nu a, "z" ++ s]
/-- a part as a text -/
def paT : V → Str
  | .int i => nu i
  | .str s => s
  | _ => Str.empty
def CmAt (H : Hp) (p : Addr) (c : Cm) : Prop := H p = some (.tup (.str c.ki :: c.ps))
def NOk (i : Int) : Prop := 0 ≤ i ∧ i ≤ 999999
/-- a number that may stand in a command tuple -/
def WOk (i : Int) : Prop := -1000 ≤ i ∧ i ≤ 2000000
theorem NOk.w {i : Int} (h : NOk i) : WOk i := ⟨by have := h.1; omega, by have := h.2; omega⟩
def Cm.ok : Cm → Prop
  | .p a b c => WOk a ∧ WOk b ∧ WOk c
  | .w a b => WOk a ∧ WOk b
  | .k a b c => WOk a ∧ WOk b ∧ WOk c
  | .d a s => WOk a ∧ s.length ≤ 250 ∧ PyData.strOk s = true
/-- the signs of programs -/
def Sgn (z : Str) : Prop := ∀ n ∈ TL.tl z, n ∈ TL.tl "0123456789ginasmtcehlujfyo"
/-- a command that a text writes -/
def Cm.right : Cm → Prop
  | .p a b c => NOk a ∧ NOk b ∧ NOk c
  | .w a b => NOk a ∧ NOk b
  | .k a b c => NOk a ∧ NOk b ∧ NOk c
  | .d a s => NOk a ∧ Sgn s
/-- a command that the law makes -/
def Cm.good : Cm → Prop
  | .p a b c => NOk a ∧ NOk b ∧ NOk c
  | .w a b => NOk a ∧ NOk b
  | .k a b c => NOk a ∧ NOk b ∧ NOk c
  | .d a s => NOk a ∧ s.length ≤ 12 ∧ Sgn s
theorem strOk_cps {x : Str} (h : ∀ c ∈ TL.tl x, c < 1114112) : PyData.strOk x = true := by
  unfold PyData.strOk
  rw [← Array.all_toList]
  exact List.all_eq_true.mpr fun c hc => decide_eq_true (h c hc)
theorem Sgn.ok {z : Str} (h : Sgn z) : PyData.strOk z = true := strOk_cps fun c hc => by
  have : ∀ c ∈ TL.tl "0123456789ginasmtcehlujfyo", c < 1114112 := by decide +kernel
  exact this c (h c hc)
theorem Cm.good.ok : ∀ {c : Cm}, c.good → c.ok
  | .p _ _ _, h => ⟨h.1.w, h.2.1.w, h.2.2.w⟩
  | .w _ _, h => ⟨h.1.w, h.2.w⟩
  | .k _ _ _, h => ⟨h.1.w, h.2.1.w, h.2.2.w⟩
  | .d _ _, h => ⟨h.1.w, Nat.le_trans h.2.1 (by decide), h.2.2.ok⟩
theorem Cm.good.right : ∀ {c : Cm}, c.good → c.right
  | .p _ _ _, h => h
  | .w _ _, h => h
  | .k _ _ _, h => h
  | .d _ _, h => ⟨h.1, h.2.2⟩
instance : Inhabited Cm := ⟨.w 0 0⟩
def CmsAt (H : Hp) (ps : List Addr) (cs : List Cm) : Prop := ps.length = cs.length ∧ ∀ i, i < cs.length → CmAt H (ps.getD i 0) (cs.getD i default)
theorem CmsAt.same {H H' : Hp} {ps : List Addr} {cs : List Cm} (h : CmsAt H ps cs) (s : Same H H') : CmsAt H' ps cs := ⟨h.1, fun i hi => s _ _ (h.2 i hi)⟩
/-- the texts one behind the other -/
def cat (cs : List Cm) : Str := cs.foldl (fun z c => z ++ c.txt) Str.empty
theorem cat_snoc (cs : List Cm) (c : Cm) : cat (cs ++ [c]) = cat cs ++ c.txt := by
  unfold cat
  rw [List.foldl_append]
  rfl
/-- the first n commands fit, and no more do -/
def Fit (cs : List Cm) (n : Nat) : Prop := n ≤ cs.length ∧ (∀ j, j ≤ n → (cat (cs.take j)).length ≤ 60) ∧ (n < cs.length → 60 < (cat (cs.take (n + 1))).length)
theorem Fit.one {cs : List Cm} {m n : Nat} (h : Fit cs m) (g : Fit cs n) : m = n := by
  obtain ⟨a1, a2, a3⟩ := h
  obtain ⟨b1, b2, b3⟩ := g
  rcases Nat.lt_trichotomy m n with c | c | c
  · have := a3 (by omega)
    have := b2 (m + 1) c
    omega
  · exact c
  · have := b3 (by omega)
    have := a2 (n + 1) c
    omega
/-- a reader of z that stands at i -/
def RdAt (C : Addr) (H : Hp) (p : Addr) (z : Str) (i : Nat) : Prop := ∃ dx, H p = some (.ins C dx [("text", .str z), ("at", .int (i : Int))])
/-- how many signs from i on are allowed -/
def runL (al : List Nat) : List Nat → Nat
  | [] => 0
  | c :: r => if c ∈ al then runL al r + 1 else 0
def spRInit (C : Addr) : Sp := fun vs H Q _ => ∃ (p dx : Addr) (z : Str), vs = [.ref p, .str z] ∧ H p = some (.ins C dx []) ∧ ∀ H', RdAt C H' p z 0 → (∀ b o, b ≠ p → H b = some o → H' b = some o) → Q .non H'
def spSigns (C : Addr) : Sp := fun vs H Q _ => ∃ (p : Addr) (z al : Str) (i : Nat), vs = [.ref p, .str al] ∧ RdAt C H p z i ∧ z.length ≤ 1000 ∧ i ≤ z.length ∧
  ∀ H', RdAt C H' p z (i + runL (TL.tl al) ((TL.tl z).drop i)) → (∀ b o, b ≠ p → H b = some o → H' b = some o) → Q (.str ⟨(((TL.tl z).drop i).take (runL (TL.tl al) ((TL.tl z).drop i))).toArray⟩) H'
def spSkip (C CE : Addr) : Sp := fun vs H Q E => ∃ (p : Addr) (z : Str) (c i : Nat), vs = [.ref p, .str ⟨#[c]⟩] ∧ RdAt C H p z i ∧ z.length ≤ 1000 ∧ i ≤ z.length ∧
  ((TL.tl z)[i]? = some c → ∀ H', RdAt C H' p z (i + 1) → (∀ b o, b ≠ p → H b = some o → H' b = some o) → Q .non H') ∧
  ((TL.tl z)[i]? ≠ some c → E (.ref CE) none H)
/-- the digits that stand at i -/
def digsAt (z : Str) (i : Nat) : List Nat := ((TL.tl z).drop i).take (runL (TL.tl "0123456789") ((TL.tl z).drop i))
/-- a right number -/
def NumW (w : List Nat) : Prop := 1 ≤ w.length ∧ w.length ≤ 6 ∧ ¬ (w.head? = some 48 ∧ w ≠ [48])
def spNumR (C CE : Addr) : Sp := fun vs H Q E => ∃ (p : Addr) (z : Str) (i : Nat), vs = [.ref p] ∧ RdAt C H p z i ∧ z.length ≤ 1000 ∧ i ≤ z.length ∧
  (NumW (digsAt z i) → ∀ H', RdAt C H' p z (i + (digsAt z i).length) → (∀ b o, b ≠ p → H b = some o → H' b = some o) → Q (.int (NumText.digitsVal (digsAt z i) : Nat)) H') ∧
  (¬ NumW (digsAt z i) → ∀ H', (∀ b o, b ≠ p → H b = some o → H' b = some o) → E (.ref CE) none H')

def spLaw (K : PySem.W.Frag) : Sp := fun vs H Q _ => ∃ (a : Addr) (ns : List Int), vs = [.ref a] ∧ SqL K H a (ns.map V.int) ∧ ns.length ≤ 63 ∧ ∀ H', Q (.bl true) H'
/-! ### journals -/
theorem hu65 {k : Nat} {A : Around} (r : Room k A) : A.units + 65 < cLine := by
  have := r.un
  omega
instance : Inhabited Sm := ⟨⟨.prop, 0, 0, none, none⟩⟩
def SsAt (H : Hp) (ps : List Addr) (ms : List Sm) : Prop := ps.length = ms.length ∧ ∀ i, i < ms.length → SmAt H (ps.getD i 0) (ms.getD i default)
theorem SsAt.nil {H : Hp} : SsAt H [] [] := ⟨rfl, fun i h => absurd h (Nat.not_lt_zero i)⟩
theorem SsAt.same {H H' : Hp} {ps : List Addr} {ms : List Sm} (h : SsAt H ps ms) (s : Same H H') : SsAt H' ps ms := ⟨h.1, fun i hi => s _ _ (h.2 i hi)⟩
theorem ne_ls {H : Hp} {p l : Addr} {m : Sm} {ys : List V} (h : SmAt H p m) (hl : H l = some (.lst ys)) : p ≠ l := fun e => by
  have h : H p = some (.tup m.vals) := h
  rw [e, hl] at h
  cases h
/-- all but the object at l stays -/
def But (l : Addr) (H H' : Hp) : Prop := ∀ b o, b ≠ l → H b = some o → H' b = some o
theorem But.sm {l : Addr} {H H' : Hp} {p : Addr} {m : Sm} {ys : List V} (k : But l H H') (hl : H l = some (.lst ys)) (h : SmAt H p m) : SmAt H' p m := k _ _ (ne_ls h hl) h
theorem But.ss {l : Addr} {H H' : Hp} {ps : List Addr} {ms : List Sm} {ys : List V} (k : But l H H') (hl : H l = some (.lst ys)) (h : SsAt H ps ms) : SsAt H' ps ms := ⟨h.1, fun i hi => k.sm hl (h.2 i hi)⟩
theorem SsAt.snoc {H : Hp} {ps : List Addr} {ms : List Sm} {p : Addr} {m : Sm} (h : SsAt H ps ms) (e : SmAt H p m) : SsAt H (ps ++ [p]) (ms ++ [m]) := by
  refine ⟨by rw [List.length_append, List.length_append, h.1]; rfl, fun i hi => ?_⟩
  rw [List.length_append, List.length_singleton] at hi
  rcases Nat.lt_or_ge i ms.length with z | z
  · rw [getD_left (by rw [h.1]; exact z), getD_left z]
    exact h.2 i z
  · have ei : i = ms.length := by omega
    subst ei
    rw [getD_last]
    have : (ps ++ [p]).getD ms.length 0 = p := by rw [← h.1, getD_last]
    rw [this]
    exact e
theorem SsAt.cons {H : Hp} {p : Addr} {ps : List Addr} {m : Sm} {ms : List Sm} (h : SsAt H (p :: ps) (m :: ms)) : SmAt H p m ∧ SsAt H ps ms :=
  ⟨h.2 0 (Nat.succ_pos _), Nat.succ.inj h.1, fun i hi => h.2 (i + 1) (Nat.succ_lt_succ hi)⟩
def smD (m : Sm) : PyData := .tuple m.dat
theorem dp_sms {K : PySem.W.Frag} {H : Hp} : ∀ {ps : List Addr} {ms : List Sm}, SsAt H ps ms → DpAll K H (ps.map V.ref) (ms.map smD)
  | [], [], _ => .nil
  | p :: ps, m :: ms, h => .cons (dp_sm h.cons.1) (dp_sms h.cons.2)
  | [], m :: ms, h => nomatch h.1
  | p :: ps, [], h => nomatch h.1
def OkM (ms : List Sm) : Prop := ∀ m ∈ ms, OkS m.b
theorem lay_sms : ∀ {ms : List Sm}, OkM ms → PyData.canLayAll0 (ms.map smD) = true
  | [], _ => by simp [PyData.canLayAll0]
  | m :: ms, o => by
    simp only [List.map_cons, PyData.canLayAll0]
    rw [show PyData.canLay0 (smD m) = true from lay_sm m (o m List.mem_cons_self), lay_sms fun y hy => o y (List.mem_cons_of_mem _ hy)]
    rfl
theorem depth_sms : ∀ ms : List Sm, PyData.depthAll (ms.map smD) ≤ 1
  | [] => by simp [PyData.depthAll]
  | m :: ms => by
    have := depth_sms ms
    have h : PyData.depth (smD m) = 1 := depth_sm m
    simp only [List.map_cons, PyData.depthAll, h]
    omega
theorem shaped_sms {ms : List Sm} (o : OkM ms) : SeqAt.shaped (.list (ms.map smD)) = true := by
  have h := depth_sms ms
  unfold SeqAt.shaped
  have e : PyData.depth (.list (ms.map smD)) = PyData.depthAll (ms.map smD) + 1 := by simp only [PyData.depth]
  have l : PyData.canLay0 (.list (ms.map smD)) = true := by simp only [PyData.canLay0, lay_sms o]
  rw [l, e, decide_eq_true (show PyData.depthAll (ms.map smD) + 1 ≤ 64 by omega)]
  rfl
theorem eqv_sms {ms : List Sm} (o : OkM ms) : PyData.eqv (.list (ms.map smD)) (.list (ms.map smD)) = true := SeqAt.eqv_refl _ (by
  simp only [PyData.canLay0, lay_sms o])
/-- m in ms -/
def memS (ms : List Sm) (m : Sm) : Bool := (ms.map smD).any fun z => PyData.eqv z (smD m)
theorem ne_wsg : ¬ (("who" : Str) = "signed") := by decide +kernel
def jfs (who : Int) (L : Addr) : List (Str × V) := putF "signed" (.ref L) (putF "who" (.int who) [])
theorem jfs_w (who : Int) (L : Addr) : (jfs who L).lookup ("who" : Str) = some (.int who) := by
  unfold jfs
  rw [lookup_putF, if_neg ne_wsg, lookup_putF, if_pos rfl]
theorem jfs_s (who : Int) (L : Addr) : (jfs who L).lookup ("signed" : Str) = some (.ref L) := by
  unfold jfs
  rw [lookup_putF, if_pos rfl]
theorem jfs_no (who : Int) (L : Addr) {m : Str} (h1 : ¬ m = "who") (h2 : ¬ m = "signed") : (jfs who L).lookup m = none := by
  unfold jfs
  rw [lookup_putF, if_neg h2, lookup_putF, if_neg h1]
  rfl
def JAt (C : Addr) (H : Hp) (j : Addr) (who : Int) (L : Addr) : Prop := ∃ dx, H j = some (.ins C dx (jfs who L))
/-- the first of the first n that clashes with m -/
def fcl (ms : List Sm) (m : Sm) : Nat → Option Nat
  | 0 => none
  | n + 1 => match fcl ms m n with
    | some k => some k
    | none => if clashM (ms.getD n default) m then some n else none
theorem fcl_none {ms : List Sm} {m : Sm} : ∀ {n : Nat}, fcl ms m n = none → ∀ k, k < n → clashM (ms.getD k default) m = false
  | 0, _, k, hk => absurd hk (Nat.not_lt_zero _)
  | n + 1, h, k, hk => by
    rw [fcl] at h
    split at h
    · cases h
    · rename_i e
      split at h
      · cases h
      · rename_i c
        rcases Nat.lt_or_ge k n with z | z
        · exact fcl_none e k z
        · have : k = n := by omega
          rw [this]
          simpa using c
theorem fcl_keep {ms : List Sm} {m : Sm} {n k : Nat} (h : fcl ms m n = some k) : fcl ms m (n + 1) = some k := by
  rw [fcl, h]
theorem fcl_new {ms : List Sm} {m : Sm} {n : Nat} (h : fcl ms m n = none) (c : clashM (ms.getD n default) m = true) : fcl ms m (n + 1) = some n := by
  rw [fcl, h]
  exact if_pos c
theorem fcl_no {ms : List Sm} {m : Sm} {n : Nat} (h : fcl ms m n = none) (c : clashM (ms.getD n default) m = false) : fcl ms m (n + 1) = none := by
  rw [fcl, h]
  exact if_neg (by rw [c]; exact Bool.false_ne_true)
theorem fcl_mono {ms : List Sm} {m : Sm} {n k : Nat} (h : fcl ms m n = some k) : ∀ d, fcl ms m (n + d) = some k
  | 0 => h
  | d + 1 => fcl_keep (fcl_mono h d)
theorem fcl_lt {ms : List Sm} {m : Sm} : ∀ {n k : Nat}, fcl ms m n = some k → k < n
  | 0, k, h => nomatch h
  | n + 1, k, h => by
    rw [fcl] at h
    split at h
    · rename_i e
      cases h
      have := fcl_lt e
      omega
    · split at h
      · cases h
        exact Nat.lt_succ_self _
      · cases h
/-- what is signed behind m -/
def after (ps : List Addr) (ms : List Sm) (p : Addr) (m : Sm) : List Addr := if memS ms m then ps else ps ++ [p]
def afterM (ms : List Sm) (m : Sm) : List Sm := if memS ms m then ms else ms ++ [m]
theorem shaped_pair {who : Int} {m : Sm} (o : OkS m.b) : SeqAt.shaped (.tuple [.int who, .tuple m.dat]) = true := shaped_lt (x := ⟨who, m⟩) o
theorem eqv_pair {who : Int} {m : Sm} (o : OkS m.b) : PyData.eqv (.tuple [.int who, .tuple m.dat]) (.tuple [.int who, .tuple m.dat]) = true := eqv_lt (x := ⟨who, m⟩) o
def spJI (K : PySem.W.Frag) (C : Addr) : Sp := fun vs H Q _ => ∃ (p dx : Addr) (who : Int), vs = [.ref p, .int who] ∧ H p = some (.ins C dx []) ∧ ∀ (L : Addr) (H' : Hp), H L = none → H' p = some (.ins C dx (jfs who L)) → H' L = some (.lst []) → (∀ b o, b ≠ p → H b = some o → H' b = some o) → Q .non H'
def spSign (K : PySem.W.Frag) (C CR : Addr) : Sp := fun vs H Q E => ∃ (j p L : Addr) (who : Int) (ps : List Addr) (ms : List Sm) (m : Sm), vs = [.ref j, .ref p] ∧ JAt C H j who L ∧ H L = some (.lst (ps.map V.ref)) ∧ SsAt H ps ms ∧ SmAt H p m ∧ ms.length ≤ 900 ∧ OkM ms ∧ OkS m.b ∧
  (∀ k, fcl ms m ms.length = some k → ∀ d H', Same H H' → H' d = some (.xd [(("vote" : Str), .ref (ps.getD k 0))]) → E (.ref CR) (some d) H') ∧
  (fcl ms m ms.length = none → ∀ t H', But L H H' → H' L = some (.lst ((after ps ms p m).map V.ref)) → H' t = some (.tup [.int who, .ref p]) → Q (.ref t) H')
def spLast (K : PySem.W.Frag) (C : Addr) : Sp := fun vs H Q _ => ∃ (j L : Addr) (who h : Int) (ps : List Addr) (ms : List Sm), vs = [.ref j, .int h] ∧ JAt C H j who L ∧ H L = some (.lst (ps.map V.ref)) ∧ SsAt H ps ms ∧ ms.length ≤ 900 ∧ (∀ m ∈ ms, 0 ≤ m.t) ∧
  ∀ (z : Int) H', Same H H' → (z = 0 ∨ z ∈ (ms.filter fun m => decide (m.h = h)).map Sm.t) → 0 ≤ z → (∀ m ∈ ms, m.h = h → m.t ≤ z) → Q (.int z) H'

/-! ### words and lines -/
def wordV : V → Str
  | .non => "-"
  | .int i => toString i
  | .str x => x
  | _ => ""
def lineS (who : Int) (m : Sm) : Str := Txt.join " " ((toString who : Str) :: m.vals.map wordV)
/-- small numbers and names -/
def SmallV (v : V) : Prop := v = .non ∨ (∃ i : Int, v = .int i ∧ 0 ≤ i ∧ i < 1000000000) ∨ ∃ x : Str, v = .str x ∧ x.length ≤ 60 ∧ PyData.strOk x = true
def SmallM (m : Sm) : Prop := ∀ v ∈ m.vals, SmallV v
theorem strOk_of {x : Str} (h : ∀ c ∈ TL.tl x, c < 1114112) : PyData.strOk x = true := by
  unfold PyData.strOk
  rw [← Array.all_toList]
  exact List.all_eq_true.mpr fun c hc => decide_eq_true (h c hc)
theorem tos_nat {i : Int} (h0 : 0 ≤ i) : (toString i : Str) = Str.ofString (toString ((i.toNat : Nat) : Int)) := by
  rw [Int.toNat_of_nonneg h0]
theorem num_ok {i : Int} (h0 : 0 ≤ i) (h1 : i < 1000000000) : (toString i : Str).length ≤ 60 ∧ PyData.strOk (toString i : Str) = true := by
  have e : TL.tl (toString i : Str) = TL.numL i.toNat := by
    rw [tos_nat h0, TL.tl_num]
  refine ⟨?_, strOk_of fun c hc => ?_⟩
  · rw [TL.len_tl, e]
    exact Nat.le_trans (TL.numL_len (k := 9) (by decide) (by omega)) (by decide)
  · rw [e] at hc
    have := TL.numL_digits i.toNat c hc
    omega
theorem log_small {i : Int} (h0 : 0 ≤ i) (h1 : i < 1000000000) : i.natAbs.log2 < 1920 := by
  rcases Nat.eq_zero_or_pos i.natAbs with z | z
  · rw [z]
    decide
  · have : i.natAbs.log2 < 30 := (Nat.log2_lt (Nat.ne_of_gt z)).mpr (by omega)
    omega
theorem word_ok {v : V} (h : SmallV v) : (wordV v).length ≤ 60 ∧ PyData.strOk (wordV v) = true := by
  rcases h with rfl | ⟨i, rfl, h0, h1⟩ | ⟨x, rfl, h⟩
  · exact ⟨by decide +kernel, by decide +kernel⟩
  · exact num_ok h0 h1
  · exact h
theorem vals_len (m : Sm) : m.vals.length ≤ 5 := by
  obtain ⟨mk, mh, mt, mb, ml⟩ := m
  cases mk <;> simp [Sm.vals]
theorem strOk_app {a b : Str} (h1 : PyData.strOk a = true) (h2 : PyData.strOk b = true) : PyData.strOk (a ++ b) = true := by
  unfold PyData.strOk at *
  show (a.cps ++ b.cps).all _ = true
  rw [Array.all_append, h1, h2]
  rfl
theorem strOk_join {y : Str} (hy : PyData.strOk y = true) : ∀ {parts : List Str}, (∀ x ∈ parts, PyData.strOk x = true) → PyData.strOk (Str.join y parts) = true
  | [], _ => (by decide +kernel : PyData.strOk Str.empty = true)
  | [x], h => h x List.mem_cons_self
  | x :: z :: r, h => strOk_app (strOk_app (h x List.mem_cons_self) hy) (strOk_join hy fun w hw => h w (List.mem_cons_of_mem _ hw))
theorem line_ok {who : Int} {m : Sm} (w0 : 0 ≤ who) (w1 : who < 1000000000) (h : SmallM m) : PyData.strOk (lineS who m) = true := by
  unfold lineS
  rw [TL.join_eq]
  refine strOk_join (by decide +kernel) fun x hx => ?_
  rcases List.mem_cons.mp hx with rfl | hx
  · exact (num_ok w0 w1).2
  · obtain ⟨v, hv, rfl⟩ := List.mem_map.mp hx
    exact (word_ok (h v hv)).2
theorem sum_small : ∀ {ys : List Str}, (∀ y ∈ ys, y.length ≤ 60) → (ys.map (·.length)).sum ≤ 60 * ys.length
  | [], _ => by simp
  | y :: ys, h => by
    have h1 := h y List.mem_cons_self
    have h2 := sum_small fun z hz => h z (List.mem_cons_of_mem _ hz)
    simp only [List.map_cons, List.sum_cons, List.length_cons]
    omega
theorem join_fit {who : Int} {m : Sm} (w0 : 0 ≤ who) (w1 : who < 1000000000) (h : SmallM m) : ((((toString who : Str) :: m.vals.map wordV)).map (·.length)).sum + (((toString who : Str) :: m.vals.map wordV)).length * (" " : Str).length ≤ 16777216 := by
  have l := vals_len m
  have s := sum_small (ys := (toString who : Str) :: m.vals.map wordV) fun y hy => by
    rcases List.mem_cons.mp hy with rfl | hy
    · exact (num_ok w0 w1).1
    · obtain ⟨v, hv, rfl⟩ := List.mem_map.mp hy
      exact (word_ok (h v hv)).1
  have e : (" " : Str).length = 1 := by decide +kernel
  simp only [List.length_cons, List.length_map] at s ⊢
  rw [e]
  omega
theorem dp_strs {K : PySem.W.Frag} {H : Hp} : ∀ xs : List Str, DpAll K H (xs.map V.str) (xs.map PyData.str)
  | [] => .nil
  | x :: xs => .cons (.str x) (dp_strs xs)
theorem lay_strs : ∀ {xs : List Str}, (∀ x ∈ xs, PyData.strOk x = true) → PyData.canLayAll0 (xs.map PyData.str) = true
  | [], _ => by simp [PyData.canLayAll0]
  | x :: xs, o => by
    simp only [List.map_cons, PyData.canLayAll0, PyData.canLay0, o x List.mem_cons_self, lay_strs fun y hy => o y (List.mem_cons_of_mem _ hy)]
    rfl
theorem depth_strs : ∀ xs : List Str, PyData.depthAll (xs.map PyData.str) = 0
  | [] => by simp [PyData.depthAll]
  | x :: xs => by
    have := depth_strs xs
    simp only [List.map_cons, PyData.depthAll, PyData.depth, this]
    rfl
theorem shaped_strs {xs : List Str} (o : ∀ x ∈ xs, PyData.strOk x = true) : SeqAt.shaped (.list (xs.map PyData.str)) = true := by
  unfold SeqAt.shaped
  have e : PyData.depth (.list (xs.map PyData.str)) = PyData.depthAll (xs.map PyData.str) + 1 := by simp only [PyData.depth]
  have l : PyData.canLay0 (.list (xs.map PyData.str)) = true := by simp only [PyData.canLay0, lay_strs o]
  rw [l, e, depth_strs]
  rfl
theorem eqv_strs {xs : List Str} (o : ∀ x ∈ xs, PyData.strOk x = true) : PyData.eqv (.list (xs.map PyData.str)) (.list (xs.map PyData.str)) = true := SeqAt.eqv_refl _ (by
  simp only [PyData.canLay0, lay_strs o])
def spWord (K : PySem.W.Frag) : Sp := fun vs H Q _ => ∃ v : V, vs = [v] ∧ SmallV v ∧ Q (.str (wordV v)) H
def spLine (K : PySem.W.Frag) : Sp := fun vs H Q _ => ∃ (t : Addr) (x : Lt), vs = [.ref t] ∧ LtAt H t x ∧ 0 ≤ x.w ∧ x.w < 1000000000 ∧ SmallM x.m ∧ ∀ H', Same H H' → Q (.str (lineS x.w x.m)) H'
def spLines (K : PySem.W.Frag) (C : Addr) : Sp := fun vs H Q _ => ∃ (j L : Addr) (who : Int) (ps : List Addr) (ms : List Sm), vs = [.ref j] ∧ JAt C H j who L ∧ H L = some (.lst (ps.map V.ref)) ∧ SsAt H ps ms ∧ ms.length ≤ 900 ∧ 0 ≤ who ∧ who < 1000000000 ∧ (∀ m ∈ ms, SmallM m) ∧
  ∀ R H', Same H H' → H' R = some (.lst ((ms.map (lineS who)).map V.str)) → Q (.ref R) H'

/-! ### words read back -/
def isD (c : Nat) : Bool := decide (48 ≤ c) && decide (c ≤ 57)
theorem isD_iff {c : Nat} : isD c = true ↔ 48 ≤ c ∧ c ≤ 57 := by
  unfold isD
  rw [Bool.and_eq_true, decide_eq_true_eq, decide_eq_true_eq]
def numB (w : Str) : Bool := (TL.tl w).all isD && (decide (TL.tl w ≠ []) && (decide ((TL.tl w).length ≤ 9) && (decide (w = "0") || decide ((TL.tl w).head? ≠ some 48))))
def numV (w : Str) : Int := ((NumText.digitsVal (TL.tl w) : Nat) : Int)
theorem ascii_digit : ∀ c : _root_.Fin 128, Unicode.isDigit c.val = isD c.val := by decide +kernel
theorem all_digit : ∀ {l : List Nat}, (l.all fun c => decide (c < 128)) = true → l.all Unicode.isDigit = l.all isD
  | [], _ => rfl
  | c :: l, h => by
    rw [List.all_cons, Bool.and_eq_true] at h
    have hc := of_decide_eq_true h.1
    rw [List.all_cons, List.all_cons, ascii_digit ⟨c, hc⟩, all_digit h.2]
theorem digit_ascii : ∀ {l : List Nat}, l.all isD = true → (l.all fun c => decide (c < 128)) = true
  | [], _ => rfl
  | c :: l, h => by
    rw [List.all_cons, Bool.and_eq_true] at h
    have hc := isD_iff.mp h.1
    rw [List.all_cons, digit_ascii h.2, decide_eq_true (show c < 128 by omega)]
    rfl
theorem ascii_all (w : Str) : Txt.isascii w = ((TL.tl w).all fun c => decide (c < 128)) := by
  unfold Txt.isascii TL.tl
  rw [← Array.all_toList]
theorem digit_all (w : Str) : Txt.isdigit w = (decide (TL.tl w ≠ []) && (TL.tl w).all Unicode.isDigit) := by
  unfold Txt.isdigit
  have e : decide (w.length > 0) = decide (TL.tl w ≠ []) := by
    rw [TL.len_tl]
    refine decide_eq_decide.mpr ?_
    exact List.length_pos_iff
  rw [← Array.all_toList]
  show (decide (w.length > 0) && _) = _
  rw [e]
theorem num_parts (w : Str) : (Txt.isascii w && Txt.isdigit w) = ((TL.tl w).all isD && decide (TL.tl w ≠ [])) := by
  rw [ascii_all, digit_all]
  cases h : (TL.tl w).all fun c => decide (c < 128) with
  | false =>
    cases h2 : (TL.tl w).all isD with
    | false => rfl
    | true =>
      rw [digit_ascii h2] at h
      cases h
  | true =>
    rw [all_digit h, Bool.true_and, Bool.and_comm]
theorem numV_nonneg (w : Str) : 0 ≤ numV w := Int.natCast_nonneg _
theorem num_all {w : Str} (h : numB w = true) : (∀ c ∈ TL.tl w, 48 ≤ c ∧ c ≤ 57) ∧ TL.tl w ≠ [] ∧ (TL.tl w).length ≤ 9 := by
  unfold numB at h
  simp only [Bool.and_eq_true, decide_eq_true_eq, List.all_eq_true] at h
  exact ⟨fun c hc => isD_iff.mp (h.1 c hc), h.2.1, h.2.2.1⟩
theorem num_int {w : Str} (h : numB w = true) : PySem.intText? w = some (numV w) ∧ w.length ≤ 9 := by
  obtain ⟨h1, h2, h3⟩ := num_all h
  have h4 : w.length ≤ 9 := by rw [TL.len_tl]; exact h3
  exact ⟨PySem.intText_digits (fun c hc => h1 c hc) h2 (by omega), h4⟩
theorem num_last {w : Str} (h1 : Txt.isascii w = true) (h2 : Txt.isdigit w = true) (h3 : w.length ≤ 9) : numB w = (decide (w = "0") || decide ((TL.tl w).head? ≠ some 48)) := by
  have e := num_parts w
  rw [h1, h2] at e
  have e2 := Bool.and_eq_true_iff.mp e.symm
  rw [TL.len_tl] at h3
  unfold numB
  rw [e2.1, e2.2, decide_eq_true h3]
  rfl
theorem num_not1 {w : Str} (h : Txt.isascii w = false ∨ Txt.isdigit w = false) : numB w = false := by
  have e := num_parts w
  cases z : numB w with
  | false => rfl
  | true =>
    unfold numB at z
    simp only [Bool.and_eq_true] at z
    rw [z.1, z.2.1] at e
    rcases h with h | h <;> rw [h] at e <;> simp at e
theorem num_not2 {w : Str} (h : 9 < w.length) : numB w = false := by
  cases z : numB w with
  | false => rfl
  | true =>
    have := (num_all z).2.2
    rw [← TL.len_tl] at this
    omega
def wordAt (ws : List Str) (k : Nat) : Except Int Str := if k < ws.length then .ok (ws.getD k "") else .error (ws.length : Int)
theorem word_mem {ws : List Str} {k : Nat} {x : Str} (h : wordAt ws k = .ok x) : x ∈ ws := by
  unfold wordAt at h
  split at h
  · cases h
    rename_i h
    rw [List.getD_eq_getElem?_getD, List.getElem?_eq_getElem h]
    exact List.getElem_mem h
  · cases h
def numAt (ws : List Str) (k : Nat) : Except Int Int := match wordAt ws k with
  | .error e => .error e
  | .ok w => if numB w = true then .ok (numV w) else .error (k : Int)
def kdOf (w : Str) : Option Kd := if w = "proposal" then some .prop else if w = "prevote" then some .pre else if w = "precommit" then some .com else none
def kindAt (ws : List Str) (k : Nat) : Except Int Kd := match wordAt ws k with
  | .error e => .error e
  | .ok w => match kdOf w with
    | some d => .ok d
    | none => .error (k : Int)
def isL (c : Nat) : Bool := decide (c ∈ TL.tl "abcdefghijklmnopqrstuvwxyz")
def isA (c : Nat) : Bool := decide (c ∈ TL.tl "abcdefghijklmnopqrstuvwxyz0123456789")
def blkB (w : Str) : Bool := match TL.tl w with
  | [] => false
  | c :: l => decide (l.length + 1 ≤ 60) && (isL c && (c :: l).all isA)
def blockAt (ws : List Str) (k : Nat) (d : Kd) : Except Int (Option Str) := match wordAt ws k with
  | .error e => .error e
  | .ok w => if w = "-" ∧ d ≠ .prop then .ok none else if blkB w = true then .ok (some w) else .error (k : Int)
def leanAt (ws : List Str) (k : Nat) (t : Int) : Except Int (Option Int) := match wordAt ws k with
  | .error e => .error e
  | .ok w => if w = "-" then .ok none else if numB w = true then (if numV w < t then .ok (some (numV w)) else .error (k : Int)) else .error (k : Int)
def endAt (ws : List Str) (k : Nat) : Except Int Unit := if k < ws.length then .error (k : Int) else .ok ()
def bindE {α β : Type} : Except Int α → (α → Except Int β) → Except Int β
  | .error e, _ => .error e
  | .ok x, f => f x
def readEnd (ws : List Str) (w : Int) (k : Kd) (h t : Int) (b : Option Str) : Except Int Lt :=
  if k = .pre then bindE (leanAt ws 5 t) fun l => bindE (endAt ws 6) fun _ => .ok ⟨w, ⟨.pre, h, t, b, l⟩⟩
  else bindE (endAt ws 5) fun _ => .ok ⟨w, ⟨k, h, t, b, none⟩⟩
def readW (ws : List Str) : Except Int Lt :=
  bindE (numAt ws 0) fun w => bindE (kindAt ws 1) fun k => bindE (numAt ws 2) fun h => bindE (numAt ws 3) fun t => bindE (blockAt ws 4 k) fun b => readEnd ws w k h t b
def readL (line : Str) : Except Int Lt := readW (Txt.split line " ")
theorem inV_kinds (w : Str) : inV (.str w) [V.str "proposal", V.str "prevote", V.str "precommit"] = (kdOf w).isSome := by
  unfold kdOf inV
  have e : ∀ x y : Str, eqV (.str x) (.str y) = decide (y = x) := fun x y => by
    show (x == y) = _
    by_cases h : y = x
    · rw [h, decide_eq_true rfl, beq_self_eq_true]
    · rw [decide_eq_false h]
      exact beq_eq_false_iff_ne.mpr fun z => h z.symm
  simp only [List.any_cons, List.any_nil, e, Bool.or_false]
  by_cases h1 : w = "proposal"
  · rw [h1]
    decide +kernel
  · by_cases h2 : w = "prevote"
    · rw [h2]
      decide +kernel
    · by_cases h3 : w = "precommit"
      · rw [h3]
        decide +kernel
      · simp [h1, h2, h3]
theorem s_prop (a : Kd) : a.s = ("proposal" : Str) ↔ a = .prop := by cases a <;> decide +kernel
theorem s_pre (a : Kd) : a.s = ("prevote" : Str) ↔ a = .pre := by cases a <;> decide +kernel
theorem s_com (a : Kd) : a.s = ("precommit" : Str) ↔ a = .com := by cases a <;> decide +kernel
theorem kd_s (k : Kd) : kdOf k.s = some k := by
  cases k <;> decide +kernel
theorem kd_of {w : Str} {k : Kd} (h : kdOf w = some k) : w = k.s := by
  unfold kdOf at h
  split at h
  · cases h
    assumption
  · split at h
    · cases h
      assumption
    · split at h
      · cases h
        assumption
      · cases h
/-- what is raised: the error of the class at C that keeps e as at -/
def ExR (C : Addr) (H : Hp) (E : XK) (e : Int) : Prop := ∀ d H', Same H H' → H' d = some (.xd [(("at" : Str), .int e)]) → E (.ref C) (some d) H'
def spAt (K : PySem.W.Frag) (C : Addr) (R : List Str → Nat → Except Int V) : Sp := fun vs H Q E => ∃ (W : Addr) (ws : List Str) (k : Nat), vs = [.ref W, .int k] ∧ H W = some (.lst (ws.map V.str)) ∧ ws.length ≤ 16777216 ∧ (∀ w ∈ ws, w.length ≤ 16777216) ∧ k ≤ 6 ∧
  (∀ e, R ws k = .error e → ExR C H E e) ∧ (∀ n, R ws k = .ok n → ∀ H', Same H H' → Q n H')
def mapE {α β : Type} (f : α → β) : Except Int α → Except Int β
  | .error e => .error e
  | .ok x => .ok (f x)
def spWordAt (K : PySem.W.Frag) (C : Addr) : Sp := spAt K C fun ws k => mapE V.str (wordAt ws k)
def spNumAt (K : PySem.W.Frag) (C : Addr) : Sp := spAt K C fun ws k => mapE V.int (numAt ws k)
def spKindAt (K : PySem.W.Frag) (C : Addr) : Sp := spAt K C fun ws k => mapE (fun d => V.str d.s) (kindAt ws k)
def spEndAt (K : PySem.W.Frag) (C : Addr) : Sp := spAt K C fun ws k => mapE (fun _ => V.non) (endAt ws k)
def spBlockAt (K : PySem.W.Frag) (C : Addr) : Sp := fun vs H Q E => ∃ (W : Addr) (ws : List Str) (k : Nat) (d : Kd), vs = [.ref W, .int k, .str d.s] ∧ H W = some (.lst (ws.map V.str)) ∧ ws.length ≤ 16777216 ∧ (∀ w ∈ ws, w.length ≤ 16777216) ∧ k ≤ 6 ∧
  (∀ e, blockAt ws k d = .error e → ExR C H E e) ∧ (∀ n, blockAt ws k d = .ok n → ∀ H', Same H H' → Q (oS n) H')
def spLeanAt (K : PySem.W.Frag) (C : Addr) : Sp := fun vs H Q E => ∃ (W : Addr) (ws : List Str) (k : Nat) (t : Int), vs = [.ref W, .int k, .int t] ∧ H W = some (.lst (ws.map V.str)) ∧ ws.length ≤ 16777216 ∧ (∀ w ∈ ws, w.length ≤ 16777216) ∧ k ≤ 6 ∧
  (∀ e, leanAt ws k t = .error e → ExR C H E e) ∧ (∀ n, leanAt ws k t = .ok n → ∀ H', Same H H' → Q (oI n) H')
def spIsNum (K : PySem.W.Frag) : Sp := fun vs H Q _ => ∃ w : Str, vs = [.str w] ∧ w.length ≤ 16777216 ∧ ∀ H', Same H H' → Q (.bl (numB w)) H'
def spIsBlk (K : PySem.W.Frag) : Sp := fun vs H Q _ => ∃ w : Str, vs = [.str w] ∧ w.length ≤ 16777216 ∧ ∀ H', Same H H' → Q (.bl (blkB w)) H'
def spProp (K : PySem.W.Frag) : Sp := fun vs H Q _ => ∃ (h t : Int) (b : Option Str), vs = [.int h, .int t, oS b] ∧ ∀ p H', Same H H' → SmAt H' p ⟨.prop, h, t, b, none⟩ → Q (.ref p) H'
def spPrec (K : PySem.W.Frag) : Sp := fun vs H Q _ => ∃ (h t : Int) (b : Option Str), vs = [.int h, .int t, oS b] ∧ ∀ p H', Same H H' → SmAt H' p ⟨.com, h, t, b, none⟩ → Q (.ref p) H'
def spPrev (K : PySem.W.Frag) : Sp := fun vs H Q _ => ∃ (h t : Int) (b : Option Str) (l : Option Int), vs = [.int h, .int t, oS b, oI l] ∧ ∀ p H', Same H H' → SmAt H' p ⟨.pre, h, t, b, l⟩ → Q (.ref p) H'
def spRead (K : PySem.W.Frag) (C : Addr) : Sp := fun vs H Q E => ∃ line : Str, vs = [.str line] ∧ line.length + 2 ≤ 16777216 ∧
  (∀ e, readL line = .error e → ExR C H E e) ∧ (∀ x, readL line = .ok x → ∀ p H', Same H H' → LtAt H' p x → Q (.ref p) H')
theorem at_err {α β : Type} {C : Addr} {H H1 : Hp} {E : XK} {r : Except Int α} {f : α → Except Int β} (s1 : Same H H1) (h : ∀ e, bindE r f = .error e → ExR C H E e) : ∀ e, r = .error e → ExR C H1 E e := fun e he => by
  rw [he] at h
  exact fun d H' s' hd => h e rfl d H' (s1.trans s') hd
theorem mapE_err {α β : Type} {g : α → β} {r : Except Int α} {e : Int} (h : mapE g r = .error e) : r = .error e := by
  cases r with
  | error e' => cases h; rfl
  | ok x => cases h
theorem mapE_ok {α β : Type} {g : α → β} {r : Except Int α} {y : β} (h : mapE g r = .ok y) : ∃ x, r = .ok x ∧ y = g x := by
  cases r with
  | error e' => cases h
  | ok x => cases h; exact ⟨x, rfl, rfl⟩

/-! ### what is written is read back -/
theorem tl_str {i : Int} (h0 : 0 ≤ i) : TL.tl (toString i : Str) = TL.numL i.toNat := by
  rw [tos_nat h0, TL.tl_num]
theorem numL_head : ∀ (n : Nat), 0 < n → (TL.numL n).head? ≠ some 48
  | n, h => by
    rcases Nat.lt_or_ge n 10 with z | z
    · rw [TL.numL_lt z]
      simp
      omega
    · rw [TL.numL_step z]
      have ih := numL_head (n / 10) (by omega)
      have ne := TL.numL_ne (n / 10)
      cases e : TL.numL (n / 10) with
      | nil => exact absurd e ne
      | cons c l =>
        rw [e] at ih
        exact ih
theorem num_str {i : Int} (h0 : 0 ≤ i) (h1 : i < 1000000000) : numB (toString i : Str) = true ∧ numV (toString i : Str) = i := by
  have e := tl_str h0
  refine ⟨?_, ?_⟩
  · unfold numB
    rw [e]
    have a1 : (TL.numL i.toNat).all isD = true := List.all_eq_true.mpr fun c hc => isD_iff.mpr (TL.numL_digits i.toNat c hc)
    have a3 : (TL.numL i.toNat).length ≤ 9 := TL.numL_len (by decide) (by omega)
    rw [a1, decide_eq_true (TL.numL_ne i.toNat), decide_eq_true a3, Bool.true_and, Bool.true_and, Bool.true_and, Bool.or_eq_true]
    rcases Nat.eq_zero_or_pos i.toNat with z | z
    · refine .inl (decide_eq_true ?_)
      have : i = 0 := by omega
      rw [this]
      decide +kernel
    · exact .inr (decide_eq_true (numL_head _ z))
  · unfold numV
    rw [e, TL.numL_val]
    omega
theorem num_free {i : Int} (h0 : 0 ≤ i) {c : Nat} (hc : c < 48 ∨ 57 < c) : c ∉ TL.tl (toString i : Str) := by
  rw [tl_str h0]
  exact TL.numL_free hc
theorem blk_free {x : Str} (h : blkB x = true) {c : Nat} (hc : isA c = false) : c ∉ TL.tl x := fun hm => by
  unfold blkB at h
  split at h
  · cases h
  · rename_i d l e
    simp only [Bool.and_eq_true, List.all_eq_true] at h
    rw [e] at hm
    have := h.2.2 c hm
    rw [hc] at this
    cases this
/-- a statement that a line may write -/
structure GoodM (m : Sm) : Prop where
  h0 : 0 ≤ m.h
  h1 : m.h < 1000000000
  t0 : 0 ≤ m.t
  t1 : m.t < 1000000000
  b : ∀ x, m.b = some x → blkB x = true
  bp : m.k = .prop → m.b ≠ none
  l : ∀ x, m.l = some x → 0 ≤ x ∧ x < m.t
  lk : m.k ≠ .pre → m.l = none
theorem blk_ok {x : Str} (h : blkB x = true) : x.length ≤ 60 ∧ PyData.strOk x = true := by
  unfold blkB at h
  split at h
  · cases h
  · rename_i d l e
    simp only [Bool.and_eq_true, List.all_eq_true, decide_eq_true_eq] at h
    refine ⟨by rw [TL.len_tl, e]; exact h.1, strOk_of fun c hc => ?_⟩
    rw [e] at hc
    have := of_decide_eq_true (h.2.2 c hc)
    have : ∀ c ∈ TL.tl "abcdefghijklmnopqrstuvwxyz0123456789", c < 1114112 := by decide +kernel
    exact this c (of_decide_eq_true (h.2.2 c hc))
theorem GoodM.small {m : Sm} (g : GoodM m) : SmallM m := by
  have hk : SmallV (.str m.k.s) := .inr (.inr ⟨_, rfl, by cases m.k <;> decide +kernel, ks_ok _⟩)
  have hh : SmallV (.int m.h) := .inr (.inl ⟨_, rfl, g.h0, g.h1⟩)
  have ht : SmallV (.int m.t) := .inr (.inl ⟨_, rfl, g.t0, g.t1⟩)
  have hb : SmallV (oS m.b) := by
    cases e : m.b with
    | none => exact .inl rfl
    | some x => exact .inr (.inr ⟨x, rfl, blk_ok (g.b x e)⟩)
  have hl : SmallV (oI m.l) := by
    cases e : m.l with
    | none => exact .inl rfl
    | some x =>
      have := g.l x e
      have := g.t1
      exact .inr (.inl ⟨x, rfl, by omega, by omega⟩)
  intro v hv
  obtain ⟨mk, mh, mt, mb, ml⟩ := m
  cases mk <;> simp only [Sm.vals, List.mem_cons, List.not_mem_nil, or_false] at hv <;> (rcases hv with rfl | rfl | rfl | rfl | rfl <;> assumption) <;> skip
theorem GoodM.ok {m : Sm} (g : GoodM m) : OkS m.b := fun x e => (blk_ok (g.b x e)).2
theorem dash_blk : blkB "-" = false := by decide +kernel
theorem dash_num : numB "-" = false := by decide +kernel
theorem ks_free (k : Kd) : 32 ∉ TL.tl k.s := by cases k <;> decide +kernel
theorem word_free {m : Sm} (g : GoodM m) : ∀ v ∈ m.vals, 32 ∉ TL.tl (wordV v) := by
  have hd : 32 ∉ TL.tl (wordV V.non) := by decide +kernel
  have hk : 32 ∉ TL.tl (wordV (.str m.k.s)) := ks_free m.k
  have hh : 32 ∉ TL.tl (wordV (.int m.h)) := num_free g.h0 (.inl (by decide))
  have ht : 32 ∉ TL.tl (wordV (.int m.t)) := num_free g.t0 (.inl (by decide))
  have hb : 32 ∉ TL.tl (wordV (oS m.b)) := by
    cases e : m.b with
    | none => exact hd
    | some x => exact blk_free (g.b x e) (by decide +kernel)
  have hl : 32 ∉ TL.tl (wordV (oI m.l)) := by
    cases e : m.l with
    | none => exact hd
    | some x => exact num_free (g.l x e).1 (.inl (by decide))
  intro v hv
  obtain ⟨mk, mh, mt, mb, ml⟩ := m
  cases mk <;> simp only [Sm.vals, List.mem_cons, List.not_mem_nil, or_false] at hv <;> (rcases hv with rfl | rfl | rfl | rfl | rfl <;> assumption) <;> skip
theorem line_words {who : Int} (w0 : 0 ≤ who) {m : Sm} (g : GoodM m) : Txt.split (lineS who m) " " = (toString who : Str) :: m.vals.map wordV := by
  unfold lineS
  refine TL.split_join (y := " ") (s := 32) (S := []) (by decide +kernel) (by decide +kernel) (List.cons_ne_nil _ _) fun p hp => ?_
  rcases List.mem_cons.mp hp with rfl | hp
  · exact num_free w0 (.inl (by decide))
  · obtain ⟨v, hv, rfl⟩ := List.mem_map.mp hp
    exact word_free g v hv
theorem wordAt_cons {x : Str} {ws : List Str} {k : Nat} : wordAt (x :: ws) (k + 1) = mapE id (match wordAt ws k with | .ok y => .ok y | .error e => .error (e + 1)) := by
  unfold wordAt
  by_cases h : k < ws.length
  · rw [if_pos h, if_pos (by simpa using h)]
    rfl
  · rw [if_neg h, if_neg (by simpa using h)]
    simp [mapE]
theorem wordAt_ok {ws : List Str} {k : Nat} {x : Str} (h : ws[k]? = some x) : wordAt ws k = .ok x := by
  have hk := (List.getElem?_eq_some_iff.mp h).1
  unfold wordAt
  rw [if_pos hk, List.getD_eq_getElem?_getD, h]
  rfl
theorem read_line {who : Int} (w0 : 0 ≤ who) (w1 : who < 1000000000) {m : Sm} (g : GoodM m) : readL (lineS who m) = .ok ⟨who, m⟩ := by
  unfold readL
  rw [line_words w0 g]
  have nw := num_str w0 w1
  have nh := num_str g.h0 g.h1
  have nt := num_str g.t0 g.t1
  obtain ⟨mk, mh, mt, mb, ml⟩ := m
  have lk := g.lk
  have bp := g.bp
  have gb := g.b
  have gl := g.l
  have t1 := g.t1
  dsimp only at nh nt lk bp gb gl t1
  have e0 : ∀ rest, numAt ((toString who : Str) :: rest) 0 = .ok who := fun rest => by
    unfold numAt
    rw [wordAt_ok (x := toString who) rfl]
    simp only [nw.1, nw.2, if_true]
  have e2 : ∀ a b rest, numAt (a :: b :: (toString mh : Str) :: rest) 2 = .ok mh := fun a b rest => by
    unfold numAt
    rw [wordAt_ok (x := toString mh) rfl]
    simp only [nh.1, nh.2, if_true]
  have e3 : ∀ a b c rest, numAt (a :: b :: c :: (toString mt : Str) :: rest) 3 = .ok mt := fun a b c rest => by
    unfold numAt
    rw [wordAt_ok (x := toString mt) rfl]
    simp only [nt.1, nt.2, if_true]
  have e1 : ∀ a (k : Kd) rest, kindAt (a :: k.s :: rest) 1 = .ok k := fun a k rest => by
    unfold kindAt
    rw [wordAt_ok (x := k.s) rfl]
    simp only [kd_s]
  have e4 : ∀ a b c d rest, blockAt (a :: b :: c :: d :: wordV (oS mb) :: rest) 4 mk = .ok mb := fun a b c d rest => by
    unfold blockAt
    rw [wordAt_ok (x := wordV (oS mb)) rfl]
    cases mb with
    | none => exact if_pos ⟨rfl, fun z => bp z rfl⟩
    | some x =>
      have hx := gb x rfl
      have nd : ¬ (x = "-" ∧ mk ≠ .prop) := fun z => by
        rw [z.1, dash_blk] at hx
        cases hx
      show (if x = "-" ∧ mk ≠ .prop then _ else if blkB x = true then _ else _) = _
      rw [if_neg nd, if_pos hx]
      rfl
  have e5 : ∀ a b c d e, leanAt [a, b, c, d, e, wordV (oI ml)] 5 mt = .ok ml := fun a b c d e => by
    unfold leanAt
    rw [wordAt_ok (x := wordV (oI ml)) rfl]
    cases ml with
    | none => exact if_pos rfl
    | some x =>
      have hx := gl x rfl
      have nx := num_str hx.1 (by omega)
      have nd : ¬ ((toString x : Str) = "-") := fun z => by
        rw [z, dash_num] at nx
        cases nx.1
      show (if (toString x : Str) = "-" then _ else if numB (toString x) = true then (if numV (toString x) < mt then _ else _) else _) = _
      rw [if_neg nd, if_pos nx.1, nx.2, if_pos hx.2]
      exact congrArg (fun z => Except.ok (some z)) nx.2
  cases mk with
  | pre =>
    have ew : (toString who : Str) :: (Sm.vals ⟨.pre, mh, mt, mb, ml⟩).map wordV = [(toString who : Str), Kd.pre.s, (toString mh : Str), (toString mt : Str), wordV (oS mb), wordV (oI ml)] := rfl
    rw [ew]
    unfold readW readEnd
    rw [e0, e1, e2, e3]
    simp only [bindE, e4]
    rw [if_pos trivial, e5]
    rfl
  | prop =>
    have ew : (toString who : Str) :: (Sm.vals ⟨.prop, mh, mt, mb, ml⟩).map wordV = [(toString who : Str), Kd.prop.s, (toString mh : Str), (toString mt : Str), wordV (oS mb)] := rfl
    rw [ew]
    unfold readW readEnd
    rw [e0, e1, e2, e3]
    simp only [bindE, e4]
    rw [if_neg (by decide), lk (by decide)]
    rfl
  | com =>
    have ew : (toString who : Str) :: (Sm.vals ⟨.com, mh, mt, mb, ml⟩).map wordV = [(toString who : Str), Kd.com.s, (toString mh : Str), (toString mt : Str), wordV (oS mb)] := rfl
    rw [ew]
    unfold readW readEnd
    rw [e0, e1, e2, e3]
    simp only [bindE, e4]
    rw [if_neg (by decide), lk (by decide)]
    rfl
/-! ### a journal restored -/
/-- the journal of the lines, or the index of the first invalid one -/
def resM (who : Int) : List Str → Nat → List Sm → Except Int (List Sm)
  | [], _, ms => .ok ms
  | l :: ls, n, ms => match readL l with
    | .error _ => if ls = [] then .ok ms else .error (n : Int)
    | .ok x => if x.w ≠ who ∨ memS ms x.m = true ∨ fcl ms x.m ms.length ≠ none then .error (n : Int) else resM who ls (n + 1) (ms ++ [x.m])
/-- no two of them clash, none is repeated -/
def Clean (ms : List Sm) : Prop := ∀ j, j < ms.length → memS (ms.take j) (ms.getD j default) = false ∧ fcl (ms.take j) (ms.getD j default) j = none
theorem resM_lines {who : Int} (w0 : 0 ≤ who) (w1 : who < 1000000000) (tail : List Str) : ∀ (ms : List Sm) (n : Nat) (acc : List Sm), (∀ m ∈ ms, GoodM m) → (∀ j, j < ms.length → memS (acc ++ ms.take j) (ms.getD j default) = false ∧ fcl (acc ++ ms.take j) (ms.getD j default) (acc.length + j) = none) →
    resM who (ms.map (lineS who) ++ tail) n acc = resM who tail (n + ms.length) (acc ++ ms)
  | [], n, acc, _, _ => by simp
  | m :: ms, n, acc, g, c => by
    have h0 := c 0 (Nat.succ_pos _)
    have e := read_line w0 w1 (g m List.mem_cons_self)
    have h1 : memS acc m = false := by simpa using h0.1
    have h2 : fcl acc m acc.length = none := by simpa using h0.2
    show resM who (lineS who m :: (ms.map (lineS who) ++ tail)) n acc = _
    rw [resM, e]
    show (if (⟨who, m⟩ : Lt).w ≠ who ∨ memS acc m = true ∨ fcl acc m acc.length ≠ none then _ else _) = _
    rw [if_neg (by simp [h1, h2]), resM_lines w0 w1 tail ms (n + 1) (acc ++ [m]) (fun y hy => g y (List.mem_cons_of_mem _ hy)) fun j hj => ?_]
    · simp [Nat.add_assoc, Nat.add_comm 1]
    · have := c (j + 1) (Nat.succ_lt_succ hj)
      simpa [Nat.add_assoc, Nat.add_comm 1] using this

section
local macro_rules | `(tactic| walk_at "r1") => `(tactic| first
  | refine ⟨_, rfl, ?_⟩
  | refine ⟨_, _, rfl, rfl, (by show (0 : Int) < _; first | decide | omega), ?_⟩
  | refine ⟨_, _, rfl, rfl, (show CDiv _ _ from ⟨by decide, by decide⟩), ?_⟩
  | refine ⟨_, _, rfl, rfl, (show CMul _ _ from .inl ⟨by decide, by decide⟩), ?_⟩
  | refine ⟨_, _, rfl, rfl, (show CMul _ _ from .inr ⟨by decide, by decide⟩), ?_⟩
  | refine ⟨_, _, rfl, rfl, (show CPow _ _ from ⟨by decide, by decide, by decide⟩), ?_⟩
  | refine ⟨_, _, rfl, rfl, ?_⟩
  | refine ⟨_, _, _, _, rfl, rfl, SqT.of (by assumption), by first | exact at0 _ | exact at1 _ | exact at2 _ | exact at3 _ | exact at4 _ (by assumption), ?_⟩
  | refine ⟨scal_oS _ _, ?_⟩
  | refine .inl ⟨_, rfl, ?_⟩
  | refine ⟨rfl, ?_⟩)
local macro_rules | `(tactic| walk_at "rs") => `(tactic| repeat walk_at "r1")

variable {P : Program} {w : World} {K : PySem.W.Frag} {mg : Str → Option Value} {base : Heap} {a : Ads}
theorem getD_mem {zs : List Int} {i : Nat} (h : i < zs.length) : zs.getD i 0 ∈ zs := by
  rw [List.getD_eq_getElem?_getD, List.getElem?_eq_getElem h]
  exact List.getElem_mem h
theorem at_ints {zs : List Int} {i : Nat} (h : i < zs.length) : (zs.map V.int)[i]? = some (.int (zs.getD i 0)) := by
  rw [List.getElem?_map, List.getD_eq_getElem?_getD, List.getElem?_eq_getElem h]
  rfl

theorem ok_word (T : Txt K mg a) : ∃ fd, FnOk P w K mg base CX0 1 a.d_word fd ["part"] (spWord K) ∧ Binds K fd ["part"] [] := by
  obtain ⟨fd, F, b⟩ := T.d_word.F
  refine ⟨fd, F.ok sc_word (fun vs H Q E h => ?_) (fun cdv A outer s H vs Q E hr h => ?_), b⟩
  · obtain ⟨_, rfl, _⟩ := h
    rfl
  · obtain ⟨v, rfl, hv, k⟩ := h
    refine ⟨_, (pss_cons (ps_if (pt_cmpR op_isN (pv 0) pe_non (nomark _))
      (pss_one (ps_ret (pe_glob (v := (.str "-")) rfl T.c_NONE.choose_spec ⟨_, rfl⟩)))
      pss_nil)
      (pss_one (ps_ret (pe_callTy cr_strA (by rfl) T.n_str (by decide +kernel) (pa_cons (pv 0) pa_nil))))), ?_⟩
    rcases hv with rfl | ⟨i, rfl, h0, h1⟩ | ⟨x, rfl, hx⟩
    · walk_at "rs"
      exact k
    · walk_at "rs"
      exact ⟨log_small (by omega) (by omega), k⟩
    · walk_at "rs"
      exact .inr ⟨x, rfl, k⟩
theorem ok_letter_line (T : Txt K mg a) : ∃ fd, FnOk P w K mg base CX0 2 a.d_letter_line fd ["letter"] (spLine K) ∧ Binds K fd ["letter"] [] := by
  obtain ⟨fd, F, b⟩ := T.d_letter_line.F
  obtain ⟨fd_word, G_word, b_word⟩ := ok_word (P := P) (w := w) (base := base) T
  refine ⟨fd, F.ok sc_letter_line (fun vs H Q E h => ?_) (fun cdv A outer s H vs Q E hr h => ?_), b⟩
  · obtain ⟨_, _, rfl, _⟩ := h
    rfl
  · obtain ⟨t, x, rfl, hx, w0, w1, hs, k⟩ := h
    obtain ⟨q, hp, hq⟩ := id hx
    have hq' : H q = some (.tup x.m.vals) := hq
    have l5 := vals_len x.m
    refine ⟨_, (pss_cons (ps_asg (pv 0) (pg_tup rfl (pgs_cons (pg_name (i := 1) sc_letter_line.nd rfl (Or.inl rfl)) (pgs_cons (pg_name (i := 2) sc_letter_line.nd rfl (Or.inl rfl)) pgs_nil))))
      (pss_one (ps_ret (pe_join pe_str (pe_op op_cat (pe_lst (pa_cons (pe_callTy cr_strA (by rfl) T.n_str (by decide +kernel) (pa_cons (pv 1) pa_nil)) pa_nil)) (pe_lc (own := [("part", 3)]) (g := (gName 3)) (tt := tYes) rfl sc_letter_line.nd (pi_tup (pv 2)) (blkOk_by (own := [("part", 3)]) (N := sc_letter_line_N) (sc := defScope s_letter_line) (by decide +kernel)) (fun _ _ _ _ _ => (pg_name (i := 3) sc_letter_line.nd rfl (Or.inl rfl))) (fun _ _ _ _ _ => pts_nil) (fun _ _ _ _ _ => (pe_call G_word (hr.mono (by decide)) rfl T.d_word.g T.d_word.kp b_word .nil pass0 (pa_cons (pv 3) pa_nil))))))))), ?_⟩
    walk_at "rs"
    refine ⟨_, _, rfl, SqT.of hp, rfl, _, _, rfl, _, _, rfl, rfl, ?_⟩
    walk_at "rs"
    refine ⟨⟨_, rfl⟩, ?_⟩
    walk_at "rs"
    refine ⟨log_small (by omega) (by omega), ?_⟩
    refine ⟨(by show 1 ≤ sizeLine; decide), fun l1 hl1 => ?_⟩
    have s1 := same_new (o := .lst [V.str (toString x.w)]) hl1
    have h1 := (upd_same : (upd H l1 (.lst [V.str (toString x.w)])) l1 = _)
    generalize upd H l1 (.lst [V.str (toString x.w)]) = H1 at s1 h1 ⊢
    walk_at "rs"
    refine ⟨⟨_, SqT.of (s1 _ _ hq')⟩, fun D hD => ?_⟩
    refine lc_tup (K := K) (a := q) (xs := x.m.vals) (fun i H2 => Same H1 H2 ∧ H2 D = some (.lst (((x.m.vals.take i).map wordV).map V.str))) ⟨same_new hD, by rw [upd_same]; simp⟩ (fun i H2 _ ⟨s2, _⟩ => SqT.of (s2 _ _ (s1 _ _ hq'))) ?_ ?_
    · rintro i y H2 hy ⟨s2, hd⟩
      have hi : i < x.m.vals.length := (List.getElem?_eq_some_iff.mp hy).1
      have et : x.m.vals.take (i + 1) = x.m.vals.take i ++ [y] := by rw [List.take_add_one, hy]; rfl
      have hsy := hs y (List.mem_of_getElem? hy)
      refine ⟨rfl, ?_⟩
      walk_at "rs"
      refine ⟨hsy, ?_⟩
      refine ⟨_, hd, by rw [List.length_map, List.length_map, List.length_take]; exact small1000 (by omega), same_upd s2 hD, ?_⟩
      rw [upd_same, et]
      simp
    · rintro H2 ⟨s2, hd⟩
      rw [List.take_length] at hd
      have fit := join_fit (who := x.w) w0 w1 hs
      refine ⟨l1, D, _, _, rfl, rfl, s2 _ _ h1, hd, by rw [List.length_map, List.length_map, sizeLine_eq]; simp; omega, fun l3 hl3 => ?_⟩
      have s3 := same_new (o := .lst ([V.str (toString x.w)] ++ (x.m.vals.map wordV).map V.str)) hl3
      refine ⟨_, l3, (toString x.w : Str) :: x.m.vals.map wordV, rfl, rfl, .inl (SqL.of upd_same), fit, ?_⟩
      exact k _ ((s1.trans s2).trans s3)

theorem at_strs {ws : List Str} {k : Nat} (h : k < ws.length) : atI (ws.map V.str) (k : Int) = some (.str (ws.getD k "")) := atI_nat (by
  rw [List.getElem?_map, List.getD_eq_getElem?_getD, List.getElem?_eq_getElem h]
  rfl)
theorem msgL (i : Int) (h0 : 0 ≤ i) (h1 : i < 1000000000) : (((Str.empty ++ ("no right word at index " : Str)) ++ (toString i : Str)) : Str).length ≤ 1000 := by
  have a := (num_ok h0 h1).1
  have e : (((Str.empty ++ ("no right word at index " : Str)) ++ (toString i : Str)) : Str).length = (Str.empty ++ ("no right word at index " : Str)).length + (toString i : Str).length := by
    rw [TL.len_tl, TL.tl_append, List.length_append, ← TL.len_tl, ← TL.len_tl]
  rw [e]
  have c : (Str.empty ++ ("no right word at index " : Str)).length = 23 := by decide +kernel
  omega
theorem ok_BadLine_init (TE : TxtE P w K mg a) (T : Txt K mg a) : ∃ fd, FnOk P w K mg base CX0 1 a.d_BadLine_init fd ["self", "at"] (spSup a.C_BadLine "at" fun v => ∃ i : Int, v = .int i ∧ 0 ≤ i ∧ i < 1000000000) ∧ Binds K fd ["self", "at"] [] := by
  obtain ⟨fd, S, b⟩ := TE.sup_BadLine
  have T0 : SupTxt "at" "at" s_BadLine_init _ _ _ _ _ _ _ _ _ _ := ⟨rfl, rfl, rfl, rfl, rfl, rfl, rfl, rfl, by decide +kernel, ⟨_, rfl, rfl⟩⟩
  refine ⟨fd, ok_sup S T0 (by decide +kernel) (by decide) (by decide) T.n_super ?_ (fun _ => rfl) (fun _ _ _ _ => rfl) (fun _ _ _ _ => rfl) (fun _ _ _ _ => rfl) _ (fun _ => rfl), b⟩
  rintro cd cc A outer s H E e v ⟨i, rfl, i0, i1⟩
  refine ⟨_, pa_cons (pe_joined (.cons pe_str (.cons (pe_fmt (pv 1)) .nil))) pa_nil, fun H1 Q q => ?_⟩
  have len := msgL i i0 i1
  refine ⟨_, rfl, by rw [sizeLine_eq]; decide +kernel, _, rfl, .inr ⟨i, rfl, log_small i0 i1, _, rfl, ?_, q _⟩⟩
  rw [sizeLine_eq]
  exact Nat.le_trans len (by decide)
theorem ok_proposal (T : Txt K mg a) : ∃ fd, FnOk P w K mg base CX0 1 a.d_proposal fd ["height", "turn", "block"] (spProp K) ∧ Binds K fd ["height", "turn", "block"] [] := by
  obtain ⟨fd, F, b⟩ := T.d_proposal.F
  refine ⟨fd, F.ok sc_proposal (fun vs H Q E h => ?_) (fun cdv A outer s H vs Q E hr h => ?_), b⟩
  · obtain ⟨_, _, _, rfl, _⟩ := h
    rfl
  · obtain ⟨h, t, b, rfl, k⟩ := h
    refine ⟨_, (pss_one (ps_ret (pe_tup (pa_cons pe_str (pa_cons (pv 0) (pa_cons (pv 1) (pa_cons (pv 2) pa_nil))))))), ?_⟩
    walk_at "rs"
    exact ⟨(by show 4 ≤ sizeLine; decide), fun p hp => k p _ (same_new hp) upd_same⟩
theorem ok_precommit (T : Txt K mg a) : ∃ fd, FnOk P w K mg base CX0 1 a.d_precommit fd ["height", "turn", "block"] (spPrec K) ∧ Binds K fd ["height", "turn", "block"] [] := by
  obtain ⟨fd, F, b⟩ := T.d_precommit.F
  refine ⟨fd, F.ok sc_precommit (fun vs H Q E h => ?_) (fun cdv A outer s H vs Q E hr h => ?_), b⟩
  · obtain ⟨_, _, _, rfl, _⟩ := h
    rfl
  · obtain ⟨h, t, b, rfl, k⟩ := h
    refine ⟨_, (pss_one (ps_ret (pe_tup (pa_cons pe_str (pa_cons (pv 0) (pa_cons (pv 1) (pa_cons (pv 2) pa_nil))))))), ?_⟩
    walk_at "rs"
    exact ⟨(by show 4 ≤ sizeLine; decide), fun p hp => k p _ (same_new hp) upd_same⟩
theorem ok_prevote (T : Txt K mg a) : ∃ fd, FnOk P w K mg base CX0 1 a.d_prevote fd ["height", "turn", "block", "lean"] (spPrev K) ∧ Binds K fd ["height", "turn", "block", "lean"] [] := by
  obtain ⟨fd, F, b⟩ := T.d_prevote.F
  refine ⟨fd, F.ok sc_prevote (fun vs H Q E h => ?_) (fun cdv A outer s H vs Q E hr h => ?_), b⟩
  · obtain ⟨_, _, _, _, rfl, _⟩ := h
    rfl
  · obtain ⟨h, t, b, l, rfl, k⟩ := h
    refine ⟨_, (pss_one (ps_ret (pe_tup (pa_cons pe_str (pa_cons (pv 0) (pa_cons (pv 1) (pa_cons (pv 2) (pa_cons (pv 3) pa_nil)))))))), ?_⟩
    walk_at "rs"
    exact ⟨(by show 5 ≤ sizeLine; decide), fun p hp => k p _ (same_new hp) upd_same⟩
theorem ok_is_number (T : Txt K mg a) : ∃ fd, FnOk P w K mg base CX0 1 a.d_is_number fd ["word"] (spIsNum K) ∧ Binds K fd ["word"] [] := by
  obtain ⟨fd, F, b⟩ := T.d_is_number.F
  refine ⟨fd, F.ok sc_is_number (fun vs H Q E h => ?_) (fun cdv A outer s H vs Q E hr h => ?_), b⟩
  · obtain ⟨_, rfl, _⟩ := h
    rfl
  · obtain ⟨x, rfl, lx, k⟩ := h
    have k0 := k _ (Same.refl H)
    refine ⟨_, (pss_cons (ps_if (PW.pt (pw_or (pt_not (pt_val (pe_bm0 PySem.F.plainAttrs_str PySem.F.slot_str_isascii PySem.F.type_str_isascii mt_isascii (pv 0)))) (pw_or (pt_not (pt_val (pe_bm0 PySem.F.plainAttrs_str PySem.F.slot_str_isdigit PySem.F.type_str_isdigit mt_isdigit (pv 0)))) (pw_or1 (pt_cmpR op_gt (pe_callB call_len_str (by rfl) T.n_len PySem.boot_len (pa_cons (pv 0) pa_nil)) (pe_glob (v := (.int 9)) rfl T.c_MOST_DIGITS_wire.choose_spec ⟨_, rfl⟩) (nomark _))))))
      (pss_one (ps_ret pe_bl))
      pss_nil)
      (pss_one (ps_ret (pe_or (pe_cmpR op_eq (pv 0) pe_str (nomark _)) (pe_one (pe_cmpR op_ne (pe_ix ix_str (pv 0) pe_int (fun _ _ => rfl)) pe_str (nomark _))))))), ?_⟩
    walk_at "rs"
    refine ⟨trivial, ?_⟩
    walk_at "rs"
    refine ite2 (fun c1 => ?_) (fun c1 => ?_)
    · rw [num_not1 (.inl (by simpa using c1))] at k0
      walk_at "rs"
      exact k0
    walk_at "rs"
    refine ⟨trivial, ?_⟩
    walk_at "rs"
    refine ite2 (fun c2 => ?_) (fun c2 => ?_)
    · rw [num_not1 (.inr (by simpa using c2))] at k0
      walk_at "rs"
      exact k0
    walk_at "rs"
    refine ⟨lx, ?_⟩
    walk_at "rs"
    refine ite2 (fun c3 => ?_) (fun c3 => ?_)
    · rw [num_not2 (by simp at c3; omega)] at k0
      walk_at "rs"
      exact k0
    have a1 : Txt.isascii x = true := by simpa using c1
    have a2 : Txt.isdigit x = true := by simpa using c2
    rw [num_last a1 a2 (by simp at c3; omega)] at k0
    obtain ⟨c, l, ec⟩ : ∃ c l, TL.tl x = c :: l := by
      have := num_parts x
      rw [a1, a2] at this
      have := of_decide_eq_true (Bool.and_eq_true_iff.mp this.symm).2
      cases e : TL.tl x with
      | nil => exact absurd e this
      | cons c l => exact ⟨c, l, rfl⟩
    walk_at "rs"
    refine ite2 (fun c4 => ?_) (fun c4 => ?_)
    · have e0 : x = "0" := by simpa using c4
      rw [decide_eq_true e0] at k0
      exact k0
    · have e0 : ¬ x = "0" := by simpa using c4
      rw [decide_eq_false e0, ec] at k0
      walk_at "rs"
      refine ⟨_, _, c, rfl, rfl, lx, atI_nat (j := 0) (by rw [show x.cps.toList = c :: l from ec]; rfl), ?_⟩
      walk_at "rs"
      have e3 : (!decide (V.str ⟨#[c]⟩ = V.str "0")) = (false || decide ((c :: l).head? ≠ some 48)) := by
        have : (("0" : Str)) = ⟨#[48]⟩ := by decide +kernel
        rw [this]
        simp
      rw [e3]
      exact k0
theorem ok_is_block (T : Txt K mg a) : ∃ fd, FnOk P w K mg base CX0 1 a.d_is_block fd ["word"] (spIsBlk K) ∧ Binds K fd ["word"] [] := by
  obtain ⟨fd, F, b⟩ := T.d_is_block.F
  refine ⟨fd, F.ok sc_is_block (fun vs H Q E h => ?_) (fun cdv A outer s H vs Q E hr h => ?_), b⟩
  · obtain ⟨_, rfl, _⟩ := h
    rfl
  · obtain ⟨x, rfl, lx, k⟩ := h
    have k2 := k
    have k0 := k _ (Same.refl H)
    refine ⟨_, (pss_cons (ps_if (PW.pt (pw_or (pt_cmpR op_lt (pe_callB call_len_str (by rfl) T.n_len PySem.boot_len (pa_cons (pv 0) pa_nil)) pe_int (nomark _)) (pw_or (pt_cmpR op_gt (pe_callB call_len_str (by rfl) T.n_len PySem.boot_len (pa_cons (pv 0) pa_nil)) (pe_glob (v := (.int 60)) rfl T.c_MOST_SIGNS.choose_spec ⟨_, rfl⟩) (nomark _)) (pw_or1 (pt_cmpR op_notIn_sign (pe_ix ix_str (pv 0) pe_int (fun _ _ => rfl)) (pe_glob (v := (.str "abcdefghijklmnopqrstuvwxyz")) rfl T.c_LETTERS.choose_spec ⟨_, rfl⟩) (by rfl))))))
      (pss_one (ps_ret pe_bl))
      pss_nil)
      (pss_one (ps_ret (pe_callB (cr_all rfl) (by rfl) T.n_all (by decide +kernel) (pa_cons (pe_lc (own := [("sign", 1)]) (g := (gName 1)) (tt := tYes) rfl sc_is_block.nd (pi_str (pv 0)) (blkOk_by (own := [("sign", 1)]) (N := sc_is_block_N) (sc := defScope s_is_block) (by decide +kernel)) (fun _ _ _ _ _ => (pg_name (i := 1) sc_is_block.nd rfl (Or.inl rfl))) (fun _ _ _ _ _ => pts_nil) (fun _ _ _ _ _ => (pe_cmpR op_in_sign (pv 1) (pe_glob (v := (.str "abcdefghijklmnopqrstuvwxyz0123456789")) rfl T.c_BLOCK_SIGNS.choose_spec ⟨_, rfl⟩) (by rfl)))) pa_nil))))), ?_⟩
    walk_at "rs"
    refine ⟨lx, ?_⟩
    walk_at "rs"
    refine ite2 (fun c1 => ?_) (fun c1 => ?_)
    · have e : TL.tl x = [] := by
        have := of_decide_eq_true c1
        have : x.length = 0 := by omega
        rw [TL.len_tl] at this
        exact List.eq_nil_of_length_eq_zero (by omega)
      have : blkB x = false := by unfold blkB; rw [e]
      rw [this] at k0
      walk_at "rs"
      refine ite2 (fun _ => ?_) (fun z => absurd rfl z)
      walk_at "rs"
      exact k0
    obtain ⟨c, l, ec⟩ : ∃ c l, TL.tl x = c :: l := by
      have : ¬ ((x.length : Int) < 1) := fun z => c1 (decide_eq_true z)
      have : ¬ x.length = 0 := by omega
      rw [TL.len_tl] at this
      cases e : TL.tl x with
      | nil => rw [e] at this; exact absurd rfl this
      | cons c l => exact ⟨c, l, rfl⟩
    have eb : blkB x = (decide (l.length + 1 ≤ 60) && (isL c && (c :: l).all isA)) := by unfold blkB; rw [ec]
    rw [eb] at k0
    walk_at "rs"
    refine ⟨lx, ?_⟩
    walk_at "rs"
    have el : x.length = l.length + 1 := by rw [TL.len_tl, ec]; rfl
    refine ite2 (fun c2 => ?_) (fun c2 => ?_)
    · have : ¬ (l.length + 1 ≤ 60) := by simp at c2; omega
      rw [decide_eq_false this] at k0
      walk_at "rs"
      refine ite2 (fun _ => ?_) (fun z => absurd rfl z)
      walk_at "rs"
      exact k0
    have : l.length + 1 ≤ 60 := by simp at c2; omega
    rw [decide_eq_true this, Bool.true_and] at k0
    walk_at "rs"
    refine ⟨_, _, c, rfl, rfl, lx, atI_nat (j := 0) (by rw [show x.cps.toList = c :: l from ec]; rfl), ?_⟩
    walk_at "rs"
    refine ite2 (fun c3 => ?_) (fun c3 => ?_)
    · have : isL c = false := by
        unfold isL
        have c3' : (!decide (c ∈ TL.tl "abcdefghijklmnopqrstuvwxyz")) = true := c3
        simpa using c3'
      rw [this] at k0
      walk_at "rs"
      exact k0
    have : isL c = true := by
      unfold isL
      have c3' : ¬ (!decide (c ∈ TL.tl "abcdefghijklmnopqrstuvwxyz")) = true := c3
      simpa using c3'
    rw [eb, decide_eq_true (show l.length + 1 ≤ 60 by assumption), this, Bool.true_and, Bool.true_and] at k2
    walk_at "rs"
    intro D hD
    have es : x.cps.toList = c :: l := ec
    have esz : x.cps.size = (c :: l).length := by rw [← es, Array.length_toList]
    refine lc_it walk_str (fun i H2 => Same H H2 ∧ H2 D = some (.lst ((((c :: l).take i).map isA).map V.bl))) ⟨same_new hD, by rw [upd_same]; rfl⟩ (fun _ _ _ _ => trivial) ?_ ?_
    · rintro i y H2 _ hi ⟨s2, hd⟩ ⟨rfl, d, hd0, rfl⟩
      have hd1 : (c :: l)[i]? = some d := by rw [← es, Array.getElem?_toList]; exact hd0
      have et : (c :: l).take (i + 1) = (c :: l).take i ++ [d] := by rw [List.take_add_one, hd1]; rfl
      refine ⟨rfl, ?_⟩
      walk_at "rs"
      refine ⟨_, hd, by rw [List.length_map, List.length_map, List.length_take]; exact small1000 (by rw [List.length_cons]; omega), same_upd s2 hD, ?_⟩
      rw [upd_same, et]
      simp only [List.map_append, List.map_cons, List.map_nil]
      rfl
    · rintro H2 ⟨s2, hd⟩
      rw [esz, List.take_length] at hd
      walk_at "rs"
      refine ⟨D, _, rfl, SqL.of hd, ?_⟩
      rw [List.all_map]
      exact k2 _ s2
theorem ok_word_at (TE : TxtE P w K mg a) (T : Txt K mg a) : ∃ fd, FnOk P w K mg base (L2N.CX P w) 3 a.d_word_at fd ["words", "at"] (spWordAt K a.C_BadLine) ∧ Binds K fd ["words", "at"] [] := by
  obtain ⟨fd, F, b⟩ := T.d_word_at.F
  obtain ⟨fd_BadLine_init, G_BadLine_init, b_BadLine_init⟩ := ok_BadLine_init (P := P) (w := w) (base := base) TE T
  refine ⟨fd, fun_okN F sc_word_at (fun vs H Q E h => ?_) (fun cdv A outer s H vs Q E hr h => ?_), b⟩
  · obtain ⟨_, _, _, rfl, _⟩ := h
    rfl
  · obtain ⟨W, ws, k, rfl, hW, lw, sw, k6, kr, kq⟩ := h
    refine ⟨_, (pss_cons (ps_if (pt_cmpR op_ge (pv 1) (pe_callB call_len_seq (by rfl) T.n_len PySem.boot_len (pa_cons (pv 0) pa_nil)) (nomark _))
      (pss_one (L2N.ps_raise rfl (L2N.takes_of rfl rfl rfl rfl) (pmk_sup TE.oex_BadLine TE.iC_BadLine TE.tI_BadLine G_BadLine_init (hr.mono (by decide)) b_BadLine_init rfl TE.g_BadLine (pa_cons (pe_callB call_len_seq (by rfl) T.n_len PySem.boot_len (pa_cons (pv 0) pa_nil)) pa_nil))))
      pss_nil)
      (pss_one (ps_ret (pe_ix ix_list (pv 0) (pv 1) (fun _ _ => rfl))))), ?_⟩
    walk_at "rs"
    refine ⟨W, _, rfl, .inl (SqL.of hW), ?_⟩
    walk_at "rs"
    refine ite2 (fun c1 => ?_) (fun c1 => ?_)
    · have c1 : ws.length ≤ k := by simpa using c1
      have er : wordAt ws k = .error (ws.length : Int) := if_neg (by omega)
      walk_at "rs"
      refine ⟨W, _, rfl, .inl (SqL.of hW), ?_⟩
      walk_at "rs"
      rw [List.length_map]
      refine ⟨⟨_, rfl, Int.natCast_nonneg _, by omega⟩, fun d hd => ?_⟩
      exact kr _ (by show mapE V.str (wordAt ws k) = _; rw [er]; rfl) d _ (same_new hd) upd_same
    · have c1 : k < ws.length := by simpa using c1
      have er : wordAt ws k = .ok (ws.getD k "") := if_pos c1
      walk_at "rs"
      refine ⟨W, _, _, _, rfl, rfl, SqL.of hW, at_strs c1, ?_⟩
      exact kq _ (by show mapE V.str (wordAt ws k) = _; rw [er]; rfl) _ (Same.refl H)
theorem ok_number_at (TE : TxtE P w K mg a) (T : Txt K mg a) : ∃ fd, FnOk P w K mg base (L2N.CX P w) 4 a.d_number_at fd ["words", "at"] (spNumAt K a.C_BadLine) ∧ Binds K fd ["words", "at"] [] := by
  obtain ⟨fd, F, b⟩ := T.d_number_at.F
  obtain ⟨fd_word_at, G_word_at, b_word_at⟩ := ok_word_at (P := P) (w := w) (base := base) TE T
  obtain ⟨fd_is_number, G_is_number, b_is_number⟩ := ok_is_number (P := P) (w := w) (base := base) T
  obtain ⟨fd_BadLine_init, G_BadLine_init, b_BadLine_init⟩ := ok_BadLine_init (P := P) (w := w) (base := base) TE T
  refine ⟨fd, fun_okN F sc_number_at (fun vs H Q E h => ?_) (fun cdv A outer s H vs Q E hr h => ?_), b⟩
  · obtain ⟨_, _, _, rfl, _⟩ := h
    rfl
  · obtain ⟨W, ws, k, rfl, hW, lw, sw, k6, kr, kq⟩ := h
    have kr' : ∀ e, numAt ws k = .error e → ExR a.C_BadLine H E e := fun e h => kr e (by show mapE _ _ = _; rw [h]; rfl)
    have kq' : ∀ n, numAt ws k = .ok n → ∀ H', Same H H' → Q (.int n) H' := fun n h => kq _ (by show mapE _ _ = _; rw [h]; rfl)
    clear kr kq
    refine ⟨_, (pss_cons (ps_set (i := 2) sc_number_at.nd rfl (Or.inl rfl) (pe_call G_word_at (hr.mono (by decide)) rfl T.d_word_at.g T.d_word_at.kp b_word_at .nil (L2N.passes_call (W := fun c d _ H => E c d H) (E := E) (L2N.takes_of rfl rfl rfl rfl) (fun _ _ _ _ h => h)) (pa_cons (pv 0) (pa_cons (pv 1) pa_nil))))
      (pss_cons (ps_if (pt_not (pt_val (pe_call G_is_number (hr.mono (by decide)) rfl T.d_is_number.g T.d_is_number.kp b_is_number .nil pass0 (pa_cons (pv 2) pa_nil))))
      (pss_one (L2N.ps_raise rfl (L2N.takes_of rfl rfl rfl rfl) (pmk_sup TE.oex_BadLine TE.iC_BadLine TE.tI_BadLine G_BadLine_init (hr.mono (by decide)) b_BadLine_init rfl TE.g_BadLine (pa_cons (pv 1) pa_nil))))
      pss_nil)
      (pss_one (ps_ret (pe_callTy call_int_str (by rfl) T.n_int (by decide +kernel) (pa_cons (pv 2) pa_nil)))))), ?_⟩
    walk_at "rs"
    refine ⟨W, ws, k, rfl, hW, lw, sw, k6, fun e he => ?_, fun n hn H1 s1 => ?_⟩
    · cases q : wordAt ws k with
      | ok x => simp only [q, mapE] at he; cases he
      | error e' =>
        simp only [q, mapE] at he
        cases he
        exact kr' e (by unfold numAt; rw [q])
    · cases q : wordAt ws k with
      | error e' => simp only [q, mapE] at hn; cases hn
      | ok x =>
        simp only [q, mapE] at hn
        cases hn
        have hx := word_mem q
        walk_at "rs"
        refine ⟨sw x hx, fun H2 s2 => ?_⟩
        walk_at "rs"
        refine ite2 (fun c1 => ?_) (fun c1 => ?_)
        · have c2 : numB x = false := by simpa using c1
          walk_at "rs"
          refine ⟨⟨_, rfl, Int.natCast_nonneg _, by omega⟩, fun d hd => ?_⟩
          exact kr' _ (by unfold numAt; rw [q]; exact if_neg (by rw [c2]; exact Bool.false_ne_true)) d _ ((s1.trans s2).trans (same_new hd)) upd_same
        · have c2 : numB x = true := by simpa using c1
          walk_at "rs"
          have nv := num_int c2
          refine ⟨x, _, rfl, nv.1, Nat.le_trans nv.2 (by decide), ?_⟩
          exact kq' _ (by unfold numAt; rw [q]; exact if_pos c2) _ (s1.trans s2)
theorem ok_kind_at (TE : TxtE P w K mg a) (T : Txt K mg a) : ∃ fd, FnOk P w K mg base (L2N.CX P w) 4 a.d_kind_at fd ["words", "at"] (spKindAt K a.C_BadLine) ∧ Binds K fd ["words", "at"] [] := by
  obtain ⟨fd, F, b⟩ := T.d_kind_at.F
  obtain ⟨fd_word_at, G_word_at, b_word_at⟩ := ok_word_at (P := P) (w := w) (base := base) TE T
  obtain ⟨fd_BadLine_init, G_BadLine_init, b_BadLine_init⟩ := ok_BadLine_init (P := P) (w := w) (base := base) TE T
  refine ⟨fd, fun_okN F sc_kind_at (fun vs H Q E h => ?_) (fun cdv A outer s H vs Q E hr h => ?_), b⟩
  · obtain ⟨_, _, _, rfl, _⟩ := h
    rfl
  · obtain ⟨W, ws, k, rfl, hW, lw, sw, k6, kr, kq⟩ := h
    have kr' : ∀ e, kindAt ws k = .error e → ExR a.C_BadLine H E e := fun e h => kr e (by show mapE _ _ = _; rw [h]; rfl)
    have kq' : ∀ n, kindAt ws k = .ok n → ∀ H', Same H H' → Q (.str n.s) H' := fun n h => kq _ (by show mapE _ _ = _; rw [h]; rfl)
    clear kr kq
    refine ⟨_, (pss_cons (ps_set (i := 2) sc_kind_at.nd rfl (Or.inl rfl) (pe_call G_word_at (hr.mono (by decide)) rfl T.d_word_at.g T.d_word_at.kp b_word_at .nil (L2N.passes_call (W := fun c d _ H => E c d H) (E := E) (L2N.takes_of rfl rfl rfl rfl) (fun _ _ _ _ h => h)) (pa_cons (pv 0) (pa_cons (pv 1) pa_nil))))
      (pss_cons (ps_if (pt_cmpR op_notIn_seq (pv 2) (pe_glob (v := .ref a.P_KINDS) rfl TE.g_KINDS rfl) (by rfl))
      (pss_one (L2N.ps_raise rfl (L2N.takes_of rfl rfl rfl rfl) (pmk_sup TE.oex_BadLine TE.iC_BadLine TE.tI_BadLine G_BadLine_init (hr.mono (by decide)) b_BadLine_init rfl TE.g_BadLine (pa_cons (pv 1) pa_nil))))
      pss_nil)
      (pss_one (ps_ret (pv 2))))), ?_⟩
    walk_at "rs"
    refine ⟨W, ws, k, rfl, hW, lw, sw, k6, fun e he => ?_, fun n hn H1 s1 => ?_⟩
    · cases q : wordAt ws k with
      | ok x => simp only [q, mapE] at he; cases he
      | error e' =>
        simp only [q, mapE] at he
        cases he
        exact kr' e (by unfold kindAt; rw [q])
    · cases q : wordAt ws k with
      | error e' => simp only [q, mapE] at hn; cases hn
      | ok x =>
        simp only [q, mapE] at hn
        cases hn
        walk_at "rs"
        refine ⟨_, _, rfl, .inr (TE.s_KINDS _), rfl, rfl, ?_⟩
        rw [if_pos rfl, inV_kinds]
        walk_at "rs"
        refine ite2 (fun c1 => ?_) (fun c1 => ?_)
        · have c2 : kdOf x = none := by simpa using c1
          walk_at "rs"
          refine ⟨⟨_, rfl, Int.natCast_nonneg _, by omega⟩, fun d hd => ?_⟩
          exact kr' _ (by unfold kindAt; rw [q]; simp only [c2]) d _ (s1.trans (same_new hd)) upd_same
        · obtain ⟨d, c2⟩ : ∃ d, kdOf x = some d := Option.ne_none_iff_exists'.mp (by simpa using c1)
          walk_at "rs"
          rw [kd_of c2]
          exact kq' _ (by unfold kindAt; rw [q]; simp only [c2]) _ s1
theorem ok_end_at (TE : TxtE P w K mg a) (T : Txt K mg a) : ∃ fd, FnOk P w K mg base (L2N.CX P w) 3 a.d_end_at fd ["words", "at"] (spEndAt K a.C_BadLine) ∧ Binds K fd ["words", "at"] [] := by
  obtain ⟨fd, F, b⟩ := T.d_end_at.F
  obtain ⟨fd_BadLine_init, G_BadLine_init, b_BadLine_init⟩ := ok_BadLine_init (P := P) (w := w) (base := base) TE T
  refine ⟨fd, fun_okN F sc_end_at (fun vs H Q E h => ?_) (fun cdv A outer s H vs Q E hr h => ?_), b⟩
  · obtain ⟨_, _, _, rfl, _⟩ := h
    rfl
  · obtain ⟨W, ws, k, rfl, hW, lw, sw, k6, kr, kq⟩ := h
    have kr' : ∀ e, endAt ws k = .error e → ExR a.C_BadLine H E e := fun e h => kr e (by show mapE _ _ = _; rw [h]; rfl)
    have kq' : ∀ n, endAt ws k = .ok n → ∀ H', Same H H' → Q .non H' := fun n h => kq _ (by show mapE _ _ = _; rw [h]; rfl)
    clear kr kq
    refine ⟨_, (pss_one (ps_if (pt_cmpR op_gt (pe_callB call_len_seq (by rfl) T.n_len PySem.boot_len (pa_cons (pv 0) pa_nil)) (pv 1) (nomark _))
      (pss_one (L2N.ps_raise rfl (L2N.takes_of rfl rfl rfl rfl) (pmk_sup TE.oex_BadLine TE.iC_BadLine TE.tI_BadLine G_BadLine_init (hr.mono (by decide)) b_BadLine_init rfl TE.g_BadLine (pa_cons (pv 1) pa_nil))))
      pss_nil)), ?_⟩
    walk_at "rs"
    refine ⟨W, _, rfl, .inl (SqL.of hW), ?_⟩
    walk_at "rs"
    refine ite2 (fun c1 => ?_) (fun c1 => ?_)
    · have c2 : k < ws.length := by simpa using c1
      walk_at "rs"
      refine ⟨⟨_, rfl, Int.natCast_nonneg _, by omega⟩, fun d hd => ?_⟩
      exact kr' _ (if_pos c2) d _ (same_new hd) upd_same
    · have c2 : ¬ k < ws.length := by simpa using c1
      exact kq' () (if_neg c2) _ (Same.refl H)
theorem ok_block_at (TE : TxtE P w K mg a) (T : Txt K mg a) : ∃ fd, FnOk P w K mg base (L2N.CX P w) 4 a.d_block_at fd ["words", "at", "kind"] (spBlockAt K a.C_BadLine) ∧ Binds K fd ["words", "at", "kind"] [] := by
  obtain ⟨fd, F, b⟩ := T.d_block_at.F
  obtain ⟨fd_word_at, G_word_at, b_word_at⟩ := ok_word_at (P := P) (w := w) (base := base) TE T
  obtain ⟨fd_is_block, G_is_block, b_is_block⟩ := ok_is_block (P := P) (w := w) (base := base) T
  obtain ⟨fd_BadLine_init, G_BadLine_init, b_BadLine_init⟩ := ok_BadLine_init (P := P) (w := w) (base := base) TE T
  refine ⟨fd, fun_okN F sc_block_at (fun vs H Q E h => ?_) (fun cdv A outer s H vs Q E hr h => ?_), b⟩
  · obtain ⟨_, _, _, _, rfl, _⟩ := h
    rfl
  · obtain ⟨W, ws, k, kd, rfl, hW, lw, sw, k6, kr, kq⟩ := h
    refine ⟨_, (pss_cons (ps_set (i := 3) sc_block_at.nd rfl (Or.inl rfl) (pe_call G_word_at (hr.mono (by decide)) rfl T.d_word_at.g T.d_word_at.kp b_word_at .nil (L2N.passes_call (W := fun c d _ H => E c d H) (E := E) (L2N.takes_of rfl rfl rfl rfl) (fun _ _ _ _ h => h)) (pa_cons (pv 0) (pa_cons (pv 1) pa_nil))))
      (pss_cons (ps_if (PW.pt (pw_and (pt_cmpR op_eq (pv 3) (pe_glob (v := (.str "-")) rfl T.c_NONE.choose_spec ⟨_, rfl⟩) (nomark _)) (pw_and1 (pt_cmpR op_ne (pv 2) pe_str (nomark _)))))
      (pss_one (ps_ret pe_non))
      pss_nil)
      (pss_cons (ps_if (pt_not (pt_val (pe_call G_is_block (hr.mono (by decide)) rfl T.d_is_block.g T.d_is_block.kp b_is_block .nil pass0 (pa_cons (pv 3) pa_nil))))
      (pss_one (L2N.ps_raise rfl (L2N.takes_of rfl rfl rfl rfl) (pmk_sup TE.oex_BadLine TE.iC_BadLine TE.tI_BadLine G_BadLine_init (hr.mono (by decide)) b_BadLine_init rfl TE.g_BadLine (pa_cons (pv 1) pa_nil))))
      pss_nil)
      (pss_one (ps_ret (pv 3)))))), ?_⟩
    walk_at "rs"
    refine ⟨W, ws, k, rfl, hW, lw, sw, k6, fun e he => ?_, fun n hn H1 s1 => ?_⟩
    · cases q : wordAt ws k with
      | ok x => simp only [q, mapE] at he; cases he
      | error e' =>
        simp only [q, mapE] at he
        cases he
        exact kr e (by unfold blockAt; rw [q])
    · cases q : wordAt ws k with
      | error e' => simp only [q, mapE] at hn; cases hn
      | ok x =>
        simp only [q, mapE] at hn
        cases hn
        have hx := word_mem q
        have fin1 : ∀ y, Q y H1 → Q y H1 := fun _ h => h
        walk_at "rs"
        have rest : ¬ (x = "-" ∧ kd ≠ .prop) → blockAt ws k kd = if blkB x = true then .ok (some x) else .error (k : Int) := fun h => by
          unfold blockAt
          rw [q]
          exact if_neg h
        refine ite2 (fun c1 => ?_) (fun c1 => ?_)
        · have e1 : x = "-" := by simpa using c1
          walk_at "rs"
          refine ite2 (fun c2 => ?_) (fun c2 => ?_)
          · have e2 : kd ≠ .prop := by simpa [s_prop] using c2
            walk_at "rs"
            exact kq none (by unfold blockAt; rw [q]; exact if_pos ⟨e1, e2⟩) _ s1
          · have e2 : kd = .prop := by simpa [s_prop] using c2
            have e3 := rest fun z => z.2 e2
            walk_at "rs"
            refine ⟨sw x hx, fun H2 s2 => ?_⟩
            walk_at "rs"
            refine ite2 (fun c3 => ?_) (fun c3 => ?_)
            · have e4 : blkB x = false := by simpa using c3
              walk_at "rs"
              refine ⟨⟨_, rfl, Int.natCast_nonneg _, by omega⟩, fun d hd => ?_⟩
              exact kr _ (by rw [e3, e4]; rfl) d _ ((s1.trans s2).trans (same_new hd)) upd_same
            · have e4 : blkB x = true := by simpa using c3
              walk_at "rs"
              exact kq (some x) (by rw [e3, e4]; rfl) _ (s1.trans s2)
        · have e1 : ¬ x = "-" := by simpa using c1
          have e3 := rest fun z => e1 z.1
          walk_at "rs"
          refine ⟨sw x hx, fun H2 s2 => ?_⟩
          walk_at "rs"
          refine ite2 (fun c3 => ?_) (fun c3 => ?_)
          · have e4 : blkB x = false := by simpa using c3
            walk_at "rs"
            refine ⟨⟨_, rfl, Int.natCast_nonneg _, by omega⟩, fun d hd => ?_⟩
            exact kr _ (by rw [e3, e4]; rfl) d _ ((s1.trans s2).trans (same_new hd)) upd_same
          · have e4 : blkB x = true := by simpa using c3
            walk_at "rs"
            exact kq (some x) (by rw [e3, e4]; rfl) _ (s1.trans s2)
theorem ok_lean_at (TE : TxtE P w K mg a) (T : Txt K mg a) : ∃ fd, FnOk P w K mg base (L2N.CX P w) 5 a.d_lean_at fd ["words", "at", "turn"] (spLeanAt K a.C_BadLine) ∧ Binds K fd ["words", "at", "turn"] [] := by
  obtain ⟨fd, F, b⟩ := T.d_lean_at.F
  obtain ⟨fd_word_at, G_word_at, b_word_at⟩ := ok_word_at (P := P) (w := w) (base := base) TE T
  obtain ⟨fd_number_at, G_number_at, b_number_at⟩ := ok_number_at (P := P) (w := w) (base := base) TE T
  obtain ⟨fd_BadLine_init, G_BadLine_init, b_BadLine_init⟩ := ok_BadLine_init (P := P) (w := w) (base := base) TE T
  refine ⟨fd, fun_okN F sc_lean_at (fun vs H Q E h => ?_) (fun cdv A outer s H vs Q E hr h => ?_), b⟩
  · obtain ⟨_, _, _, _, rfl, _⟩ := h
    rfl
  · obtain ⟨W, ws, k, t, rfl, hW, lw, sw, k6, kr, kq⟩ := h
    refine ⟨_, (pss_cons (ps_set (i := 3) sc_lean_at.nd rfl (Or.inl rfl) (pe_call G_word_at (hr.mono (by decide)) rfl T.d_word_at.g T.d_word_at.kp b_word_at .nil (L2N.passes_call (W := fun c d _ H => E c d H) (E := E) (L2N.takes_of rfl rfl rfl rfl) (fun _ _ _ _ h => h)) (pa_cons (pv 0) (pa_cons (pv 1) pa_nil))))
      (pss_cons (ps_if (pt_cmpR op_eq (pv 3) (pe_glob (v := (.str "-")) rfl T.c_NONE.choose_spec ⟨_, rfl⟩) (nomark _))
      (pss_one (ps_ret pe_non))
      pss_nil)
      (pss_cons (ps_set (i := 4) sc_lean_at.nd rfl (Or.inl rfl) (pe_call G_number_at (hr.mono (by decide)) rfl T.d_number_at.g T.d_number_at.kp b_number_at .nil (L2N.passes_call (W := fun c d _ H => E c d H) (E := E) (L2N.takes_of rfl rfl rfl rfl) (fun _ _ _ _ h => h)) (pa_cons (pv 0) (pa_cons (pv 1) pa_nil))))
      (pss_cons (ps_if (pt_cmpR op_ge (pv 4) (pv 2) (nomark _))
      (pss_one (L2N.ps_raise rfl (L2N.takes_of rfl rfl rfl rfl) (pmk_sup TE.oex_BadLine TE.iC_BadLine TE.tI_BadLine G_BadLine_init (hr.mono (by decide)) b_BadLine_init rfl TE.g_BadLine (pa_cons (pv 1) pa_nil))))
      pss_nil)
      (pss_one (ps_ret (pv 4))))))), ?_⟩
    walk_at "rs"
    refine ⟨W, ws, k, rfl, hW, lw, sw, k6, fun e he => ?_, fun n hn H1 s1 => ?_⟩
    · cases q : wordAt ws k with
      | ok x => simp only [q, mapE] at he; cases he
      | error e' =>
        simp only [q, mapE] at he
        cases he
        exact kr e (by unfold leanAt; rw [q])
    · cases q : wordAt ws k with
      | error e' => simp only [q, mapE] at hn; cases hn
      | ok x =>
        simp only [q, mapE] at hn
        cases hn
        have hx := word_mem q
        walk_at "rs"
        refine ite2 (fun c1 => ?_) (fun c1 => ?_)
        · have e1 : x = "-" := by simpa using c1
          walk_at "rs"
          exact kq none (by unfold leanAt; rw [q]; exact if_pos e1) _ s1
        · have e1 : ¬ x = "-" := by simpa using c1
          have e3 : leanAt ws k t = if numB x = true then (if numV x < t then .ok (some (numV x)) else .error (k : Int)) else .error (k : Int) := by
            unfold leanAt
            rw [q]
            exact if_neg e1
          have e5 : numAt ws k = if numB x = true then .ok (numV x) else .error (k : Int) := by
            unfold numAt
            rw [q]
          walk_at "rs"
          refine ⟨W, ws, k, rfl, s1 _ _ hW, lw, sw, k6, fun e he => ?_, fun n hn H2 s2 => ?_⟩
          · cases e4 : numB x with
            | true => simp only [e5, e4, if_true, mapE] at he; cases he
            | false =>
              rw [e4] at e3
              simp only [e5, e4, mapE] at he
              cases he
              exact fun d H' s' hd => kr _ e3 d H' (s1.trans s') hd
          · cases e4 : numB x with
            | false => simp only [e5, e4, mapE] at hn; cases hn
            | true =>
              rw [e4, if_pos rfl] at e3
              simp only [e5, e4, if_true, mapE] at hn
              cases hn
              walk_at "rs"
              refine ite2 (fun c3 => ?_) (fun c3 => ?_)
              · have e6 : ¬ numV x < t := by have := of_decide_eq_true c3; omega
                walk_at "rs"
                refine ⟨⟨_, rfl, Int.natCast_nonneg _, by omega⟩, fun d hd => ?_⟩
                exact kr _ (by rw [e3, if_neg e6]) d _ ((s1.trans s2).trans (same_new hd)) upd_same
              · have e6 : numV x < t := by
                  have : ¬ t ≤ numV x := fun z => c3 (decide_eq_true z)
                  omega
                walk_at "rs"
                exact kq _ (by rw [e3, if_pos e6]) _ (s1.trans s2)
theorem ok_read_letter (TE : TxtE P w K mg a) (T : Txt K mg a) : ∃ fd, FnOk P w K mg base (L2N.CX P w) 6 a.d_read_letter fd ["line"] (spRead K a.C_BadLine) ∧ Binds K fd ["line"] [] := by
  obtain ⟨fd, F, b⟩ := T.d_read_letter.F
  obtain ⟨fd_number_at, G_number_at, b_number_at⟩ := ok_number_at (P := P) (w := w) (base := base) TE T
  obtain ⟨fd_kind_at, G_kind_at, b_kind_at⟩ := ok_kind_at (P := P) (w := w) (base := base) TE T
  obtain ⟨fd_block_at, G_block_at, b_block_at⟩ := ok_block_at (P := P) (w := w) (base := base) TE T
  obtain ⟨fd_end_at, G_end_at, b_end_at⟩ := ok_end_at (P := P) (w := w) (base := base) TE T
  obtain ⟨fd_lean_at, G_lean_at, b_lean_at⟩ := ok_lean_at (P := P) (w := w) (base := base) TE T
  obtain ⟨fd_proposal, G_proposal, b_proposal⟩ := ok_proposal (P := P) (w := w) (base := base) T
  obtain ⟨fd_prevote, G_prevote, b_prevote⟩ := ok_prevote (P := P) (w := w) (base := base) T
  obtain ⟨fd_precommit, G_precommit, b_precommit⟩ := ok_precommit (P := P) (w := w) (base := base) T
  refine ⟨fd, fun_okN F sc_read_letter (fun vs H Q E h => ?_) (fun cdv A outer s H vs Q E hr h => ?_), b⟩
  · obtain ⟨_, rfl, _⟩ := h
    rfl
  · obtain ⟨line, rfl, ll, kr, kq⟩ := h
    refine ⟨_, (pss_cons (ps_set (i := 1) sc_read_letter.nd rfl (Or.inl rfl) (pe_split (pv 0) pe_str))
      (pss_cons (ps_set (i := 2) sc_read_letter.nd rfl (Or.inl rfl) (pe_call G_number_at (hr.mono (by decide)) rfl T.d_number_at.g T.d_number_at.kp b_number_at .nil (L2N.passes_call (W := fun c d _ H => E c d H) (E := E) (L2N.takes_of rfl rfl rfl rfl) (fun _ _ _ _ h => h)) (pa_cons (pv 1) (pa_cons pe_int pa_nil))))
      (pss_cons (ps_set (i := 3) sc_read_letter.nd rfl (Or.inl rfl) (pe_call G_kind_at (hr.mono (by decide)) rfl T.d_kind_at.g T.d_kind_at.kp b_kind_at .nil (L2N.passes_call (W := fun c d _ H => E c d H) (E := E) (L2N.takes_of rfl rfl rfl rfl) (fun _ _ _ _ h => h)) (pa_cons (pv 1) (pa_cons pe_int pa_nil))))
      (pss_cons (ps_set (i := 4) sc_read_letter.nd rfl (Or.inl rfl) (pe_call G_number_at (hr.mono (by decide)) rfl T.d_number_at.g T.d_number_at.kp b_number_at .nil (L2N.passes_call (W := fun c d _ H => E c d H) (E := E) (L2N.takes_of rfl rfl rfl rfl) (fun _ _ _ _ h => h)) (pa_cons (pv 1) (pa_cons pe_int pa_nil))))
      (pss_cons (ps_set (i := 5) sc_read_letter.nd rfl (Or.inl rfl) (pe_call G_number_at (hr.mono (by decide)) rfl T.d_number_at.g T.d_number_at.kp b_number_at .nil (L2N.passes_call (W := fun c d _ H => E c d H) (E := E) (L2N.takes_of rfl rfl rfl rfl) (fun _ _ _ _ h => h)) (pa_cons (pv 1) (pa_cons pe_int pa_nil))))
      (pss_cons (ps_set (i := 6) sc_read_letter.nd rfl (Or.inl rfl) (pe_call G_block_at (hr.mono (by decide)) rfl T.d_block_at.g T.d_block_at.kp b_block_at .nil (L2N.passes_call (W := fun c d _ H => E c d H) (E := E) (L2N.takes_of rfl rfl rfl rfl) (fun _ _ _ _ h => h)) (pa_cons (pv 1) (pa_cons pe_int (pa_cons (pv 3) pa_nil)))))
      (pss_cons (ps_if (pt_cmpR op_eq (pv 3) pe_str (nomark _))
      (pss_cons (ps_set (i := 7) sc_read_letter.nd rfl (Or.inl rfl) (pe_call G_lean_at (hr.mono (by decide)) rfl T.d_lean_at.g T.d_lean_at.kp b_lean_at .nil (L2N.passes_call (W := fun c d _ H => E c d H) (E := E) (L2N.takes_of rfl rfl rfl rfl) (fun _ _ _ _ h => h)) (pa_cons (pv 1) (pa_cons pe_int (pa_cons (pv 5) pa_nil)))))
        (pss_cons (ps_expr (pe_call G_end_at (hr.mono (by decide)) rfl T.d_end_at.g T.d_end_at.kp b_end_at .nil (L2N.passes_call (W := fun c d _ H => E c d H) (E := E) (L2N.takes_of rfl rfl rfl rfl) (fun _ _ _ _ h => h)) (pa_cons (pv 1) (pa_cons pe_int pa_nil))))
        (pss_one (ps_ret (pe_tup (pa_cons (pv 2) (pa_cons (pe_call G_prevote (hr.mono (by decide)) rfl T.d_prevote.g T.d_prevote.kp b_prevote .nil pass0 (pa_cons (pv 4) (pa_cons (pv 5) (pa_cons (pv 6) (pa_cons (pv 7) pa_nil))))) pa_nil)))))))
      pss_nil)
      (pss_cons (ps_expr (pe_call G_end_at (hr.mono (by decide)) rfl T.d_end_at.g T.d_end_at.kp b_end_at .nil (L2N.passes_call (W := fun c d _ H => E c d H) (E := E) (L2N.takes_of rfl rfl rfl rfl) (fun _ _ _ _ h => h)) (pa_cons (pv 1) (pa_cons pe_int pa_nil))))
      (pss_cons (ps_if (pt_cmpR op_eq (pv 3) pe_str (nomark _))
      (pss_one (ps_ret (pe_tup (pa_cons (pv 2) (pa_cons (pe_call G_precommit (hr.mono (by decide)) rfl T.d_precommit.g T.d_precommit.kp b_precommit .nil pass0 (pa_cons (pv 4) (pa_cons (pv 5) (pa_cons (pv 6) pa_nil)))) pa_nil)))))
      pss_nil)
      (pss_one (ps_ret (pe_tup (pa_cons (pv 2) (pa_cons (pe_call G_proposal (hr.mono (by decide)) rfl T.d_proposal.g T.d_proposal.kp b_proposal .nil pass0 (pa_cons (pv 4) (pa_cons (pv 5) (pa_cons (pv 6) pa_nil)))) pa_nil)))))))))))))), ?_⟩
    walk_at "rs"
    refine ⟨⟨_, rfl⟩, _, _, rfl, rfl, by decide +kernel, ll, fun W hW0 => ?_⟩
    have s0 := same_new (o := .lst ((Txt.split line " ").map V.str)) hW0
    have hW := (upd_same : upd H W (.lst ((Txt.split line " ").map V.str)) W = _)
    have lw : (Txt.split line " ").length ≤ 16777216 := Nat.le_trans (PyProof.Rows.split_le line " ") ll
    have sw : ∀ w ∈ Txt.split line " ", w.length ≤ 16777216 := fun w hw => by
      have := PyProof.Rows.part_short hw
      omega
    unfold readL readW at kr kq
    generalize upd H W (.lst ((Txt.split line " ").map V.str)) = H0 at s0 hW ⊢
    generalize Txt.split line " " = ws at hW lw sw kr kq
    clear ll
    walk_at "rs"
    refine ⟨W, ws, 0, rfl, hW, lw, sw, by decide, fun e he => at_err s0 kr e (mapE_err he), fun n hn H1 s1 => ?_⟩
    obtain ⟨w0, e0, rfl⟩ := mapE_ok hn
    simp only [bindE, e0] at kr kq
    have t1 := s0.trans s1
    have hW1 := s1 _ _ hW
    clear hn s0 s1 hW
    walk_at "rs"
    refine ⟨W, ws, 1, rfl, hW1, lw, sw, by decide, fun e he => at_err t1 kr e (mapE_err he), fun n hn H2 s2 => ?_⟩
    obtain ⟨kd, e1, rfl⟩ := mapE_ok hn
    simp only [bindE, e1] at kr kq
    have t2 := t1.trans s2
    have hW2 := s2 _ _ hW1
    clear hn t1 s2 hW1
    walk_at "rs"
    refine ⟨W, ws, 2, rfl, hW2, lw, sw, by decide, fun e he => at_err t2 kr e (mapE_err he), fun n hn H3 s3 => ?_⟩
    obtain ⟨h0, e2, rfl⟩ := mapE_ok hn
    simp only [bindE, e2] at kr kq
    have t3 := t2.trans s3
    have hW3 := s3 _ _ hW2
    clear hn t2 s3 hW2
    walk_at "rs"
    refine ⟨W, ws, 3, rfl, hW3, lw, sw, by decide, fun e he => at_err t3 kr e (mapE_err he), fun n hn H4 s4 => ?_⟩
    obtain ⟨tu, e3, rfl⟩ := mapE_ok hn
    simp only [bindE, e3] at kr kq
    have t4 := t3.trans s4
    have hW4 := s4 _ _ hW3
    clear hn t3 s4 hW3
    walk_at "rs"
    refine ⟨W, ws, 4, kd, rfl, hW4, lw, sw, by decide, fun e he => at_err t4 kr e he, fun bl e4 H5 s5 => ?_⟩
    simp only [bindE, e4] at kr kq
    have t5 := t4.trans s5
    have hW5 := s5 _ _ hW4
    clear t4 s5 hW4
    walk_at "rs"
    unfold readEnd at kr kq
    refine ite2 (fun c1 => ?_) (fun c1 => ?_)
    · have ek : kd = .pre := by simpa [s_pre] using c1
      rw [if_pos ek] at kr kq
      walk_at "rs"
      refine ⟨W, ws, 5, tu, rfl, hW5, lw, sw, by decide, fun e he => at_err t5 kr e he, fun ln e6 H6 s6 => ?_⟩
      simp only [bindE, e6] at kr kq
      have t6 := t5.trans s6
      have hW6 := s6 _ _ hW5
      walk_at "rs"
      refine ⟨W, ws, 6, rfl, hW6, lw, sw, by decide, fun e he => at_err t6 kr e (mapE_err he), fun n hn H7 s7 => ?_⟩
      obtain ⟨_, e7, rfl⟩ := mapE_ok hn
      simp only [bindE, e7] at kr kq
      walk_at "rs"
      refine ⟨h0, tu, bl, ln, rfl, fun p H8 s8 hp => ?_⟩
      refine ⟨(by show 2 ≤ sizeLine; decide), fun q hq => ?_⟩
      have s9 := same_new (o := .tup [V.int w0, V.ref p]) hq
      exact kq _ rfl q _ (((t6.trans s7).trans s8).trans s9) ⟨p, upd_same, s9 _ _ hp⟩
    · have ek : ¬ kd = .pre := by simpa [s_pre] using c1
      rw [if_neg ek] at kr kq
      walk_at "rs"
      refine ⟨W, ws, 5, rfl, hW5, lw, sw, by decide, fun e he => at_err t5 kr e (mapE_err he), fun n hn H6 s6 => ?_⟩
      obtain ⟨_, e6, rfl⟩ := mapE_ok hn
      simp only [bindE, e6] at kr kq
      have t6 := t5.trans s6
      walk_at "rs"
      refine ite2 (fun c2 => ?_) (fun c2 => ?_)
      · have ek2 : kd = .com := by simpa [s_com] using c2
        subst ek2
        walk_at "rs"
        refine ⟨h0, tu, bl, rfl, fun p H8 s8 hp => ?_⟩
        refine ⟨(by show 2 ≤ sizeLine; decide), fun q hq => ?_⟩
        have s9 := same_new (o := .tup [V.int w0, V.ref p]) hq
        exact kq _ rfl q _ ((t6.trans s8).trans s9) ⟨p, upd_same, s9 _ _ hp⟩
      · have ek2 : ¬ kd = .com := by simpa [s_com] using c2
        have ek3 : kd = .prop := by
          cases kd with
          | prop => rfl
          | pre => exact absurd rfl ek
          | com => exact absurd rfl ek2
        subst ek3
        walk_at "rs"
        refine ⟨h0, tu, bl, rfl, fun p H8 s8 hp => ?_⟩
        refine ⟨(by show 2 ≤ sizeLine; decide), fun q hq => ?_⟩
        have s9 := same_new (o := .tup [V.int w0, V.ref p]) hq
        exact kq _ rfl q _ ((t6.trans s8).trans s9) ⟨p, upd_same, s9 _ _ hp⟩

theorem ok_first_wrong (T : Txt K mg a) : ∃ fd, FnOk P w K mg base CX0 1 a.d_first_wrong fd ["weights"] (spFirst K) ∧ Binds K fd ["weights"] [] := by
  obtain ⟨fd, F, b⟩ := T.d_first_wrong.F
  refine ⟨fd, F.ok sc_first_wrong (fun vs H Q E h => ?_) (fun cdv A outer s H vs Q E hr h => ?_), b⟩
  · obtain ⟨_, _, rfl, _⟩ := h
    rfl
  · obtain ⟨p, ws, rfl, hp, gw, k⟩ := h
    refine ⟨_, (pss_cons (ps_for PassesOwn.never rfl (pi_enum (by rfl) T.n_enumerate (pa_cons (pv 0) pa_nil)) (pg_tup rfl (pgs_cons (pg_name (i := 1) sc_first_wrong.nd rfl (Or.inl rfl)) (pgs_cons (pg_name (i := 2) sc_first_wrong.nd rfl (Or.inl rfl)) pgs_nil)))
      (pss_one (ps_if (PW.pt (pw_or (pt_cmpR op_ge (pv 1) (pe_glob (v := (.int 16)) rfl T.c_MOST_MEMBERS.choose_spec ⟨_, rfl⟩) (nomark _)) (pw_or (pt_cmpR op_lt (pv 2) pe_int (nomark _)) (pw_or1 (pt_cmpR op_gt (pv 2) (pe_glob (v := (.int 1000000000000)) rfl T.c_MOST_WEIGHT.choose_spec ⟨_, rfl⟩) (nomark _))))))
        (pss_one (ps_ret (pv 1)))
        pss_nil)))
      (pss_cons (ps_if (pt_cmpR op_eq (pe_callB call_len_seq (by rfl) T.n_len PySem.boot_len (pa_cons (pv 0) pa_nil)) pe_int (nomark _))
      (pss_one (ps_ret pe_int))
      pss_nil)
      (pss_one (ps_ret pe_non)))), ?_⟩
    walk_at "rs"
    refine ⟨p, _, rfl, hp, ?_⟩
    refine for_enumL (K := K) (a := p) (ys := ws.map V.int) (fun i σ H2 => ∃ v1 v2 : Option V, σ = [some (.ref p), v1, v2] ∧ Same H H2) ⟨_, _, rfl, Same.refl H⟩ (fun i σ H2 _ ⟨_, _, _, s2⟩ => s2.seq hp) ?_ ?_
    · rintro i y σ H2 q hy ⟨v1, v2, rfl, s2⟩ hq
      have hi : i < ws.length := by
        have e := (List.getElem?_eq_some_iff.mp hy).1
        rwa [List.length_map] at e
      rw [at_ints hi] at hy
      cases hy
      have g1 := gw.2.2 _ (getD_mem hi)
      have g2 := gw.2.1
      walk_at "rs"
      refine ⟨q, _, rfl, SqT.of upd_same, rfl, ?_⟩
      refine ⟨_, _, rfl, _, _, rfl, rfl, ?_⟩
      walk_at "rs"
      refine ite2 (fun c1 => ?_) (fun c1 => ?_)
      · exfalso
        have := of_decide_eq_true c1
        omega
      walk_at "rs"
      refine ite2 (fun c2 => ?_) (fun c2 => ?_)
      · exfalso
        have := of_decide_eq_true c2
        omega
      walk_at "rs"
      refine ite2 (fun c3 => ?_) (fun c3 => ?_)
      · exfalso
        have := of_decide_eq_true c3
        omega
      exact ⟨_, _, rfl, same_upd s2 (s2.free hq)⟩
    · rintro σ H2 ⟨v1, v2, rfl, s2⟩
      walk_at "rs"
      refine ⟨p, _, rfl, .inl (s2.seq hp), ?_⟩
      walk_at "rs"
      refine ite2 (fun c1 => ?_) (fun c1 => ?_)
      · exfalso
        have g0 := gw.1
        simp at c1
        simp [c1] at g0
      exact k H2 s2
theorem ok_Committee_init (T : Txt K mg a) : ∃ fd, FnOk P w K mg base CX0 2 a.d_Committee_init fd ["self", "weights"] (spInit K a.C_Committee) ∧ Binds K fd ["self", "weights"] [] := by
  obtain ⟨fd, F, b⟩ := T.d_Committee_init.F
  obtain ⟨fd_first_wrong, G_first_wrong, b_first_wrong⟩ := ok_first_wrong (P := P) (w := w) (base := base) T
  refine ⟨fd, F.ok sc_Committee_init (fun vs H Q E h => ?_) (fun cdv A outer s H vs Q E hr h => ?_), b⟩
  · obtain ⟨_, _, _, _, rfl, _⟩ := h
    rfl
  · obtain ⟨p, dx, l, ws, rfl, hp, hl, gw, k⟩ := h
    refine ⟨_, (pss_cons (ps_set (i := 2) sc_Committee_init.nd rfl (Or.inl rfl) (pe_call G_first_wrong (hr.mono (by decide)) rfl T.d_first_wrong.g T.d_first_wrong.kp b_first_wrong .nil pass0 (pa_cons (pv 1) pa_nil)))
      (pss_cons (ps_if (pt_cmpR op_notN (pv 2) pe_non (nomark _))
      (pss_one ps_never)
      pss_nil)
      (pss_cons (ps_fld (pv 0) (pe_callTy call_tuple_of (by rfl) T.n_tuple (by decide +kernel) (pa_cons (pv 1) pa_nil)) rfl)
      (pss_cons (ps_fld (pv 0) (pe_callB call_len_seq (by rfl) T.n_len PySem.boot_len (pa_cons (pe_fld (pv 0) rfl) pa_nil)) rfl)
      (pss_one (ps_fld (pv 0) (pe_callB (cr_sumT rfl) (by rfl) T.n_sum (by decide +kernel) (pa_cons (pe_fld (pv 0) rfl) pa_nil)) rfl)))))), ?_⟩
    walk_at "rs"
    refine ⟨l, ws, rfl, hl, gw, fun H1 s1 => ?_⟩
    walk_at "rs"
    have hp1 := s1 _ _ hp
    refine ⟨l, _, rfl, .inl ⟨s1.seq hl, fun t ht => ?_⟩⟩
    have npt : p ≠ t := ne_of_none hp1 ht
    have hp2 : (upd H1 t (.tup (ws.map V.int))) p = some (.ins a.C_Committee dx []) := by rw [upd_ne npt]; exact hp1
    walk_at "rs"
    refine ⟨p, _, dx, [], rfl, hp2, T.cl_Committee, T.a_Committee_weights, (by show 0 < 1000; decide), ?_⟩
    have ht3 : ∀ o : HO, (upd (upd H1 t (.tup (ws.map V.int))) p o) t = some (.tup (ws.map V.int)) := fun o => by rw [upd_ne npt.symm, upd_same]
    walk_at "rs"
    refine ⟨p, _, dx, _, .ref t, rfl, upd_same, T.cl_Committee, T.a_Committee_weights, by rw [lookup_putF, if_pos rfl], ?_⟩
    walk_at "rs"
    refine ⟨t, _, rfl, .inr (SqT.of (ht3 _)), ?_⟩
    walk_at "rs"
    refine ⟨p, _, dx, _, rfl, upd_same, T.cl_Committee, T.a_Committee_size, (by show 1 < 1000; decide), ?_⟩
    rw [upd_upd]
    walk_at "rs"
    refine ⟨p, _, dx, _, .ref t, rfl, upd_same, T.cl_Committee, T.a_Committee_weights, by rw [lookup_putF, if_neg ne_ws, lookup_putF, if_pos rfl], ?_⟩
    walk_at "rs"
    refine ⟨t, ws, rfl, SqT.of (ht3 _), ?_⟩
    walk_at "rs"
    refine ⟨p, _, dx, _, rfl, upd_same, T.cl_Committee, T.a_Committee_total, (Nat.lt_of_le_of_lt (length_putF _ _ _) (Nat.lt_of_le_of_lt (Nat.add_le_add_right (length_putF _ _ _) 1) (by show 2 < 1000; decide))), ?_⟩
    rw [upd_upd, List.length_map]
    exact k _ ⟨dx, t, upd_same, ht3 _⟩ fun b o e hb => by
      rw [upd_ne hb, upd_ne (ne_of_none (s1 _ _ e) ht)]
      exact s1 _ _ e

theorem ok_Committee_weight_of (T : Txt K mg a) : ∃ fd, FnOk P w K mg base CX0 1 a.d_Committee_weight_of fd ["self", "members"] (spWof K a.C_Committee) ∧ Binds K fd ["self", "members"] [] := by
  obtain ⟨fd, F, b⟩ := T.d_Committee_weight_of.F
  refine ⟨fd, F.ok sc_Committee_weight_of (fun vs H Q E h => ?_) (fun cdv A outer s H vs Q E hr h => ?_), b⟩
  · obtain ⟨_, _, _, _, rfl, _⟩ := h
    rfl
  · obtain ⟨p, l, ws, ms, rfl, ⟨dx, t, hp, ht⟩, hlen, hl, hms, k⟩ := h
    refine ⟨_, (pss_cons (ps_set (i := 2) sc_Committee_weight_of.nd rfl (Or.inr rfl) (pe_callTy (cr_set rfl) (by rfl) T.n_set (by decide +kernel) (pa_cons (pv 1) pa_nil)))
      (pss_one (ps_ret (pe_callB (cr_sum rfl) (by rfl) T.n_sum (by decide +kernel) (pa_cons (pe_lc (own := [("member", 3), ("weight", 4)]) (g := (gTup K 2 (gCons (gName 3) (gCons (gName 4) gNil)))) rfl sc_Committee_weight_of.nd (pi_enumT (by rfl) T.n_enumerate (pa_cons (pe_fld (pv 0) rfl) pa_nil)) (blkOk_by (own := [("member", 3), ("weight", 4)]) (N := sc_Committee_weight_of_N) (sc := defScope s_Committee_weight_of) (by decide +kernel)) (fun _ _ _ _ _ => (pg_tup rfl (pgs_cons (pg_name (i := 3) sc_Committee_weight_of.nd rfl (Or.inl rfl)) (pgs_cons (pg_name (i := 4) sc_Committee_weight_of.nd rfl (Or.inl rfl)) pgs_nil)))) (fun _ _ _ _ _ => (pts_one (pt_cmpR op_in_set (pv 3) (pv 2) (by rfl)))) (fun _ _ _ _ _ => (pv 4))) pa_nil))))), ?_⟩
    walk_at "rs"
    refine ⟨l, ms, rfl, hl, hms, fun S n hS => ?_⟩
    have nS : ∀ q o, H q = some o → (upd H S (.set (fun k => decide (k ∈ ms)) n)) q = some o := same_new hS
    walk_at "rs"
    refine ⟨p, _, dx, _, .ref t, rfl, nS _ _ hp, T.cl_Committee, T.a_Committee_weights, cfs_w _ _, ?_⟩
    walk_at "rs"
    refine ⟨t, _, rfl, SqT.of (nS _ _ ht), fun D hD => ?_⟩
    generalize eH : upd H S (.set (fun k => decide (k ∈ ms)) n) = H1 at nS hD
    have hS1 : H1 S = some (.set (fun k => decide (k ∈ ms)) n) := by rw [← eH, upd_same]
    refine lc_enumT (K := K) (a := t) (ys := ws.map V.int) (fun i H2 => Same H1 H2 ∧ H2 D = some (.lst ((pick ws (fun k => decide (k ∈ ms)) i).map V.int))) ⟨same_new hD, upd_same⟩ (fun i H2 _ ⟨s2, _⟩ => SqT.of (s2 _ _ (nS _ _ ht))) ?_ ?_
    · rintro i y H2 q hy ⟨s2, hd⟩ hq
      have hi : i < ws.length := by
        have e := (List.getElem?_eq_some_iff.mp hy).1
        rwa [List.length_map] at e
      rw [at_ints hi] at hy
      cases hy
      have fit : ((pick ws (fun k => decide (k ∈ ms)) i).map V.int).length < sizeLine := by
        have := pick_len ws (fun k => decide (k ∈ ms)) i
        rw [List.length_map]
        exact small1000 (by omega)
      have s3 : Same H2 (upd H2 q (.tup [V.int (i : Nat), V.int (ws.getD i 0)])) := same_new hq
      refine ⟨q, _, rfl, SqT.of upd_same, rfl, ?_⟩
      refine ⟨_, _, rfl, _, _, rfl, rfl, rfl, ?_⟩
      walk_at "rs"
      refine ⟨_, S, _, n, rfl, rfl, s3 _ _ (s2 _ _ hS1), ?_⟩
      rw [if_neg Bool.false_ne_true]
      walk_at "rs"
      refine ite2 (fun c1 => ?_) (fun c1 => ?_)
      · walk_at "rs"
        refine ⟨_, s3 _ _ hd, fit, same_upd (fun b o z => s3 _ _ (s2 _ _ z)) hD, ?_⟩
        rw [upd_same, pick, if_pos c1]
        simp
      · refine ⟨fun b o z => s3 _ _ (s2 _ _ z), ?_⟩
        rw [s3 _ _ hd, pick, if_neg c1]
    · rintro H2 ⟨s2, hd⟩
      rw [List.length_map] at hd
      walk_at "rs"
      exact ⟨D, _, rfl, SqL.of hd, k H2 fun b o z => s2 _ _ (nS _ _ z)⟩
theorem ok_Committee_is_quorum (T : Txt K mg a) : ∃ fd, FnOk P w K mg base CX0 2 a.d_Committee_is_quorum fd ["self", "members"] (spQuorum K a.C_Committee) ∧ Binds K fd ["self", "members"] [] := by
  obtain ⟨fd, F, b⟩ := T.d_Committee_is_quorum.F
  obtain ⟨fd_Committee_weight_of, G_Committee_weight_of, b_Committee_weight_of⟩ := ok_Committee_weight_of (P := P) (w := w) (base := base) T
  refine ⟨fd, F.ok sc_Committee_is_quorum (fun vs H Q E h => ?_) (fun cdv A outer s H vs Q E hr h => ?_), b⟩
  · obtain ⟨_, _, _, _, rfl, _⟩ := h
    rfl
  · obtain ⟨p, l, ws, ms, rfl, hc, hlen, hl, hms, k⟩ := h
    obtain ⟨dx, t, hp, ht⟩ := id hc
    refine ⟨_, (pss_one (ps_ret (pe_cmpR op_gt (pe_op op_mul pe_int (pe_meth (pv 0) T.cl_Committee T.me_Committee_weight_of G_Committee_weight_of (hr.mono (by decide)) b_Committee_weight_of .nil pass0 (pa_cons (pv 1) pa_nil))) (pe_op op_mul pe_int (pe_fld (pv 0) rfl)) (nomark _)))), ?_⟩
    walk_at "rs"
    refine ⟨p, dx, _, rfl, hp, cfs_no _ _ (by decide +kernel) (by decide +kernel) (by decide +kernel), ?_⟩
    walk_at "rs"
    refine ⟨p, l, ws, ms, rfl, hc, hlen, hl, hms, fun H1 s1 => ?_⟩
    walk_at "rs"
    refine ⟨p, _, dx, _, _, rfl, s1 _ _ hp, T.cl_Committee, T.a_Committee_total, cfs_t _ _, ?_⟩
    walk_at "rs"
    exact k H1 s1

theorem vb_nil {H : Hp} {D : Addr} {xs : List Lt} {kd : Kd} {h : Int} {b : Option Str} (hD : H D = some (.dK [])) (z : ∀ x ∈ xs, selV kd h b x = false) : VbAt H D xs kd h b [] :=
  ⟨hD, List.nodup_nil, List.nodup_nil, fun e he => (nomatch he), fun t => ⟨fun q => (nomatch q), fun ⟨x, hx, q⟩ => by rw [inT_no (z x hx)] at q; cases q⟩, Nat.zero_le _⟩
theorem ok_votes_by_turn (T : Txt K mg a) : ∃ fd, FnOk P w K mg base CX0 1 a.d_votes_by_turn fd ["letters", "kind", "height", "block"] (spVbt K) ∧ Binds K fd ["letters", "kind", "height", "block"] [] := by
  obtain ⟨fd, F, b⟩ := T.d_votes_by_turn.F
  refine ⟨fd, F.ok sc_votes_by_turn (fun vs H Q E h => ?_) (fun cdv A outer s H vs Q E hr h => ?_), b⟩
  · obtain ⟨_, _, _, _, _, _, rfl, _⟩ := h
    rfl
  · obtain ⟨l, ps, xs, kd, h, b, rfl, hl, hx, few, k⟩ := h
    refine ⟨_, (pss_cons (ps_set (i := 4) sc_votes_by_turn.nd rfl (Or.inl rfl) pe_dnewK)
      (pss_cons (ps_if (pt_cmpR op_isN (pv 3) pe_non (nomark _))
      (pss_one (ps_ret (pv 4)))
      pss_nil)
      (pss_cons (ps_for PassesOwn.never rfl (pi_list (pv 0)) (pg_name (i := 5) sc_votes_by_turn.nd rfl (Or.inl rfl))
      (pss_cons (ps_set (i := 6) sc_votes_by_turn.nd rfl (Or.inl rfl) (pe_ix ix_tup (pv 5) pe_int (fun _ _ => rfl)))
        (pss_one (ps_if (PW.pt (pw_and (pt_cmpR op_eq (pe_ix ix_tup (pv 6) (pe_glob (v := (.int 0)) rfl T.c_KIND.choose_spec ⟨_, rfl⟩) (fun _ _ => rfl)) (pv 1) (nomark _)) (pw_and (pt_cmpR op_eq (pe_ix ix_tup (pv 6) (pe_glob (v := (.int 1)) rfl T.c_HEIGHT.choose_spec ⟨_, rfl⟩) (fun _ _ => rfl)) (pv 2) (nomark _)) (pw_and1 (pt_cmpR op_eq (pe_ix ix_tup (pv 6) (pe_glob (v := (.int 3)) rfl T.c_BLOCK.choose_spec ⟨_, rfl⟩) (fun _ _ => rfl)) (pv 3) (nomark _))))))
        (pss_one (ps_expr (pe_bm PySem.F.plainAttrs_list PySem.F.slot_list_append PySem.F.type_list_append mt_append (pe_dsetd (pv 4) (pe_ix ix_tup (pv 6) (pe_glob (v := (.int 2)) rfl T.c_TURN.choose_spec ⟨_, rfl⟩) (fun _ _ => rfl)) (pe_lst pa_nil) ⟨rfl, rfl, rfl, rfl⟩) (pa_cons (pv 5) pa_nil))))
        pss_nil))))
      (pss_one (ps_ret (pv 4)))))), ?_⟩
    walk_at "rs"
    intro D hD
    have s0 : Same H (upd H D (.dK [])) := same_new hD
    walk_at "rs"
    refine ite2 (fun c1 => ?_) (fun c1 => ?_) <;> simp only [koSn, decide_eq_true_iff] at c1
    · walk_at "rs"
      refine k D [] _ s0 (vb_nil upd_same fun x _ => ?_)
      unfold selV
      rw [c1]
      simp
    walk_at "rs"
    refine ⟨⟨_, SqL.of (s0 _ _ hl)⟩, for_list (K := K) (a := l) (xs := ps.map V.ref) (fun i σ H2 => ∃ v5 v6 : Option V, σ = [some (.ref l), some (.str kd.s), some (.int h), some (oS b), some (.ref D), v5, v6] ∧ Same H H2 ∧ ∃ ks, VbAt H2 D (xs.take i) kd h b ks ∧ ∀ e ∈ ks, H e.2 = none)
      ⟨_, _, rfl, s0, [], vb_nil upd_same fun x hx => (nomatch hx), fun e he => (nomatch he)⟩ (fun i σ H2 _ ⟨_, _, _, s2, _⟩ => SqL.of (s2 _ _ hl)) ?_ ?_⟩
    · rintro i y σ H2 hy ⟨v5, v6, rfl, s2, ks, hv, hfr⟩
      have hi : i < ps.length := by
        have e := (List.getElem?_eq_some_iff.mp hy).1
        rwa [List.length_map] at e
      have hi' : i < xs.length := by
        rw [← hx.1]
        exact hi
      rw [at_refs hi] at hy
      cases hy
      have hlt := (hx.2 i hi').same s2
      obtain ⟨q, hp, hq⟩ := id hlt
      have et := take_succ_getD (d := default) hi'
      generalize xs.getD i default = x at hlt hq hp et
      walk_at "rs"
      refine ⟨_, _, _, _, rfl, rfl, SqT.of hp, rfl, ?_⟩
      walk_at "rs"
      refine ite2 (fun c2 => ?_) (fun c2 => ?_) <;> simp only [dec_kd, decide_eq_true_iff] at c2
      · walk_at "rs"
        refine ite2 (fun c3 => ?_) (fun c3 => ?_) <;> simp only [dec_int, beq_iff_eq] at c3
        · walk_at "rs"
          refine ite2 (fun c4 => ?_) (fun c4 => ?_) <;> simp only [dec_oS, decide_eq_true_iff] at c4
          · have cs : selV kd h b x = true := decide_eq_true ⟨c1, c2, c3, c4⟩
            walk_at "rs"
            refine ⟨.inl ⟨_, .inl hv.here⟩, ?_⟩
            walk_at "rs"
            refine ⟨(by show 0 ≤ sizeLine; decide), fun z hz => ?_⟩
            have sz : Same H2 (upd H2 z (.lst [])) := same_new hz
            have hv3 := hv.same sz
            have few3 := hv.few
            rw [List.length_take] at few3
            have hHz : H z = none := s2.free hz
            refine ⟨_, Sum.inl x.m.t, hv3.here, rfl, by unfold vbK; rw [List.length_map]; exact small1000 (by omega), fun v hval => ?_, fun hval => ?_⟩
            · have hin : x.m.t ∈ ks.map (·.1) := by
                refine Decidable.byContradiction fun no => ?_
                rw [val_vbn no] at hval
                cases hval
              obtain ⟨l2, hm, e2⟩ := val_vb hin
              rw [e2] at hval
              cases hval
              obtain ⟨qs, hl2, hls⟩ := hv3.ls _ hm
              have lq : qs.length ≤ 900 := by
                have := List.length_filter_le (inT kd h b x.m.t) (xs.take i)
                rw [List.length_take] at this
                have e3 : qs.length = ((xs.take i).filter (inT kd h b x.m.t)).length := hls.1
                omega
              walk_at "rs"
              refine ⟨.inl ⟨rfl, _, SqL.of hl2⟩, ?_⟩
              walk_at "rs"
              refine ⟨l2, _, _, rfl, rfl, hl2, by rw [List.length_map]; exact small1000 (by omega), ?_⟩
              refine ⟨_, _, rfl, same_upd (s2.trans sz) (hfr _ hm), ks, ?_, hfr⟩
              rw [et]
              exact hv3.more cs hm hl2 (hlt.same sz)
            · have hno : x.m.t ∉ ks.map (·.1) := fun hin => by
                obtain ⟨l2, hm, e2⟩ := val_vb hin
                rw [e2] at hval
                cases hval
              have nl : z ∉ ks.map (·.2) := fun hin => by
                obtain ⟨e, he, ez⟩ := List.mem_map.mp hin
                obtain ⟨qs, hl2, _⟩ := hv.ls e he
                rw [ez, hz] at hl2
                cases hl2
              have ekvs : putK (vbK ks) (Sum.inl x.m.t) (V.ref z) = vbK (ks ++ [(x.m.t, z)]) := by
                rw [putK_new hval]
                unfold vbK
                simp
              rw [ekvs]
              have hz3 : (upd H2 z (.lst [])) z = some (.lst []) := upd_same
              have nDz := ne_dk hv3.here hz3
              walk_at "rs"
              refine ⟨.inl ⟨rfl, _, SqL.of (by rw [upd_ne nDz.symm]; exact hz3)⟩, ?_⟩
              walk_at "rs"
              refine ⟨z, _, _, rfl, rfl, (by rw [upd_ne nDz.symm]; exact hz3), by show 0 < sizeLine; decide, ?_⟩
              refine ⟨_, _, rfl, same_upd (same_upd (s2.trans sz) hD) hHz, ks ++ [(x.m.t, z)], ?_, fun e he => ?_⟩
              · rw [et]
                exact hv3.first cs hno hz3 nl (hlt.same sz)
              · rcases List.mem_append.mp he with he | he
                · exact hfr e he
                · rw [List.mem_singleton.mp he]
                  exact hHz
          · exact ⟨_, _, rfl, s2, ks, by rw [et]; exact hv.skip (decide_eq_false fun z => c4 z.2.2.2), hfr⟩
        · exact ⟨_, _, rfl, s2, ks, by rw [et]; exact hv.skip (decide_eq_false fun z => c3 z.2.2.1), hfr⟩
      · exact ⟨_, _, rfl, s2, ks, by rw [et]; exact hv.skip (decide_eq_false fun z => c2 z.2.1), hfr⟩
    · rintro σ H2 ⟨v5, v6, rfl, s2, ks, hv, hfr⟩
      rw [List.length_map, hx.1, List.take_length] at hv
      walk_at "rs"
      exact k D ks _ s2 hv
theorem ok_counts (T : Txt K mg a) : ∃ fd, FnOk P w K mg base CX0 1 a.d_counts fd ["prevote", "turns"] (spCounts K) ∧ Binds K fd ["prevote", "turns"] [] := by
  obtain ⟨fd, F, b⟩ := T.d_counts.F
  refine ⟨fd, F.ok sc_counts (fun vs H Q E h => ?_) (fun cdv A outer s H vs Q E hr h => ?_), b⟩
  · obtain ⟨_, _, _, _, rfl, _⟩ := h
    rfl
  · obtain ⟨p, D, m, L, rfl, hp, hk, hD, k⟩ := h
    have k0 := k H (Same.refl H)
    unfold cntL at k0
    refine ⟨_, (pss_cons (ps_set (i := 2) sc_counts.nd rfl (Or.inl rfl) (pe_ix ix_tup (pv 0) (pe_glob (v := (.int 4)) rfl T.c_LEAN.choose_spec ⟨_, rfl⟩) (fun _ _ => rfl)))
      (pss_one (ps_ret (pe_or (pe_cmpR op_isN (pv 2) pe_non (nomark _)) (pe_one (pe_and (pe_cmpR op_lt (pv 2) (pe_ix ix_tup (pv 0) (pe_glob (v := (.int 2)) rfl T.c_TURN.choose_spec ⟨_, rfl⟩) (fun _ _ => rfl)) (nomark _)) (pe_one (pe_cmp (pc_din (hu_of hr) (pv 2) (pv 1)) rfl)))))))), ?_⟩
    walk_at "rs"
    refine ite2 (fun c1 => ?_) (fun c1 => ?_) <;> simp only [koIn, decide_eq_true_iff] at c1
    · rw [c1] at k0
      exact k0
    obtain ⟨i, hl⟩ : ∃ i, m.l = some i := by
      cases hl : m.l with
      | none => exact absurd hl c1
      | some i => exact ⟨i, rfl⟩
    rw [hl] at k0 ⊢
    have k0 : Q (.bl (decide (i < m.t) && decide (i ∈ L))) H := k0
    refine ⟨_, rfl, ?_⟩
    walk_at "rs"
    refine ite2 (fun c2 => ?_) (fun c2 => ?_) <;> simp only [decide_eq_true_iff] at c2
    · rw [decide_eq_true c2, Bool.true_and] at k0
      walk_at "rs"
      refine ⟨D, _, rfl, DGet.k (k := Sum.inl i) hD, ?_⟩
      rw [val_tru]
      exact k0
    · rw [decide_eq_false c2, Bool.false_and] at k0
      exact k0
theorem ok_certified_turns (T : Txt K mg a) : ∃ fd, FnOk P w K mg base CX0 3 a.d_certified_turns fd ["committee", "letters", "height", "block"] (spCts K a.C_Committee) ∧ Binds K fd ["committee", "letters", "height", "block"] [] := by
  obtain ⟨fd, F, b⟩ := T.d_certified_turns.F
  obtain ⟨fd_votes_by_turn, G_votes_by_turn, b_votes_by_turn⟩ := ok_votes_by_turn (P := P) (w := w) (base := base) T
  obtain ⟨fd_Committee_is_quorum, G_Committee_is_quorum, b_Committee_is_quorum⟩ := ok_Committee_is_quorum (P := P) (w := w) (base := base) T
  obtain ⟨fd_counts, G_counts, b_counts⟩ := ok_counts (P := P) (w := w) (base := base) T
  refine ⟨fd, F.ok sc_certified_turns (fun vs H Q E h => ?_) (fun cdv A outer s H vs Q E hr h => ?_), b⟩
  · obtain ⟨_, _, _, _, _, _, _, rfl, _⟩ := h
    rfl
  · obtain ⟨c, l, ws, ps, xs, h, b, rfl, hc, gw, hl, hx, few, tb, k⟩ := h
    obtain ⟨dx, t, hcp, hct⟩ := id hc
    refine ⟨_, (pss_cons (ps_set (i := 4) sc_certified_turns.nd rfl (Or.inl rfl) (pe_call G_votes_by_turn (hr.mono (by decide)) rfl T.d_votes_by_turn.g T.d_votes_by_turn.kp b_votes_by_turn .nil pass0 (pa_cons (pv 1) (pa_cons pe_str (pa_cons (pv 2) (pa_cons (pv 3) pa_nil))))))
      (pss_cons (ps_set (i := 5) sc_certified_turns.nd rfl (Or.inr rfl) pe_dnewK)
      (pss_cons (ps_for PassesOwn.never rfl (pi_list (pe_callB (call_sortedDI rfl) (by rfl) T.n_sorted (by decide +kernel) (pa_cons (pv 4) pa_nil))) (pg_name (i := 6) sc_certified_turns.nd rfl (Or.inl rfl))
      (pss_cons (ps_setLc (i := 7) (own := [("letter", 8)]) (g := (gName 8)) rfl sc_certified_turns.nd rfl rfl (sw_true rfl rfl rfl (by decide +kernel)) (pi_list (pe_dget (hu_of hr) (pv 4) (pv 6) (fun _ _ => rfl))) (blkOk_by (own := [("letter", 8)]) (N := sc_certified_turns_N) (sc := defScope s_certified_turns) (by decide +kernel)) (fun _ _ _ _ _ => (pg_name (i := 8) sc_certified_turns.nd rfl (Or.inl rfl))) (fun _ _ _ _ _ => (pts_one (pt_val (pe_call G_counts (hr.mono (by decide)) rfl T.d_counts.g T.d_counts.kp b_counts .nil pass0 (pa_cons (pe_ix (r := rIxT K) ix_tup (pv 8) pe_int (fun _ _ => rfl)) (pa_cons (pv 5) pa_nil)))))) (fun _ _ _ _ _ => (pe_ix (r := rIxT K) ix_tup (pv 8) pe_int (fun _ _ => rfl))))
        (pss_one (ps_if (pt_val (pe_meth (pv 0) T.cl_Committee T.me_Committee_is_quorum G_Committee_is_quorum (hr.mono (by decide)) b_Committee_is_quorum .nil pass0 (pa_cons (pv 7) pa_nil)))
        (pss_one (ps_dput (hu_of hr) (pv 5) (pv 6) pe_bl rfl))
        pss_nil))))
      (pss_one (ps_ret (pe_callTy (call_listD rfl) (by rfl) T.n_list (by decide +kernel) (pa_cons (pv 5) pa_nil))))))), ?_⟩
    walk_at "rs"
    refine ⟨l, ps, xs, .pre, h, b, rfl, hl, hx, few, fun D ks H1 s1 hv => ?_⟩
    walk_at "rs"
    intro F1 hF1
    have s2 : Same H1 (upd H1 F1 (.dK [])) := same_new hF1
    have hF2 : (upd H1 F1 (.dK [])) F1 = some (.dK (tru [])) := upd_same
    have hv2 := hv.same s2
    have hFH : H F1 = none := s1.free hF1
    generalize upd H1 F1 (.dK []) = H2 at s2 hF2 hv2 ⊢
    walk_at "rs"
    have kb : ∀ t ∈ ks.map (·.1), 0 ≤ t ∧ t < 60 := fun t ht => by
      obtain ⟨x, hx, z⟩ := (hv.ky t).mp ht
      rw [inT_t z]
      exact tb x hx
    have k60 := nodup_few 60 hv.nd kb
    rw [List.length_map] at k60
    refine ⟨D, _, ks.map (·.1), rfl, .inl hv2.here, by unfold vbK; simp [Function.comp_def], by rw [List.length_map]; omega, fun ts R hp hpw hR => ?_⟩
    have nd := (hp.nodup_iff).mpr hv.nd
    have ky : ∀ t : Int, t ∈ ts ↔ ∃ x ∈ xs, inT .pre h b t x = true := fun t => by rw [hp.mem_iff]; exact hv.ky t
    have tb2 : ∀ t ∈ ts, 0 ≤ t ∧ t < 60 := fun t ht => kb t (hp.mem_iff.mp ht)
    have s3 : Same H2 (upd H2 R (.lst (ts.map V.int))) := same_new hR
    have hF3 := s3 _ _ hF2
    have hR3 : (upd H2 R (.lst (ts.map V.int))) R = some (.lst (ts.map V.int)) := upd_same
    generalize upd H2 R (.lst (ts.map V.int)) = H3 at s3 hF3 hR3 ⊢
    have nF : H1 F1 = none := hF1
    refine ⟨R, rfl, ⟨_, SqL.of hR3⟩, for_list (K := K) (a := R) (xs := ts.map V.int) (fun i σ H4 => ∃ v6 v7 : Option V, σ = [some (.ref c), some (.ref l), some (.int h), some (oS b), some (.ref D), some (.ref F1), v6, v7, none] ∧ Same H1 H4 ∧ H4 R = some (.lst (ts.map V.int)) ∧ H4 F1 = some (.dK (tru (lns ws xs h b (nxt ts i)))))
      ⟨_, _, rfl, s2.trans s3, hR3, hF3⟩ (fun i σ H4 _ ⟨_, _, _, _, hr4, _⟩ => SqL.of hr4) ?_ ?_⟩
    · rintro i y σ H4 hy ⟨v6, v7, rfl, s4, hr4, hf4⟩
      have hi : i < ts.length := by
        have e := (List.getElem?_eq_some_iff.mp hy).1
        rwa [List.length_map] at e
      rw [at_ints hi] at hy
      cases hy
      have ht := getD_mem hi
      have hb := tb2 _ ht
      obtain ⟨x0, hx0, i0⟩ := (ky _).mp ht
      have nb := (inT_some i0).1
      obtain ⟨n, en⟩ := Int.eq_ofNat_of_zero_le hb.1
      have lo : ∀ k, k < i → 0 ≤ ts.getD k 0 := fun k hk => (tb2 _ (getD_mem (by omega))).1
      have eL : lns ws xs h b n = lns ws xs h b (nxt ts i) := by
        refine gap_gen gw nb ky hpw nd (Nat.le_of_lt hi) ?_ fun j h1 h2 => ?_
        · cases i with
          | zero => exact Nat.zero_le _
          | succ k =>
            have h3 := srt_lt hpw nd (show k < k + 1 by omega) hi
            have h4 := lo k (show k < k + 1 by omega)
            have h5 : nxt ts (k + 1) = (ts.getD k 0 + 1).toNat := rfl
            omega
        · rcases Nat.lt_or_ge i j with z | z
          · have := srt_lt hpw nd z h2
            omega
          · have : j = i := by omega
            rw [this]
            omega
      have eN : nxt ts (i + 1) = n + 1 := by
        have h5 : nxt ts (i + 1) = (ts.getD i 0 + 1).toNat := rfl
        omega
      rw [← eL] at hf4
      rw [eN]
      rw [en] at i0 ⊢
      clear eL eN hb en
      have hin : (n : Int) ∈ ks.map (·.1) := (hv.ky _).mpr ⟨x0, hx0, i0⟩
      obtain ⟨lt, hm, e2⟩ := val_vb hin
      have hv4 := hv.same s4
      obtain ⟨qs, hl4, hls⟩ := hv4.ls _ hm
      have hls : LsAt H4 qs (xs.filter (inT .pre h b (n : Int))) := hls
      have lq : qs.length ≤ 900 := by
        have h1 := List.length_filter_le (inT .pre h b (n : Int)) xs
        have h2 := hls.1
        omega
      have eM : memM xs h n b (lns ws xs h b n) = ((xs.filter (inT .pre h b n)).filter fun x => cntL x.m (lns ws xs h b n)).map Lt.w := mem_inT nb
      have eC : certM ws xs h b n = qrm ws (memM xs h n b (lns ws xs h b n)) := rfl
      have lL := lns_len ws xs h b n
      have n60 : n < 60 := by
        have := tb2 _ ht
        have e := tb x0 hx0
        have e3 := inT_t i0
        omega
      have nL : (n : Int) ∉ lns ws xs h b n := fun z => by
        have := ((mem_lnsI (n : Int) n).mp z).2.1
        omega
      have yes := fun q => lns_yes (ws := ws) (xs := xs) (h := h) (b := b) (n := n) q
      have no := fun q => lns_no (ws := ws) (xs := xs) (h := h) (b := b) (n := n) q
      rw [eC, eM] at yes no
      clear eC eM
      generalize lns ws xs h b n = L at hf4 lL nL yes no
      have ysk : ∀ j, j < (xs.filter (inT .pre h b (n : Int))).length → ((xs.filter (inT .pre h b (n : Int))).getD j default).m.k = .pre := fun j hj => (inT_some (filt_mem hj).2).2
      generalize xs.filter (inT .pre h b (n : Int)) = ys at hls yes no ysk
      walk_at "rs"
      refine ⟨D, .ref lt, rfl, by rw [← e2]; exact DGet.k (k := Sum.inl (n : Int)) hv4.here, ?_⟩
      walk_at "rs"
      refine ⟨⟨_, SqL.of hl4⟩, fun D3 hD3 => ?_⟩
      refine lc_list (K := K) (a := lt) (xs := qs.map V.ref) (fun j H5 => Same H4 H5 ∧ H5 D3 = some (.lst ((((ys.take j).filter fun x => cntL x.m L).map Lt.w).map V.int))) ⟨same_new hD3, by rw [upd_same]; simp⟩ (fun j H5 _ ⟨s5, _⟩ => SqL.of (s5 _ _ hl4)) ?_ ?_
      · rintro j y H5 hy ⟨s5, hd5⟩
        have hj : j < qs.length := by
          have e := (List.getElem?_eq_some_iff.mp hy).1
          rwa [List.length_map] at e
        have hj' : j < ys.length := by
          rw [← hls.1]
          exact hj
        rw [at_refs hj] at hy
        cases hy
        have hlt := (hls.2 j hj').same s5
        obtain ⟨q, hp5, hq5⟩ := id hlt
        have hk5 := ysk j hj'
        have et := take_succ_getD (d := default) hj'
        generalize ys.getD j default = x at hlt hp5 hq5 hk5 et
        refine ⟨rfl, ?_⟩
        walk_at "rs"
        refine ⟨_, _, _, _, rfl, rfl, SqT.of hp5, rfl, ?_⟩
        walk_at "rs"
        refine ⟨q, F1, x.m, L, rfl, hq5, hk5, s5 _ _ hf4, fun H6 s6 => ?_⟩
        walk_at "rs"
        refine ite2 (fun c1 => ?_) (fun c1 => ?_)
        · walk_at "rs"
          refine ⟨_, _, _, _, rfl, rfl, SqT.of (s6 _ _ hp5), rfl, ?_⟩
          have l5 := List.length_filter_le (fun x => cntL x.m L) (ys.take j)
          rw [List.length_take] at l5
          have l6 := hls.1
          refine ⟨_, s6 _ _ hd5, by rw [List.length_map, List.length_map]; exact small1000 (by omega), same_upd (s5.trans s6) hD3, ?_⟩
          rw [upd_same, et, List.filter_append, List.filter_cons_of_pos (by exact c1)]
          simp
        · refine ⟨s5.trans s6, ?_⟩
          rw [s6 _ _ hd5, et, List.filter_append, List.filter_cons_of_neg (by exact c1)]
          simp
      · rintro H5 ⟨s5, hd5⟩
        rw [List.length_map, hls.1, List.take_length] at hd5
        have l5 := List.length_filter_le (fun x => cntL x.m L) ys
        have l6 := hls.1
        have s15 := s4.trans s5
        have sH5 := s1.trans s15
        walk_at "rs"
        refine ⟨c, dx, _, rfl, sH5 _ _ hcp, cfs_no _ _ (by decide +kernel) (by decide +kernel) (by decide +kernel), ?_⟩
        walk_at "rs"
        refine ⟨c, D3, ws, _, rfl, hc.same sH5, gw.2.1, SqL.of hd5, by rw [List.length_map]; omega, fun H6 s6 => ?_⟩
        walk_at "rs"
        have hf6 := s6 _ _ (s5 _ _ hf4)
        have s16 := s15.trans s6
        have hr6 := s6 _ _ (s5 _ _ hr4)
        refine ite2 (fun c1 => ?_) (fun c1 => ?_)
        · walk_at "rs"
          refine ⟨F1, _, rfl, DPut.k (k := Sum.inl (n : Int)) hf6 (by unfold tru; rw [List.length_map]; exact small1000 (by omega)), ?_⟩
          refine ⟨_, _, rfl, same_upd s16 nF, ?_, ?_⟩
          · rw [upd_ne (fun z => by rw [← z, hr6] at hf6; cases hf6)]
            exact hr6
          · have ev : valV (tru L) (Sum.inl (n : Int)) = none := by
              have := val_tru (t := (n : Int)) (L := L)
              rw [decide_eq_false nL] at this
              cases q : valV (tru L) (Sum.inl (n : Int)) with
              | none => rfl
              | some v => rw [q] at this; cases this
            rw [upd_same, putK_new ev, yes c1, tru_snoc]
        · refine ⟨_, _, rfl, s16, hr6, ?_⟩
          rw [no c1]
          exact hf6
    · rintro σ H4 ⟨v6, v7, rfl, s4, hr4, hf4⟩
      rw [List.length_map] at hf4
      have eE : lns ws xs h b (nxt ts ts.length) = ctL ws xs h b := by
        cases b with
        | none =>
          have : ts = [] := by
            cases ts with
            | nil => rfl
            | cons t ts =>
              obtain ⟨x, _, z⟩ := (ky t).mp List.mem_cons_self
              exact absurd rfl (inT_some z).1
          rw [this]
          rfl
        | some bb =>
          symm
          refine gap_gen (b := some bb) (h := h) gw (by simp) ky hpw nd (Nat.le_refl _) ?_ fun j h1 h2 => absurd h2 (by omega)
          cases q : ts.length with
          | zero => exact Nat.zero_le _
          | succ k =>
            have h5 : nxt ts (k + 1) = (ts.getD k 0 + 1).toNat := rfl
            have h6 := tb2 _ (getD_mem (show k < ts.length by omega))
            omega
      rw [eE] at hf4
      walk_at "rs"
      refine ⟨F1, _, rfl, .inl hf4, fun R2 hR2 => ?_⟩
      have s5 := same_new (o := .lst ((ctL ws xs h b).map V.int)) hR2
      have e : (tru (ctL ws xs h b)).map (fun kv => kV kv.1) = (ctL ws xs h b).map V.int := by
        unfold tru
        rw [List.map_map]
        rfl
      rw [e]
      exact k R2 _ (s1.trans (s4.trans s5)) (s1.free (s4.free hR2)) upd_same
theorem ok_committed_turns (T : Txt K mg a) : ∃ fd, FnOk P w K mg base CX0 4 a.d_committed_turns fd ["committee", "letters", "height", "block"] (spCms K a.C_Committee) ∧ Binds K fd ["committee", "letters", "height", "block"] [] := by
  obtain ⟨fd, F, b⟩ := T.d_committed_turns.F
  obtain ⟨fd_votes_by_turn, G_votes_by_turn, b_votes_by_turn⟩ := ok_votes_by_turn (P := P) (w := w) (base := base) T
  obtain ⟨fd_certified_turns, G_certified_turns, b_certified_turns⟩ := ok_certified_turns (P := P) (w := w) (base := base) T
  obtain ⟨fd_Committee_is_quorum, G_Committee_is_quorum, b_Committee_is_quorum⟩ := ok_Committee_is_quorum (P := P) (w := w) (base := base) T
  refine ⟨fd, F.ok sc_committed_turns (fun vs H Q E h => ?_) (fun cdv A outer s H vs Q E hr h => ?_), b⟩
  · obtain ⟨_, _, _, _, _, _, _, rfl, _⟩ := h
    rfl
  · obtain ⟨c, l, ws, ps, xs, h, b, rfl, hc, gw, hl, hx, few, tb, k⟩ := h
    obtain ⟨dx, t, hcp, hct⟩ := id hc
    refine ⟨_, (pss_cons (ps_set (i := 4) sc_committed_turns.nd rfl (Or.inl rfl) (pe_call G_votes_by_turn (hr.mono (by decide)) rfl T.d_votes_by_turn.g T.d_votes_by_turn.kp b_votes_by_turn .nil pass0 (pa_cons (pv 1) (pa_cons pe_str (pa_cons (pv 2) (pa_cons (pv 3) pa_nil))))))
      (pss_cons (ps_set (i := 5) sc_committed_turns.nd rfl (Or.inl rfl) (pe_lst pa_nil))
      (pss_cons (ps_for PassesOwn.never rfl (pi_list (pe_call G_certified_turns (hr.mono (by decide)) rfl T.d_certified_turns.g T.d_certified_turns.kp b_certified_turns .nil pass0 (pa_cons (pv 0) (pa_cons (pv 1) (pa_cons (pv 2) (pa_cons (pv 3) pa_nil)))))) (pg_name (i := 6) sc_committed_turns.nd rfl (Or.inl rfl))
      (pss_cons (ps_setLc (i := 7) (own := [("letter", 8)]) (g := (gName 8)) (tt := tYes) rfl sc_committed_turns.nd rfl rfl (sw_true rfl rfl rfl (by decide +kernel)) (pi_list (pe_dget2 (hu_of hr) (pv 4) (pv 6) (pe_lst pa_nil) ⟨rfl, rfl, rfl, rfl⟩)) (blkOk_by (own := [("letter", 8)]) (N := sc_committed_turns_N) (sc := defScope s_committed_turns) (by decide +kernel)) (fun _ _ _ _ _ => (pg_name (i := 8) sc_committed_turns.nd rfl (Or.inl rfl))) (fun _ _ _ _ _ => pts_nil) (fun _ _ _ _ _ => (pe_ix (r := rIxT K) ix_tup (pv 8) pe_int (fun _ _ => rfl))))
        (pss_one (ps_if (pt_val (pe_meth (pv 0) T.cl_Committee T.me_Committee_is_quorum G_Committee_is_quorum (hr.mono (by decide)) b_Committee_is_quorum .nil pass0 (pa_cons (pv 7) pa_nil)))
        (pss_one (ps_expr (pe_bm PySem.F.plainAttrs_list PySem.F.slot_list_append PySem.F.type_list_append mt_append (pv 5) (pa_cons (pv 6) pa_nil))))
        pss_nil))))
      (pss_one (ps_ret (pv 5)))))), ?_⟩
    walk_at "rs"
    refine ⟨l, ps, xs, .com, h, b, rfl, hl, hx, few, fun D ks H1 s1 hv => ?_⟩
    walk_at "rs"
    refine ⟨(by show 0 ≤ sizeLine; decide), fun F1 hF1 => ?_⟩
    have s2 : Same H1 (upd H1 F1 (.lst [])) := same_new hF1
    have hF2 : (upd H1 F1 (.lst [])) F1 = some (.lst (([] : List Int).map V.int)) := upd_same
    have nF : H F1 = none := s1.free hF1
    generalize upd H1 F1 (.lst []) = H2 at s2 hF2 ⊢
    walk_at "rs"
    have s02 := s1.trans s2
    refine ⟨c, l, ws, ps, xs, h, b, rfl, hc.same s02, gw, s02 _ _ hl, hx.same s02, few, tb, fun R H3 s3 hR hR3 => ?_⟩
    have s03 := s02.trans s3
    have hv3 := hv.same (s2.trans s3)
    have hF3 := s3 _ _ hF2
    have s13 := s2.trans s3
    have nRF : R ≠ F1 := fun e => by
      rw [e, hF2] at hR
      cases hR
    have lC : (ctL ws xs h b).length ≤ 60 := by
      unfold ctL
      cases b with
      | none => exact Nat.zero_le _
      | some bb => exact lns_len ws xs h (some bb) 60
    have nbC : ∀ t ∈ ctL ws xs h b, b ≠ none := fun t ht z => by
      rw [z] at ht
      cases ht
    unfold cmL at k
    generalize ctL ws xs h b = C at hR3 lC nbC k
    refine ⟨R, rfl, ⟨_, SqL.of hR3⟩, for_list (K := K) (a := R) (xs := C.map V.int) (fun i σ H4 => ∃ v6 v7 : Option V, σ = [some (.ref c), some (.ref l), some (.int h), some (oS b), some (.ref D), some (.ref F1), v6, v7, none] ∧ Same H1 H4 ∧ H4 R = some (.lst (C.map V.int)) ∧ H4 F1 = some (.lst (((C.take i).filter fun t => qrm ws (comS xs h t b)).map V.int)))
      ⟨_, _, rfl, s13, hR3, hF3⟩ (fun i σ H4 _ ⟨_, _, _, _, hr4, _⟩ => SqL.of hr4) ?_ ?_⟩
    · rintro i y σ H4 hy ⟨v6, v7, rfl, s4, hr4, hf4⟩
      have hi : i < C.length := by
        have e := (List.getElem?_eq_some_iff.mp hy).1
        rwa [List.length_map] at e
      rw [at_ints hi] at hy
      cases hy
      have nb := nbC _ (getD_mem hi)
      have et := take_succ_getD (d := (0 : Int)) hi
      generalize C.getD i 0 = t at et ⊢
      have hv4 := hv.same s4
      have s04 := s1.trans s4
      have eS : comS xs h t b = (xs.filter (inT .com h b t)).map Lt.w := com_inT nb
      have lF := List.length_filter_le (inT .com h b t) xs
      walk_at "rs"
      refine ⟨.inl ⟨_, .inl hv4.here⟩, ?_⟩
      walk_at "rs"
      refine ⟨(by show 0 ≤ sizeLine; decide), fun z hz => ?_⟩
      have sz : Same H4 (upd H4 z (.lst [])) := same_new hz
      have hzz : (upd H4 z (.lst [])) z = some (.lst (([] : List Addr).map V.ref)) := upd_same
      have hv5 := hv4.same sz
      have hr5 := sz _ _ hr4
      have hf5 := sz _ _ hf4
      have s05 := s04.trans sz
      have s15 := s4.trans sz
      generalize upd H4 z (.lst []) = H5 at sz hzz hv5 hr5 hf5 s05 s15 ⊢
      obtain ⟨lt, qs, o, hdg, eo, hlt, hls⟩ : ∃ (lt : Addr) (qs : List Addr) (o : Option V), DGet H5 D (.int t) o ∧ o.getD (.ref z) = .ref lt ∧ H5 lt = some (.lst (qs.map V.ref)) ∧ LsAt H5 qs (xs.filter (inT .com h b t)) := by
        by_cases hin : t ∈ ks.map (·.1)
        · obtain ⟨lt, hm, e2⟩ := val_vb hin
          obtain ⟨qs, h1, h2⟩ := hv5.ls _ hm
          exact ⟨lt, qs, _, DGet.k (k := Sum.inl t) hv5.here, by rw [e2]; rfl, h1, h2⟩
        · refine ⟨z, [], _, DGet.k (k := Sum.inl t) hv5.here, by rw [val_vbn hin]; rfl, hzz, ?_⟩
          have e0 : xs.filter (inT .com h b t) = [] := List.filter_eq_nil_iff.mpr fun x hx y => hin ((hv.ky t).mpr ⟨x, hx, y⟩)
          rw [e0]
          exact LsAt.nil
      refine ⟨o, hdg, ?_⟩
      rw [eo]
      walk_at "rs"
      generalize xs.filter (inT .com h b t) = ys at hls lF eS
      refine ⟨⟨_, SqL.of hlt⟩, fun D3 hD3 => ?_⟩
      refine lc_list (K := K) (a := lt) (xs := qs.map V.ref) (fun j H6 => Same H5 H6 ∧ H6 D3 = some (.lst (((ys.take j).map Lt.w).map V.int))) ⟨same_new hD3, by rw [upd_same]; simp⟩ (fun j H6 _ ⟨s6, _⟩ => SqL.of (s6 _ _ hlt)) ?_ ?_
      · rintro j y H6 hy ⟨s6, hd6⟩
        have hj : j < qs.length := by
          have e := (List.getElem?_eq_some_iff.mp hy).1
          rwa [List.length_map] at e
        have hj' : j < ys.length := by
          rw [← hls.1]
          exact hj
        rw [at_refs hj] at hy
        cases hy
        have hl6 := (hls.2 j hj').same s6
        obtain ⟨q, hp6, hq6⟩ := id hl6
        have ej := take_succ_getD (d := default) hj'
        refine ⟨rfl, ?_⟩
        walk_at "rs"
        refine ⟨_, _, _, _, rfl, rfl, SqT.of hp6, rfl, ?_⟩
        refine ⟨_, hd6, by rw [List.length_map, List.length_map, List.length_take]; exact small1000 (by omega), same_upd s6 hD3, ?_⟩
        rw [upd_same, ej]
        simp
      · rintro H6 ⟨s6, hd6⟩
        rw [List.length_map, hls.1, List.take_length] at hd6
        have s06 := s05.trans s6
        walk_at "rs"
        refine ⟨c, dx, _, rfl, s06 _ _ hcp, cfs_no _ _ (by decide +kernel) (by decide +kernel) (by decide +kernel), ?_⟩
        walk_at "rs"
        refine ⟨c, D3, ws, _, rfl, hc.same s06, gw.2.1, SqL.of hd6, by rw [List.length_map]; omega, fun H7 s7 => ?_⟩
        walk_at "rs"
        have hf7 := s7 _ _ (s6 _ _ hf5)
        have hr7 := s7 _ _ (s6 _ _ hr5)
        have s17 := (s15.trans s6).trans s7
        refine ite2 (fun c1 => ?_) (fun c1 => ?_)
        · walk_at "rs"
          refine ⟨.inl ⟨rfl, _, SqL.of hf7⟩, ?_⟩
          walk_at "rs"
          have l7 := List.length_filter_le (fun t => qrm ws (comS xs h t b)) (C.take i)
          rw [List.length_take] at l7
          refine ⟨F1, _, _, rfl, rfl, hf7, by rw [List.length_map]; exact small1000 (by omega), ?_⟩
          refine ⟨_, _, rfl, same_upd s17 hF1, ?_, ?_⟩
          · rw [upd_ne nRF]
            exact hr7
          · rw [upd_same, et, List.filter_append, List.filter_cons_of_pos (by rw [eS]; exact c1)]
            simp
        · refine ⟨_, _, rfl, s17, hr7, ?_⟩
          rw [hf7, et, List.filter_append, List.filter_cons_of_neg (by rw [eS]; exact c1)]
          simp
    · rintro σ H4 ⟨v6, v7, rfl, s4, hr4, hf4⟩
      rw [List.length_map, List.take_length] at hf4
      walk_at "rs"
      exact k F1 _ (s1.trans s4) nF hf4

theorem ok_shown_turn (T : Txt K mg a) : ∃ fd, FnOk P w K mg base CX0 5 a.d_shown_turn fd ["committee", "height", "block", "letters"] (spShown K a.C_Committee) ∧ Binds K fd ["committee", "height", "block", "letters"] [] := by
  obtain ⟨fd, F, b⟩ := T.d_shown_turn.F
  obtain ⟨fd_committed_turns, G_committed_turns, b_committed_turns⟩ := ok_committed_turns (P := P) (w := w) (base := base) T
  refine ⟨fd, F.ok sc_shown_turn (fun vs H Q E h => ?_) (fun cdv A outer s H vs Q E hr h => ?_), b⟩
  · obtain ⟨_, _, _, _, _, _, _, rfl, _⟩ := h
    rfl
  · obtain ⟨c, l, ws, ps, xs, h, b, rfl, hc, gw, hl, hx, few, tb, k⟩ := h
    refine ⟨_, (pss_one (ps_ret (pe_callBK (cr_mind rfl) (by rfl) T.n_min (by decide +kernel) (pa_cons (pe_call G_committed_turns (hr.mono (by decide)) rfl T.d_committed_turns.g T.d_committed_turns.kp b_committed_turns .nil pass0 (pa_cons (pv 0) (pa_cons (pv 3) (pa_cons (pv 1) (pa_cons (pv 2) pa_nil))))) pa_nil) (pk_cons pe_non pk_nil)))), ?_⟩
    walk_at "rs"
    refine ⟨c, l, ws, ps, xs, h, b, rfl, hc, gw, hl, hx, few, tb, fun R H1 s1 hR hR1 => ?_⟩
    walk_at "rs"
    refine ⟨R, _, _, rfl, rfl, SqL.of hR1, fun e => ?_, fun m hm lo => ?_⟩
    · exact k _ H1 s1 (fun _ => rfl) (fun z => absurd e z)
    · refine k _ H1 s1 (fun e => ?_) (fun _ => ⟨m, hm, lo, rfl⟩)
      rw [e] at hm
      cases hm
theorem ok_shows (T : Txt K mg a) : ∃ fd, FnOk P w K mg base CX0 6 a.d_shows fd ["committee", "height", "block", "letters"] (spShows K a.C_Committee) ∧ Binds K fd ["committee", "height", "block", "letters"] [] := by
  obtain ⟨fd, F, b⟩ := T.d_shows.F
  obtain ⟨fd_shown_turn, G_shown_turn, b_shown_turn⟩ := ok_shown_turn (P := P) (w := w) (base := base) T
  refine ⟨fd, F.ok sc_shows (fun vs H Q E h => ?_) (fun cdv A outer s H vs Q E hr h => ?_), b⟩
  · obtain ⟨_, _, _, _, _, _, _, rfl, _⟩ := h
    rfl
  · obtain ⟨c, l, ws, ps, xs, h, b, rfl, hc, gw, hl, hx, few, tb, k⟩ := h
    refine ⟨_, (pss_one (ps_ret (pe_cmpR op_notN (pe_call G_shown_turn (hr.mono (by decide)) rfl T.d_shown_turn.g T.d_shown_turn.kp b_shown_turn .nil pass0 (pa_cons (pv 0) (pa_cons (pv 1) (pa_cons (pv 2) (pa_cons (pv 3) pa_nil))))) pe_non (nomark _)))), ?_⟩
    walk_at "rs"
    refine ⟨c, l, ws, ps, xs, h, b, rfl, hc, gw, hl, hx, few, tb, fun v H1 s1 e0 e1 => ?_⟩
    have k1 := k H1 s1
    unfold shM at k1
    cases q : cmL ws xs h b with
    | nil =>
      rw [e0 q]
      rw [q] at k1
      walk_at "rs"
      exact k1
    | cons y ys =>
      obtain ⟨m, _, _, rfl⟩ := e1 (by rw [q]; exact fun z => nomatch z)
      rw [q] at k1
      walk_at "rs"
      exact k1

theorem ok_law_cell (T : Txt K mg a) : ∃ fd, FnOk P w K mg base CX0 1 a.d_law_cell fd ["script", "k"] (spCell K) ∧ Binds K fd ["script", "k"] [] := by
  obtain ⟨fd, F, b⟩ := T.d_law_cell.F
  refine ⟨fd, F.ok sc_law_cell (fun vs H Q E h => ?_) (fun cdv A outer s H vs Q E hr h => ?_), b⟩
  · obtain ⟨a, ns, k, rfl, _⟩ := h
    rfl
  · obtain ⟨l, ns, k, rfl, hS, hl, hk, q⟩ := h
    refine ⟨_, (pss_cons (ps_if (pt_cmpR op_lt (pv 1) (pe_callB call_len_seq (by rfl) T.n_len PySem.boot_len (pa_cons (pv 0) pa_nil)) (nomark _))
      (pss_one (ps_ret (pe_ix ix_list (pv 0) (pv 1) (fun _ _ => rfl))))
      pss_nil)
      (pss_one (ps_ret pe_int))), ?_⟩
    refine ⟨_, rfl, _, rfl, l, _, rfl, .inl hS, _, _, rfl, rfl, _, rfl, ?_⟩
    refine ite2 (fun hlt => ?_) (fun hge => ?_)
    · have hlt : k < ((ns.map V.int).length : Int) := of_decide_eq_true hlt
      rw [List.length_map] at hlt
      have hj : k.toNat < ns.length := by omega
      have e : ns.getD k.toNat 0 = ns[k.toNat] := by rw [List.getD_eq_getElem?_getD, List.getElem?_eq_getElem hj]; rfl
      rw [e] at q
      refine ⟨_, rfl, _, rfl, l, _, k, .int ns[k.toNat], rfl, rfl, hS, at_of (j := k.toNat) (by omega) (by rw [List.getElem?_map, List.getElem?_eq_getElem hj]; rfl), q⟩
    · have hge : ¬ k < ((ns.map V.int).length : Int) := fun e => hge (decide_eq_true e)
      rw [List.length_map] at hge
      have e : ns.getD k.toNat 0 = 0 := by rw [List.getD_eq_getElem?_getD, List.getElem?_eq_none (by omega)]; rfl
      rw [e] at q
      exact q

theorem ok_law_row (T : Txt K mg a) : ∃ fd, FnOk P w K mg base CX0 1 a.d_law_row fd ["cell", "count", "size"] (spRow K) ∧ Binds K fd ["cell", "count", "size"] [] := by
  obtain ⟨fd, F, b⟩ := T.d_law_row.F
  refine ⟨fd, F.ok sc_law_row (fun vs H Q E h => ?_) (fun cdv A outer s H vs Q E hr h => ?_), b⟩
  · obtain ⟨_, _, _, rfl, _⟩ := h
    rfl
  · obtain ⟨cell, count, size, rfl, c0, c1, z0, z1, k⟩ := h
    refine ⟨_, (pss_cons (ps_set (i := 3) sc_law_row.nd rfl (Or.inl rfl) (pv 0))
      (pss_cons (ps_set (i := 4) sc_law_row.nd rfl (Or.inl rfl) (pe_lst pa_nil))
      (pss_cons (ps_for PassesOwn.never rfl (pi_range1 rfl T.n_range (pa_cons (pv 1) pa_nil)) (pg_name (i := 5) sc_law_row.nd rfl (Or.inl rfl))
      (pss_one (ps_if (pt_cmpR op_ge (pv 0) (pe_op op_pow pe_int pe_int) (nomark _))
        (pss_cons (ps_expr (pe_bm PySem.F.plainAttrs_list PySem.F.slot_list_append PySem.F.type_list_append mt_append (pv 4) (pa_cons (pe_op op_mod (pe_callTy call_int1 (by rfl) T.n_int (by decide +kernel) (pa_cons (pv 3) pa_nil)) (pv 2)) pa_nil)))
          (pss_one (ps_set (i := 3) sc_law_row.nd rfl (Or.inl rfl) (pe_op op_fdivN (pv 3) (pv 2)))))
        (pss_cons (ps_set (i := 3) sc_law_row.nd rfl (Or.inl rfl) (pe_op op_mod (pe_callTy call_int1 (by rfl) T.n_int (by decide +kernel) (pa_cons (pe_op op_add (pe_op op_mul (pv 3) pe_int) pe_int) pa_nil)) pe_int))
          (pss_one (ps_expr (pe_bm PySem.F.plainAttrs_list PySem.F.slot_list_append PySem.F.type_list_append mt_append (pv 4) (pa_cons (pe_op op_mod (pe_op op_mod (pe_callTy call_int1 (by rfl) T.n_int (by decide +kernel) (pa_cons (pe_op op_add (pe_op op_mul (pv 3) pe_int) (pe_op op_mul (pv 5) pe_int)) pa_nil)) pe_int) (pv 2)) pa_nil))))))))
      (pss_one (ps_ret (pv 4)))))), ?_⟩
    walk_at "rs"
    refine ⟨(by show 0 ≤ sizeLine; decide), fun p hp => ?_⟩
    walk_at "rs"
    refine ⟨(by show -(2 ^ 62 : Int) ≤ _; omega), (by show _ < (2 ^ 62 : Int); omega), ?_⟩
    refine for_range (lo := 0) (n := count.toNat) (fun i σ H2 => ∃ (st : Int) (row : List Int) (v5 : Option V), σ = [some (.int cell), some (.int count), some (.int size), some (.int st), some (.ref p), v5] ∧ Same H H2 ∧
      H2 p = some (.lst (row.map V.int)) ∧ row.length = i ∧ ∀ x ∈ row, 0 ≤ x ∧ x < size) ⟨_, [], _, rfl, same_new hp, upd_same, rfl, fun x hx => nomatch hx⟩ ?_ ?_
    · rintro i σ H2 hi ⟨st, row, v5, rfl, s2, hrow, hlen, hb⟩
      have fit : (row.map V.int).length < sizeLine := by
        rw [List.length_map]
        exact small1000 (by omega)
      have grow : ∀ z : Int, 0 ≤ z → z < size → ∀ x ∈ row ++ [z], 0 ≤ x ∧ x < size := fun z h0 h1 x hx => by
        rcases List.mem_append.mp hx with hx | hx
        · exact hb x hx
        · rw [List.mem_singleton.mp hx]
          exact ⟨h0, h1⟩
      walk_at "rs"
      refine ite2 (fun c1 => ?_) (fun c1 => ?_)
      · walk_at "rs"
        refine ⟨.inl ⟨rfl, _, SqL.of hrow⟩, ?_⟩
        walk_at "rs"
        refine ⟨p, _, _, rfl, rfl, hrow, fit, ?_⟩
        walk_at "rs"
        refine ⟨(show CDivN _ _ from ⟨by omega, by omega⟩), ?_⟩
        exact ⟨_, row ++ [st % size], _, rfl, same_upd s2 hp, by rw [upd_same]; simp, by simp [hlen], grow _ (Int.emod_nonneg _ (by omega)) (Int.emod_lt_of_pos _ z0)⟩
      · walk_at "rs"
        refine ⟨.inl ⟨rfl, _, SqL.of hrow⟩, ?_⟩
        walk_at "rs"
        refine ⟨p, _, _, rfl, rfl, hrow, fit, ?_⟩
        exact ⟨_, row ++ [((st * 48271 + 12345) % 2147483647 * 69621 + (i : Int) * 7919) % 2147483647 % size], _, rfl, same_upd s2 hp, by rw [upd_same]; simp, by simp [hlen], grow _ (Int.emod_nonneg _ (by omega)) (Int.emod_lt_of_pos _ z0)⟩
    · rintro σ H2 ⟨st, row, v5, rfl, s2, hrow, hlen, hb⟩
      walk_at "rs"
      exact k p row H2 s2 hrow hlen hb hp

theorem ok_law_weights (T : Txt K mg a) : ∃ fd, FnOk P w K mg base CX0 2 a.d_law_weights fd ["cell", "most"] (spWeights K) ∧ Binds K fd ["cell", "most"] [] := by
  obtain ⟨fd, F, b⟩ := T.d_law_weights.F
  obtain ⟨fd_law_row, G_law_row, b_law_row⟩ := ok_law_row (P := P) (w := w) (base := base) T
  refine ⟨fd, F.ok sc_law_weights (fun vs H Q E h => ?_) (fun cdv A outer s H vs Q E hr h => ?_), b⟩
  · obtain ⟨_, _, rfl, _⟩ := h
    rfl
  · obtain ⟨cell, most, rfl, m0, m1, k⟩ := h
    refine ⟨_, (pss_cons (ps_set (i := 2) sc_law_weights.nd rfl (Or.inl rfl) (pe_op op_add pe_int (pe_op op_mod (pe_callTy call_int1 (by rfl) T.n_int (by decide +kernel) (pa_cons (pv 0) pa_nil)) (pv 1))))
      (pss_cons (ps_if (pt_cmpR op_eq (pe_op op_mod (pe_op op_fdiv (pv 0) pe_int) pe_int) pe_int (nomark _))
      (pss_one (ps_ret (pe_op op_rep (pe_lst (pa_cons pe_int pa_nil)) (pv 2))))
      pss_nil)
      (pss_one (ps_ret (pe_lc (own := [("value", 3)]) (g := (gName 3)) (tt := tYes) rfl sc_law_weights.nd (pi_list (pe_call G_law_row (hr.mono (by decide)) rfl T.d_law_row.g T.d_law_row.kp b_law_row .nil pass0 (pa_cons (pe_op op_fdiv (pv 0) pe_int) (pa_cons (pv 2) (pa_cons pe_int pa_nil))))) (blkOk_by (own := [("value", 3)]) (N := sc_law_weights_N) (sc := defScope s_law_weights) (by decide +kernel)) (fun _ _ _ _ _ => (pg_name (i := 3) sc_law_weights.nd rfl (Or.inl rfl))) (fun _ _ _ _ _ => pts_nil) (fun _ _ _ _ _ => (pe_op op_add pe_int (pv 3)))))))), ?_⟩
    have c0 : 0 ≤ cell % most := Int.emod_nonneg _ (by omega)
    have c1 : cell % most < most := Int.emod_lt_of_pos _ (by omega)
    walk_at "rs"
    refine ite2 (fun c2 => ?_) (fun c2 => ?_)
    · walk_at "rs"
      refine ⟨(by show 1 ≤ sizeLine; decide), fun p hp => ?_⟩
      walk_at "rs"
      refine ⟨p, _, _, rfl, rfl, upd_same, (by show -(2 ^ 63 : Int) ≤ 1 + cell % most; omega), (by show 1 + cell % most < (2 ^ 63 : Int); omega), (by rw [sizeLine_eq]; show 1 * (1 + cell % most).toNat ≤ _; omega), fun q hq => ?_⟩
      refine k q (List.replicate (1 + cell % most).toNat 1) _ (same_upd (same_new hp) (Same.free (same_new hp) hq)) (by rw [upd_same]; simp) ⟨by rw [List.length_replicate]; omega, by rw [List.length_replicate]; omega, fun x hx => ?_⟩ (by rw [List.length_replicate]; omega)
      rw [(List.mem_replicate.mp hx).2]
      decide
    · walk_at "rs"
      refine ⟨_, _, _, rfl, by omega, by omega, by decide, by decide, fun p row H1 s1 hrow hlen hb hp => ?_⟩
      refine ⟨p, rfl, ⟨_, SqL.of hrow⟩, fun D hD => ?_⟩
      have nDp : D ≠ p := (ne_of_none hrow hD).symm
      refine lc_list (K := K) (a := p) (xs := row.map V.int) (fun i H2 => Same H1 H2 ∧ H2 D = some (.lst (((row.take i).map (1 + ·)).map V.int))) ⟨same_new hD, upd_same⟩ (fun i H2 _ ⟨s2, _⟩ => SqL.of (s2 _ _ hrow)) ?_ ?_
      · rintro i x H2 hx ⟨s2, hd⟩
        have hi : i < row.length := by
          have e := (List.getElem?_eq_some_iff.mp hx).1
          rwa [List.length_map] at e
        rw [at_ints hi] at hx
        cases hx
        refine ⟨rfl, ?_⟩
        walk_at "rs"
        refine ⟨_, hd, by simp only [List.length_map, List.length_take]; exact small1000 (by omega), same_upd s2 hD, ?_⟩
        rw [upd_same, List.take_add_one, List.getElem?_eq_getElem hi, List.getD_eq_getElem?_getD, List.getElem?_eq_getElem hi]
        simp only [Option.toList_some, Option.getD_some, List.map_append, List.map_cons, List.map_nil]
      · rintro H2 ⟨s2, hd⟩
        have e : row.take (row.map V.int).length = row := by rw [List.length_map, List.take_length]
        rw [e] at hd
        refine k D _ H2 (fun b o z => s2 _ _ (s1 _ _ z)) hd ⟨by rw [List.length_map]; omega, by rw [List.length_map]; omega, fun x hx => ?_⟩ (by rw [List.length_map]; omega)
        obtain ⟨y, hy, rfl⟩ := List.mem_map.mp hx
        have := hb y hy
        omega

theorem ok_law_weight (T : Txt K mg a) : ∃ fd, FnOk P w K mg base CX0 1 a.d_law_weight fd ["weights", "members"] (spWeight K) ∧ Binds K fd ["weights", "members"] [] := by
  obtain ⟨fd, F, b⟩ := T.d_law_weight.F
  refine ⟨fd, F.ok sc_law_weight (fun vs H Q E h => ?_) (fun cdv A outer s H vs Q E hr h => ?_), b⟩
  · obtain ⟨_, _, _, _, rfl, _⟩ := h
    rfl
  · obtain ⟨p, q, ws, ms, rfl, hp, hq, hlen, k⟩ := h
    refine ⟨_, (pss_one (ps_ret (pe_callB (cr_sum rfl) (by rfl) T.n_sum (by decide +kernel) (pa_cons (pe_lc (own := [("k", 2)]) (g := (gName 2)) rfl sc_law_weight.nd (pi_range1 rfl T.n_range (pa_cons (pe_callB call_len_seq (by rfl) T.n_len PySem.boot_len (pa_cons (pv 0) pa_nil)) pa_nil)) (blkOk_by (own := [("k", 2)]) (N := sc_law_weight_N) (sc := defScope s_law_weight) (by decide +kernel)) (fun _ _ _ _ _ => (pg_name (i := 2) sc_law_weight.nd rfl (Or.inl rfl))) (fun _ _ _ _ _ => (pts_one (pt_cmpR (r := rIn K false) op_in_seq (pv 2) (pv 1) (by rfl)))) (fun _ _ _ _ _ => (pe_ix (r := rIxL K) ix_list (pv 0) (pv 2) (fun _ _ => rfl)))) pa_nil)))), ?_⟩
    walk_at "rs"
    refine ⟨p, _, rfl, .inl hp, ?_⟩
    walk_at "rs"
    have hN : ((ws.map V.int).length : Int) = ws.length := by rw [List.length_map]
    refine ⟨(by show -(2 ^ 62 : Int) ≤ _; omega), (by show _ < (2 ^ 62 : Int); omega), fun D hD => ?_⟩
    refine lc_range (lo := 0) (n := (((ws.map V.int).length : Int)).toNat) (fun i H2 => Same H H2 ∧ H2 D = some (.lst ((pick ws (fun k => decide (k ∈ ms)) i).map V.int))) ⟨same_new hD, upd_same⟩ ?_ ?_
    · rintro i H2 hi ⟨s2, hd⟩
      have hi' : i < ws.length := by omega
      have fit : ((pick ws (fun k => decide (k ∈ ms)) i).map V.int).length < sizeLine := by
        have := pick_len ws (fun k => decide (k ∈ ms)) i
        rw [List.length_map]
        exact small1000 (by omega)
      refine ⟨rfl, ?_⟩
      walk_at "rs"
      refine ⟨q, _, rfl, .inl (s2.seq hq), rfl, flat_ints ms, ?_⟩
      rw [if_neg Bool.false_ne_true, inV_ints]
      walk_at "rs"
      refine ite2 (fun c1 => ?_) (fun c1 => ?_)
      · walk_at "rs"
        refine ⟨p, _, _, .int (ws.getD i 0), rfl, rfl, s2.seq hp, at_of (j := i) (by omega) (at_ints hi'), ?_⟩
        refine ⟨_, hd, fit, same_upd s2 hD, ?_⟩
        rw [upd_same, pick]
        have c1' : decide ((i : Int) ∈ ms) = true := by simpa using c1
        rw [if_pos c1']
        simp
      · refine ⟨s2, ?_⟩
        have c1' : ¬ decide ((i : Int) ∈ ms) = true := by simpa using c1
        rw [hd, pick, if_neg c1']
    · rintro H2 ⟨s2, hd⟩
      rw [hN, Int.toNat_natCast] at hd
      walk_at "rs"
      exact ⟨D, _, rfl, SqL.of hd, k H2 s2⟩

theorem ok_law_certified (T : Txt K mg a) : ∃ fd, FnOk P w K mg base CX0 2 a.d_law_certified fd ["weights", "letters", "height", "turn", "block"] (spLCert K) ∧ Binds K fd ["weights", "letters", "height", "turn", "block"] [] := by
  obtain ⟨fd, F, b⟩ := T.d_law_certified.F
  obtain ⟨fd_law_weight, G_law_weight, b_law_weight⟩ := ok_law_weight (P := P) (w := w) (base := base) T
  refine ⟨fd, F.ok sc_law_certified (fun vs H Q E h => ?_) (fun cdv A outer s H vs Q E hr h => ?_), b⟩
  · obtain ⟨_, _, _, _, _, _, _, _, rfl, _⟩ := h
    rfl
  · obtain ⟨pw, l, ws, ps, xs, ht, tn, bb, rfl, hw, wl, hl, hx, few, t0, t12, k⟩ := h
    refine ⟨_, (pss_cons (ps_set (i := 5) sc_law_certified.nd rfl (Or.inl rfl) (pe_lst (pa_cons pe_non pa_nil)))
      (pss_cons (ps_for PassesOwn.never rfl (pi_range1 rfl T.n_range (pa_cons (pe_op op_add (pv 3) pe_int) pa_nil)) (pg_name (i := 6) sc_law_certified.nd rfl (Or.inl rfl))
      (pss_cons (ps_set (i := 7) sc_law_certified.nd rfl (Or.inl rfl) (pe_lst pa_nil))
        (pss_cons (ps_for PassesOwn.never rfl (pi_list (pv 1)) (pg_name (i := 8) sc_law_certified.nd rfl (Or.inl rfl))
        (pss_cons (ps_set (i := 9) sc_law_certified.nd rfl (Or.inl rfl) (pe_ix ix_tup (pv 8) pe_int (fun _ _ => rfl)))
          (pss_one (ps_if (PW.pt (pw_and (pt_cmpR op_eq (pe_ix ix_tup (pv 9) pe_int (fun _ _ => rfl)) pe_str (nomark _)) (pw_and (pt_cmpR op_eq (pe_ix ix_tup (pv 9) pe_int (fun _ _ => rfl)) (pv 2) (nomark _)) (pw_and (pt_cmpR op_eq (pe_ix ix_tup (pv 9) pe_int (fun _ _ => rfl)) (pv 6) (nomark _)) (pw_and1 (pt_cmpR op_eq (pe_ix ix_tup (pv 9) pe_int (fun _ _ => rfl)) (pv 4) (nomark _)))))))
          (pss_one (ps_if (PW.pt (pw_and (pt_cmpR op_in_seq (pe_ix ix_tup (pv 9) pe_int (fun _ _ => rfl)) (pv 5) (by rfl)) (pw_and1 (PW.pt (pw_or (pt_cmpR op_isN (pe_ix ix_tup (pv 9) pe_int (fun _ _ => rfl)) pe_non (nomark _)) (pw_or1 (pt_cmpR op_lt (pe_ix ix_tup (pv 9) pe_int (fun _ _ => rfl)) (pv 6) (nomark _))))))))
            (pss_one (ps_expr (pe_bm PySem.F.plainAttrs_list PySem.F.slot_list_append PySem.F.type_list_append mt_append (pv 7) (pa_cons (pe_ix ix_tup (pv 8) pe_int (fun _ _ => rfl)) pa_nil))))
            pss_nil))
          pss_nil))))
        (pss_cons (ps_set (i := 10) sc_law_certified.nd rfl (Or.inl rfl) (pe_cmpR op_gt (pe_op op_mul pe_int (pe_call G_law_weight (hr.mono (by decide)) rfl T.d_law_weight.g T.d_law_weight.kp b_law_weight .nil pass0 (pa_cons (pv 0) (pa_cons (pv 7) pa_nil)))) (pe_op op_mul pe_int (pe_callB (cr_sum rfl) (by rfl) T.n_sum (by decide +kernel) (pa_cons (pv 0) pa_nil))) (nomark _)))
        (pss_cons (ps_if (pt_cmpR op_eq (pv 6) (pv 3) (nomark _))
        (pss_one (ps_ret (pv 10)))
        pss_nil)
        (pss_one (ps_if (pt_val (pv 10))
        (pss_one (ps_expr (pe_bm PySem.F.plainAttrs_list PySem.F.slot_list_append PySem.F.type_list_append mt_append (pv 5) (pa_cons (pv 6) pa_nil))))
        pss_nil)))))))
      (pss_one (ps_ret pe_bl)))), ?_⟩
    walk_at "rs"
    refine ⟨(by show 1 ≤ sizeLine; decide), fun pn hpn => ?_⟩
    walk_at "rs"
    refine ⟨(by show -(2 ^ 62 : Int) ≤ _; omega), (by show _ < (2 ^ 62 : Int); omega), ?_⟩
    refine for_range (lo := 0) (n := (tn + 1).toNat) (fun i σ H2 => ∃ v6 v7 v8 v9 v10 : Option V, σ = [some (.ref pw), some (.ref l), some (.int ht), some (.int tn), some (oS bb), some (.ref pn), v6, v7, v8, v9, v10] ∧ (i : Int) ≤ tn ∧ Same H H2 ∧ H2 pn = some (.lst (lnV (lns ws xs ht bb i))))
      ⟨_, _, _, _, _, rfl, by omega, same_new hpn, upd_same⟩ ?_ ?_
    · rintro i σ H2 hi ⟨v6, v7, v8, v9, v10, rfl, hit, s2, hn2⟩
      have e0 : (0 : Int) + (i : Int) = (i : Int) := Int.zero_add _
      rw [e0]
      have ll := lns_len ws xs ht bb i
      generalize eL : lns ws xs ht bb i = L at hn2 ll
      have hl2 := s2 _ _ hl
      have hx2 := hx.same s2
      walk_at "rs"
      refine ⟨(by show 0 ≤ sizeLine; decide), fun pm hpm => ?_⟩
      have s23 : Same H2 (upd H2 pm (.lst [])) := same_new hpm
      walk_at "rs"
      refine ⟨⟨_, SqL.of (s23 _ _ hl2)⟩, for_list (K := K) (a := l) (xs := ps.map V.ref) (fun j σ H3 => ∃ v8 v9 : Option V, σ = [some (.ref pw), some (.ref l), some (.int ht), some (.int tn), some (oS bb), some (.ref pn), some (.int (i : Int)), some (.ref pm), v8, v9, v10] ∧ Same H2 H3 ∧ H3 pm = some (.lst ((memM (xs.take j) ht i bb L).map V.int)))
        ⟨_, _, rfl, s23, upd_same⟩ (fun j σ H3 _ ⟨_, _, _, s3, _⟩ => SqL.of (s3 _ _ hl2)) ?_ ?_⟩
      · rintro j y σ H3 hy ⟨v8, v9, rfl, s3, hm3⟩
        have hj : j < ps.length := by
          have e := (List.getElem?_eq_some_iff.mp hy).1
          rwa [List.length_map] at e
        have hj' : j < xs.length := by
          rw [← hx.1]
          exact hj
        rw [at_refs hj] at hy
        cases hy
        obtain ⟨q, hp, hq⟩ := (hx2.2 j hj').same s3
        have ex : ∃ x, xs.getD j default = x := ⟨_, rfl⟩
        obtain ⟨x, ex⟩ := ex
        rw [ex] at hp hq
        have ml := mem_len (xs.take j) ht i bb L
        rw [List.length_take] at ml
        have no : cnt ht i bb L x = false → ∃ v8 v9 : Option V, [some (V.ref pw), some (.ref l), some (.int ht), some (.int tn), some (oS bb), some (.ref pn), some (.int (i : Int)), some (.ref pm), some (.ref (ps.getD j 0)), some (.ref q), v10] = [some (.ref pw), some (.ref l), some (.int ht), some (.int tn), some (oS bb), some (.ref pn), some (.int (i : Int)), some (.ref pm), v8, v9, v10] ∧ Same H2 H3 ∧ H3 pm = some (.lst ((memM (xs.take (j + 1)) ht i bb L).map V.int)) := fun c => ⟨_, _, rfl, s3, by
          rw [mem_no hj' (by rw [ex]; exact c)]
          exact hm3⟩
        walk_at "rs"
        refine ⟨_, _, _, _, rfl, rfl, SqT.of hp, rfl, ?_⟩
        walk_at "rs"
        refine ite2 (fun c1 => ?_) (fun c1 => ?_) <;> simp only [kpre, decide_eq_true_iff] at c1
        · walk_at "rs"
          refine ite2 (fun c2 => ?_) (fun c2 => ?_) <;> simp only [dec_int, beq_iff_eq] at c2
          · walk_at "rs"
            refine ite2 (fun c3 => ?_) (fun c3 => ?_) <;> simp only [dec_int, beq_iff_eq] at c3
            · walk_at "rs"
              refine ite2 (fun c4 => ?_) (fun c4 => ?_) <;> simp only [dec_oS, decide_eq_true_iff] at c4
              · have cT := cnt_t (L := L) ⟨c1, c2, c3, c4⟩
                have hn3 := s3 _ _ hn2
                have yes : cnt ht i bb L x = true → ∃ v8 v9 : Option V, [some (V.ref pw), some (.ref l), some (.int ht), some (.int tn), some (oS bb), some (.ref pn), some (.int (i : Int)), some (.ref pm), some (.ref (ps.getD j 0)), some (.ref q), v10] = [some (.ref pw), some (.ref l), some (.int ht), some (.int tn), some (oS bb), some (.ref pn), some (.int (i : Int)), some (.ref pm), v8, v9, v10] ∧ Same H2 (upd H3 pm (.lst ((memM (xs.take j) ht i bb L).map V.int ++ [V.int x.w]))) ∧
                    (upd H3 pm (.lst ((memM (xs.take j) ht i bb L).map V.int ++ [V.int x.w]))) pm = some (.lst ((memM (xs.take (j + 1)) ht i bb L).map V.int)) := fun c => ⟨_, _, rfl, same_upd s3 hpm, by
                  rw [upd_same, mem_yes hj' (by rw [ex]; exact c), ex]
                  simp⟩
                have fit : ((memM (xs.take j) ht i bb L).map V.int).length < sizeLine := by
                  rw [List.length_map]
                  exact small1000 (by omega)
                obtain ⟨xw, xk, xh, xt, xb, xl⟩ := x
                cases (show xk = .pre from c1)
                walk_at "rs"
                cases xl with
                | none =>
                  refine ⟨pn, _, rfl, .inl (SqL.of hn3), rfl, flat_lnV L, ?_⟩
                  walk_at "rs"
                  refine ⟨.inl ⟨rfl, _, SqL.of hm3⟩, ?_⟩
                  walk_at "rs"
                  refine ⟨_, _, _, _, rfl, rfl, SqT.of hp, rfl, ?_⟩
                  walk_at "rs"
                  refine ⟨pm, _, _, rfl, rfl, hm3, fit, ?_⟩
                  exact yes cT
                | some l0 =>
                  refine ⟨pn, _, rfl, .inl (SqL.of hn3), rfl, flat_lnV L, ?_⟩
                  rw [if_neg Bool.false_ne_true, inV_lnV (some l0)]
                  walk_at "rs"
                  refine ite2 (fun c5 => ?_) (fun c5 => ?_)
                  · have c5 : decide (l0 ∈ L) = true := c5
                    walk_at "rs"
                    refine ite2 (fun c6 => ?_) (fun c6 => ?_)
                    · walk_at "rs"
                      refine ⟨.inl ⟨rfl, _, SqL.of hm3⟩, ?_⟩
                      walk_at "rs"
                      refine ⟨_, _, _, _, rfl, rfl, SqT.of hp, rfl, ?_⟩
                      walk_at "rs"
                      refine ⟨pm, _, _, rfl, rfl, hm3, fit, ?_⟩
                      exact yes (cT.trans (show (decide (l0 ∈ L) && decide (l0 < (i : Int))) = true by rw [c5, c6]; rfl))
                    · exact no (cT.trans (show (decide (l0 ∈ L) && decide (l0 < (i : Int))) = false by rw [Bool.eq_false_iff.mpr c6, Bool.and_false]))
                  · exact no (cT.trans (show (decide (l0 ∈ L) && decide (l0 < (i : Int))) = false by rw [Bool.eq_false_iff.mpr (show ¬ decide (l0 ∈ L) = true from c5), Bool.false_and]))
              · exact no (cnt_f fun y => c4 y.2.2.2)
            · exact no (cnt_f fun y => c3 y.2.2.1)
          · exact no (cnt_f fun y => c2 y.2.1)
        · exact no (cnt_f fun y => c1 y.1)
      · rintro σ H3 ⟨v8, v9, rfl, s3, hm3⟩
        rw [List.length_map, hx.1, List.take_length] at hm3
        have hw3 := (s2.trans s3).seq hw
        have hn3 := s3 _ _ hn2
        walk_at "rs"
        refine ⟨pw, pm, ws, _, rfl, hw3, SqL.of hm3, wl, fun H4 s4 => ?_⟩
        walk_at "rs"
        refine ⟨pw, ws, rfl, s4.seq hw3, ?_⟩
        walk_at "rs"
        have cert : certM ws xs ht bb i = decide (2 * ws.sum < 3 * wOf ws (memM xs ht i bb L)) := by
          unfold certM
          rw [eL]
          rfl
        refine ite2 (fun c1 => ?_) (fun c1 => ?_) <;> simp only [dec_int, beq_iff_eq] at c1
        · walk_at "rs"
          have kk := k H4 (fun b o y => s4 _ _ (s3 _ _ (s2 _ _ y)))
          rw [show tn.toNat = i by omega, cert] at kk
          exact kk
        walk_at "rs"
        refine ite2 (fun c2 => ?_) (fun c2 => ?_)
        · walk_at "rs"
          refine ⟨.inl ⟨rfl, _, SqL.of (s4 _ _ hn3)⟩, ?_⟩
          walk_at "rs"
          refine ⟨pn, _, _, rfl, rfl, s4 _ _ hn3, by show (lnV L).length < sizeLine; rw [lnV, List.length_cons, List.length_map]; exact small1000 (by omega), ?_⟩
          refine ⟨_, _, _, _, _, rfl, by omega, same_upd (fun b o y => s4 _ _ (s3 _ _ (s2 _ _ y))) hpn, ?_⟩
          rw [upd_same, lns_yes (cert.trans c2), eL, lnV_snoc]
        · refine ⟨_, _, _, _, _, rfl, by omega, fun b o y => s4 _ _ (s3 _ _ (s2 _ _ y)), ?_⟩
          rw [s4 _ _ hn3, lns_no (fun y => c2 (cert.symm.trans y)), eL]
    · rintro σ H2 ⟨v6, v7, v8, v9, v10, rfl, hit, s2, hn2⟩
      exfalso
      omega

theorem ok_law_committed (T : Txt K mg a) : ∃ fd, FnOk P w K mg base CX0 3 a.d_law_committed fd ["weights", "letters", "height", "turn", "block"] (spLComm K) ∧ Binds K fd ["weights", "letters", "height", "turn", "block"] [] := by
  obtain ⟨fd, F, b⟩ := T.d_law_committed.F
  obtain ⟨fd_law_certified, G_law_certified, b_law_certified⟩ := ok_law_certified (P := P) (w := w) (base := base) T
  obtain ⟨fd_law_weight, G_law_weight, b_law_weight⟩ := ok_law_weight (P := P) (w := w) (base := base) T
  refine ⟨fd, F.ok sc_law_committed (fun vs H Q E h => ?_) (fun cdv A outer s H vs Q E hr h => ?_), b⟩
  · obtain ⟨_, _, _, _, _, _, _, _, rfl, _⟩ := h
    rfl
  · obtain ⟨pw, l, ws, ps, xs, ht, tn, bb, rfl, hw, wl, hl, hx, few, t0, t12, ob, okl, k⟩ := h
    refine ⟨_, (pss_cons (ps_set (i := 5) sc_law_committed.nd rfl (Or.inl rfl) (pe_lst pa_nil))
      (pss_cons (ps_for PassesOwn.never rfl (pi_list (pv 1)) (pg_name (i := 6) sc_law_committed.nd rfl (Or.inl rfl))
      (pss_one (ps_if (pt_cmpR (op_eqD hr.units) (pe_ix ix_tup (pv 6) pe_int (fun _ _ => rfl)) (pe_tup (pa_cons pe_str (pa_cons (pv 2) (pa_cons (pv 3) (pa_cons (pv 4) pa_nil))))) (nomark _))
        (pss_one (ps_expr (pe_bm PySem.F.plainAttrs_list PySem.F.slot_list_append PySem.F.type_list_append mt_append (pv 5) (pa_cons (pe_ix ix_tup (pv 6) pe_int (fun _ _ => rfl)) pa_nil))))
        pss_nil)))
      (pss_cons (ps_if (pt_cmpR op_le (pe_op op_mul pe_int (pe_call G_law_weight (hr.mono (by decide)) rfl T.d_law_weight.g T.d_law_weight.kp b_law_weight .nil pass0 (pa_cons (pv 0) (pa_cons (pv 5) pa_nil)))) (pe_op op_mul pe_int (pe_callB (cr_sum rfl) (by rfl) T.n_sum (by decide +kernel) (pa_cons (pv 0) pa_nil))) (nomark _))
      (pss_one (ps_ret pe_bl))
      pss_nil)
      (pss_one (ps_ret (pe_call G_law_certified (hr.mono (by decide)) rfl T.d_law_certified.g T.d_law_certified.kp b_law_certified .nil pass0 (pa_cons (pv 0) (pa_cons (pv 1) (pa_cons (pv 2) (pa_cons (pv 3) (pa_cons (pv 4) pa_nil))))))))))), ?_⟩
    walk_at "rs"
    refine ⟨(by show 0 ≤ sizeLine; decide), fun pm hpm => ?_⟩
    have s1 : Same H (upd H pm (.lst [])) := same_new hpm
    walk_at "rs"
    refine ⟨⟨_, SqL.of (s1 _ _ hl)⟩, for_list (K := K) (a := l) (xs := ps.map V.ref) (fun j σ H3 => ∃ v6 : Option V, σ = [some (.ref pw), some (.ref l), some (.int ht), some (.int tn), some (oS bb), some (.ref pm), v6] ∧ Same H H3 ∧ H3 pm = some (.lst ((comS (xs.take j) ht tn bb).map V.int)))
      ⟨_, rfl, s1, upd_same⟩ (fun j σ H3 _ ⟨_, _, s3, _⟩ => SqL.of (s3 _ _ hl)) ?_ ?_⟩
    · rintro j y σ H3 hy ⟨v6, rfl, s3, hm3⟩
      have hj : j < ps.length := by
        have e := (List.getElem?_eq_some_iff.mp hy).1
        rwa [List.length_map] at e
      have hj' : j < xs.length := by
        rw [← hx.1]
        exact hj
      rw [at_refs hj] at hy
      cases hy
      obtain ⟨q, hp, hq⟩ := (hx.2 j hj').same s3
      have ox := okl _ (getD_mem2 (d := default) hj')
      obtain ⟨x, ex⟩ : ∃ x, xs.getD j default = x := ⟨_, rfl⟩
      rw [ex] at hp hq ox
      have ml := com_len (xs.take j) ht tn bb
      rw [List.length_take] at ml
      walk_at "rs"
      refine ⟨_, _, _, _, rfl, rfl, SqT.of hp, rfl, ?_⟩
      walk_at "rs"
      refine ⟨(by show 4 ≤ sizeLine; decide), fun t ht1 => ?_⟩
      have s4 : Same H3 (upd H3 t (.tup [V.str "precommit", V.int ht, V.int tn, oS bb])) := same_new ht1
      have hq' : SmAt (upd H3 t (.tup [V.str "precommit", V.int ht, V.int tn, oS bb])) q x.m := s4 _ _ hq
      have ht' : (upd H3 t (.tup [V.str "precommit", V.int ht, V.int tn, oS bb])) t = some (.tup (Sm.vals ⟨.com, ht, tn, bb, none⟩)) := upd_same
      refine ⟨_, _, dp_sm hq', dp_sm ht', shaped_sm _ ox, shaped_sm ⟨.com, ht, tn, bb, none⟩ ob, ?_⟩
      rw [eqv_com]
      walk_at "rs"
      refine ite2 (fun c1 => ?_) (fun c1 => ?_)
      · have c1 := of_decide_eq_true c1
        walk_at "rs"
        refine ⟨.inl ⟨rfl, _, SqL.of (s4 _ _ hm3)⟩, ?_⟩
        walk_at "rs"
        refine ⟨_, _, _, _, rfl, rfl, SqT.of (s4 _ _ hp), rfl, ?_⟩
        walk_at "rs"
        refine ⟨pm, _, _, rfl, rfl, s4 _ _ hm3, by rw [List.length_map]; exact small1000 (by omega), ?_⟩
        exact ⟨_, rfl, same_upd (s3.trans s4) hpm, by
          rw [upd_same, com_yes hj' (by rw [ex]; exact c1), ex]
          simp⟩
      · have c1 : ¬ _ := fun y => c1 (decide_eq_true y)
        exact ⟨_, rfl, s3.trans s4, by
          rw [com_no hj' (by rw [ex]; exact c1)]
          exact s4 _ _ hm3⟩
    · rintro σ H3 ⟨v6, rfl, s3, hm3⟩
      rw [List.length_map, hx.1, List.take_length] at hm3
      have hw3 := s3.seq hw
      walk_at "rs"
      refine ⟨pw, pm, ws, _, rfl, hw3, SqL.of hm3, wl, fun H4 s4 => ?_⟩
      walk_at "rs"
      refine ⟨pw, ws, rfl, s4.seq hw3, ?_⟩
      walk_at "rs"
      unfold commM at k
      have te : ((tn.toNat : Nat) : Int) = tn := by omega
      rw [te] at k
      refine ite2 (fun c1 => ?_) (fun c1 => ?_)
      · walk_at "rs"
        have kk := k H4 (fun b o y => s4 _ _ (s3 _ _ y))
        have c2 := of_decide_eq_true c1
        rw [show qrm ws (comS xs ht tn bb) = false from decide_eq_false (by omega), Bool.false_and] at kk
        exact kk
      walk_at "rs"
      have c2 : ¬ 3 * wOf ws (comS xs ht tn bb) ≤ 2 * ws.sum := fun y => c1 (decide_eq_true y)
      rw [show qrm ws (comS xs ht tn bb) = true from decide_eq_true (by omega), Bool.true_and] at k
      exact ⟨pw, l, ws, ps, xs, ht, tn, bb, rfl, s4.seq hw3, wl, s4 _ _ (s3 _ _ hl), (hx.same s3).same s4, few, t0, t12, fun H5 s5 => k H5 (fun b o y => s5 _ _ (s4 _ _ (s3 _ _ y)))⟩

theorem nu_tl {i : Int} (h : NOk i) : TL.tl (nu i) = TL.numL i.toNat := by
  unfold nu
  rw [← TL.tl_num, Int.toNat_of_nonneg h.1]
theorem nu_neg {n : Nat} : TL.tl (nu (Int.negSucc n)) = 45 :: TL.numL (n + 1) := by
  unfold nu
  rw [TL.tl_ofString]
  show (("-" ++ (n + 1).repr).toList.map Char.toNat) = _
  rw [String.toList_append, List.map_append]
  unfold TL.numL Nat.repr
  simp
theorem nu_len {i : Int} (h : WOk i) : (nu i).length ≤ 7 := by
  obtain ⟨h0, h1⟩ := id h
  rw [TL.len_tl]
  cases i with
  | ofNat n =>
    show (TL.tl (Str.ofString (toString ((n : Nat) : Int)))).length ≤ 7
    rw [TL.tl_num]
    exact TL.numL_len (k := 7) (by decide) (by have : ((n : Nat) : Int) ≤ 2000000 := h1; omega)
  | negSucc n =>
    rw [nu_neg, List.length_cons]
    have : n + 1 ≤ 1000 := by omega
    have := TL.numL_len (n := n + 1) (k := 4) (by decide) (by omega)
    omega
theorem nu_log {i : Int} (h : WOk i) : i.natAbs.log2 < 1920 := by
  obtain ⟨h0, h1⟩ := h
  rcases Nat.eq_zero_or_pos i.natAbs with z | z
  · rw [z]
    decide
  · have : i.natAbs.log2 < 30 := (Nat.log2_lt (Nat.ne_of_gt z)).mpr (by omega)
    omega

theorem ok_Reader_init (T : Txt K mg a) : ∃ fd, FnOk P w K mg base CX0 1 a.d_Reader_init fd ["self", "text"] (spRInit a.C_Reader) ∧ Binds K fd ["self", "text"] [] := by
  obtain ⟨fd, F, b⟩ := T.d_Reader_init.F
  refine ⟨fd, F.ok sc_Reader_init (fun vs H Q E h => ?_) (fun cdv A outer s H vs Q E hr h => ?_), b⟩
  · obtain ⟨_, _, _, rfl, _⟩ := h
    rfl
  · obtain ⟨p, dx, z, rfl, hp, k⟩ := h
    refine ⟨_, (pss_cons (ps_fld (pv 0) (pv 1) rfl)
      (pss_one (ps_fld (pv 0) pe_int rfl))), ?_⟩
    walk_at "rs"
    refine ⟨p, _, dx, [], rfl, hp, T.cl_Reader, T.a_Reader_text, (by show 0 < 1000; decide), ?_⟩
    walk_at "rs"
    refine ⟨p, _, dx, _, rfl, upd_same, T.cl_Reader, T.a_Reader_at, (by show 1 < 1000; decide), ?_⟩
    rw [upd_upd]
    walk_at "rs"
    refine k _ ⟨dx, ?_⟩ (fun b o n e => by rw [upd_ne n]; exact e)
    rw [upd_same]
    rfl
theorem ok_Reader_read_signs (T : Txt K mg a) : ∃ fd, FnOk P w K mg base CX0 1 a.d_Reader_read_signs fd ["self", "allowed"] (spSigns a.C_Reader) ∧ Binds K fd ["self", "allowed"] [] := by
  obtain ⟨fd, F, b⟩ := T.d_Reader_read_signs.F
  refine ⟨fd, F.ok sc_Reader_read_signs (fun vs H Q E h => ?_) (fun cdv A outer s H vs Q E hr h => ?_), b⟩
  · obtain ⟨_, _, _, _, rfl, _⟩ := h
    rfl
  · obtain ⟨p, z, al, i, rfl, ⟨dx, hp⟩, lz, li, k⟩ := h
    refine ⟨_, (pss_cons (ps_set (i := 2) sc_Reader_read_signs.nd rfl (Or.inl rfl) (pe_fld (pv 0) rfl))
      (pss_cons (ps_while PassesOwn.never (PW.pt (pw_and (pt_cmpR op_lt (pe_fld (pv 0) rfl) (pe_callB call_len_str (by rfl) T.n_len PySem.boot_len (pa_cons (pe_fld (pv 0) rfl) pa_nil)) (nomark _)) (pw_and1 (pt_cmpR op_in_sign (pe_ix ix_str (pe_fld (pv 0) rfl) (pe_fld (pv 0) rfl) (fun _ _ => rfl)) (pv 1) (by rfl)))))
      (pss_one (ps_fldaug (pv 0) pe_int in_add)))
      (pss_one (ps_ret (pe_slice sl_str (pe_fld (pv 0) rfl) (po_some (pv 2)) (po_some (pe_fld (pv 0) rfl))))))), ?_⟩
    walk_at "rs"
    refine ⟨p, _, dx, _, .int (i : Int), rfl, hp, T.cl_Reader, T.a_Reader_at, rfl, ?_⟩
    walk_at "rs"
    refine ⟨fun m σ H2 => ∃ j : Nat, m = z.length - j ∧ σ = [some (.ref p), some (.str al), some (.int (i : Int))] ∧ H2 p = some (.ins a.C_Reader dx [("text", .str z), ("at", .int (j : Int))]) ∧ (∀ b o, b ≠ p → H b = some o → H2 b = some o) ∧ i ≤ j ∧ j ≤ z.length ∧ i + runL (TL.tl al) ((TL.tl z).drop i) = j + runL (TL.tl al) ((TL.tl z).drop j),
      ⟨_, i, rfl, rfl, hp, fun b o _ e => e, Nat.le_refl _, li, rfl⟩, ?_⟩
    rintro m σ H2 ⟨j, rfl, rfl, h2, k2, ij, jz, ej⟩
    walk_at "rs"
    refine ⟨p, _, dx, _, .int (j : Int), rfl, h2, T.cl_Reader, T.a_Reader_at, rfl, ?_⟩
    walk_at "rs"
    refine ⟨p, _, dx, _, .str z, rfl, h2, T.cl_Reader, T.a_Reader_text, rfl, ?_⟩
    walk_at "rs"
    refine ⟨(by rw [sizeLine_eq]; omega), ?_⟩
    walk_at "rs"
    have fin : runL (TL.tl al) ((TL.tl z).drop j) = 0 → Q (V.str (cutS z (some (i : Int)) (some (j : Int)))) H2 := fun e0 => by
      have ejj : j = i + runL (TL.tl al) ((TL.tl z).drop i) := by omega
      have ec : cutS z (some (i : Int)) (some (j : Int)) = ⟨(((TL.tl z).drop i).take (runL (TL.tl al) ((TL.tl z).drop i))).toArray⟩ := by
        unfold cutS
        rw [HT.sIx_nat, HT.sIx_nat, Nat.min_eq_left li, Nat.min_eq_left jz, show j - i = runL (TL.tl al) ((TL.tl z).drop i) by omega]
      rw [ec]
      refine k H2 ⟨dx, ?_⟩ k2
      rw [← ejj]
      exact h2
    refine ite2 (fun c1 => ?_) (fun c1 => ?_)
    · have c1 : j < z.length := by
        have := of_decide_eq_true c1
        omega
      have c1' : j < (TL.tl z).length := by rw [← TL.len_tl]; exact c1
      walk_at "rs"
      refine ⟨p, _, dx, _, .str z, rfl, h2, T.cl_Reader, T.a_Reader_text, rfl, ?_⟩
      walk_at "rs"
      refine ⟨p, _, dx, _, .int (j : Int), rfl, h2, T.cl_Reader, T.a_Reader_at, rfl, ?_⟩
      walk_at "rs"
      obtain ⟨c, rest, ed⟩ : ∃ c rest, (TL.tl z).drop j = c :: rest := by
        cases e : (TL.tl z).drop j with
        | nil =>
          have := congrArg List.length e
          rw [List.length_drop, List.length_nil] at this
          omega
        | cons c rest => exact ⟨c, rest, rfl⟩
      have eg : (TL.tl z)[j]? = some c := by
        have : ((TL.tl z).drop j)[0]? = some c := by rw [ed]; rfl
        rw [List.getElem?_drop] at this
        simpa using this
      have er : (TL.tl z).drop (j + 1) = rest := by
        rw [← List.drop_drop, ed]
        rfl
      refine ⟨z, j, c, rfl, rfl, (by rw [sizeLine_eq]; omega), atI_nat eg, ?_⟩
      walk_at "rs"
      refine ite2 (fun c2 => ?_) (fun c2 => ?_)
      · have c2 : c ∈ TL.tl al := of_decide_eq_true c2
        have e1 : runL (TL.tl al) ((TL.tl z).drop j) = runL (TL.tl al) ((TL.tl z).drop (j + 1)) + 1 := by
          rw [ed, er, runL, if_pos c2]
        refine ⟨fun σ' H' => σ' = [some (.ref p), some (.str al), some (.int (i : Int))] ∧ H' = upd H2 p (.ins a.C_Reader dx [("text", .str z), ("at", .int ((j + 1 : Nat) : Int))]), fun σ' H' w => ?_, ?_⟩
        · obtain ⟨rfl, rfl⟩ := w
          exact ⟨z.length - (j + 1), by omega, j + 1, rfl, rfl, upd_same, fun b o n e => by rw [upd_ne n]; exact k2 b o n e, by omega, by omega, by omega⟩
        walk_at "rs"
        refine ⟨p, _, dx, _, .int (j : Int), rfl, h2, T.cl_Reader, T.a_Reader_at, rfl, ?_⟩
        walk_at "rs"
        exact ⟨dx, _, h2, (by show 2 < 1000; decide), rfl, rfl⟩
      · have c2 : ¬ c ∈ TL.tl al := fun h => c2 (decide_eq_true h)
        have e0 : runL (TL.tl al) ((TL.tl z).drop j) = 0 := by
          rw [ed, runL, if_neg c2]
        walk_at "rs"
        refine ⟨p, _, dx, _, .str z, rfl, h2, T.cl_Reader, T.a_Reader_text, rfl, ?_⟩
        walk_at "rs"
        refine ⟨p, _, dx, _, .int (j : Int), rfl, h2, T.cl_Reader, T.a_Reader_at, rfl, ?_⟩
        walk_at "rs"
        exact ⟨(by rw [sizeLine_eq]; omega), fin e0⟩
    · have c1 : ¬ j < z.length := fun h => c1 (decide_eq_true (by omega))
      have e0 : runL (TL.tl al) ((TL.tl z).drop j) = 0 := by
        rw [List.drop_eq_nil_of_le (by rw [← TL.len_tl]; omega)]
        rfl
      walk_at "rs"
      refine ⟨p, _, dx, _, .str z, rfl, h2, T.cl_Reader, T.a_Reader_text, rfl, ?_⟩
      walk_at "rs"
      refine ⟨p, _, dx, _, .int (j : Int), rfl, h2, T.cl_Reader, T.a_Reader_at, rfl, ?_⟩
      walk_at "rs"
      exact ⟨(by rw [sizeLine_eq]; omega), fin e0⟩

theorem starts_one {z : Str} {c i : Nat} (li : i ≤ z.length) : Txt.startswith3 z ⟨#[c]⟩ (i : Int) = decide ((TL.tl z)[i]? = some c) := by
  have ef : PySem.fromIndex z.length (i : Int) = i := by
    unfold PySem.fromIndex
    rw [if_neg (by omega)]
    omega
  unfold Txt.startswith3
  rw [ef]
  have h := PySem.StrLaws.subAt_one z c i
  rw [Bool.eq_iff_iff, Bool.and_eq_true, decide_eq_true_iff, decide_eq_true_iff]
  exact h
theorem ok_Reader_skip (TE : TxtE P w K mg a) (T : Txt K mg a) : ∃ fd, FnOk P w K mg base (L2.CX P w) 1 a.d_Reader_skip fd ["self", "mark"] (spSkip a.C_Reader a.C_BadCommand) ∧ Binds K fd ["self", "mark"] [] := by
  obtain ⟨fd, F, b⟩ := T.d_Reader_skip.F
  refine ⟨fd, F.okX sc_Reader_skip (fun vs H Q E h => ?_) (fun cdv A outer s H vs Q E hr h => ?_), b⟩
  · obtain ⟨_, _, _, _, rfl, _⟩ := h
    rfl
  · obtain ⟨p, z, c, i, rfl, ⟨dx, hp⟩, lz, li, k1, k2⟩ := h
    refine ⟨_, (pss_cons (ps_if (pt_not (pt_val (pe_bm PySem.F.plainAttrs_str PySem.F.slot_str_startswith PySem.F.type_str_startswith mt_startswith3 (pe_fld (pv 0) rfl) (pa_cons (pv 1) (pa_cons (pe_fld (pv 0) rfl) pa_nil)))))
      (pss_one (ps_raise rfl (takes_of rfl rfl rfl rfl) (pmk_own PySem.F.excBase_ValueError TE.x_BadCommand TE.g_BadCommand TE.kc_BadCommand (raises_own TE.b_BadCommand TE.t_BadCommand) rfl)))
      pss_nil)
      (pss_one (ps_fldaug (pv 0) pe_int in_add))), ?_⟩
    walk_at "rs"
    refine ⟨p, _, dx, _, .str z, rfl, hp, T.cl_Reader, T.a_Reader_text, rfl, ?_⟩
    walk_at "rs"
    refine ⟨p, _, dx, _, .int (i : Int), rfl, hp, T.cl_Reader, T.a_Reader_at, rfl, ?_⟩
    walk_at "rs"
    refine ⟨z, _, _, rfl, rfl, ?_⟩
    rw [starts_one li]
    by_cases c0 : (TL.tl z)[i]? = some c
    · rw [decide_eq_true c0]
      walk_at "rs"
      refine ⟨p, _, dx, _, .int (i : Int), rfl, hp, T.cl_Reader, T.a_Reader_at, rfl, ?_⟩
      walk_at "rs"
      refine ⟨dx, _, hp, (by show 2 < 1000; decide), ?_⟩
      exact k1 c0 _ ⟨dx, upd_same⟩ fun b o n e => by rw [upd_ne n]; exact e
    · rw [decide_eq_false c0]
      walk_at "rs"
      exact k2 c0

theorem run_le (al : List Nat) : ∀ l : List Nat, runL al l ≤ l.length
  | [] => Nat.le_refl _
  | c :: r => by
    have := run_le al r
    rw [runL]
    split
    · rw [List.length_cons]
      omega
    · exact Nat.zero_le _
theorem run_mem (al : List Nat) : ∀ (l : List Nat), ∀ n ∈ l.take (runL al l), n ∈ al
  | [], n, h => by cases h
  | c :: r, n, h => by
    rw [runL] at h
    split at h
    · rename_i hc
      rw [List.take_succ_cons] at h
      rcases List.mem_cons.mp h with rfl | h
      · exact hc
      · exact run_mem al r n h
    · rw [List.take_zero] at h
      cases h
theorem digs_len (z : Str) (i : Nat) : (digsAt z i).length = runL (TL.tl "0123456789") ((TL.tl z).drop i) := by
  unfold digsAt
  rw [List.length_take]
  exact Nat.min_eq_left (run_le _ _)
theorem digs_all (z : Str) (i : Nat) : NumText.AllDigits (digsAt z i) := fun n hn => by
  have h := run_mem _ _ n hn
  have e : TL.tl "0123456789" = [48, 49, 50, 51, 52, 53, 54, 55, 56, 57] := by decide +kernel
  rw [e] at h
  simp only [List.mem_cons, List.not_mem_nil, or_false] at h
  omega
theorem ok_Reader_read_number (TE : TxtE P w K mg a) (T : Txt K mg a) : ∃ fd, FnOk P w K mg base (L2.CX P w) 2 a.d_Reader_read_number fd ["self"] (spNumR a.C_Reader a.C_BadCommand) ∧ Binds K fd ["self"] [] := by
  obtain ⟨fd, F, b⟩ := T.d_Reader_read_number.F
  obtain ⟨fd_Reader_read_signs, G_Reader_read_signs, b_Reader_read_signs⟩ := ok_Reader_read_signs (P := P) (w := w) (base := base) T
  refine ⟨fd, F.okX sc_Reader_read_number (fun vs H Q E h => ?_) (fun cdv A outer s H vs Q E hr h => ?_), b⟩
  · obtain ⟨_, _, _, rfl, _⟩ := h
    rfl
  · obtain ⟨p, z, i, rfl, ⟨dx, hp⟩, lz, li, k1, k2⟩ := h
    refine ⟨_, (pss_cons (ps_set (i := 1) sc_Reader_read_number.nd rfl (Or.inl rfl) (pe_meth (pv 0) T.cl_Reader T.me_Reader_read_signs G_Reader_read_signs (hr.mono (by decide)) b_Reader_read_signs .nil pass0 (pa_cons (pe_glob (v := (.str "0123456789")) rfl T.c_DIGITS.choose_spec ⟨_, rfl⟩) pa_nil)))
      (pss_cons (ps_if (PW.pt (pw_or (pt_cmpR op_lt (pe_callB call_len_str (by rfl) T.n_len PySem.boot_len (pa_cons (pv 1) pa_nil)) pe_int (nomark _)) (pw_or (pt_cmpR op_gt (pe_callB call_len_str (by rfl) T.n_len PySem.boot_len (pa_cons (pv 1) pa_nil)) (pe_glob (v := (.int 6)) rfl T.c_MOST_DIGITS_commands.choose_spec ⟨_, rfl⟩) (nomark _)) (pw_or1 (PW.pt (pw_and (pt_cmpR op_eq (pe_ix ix_str (pv 1) pe_int (fun _ _ => rfl)) pe_str (nomark _)) (pw_and1 (pt_cmpR op_ne (pv 1) pe_str (nomark _)))))))))
      (pss_one (ps_raise rfl (takes_of rfl rfl rfl rfl) (pmk_own PySem.F.excBase_ValueError TE.x_BadCommand TE.g_BadCommand TE.kc_BadCommand (raises_own TE.b_BadCommand TE.t_BadCommand) rfl)))
      pss_nil)
      (pss_one (ps_ret (pe_callTy call_int_str (by rfl) T.n_int (by decide +kernel) (pa_cons (pv 1) pa_nil)))))), ?_⟩
    walk_at "rs"
    refine ⟨p, dx, _, rfl, hp, rfl, ?_⟩
    walk_at "rs"
    refine ⟨p, z, _, i, rfl, ⟨dx, hp⟩, lz, li, fun H1 h1 kp => ?_⟩
    rw [show (⟨(((TL.tl z).drop i).take (runL (TL.tl "0123456789") ((TL.tl z).drop i))).toArray⟩ : Str) = ⟨(digsAt z i).toArray⟩ from rfl]
    rw [← digs_len] at h1
    have hall := digs_all z i
    have lw : (digsAt z i).length ≤ 1000 := by
      rw [digs_len]
      have := run_le (TL.tl "0123456789") ((TL.tl z).drop i)
      rw [List.length_drop, ← TL.len_tl] at this
      omega
    have k1 := fun g => k1 g H1 h1 kp
    have k2 := fun g => k2 g H1 kp
    generalize digsAt z i = dg at hall lw k1 k2 ⊢
    have el : (⟨dg.toArray⟩ : Str).length = dg.length := by
      rw [TL.len_tl, TL.tl_mk]
    walk_at "rs"
    refine ⟨(by rw [el, sizeLine_eq]; omega), ?_⟩
    walk_at "rs"
    refine ite2 (fun c1 => ?_) (fun c1 => ?_)
    · have c1 := of_decide_eq_true c1
      refine k2 fun g => ?_
      have := g.1
      rw [el] at c1
      omega
    · have c1 : ¬ dg.length < 1 := fun h => c1 (decide_eq_true (by rw [el]; omega))
      walk_at "rs"
      refine ⟨(by rw [el, sizeLine_eq]; omega), ?_⟩
      walk_at "rs"
      refine ite2 (fun c2 => ?_) (fun c2 => ?_)
      · have c2 := of_decide_eq_true c2
        refine k2 fun g => ?_
        have := g.2.1
        rw [el] at c2
        omega
      · have c2 : ¬ 6 < dg.length := fun h => c2 (decide_eq_true (by rw [el]; omega))
        cases dg with
        | nil => exact absurd (by decide) c1
        | cons d r =>
          walk_at "rs"
          refine ⟨_, 0, d, rfl, rfl, (by rw [el, sizeLine_eq]; omega), atI_nat (j := 0) rfl, ?_⟩
          walk_at "rs"
          have z48 : (Str.ofString "0") = ⟨#[48]⟩ := rfl
          have fin : NumW (d :: r) → (∃ (x : Str) (n : Int), [V.str ⟨(d :: r).toArray⟩] = [V.str x] ∧ PySem.intText? x = some n ∧ x.length ≤ 640 ∧ Q (.int n) H1) := fun g =>
            ⟨_, _, rfl, PySem.intText_digits (x := ⟨(d :: r).toArray⟩) hall (fun e => nomatch e) (by rw [el]; have := g.2.1; omega), by rw [el]; have := g.2.1; omega, k1 g⟩
          refine ite2 (fun c3 => ?_) (fun c3 => ?_)
          · have c3 : d = 48 := by
              have := of_decide_eq_true c3
              rw [z48] at this
              simpa using this
            walk_at "rs"
            refine ite2 (fun c4 => ?_) (fun c4 => ?_)
            · refine k2 fun g => g.2.2 ⟨by rw [c3]; rfl, fun e => ?_⟩
              rw [e, z48] at c4
              simp at c4
            · have e : d :: r = [48] := by
                rw [z48] at c4
                simp at c4
                rw [c4.1, c4.2]
              walk_at "rs"
              exact fin ⟨by rw [e]; decide, by rw [e]; decide, fun g => g.2 e⟩
          · have c3 : d ≠ 48 := fun e => c3 (by rw [e, z48]; simp)
            walk_at "rs"
            exact fin ⟨by simp, by omega, fun g => c3 (by simpa using g.1)⟩

/-- the signs of a program that stand at i -/
def codeAt (z : Str) (i : Nat) : List Nat := ((TL.tl z).drop i).take (runL (TL.tl "0123456789ginasmtcehlujfyo") ((TL.tl z).drop i))
def spCodeR (C CE : Addr) : Sp := fun vs H Q E => ∃ (p : Addr) (z : Str) (i : Nat), vs = [.ref p] ∧ RdAt C H p z i ∧ z.length ≤ 1000 ∧ i ≤ z.length ∧
  ((TL.tl z)[i + (codeAt z i).length]? = some 122 → ∀ H', RdAt C H' p z (i + (codeAt z i).length + 1) → (∀ b o, b ≠ p → H b = some o → H' b = some o) → Q (.str ⟨(codeAt z i).toArray⟩) H') ∧
  ((TL.tl z)[i + (codeAt z i).length]? ≠ some 122 → ∀ H', (∀ b o, b ≠ p → H b = some o → H' b = some o) → E (.ref CE) none H')
theorem code_len (z : Str) (i : Nat) : (codeAt z i).length = runL (TL.tl "0123456789ginasmtcehlujfyo") ((TL.tl z).drop i) := by
  unfold codeAt
  rw [List.length_take]
  exact Nat.min_eq_left (run_le _ _)
theorem ok_Reader_read_code (TE : TxtE P w K mg a) (T : Txt K mg a) : ∃ fd, FnOk P w K mg base (L2.CX P w) 2 a.d_Reader_read_code fd ["self"] (spCodeR a.C_Reader a.C_BadCommand) ∧ Binds K fd ["self"] [] := by
  obtain ⟨fd, F, b⟩ := T.d_Reader_read_code.F
  obtain ⟨fd_Reader_read_signs, G_Reader_read_signs, b_Reader_read_signs⟩ := ok_Reader_read_signs (P := P) (w := w) (base := base) T
  obtain ⟨fd_Reader_skip, G_Reader_skip, b_Reader_skip⟩ := ok_Reader_skip (P := P) (w := w) (base := base) TE T
  refine ⟨fd, F.okX sc_Reader_read_code (fun vs H Q E h => ?_) (fun cdv A outer s H vs Q E hr h => ?_), b⟩
  · obtain ⟨_, _, _, rfl, _⟩ := h
    rfl
  · obtain ⟨p, z, i, rfl, ⟨dx, hp⟩, lz, li, k1, k2⟩ := h
    refine ⟨_, (pss_cons (ps_set (i := 1) sc_Reader_read_code.nd rfl (Or.inl rfl) (pe_meth (pv 0) T.cl_Reader T.me_Reader_read_signs G_Reader_read_signs (hr.mono (by decide)) b_Reader_read_signs .nil pass0 (pa_cons (pe_glob (v := (.str "0123456789ginasmtcehlujfyo")) rfl T.c_SIGNS.choose_spec ⟨_, rfl⟩) pa_nil)))
      (pss_cons (ps_expr (pe_meth (pv 0) T.cl_Reader T.me_Reader_skip G_Reader_skip (hr.mono (by decide)) b_Reader_skip .nil (L2.passes_call (W := fun c d _ H => E c d H) (E := E) (L2.takes_of rfl rfl rfl rfl) (fun _ _ _ _ h => h)) (pa_cons (pe_glob (v := (.str "z")) rfl T.c_CODE_END.choose_spec ⟨_, rfl⟩) pa_nil)))
      (pss_one (ps_ret (pv 1))))), ?_⟩
    walk_at "rs"
    refine ⟨p, dx, _, rfl, hp, rfl, ?_⟩
    walk_at "rs"
    refine ⟨p, z, _, i, rfl, ⟨dx, hp⟩, lz, li, fun H1 h1 kp => ?_⟩
    rw [show (⟨(((TL.tl z).drop i).take (runL (TL.tl "0123456789ginasmtcehlujfyo") ((TL.tl z).drop i))).toArray⟩ : Str) = ⟨(codeAt z i).toArray⟩ from rfl]
    rw [← code_len] at h1
    have lc : i + (codeAt z i).length ≤ z.length := by
      rw [code_len]
      have := run_le (TL.tl "0123456789ginasmtcehlujfyo") ((TL.tl z).drop i)
      rw [List.length_drop, ← TL.len_tl] at this
      omega
    obtain ⟨dx1, hp1⟩ := id h1
    walk_at "rs"
    refine ⟨p, dx1, _, rfl, hp1, rfl, ?_⟩
    walk_at "rs"
    refine ⟨p, z, 122, _, rfl, h1, lz, lc, fun e H2 h2 kp2 => ?_, fun e => k2 e H1 kp⟩
    walk_at "rs"
    exact k1 e H2 h2 fun b o n q => kp2 b o n (kp b o n q)

/-! ### the reader's model -/
theorem dig10 : TL.tl "0123456789" = [48, 49, 50, 51, 52, 53, 54, 55, 56, 57] := by decide +kernel
theorem run_app {al : List Nat} : ∀ {v : List Nat} {r : List Nat}, (∀ n ∈ v, n ∈ al) → runL al (v ++ r) = v.length + runL al r
  | [], r, _ => by simp
  | c :: v, r, h => by
    rw [List.cons_append, runL, if_pos (h c List.mem_cons_self), run_app fun n hn => h n (List.mem_cons_of_mem _ hn), List.length_cons]
    omega
theorem run_stop {al : List Nat} : ∀ {r : List Nat}, (∀ c, r.head? = some c → c ∉ al) → runL al r = 0
  | [], _ => rfl
  | c :: r, h => by rw [runL, if_neg (h c rfl)]
theorem run_cut {al v r : List Nat} (h : ∀ n ∈ v, n ∈ al) (hr : ∀ c, r.head? = some c → c ∉ al) : runL al (v ++ r) = v.length := by
  rw [run_app h, run_stop hr]
  rfl
instance decNumW (v : List Nat) : Decidable (NumW v) := by unfold NumW; infer_instance
def numP (l : List Nat) : Option (V × List Nat) :=
  if NumW (l.take (runL (TL.tl "0123456789") l)) then some (.int (NumText.digitsVal (l.take (runL (TL.tl "0123456789") l)) : Nat), l.drop (runL (TL.tl "0123456789") l)) else none
def codeP (l : List Nat) : Option (V × List Nat) :=
  if l[runL (TL.tl "0123456789ginasmtcehlujfyo") l]? = some 122 then some (.str ⟨(l.take (runL (TL.tl "0123456789ginasmtcehlujfyo") l)).toArray⟩, l.drop (runL (TL.tl "0123456789ginasmtcehlujfyo") l + 1)) else none
def partP (m : Nat) : List Nat → Option (V × List Nat)
  | [] => none
  | c :: r => if c = m then (if m = 122 then codeP r else numP r) else none
def partsP : List Nat → List Nat → Option (List V × List Nat)
  | [], l => some ([], l)
  | m :: ms, l => match partP m l with
    | none => none
    | some (v, r) => match partsP ms r with
      | none => none
      | some (vs, q) => some (v :: vs, q)
theorem numL_head2 : ∀ (n : Nat), 0 < n → (TL.numL n).head? ≠ some 48
  | n, h => by
    rcases Nat.lt_or_ge n 10 with z | z
    · rw [TL.numL_lt z]
      simp
      omega
    · rw [TL.numL_step z]
      have ih := numL_head2 (n / 10) (by omega)
      have ne := TL.numL_ne (n / 10)
      cases e : TL.numL (n / 10) with
      | nil => exact absurd e ne
      | cons c l =>
        rw [e] at ih
        exact ih
theorem numL_long : ∀ (k n : Nat), 10 ^ k ≤ n → k < (TL.numL n).length
  | 0, n, _ => List.length_pos_iff.mpr (TL.numL_ne n)
  | k + 1, n, h => by
    have p : 0 < 10 ^ k := Nat.pow_pos (by decide)
    rw [Nat.pow_succ] at h
    have := numL_long k (n / 10) (by omega)
    rw [TL.numL_step (by omega), List.length_append, List.length_singleton]
    omega
theorem digs_toNat : ∀ {v : List Nat}, NumText.AllDigits v → (v.map Char.ofNat).map Char.toNat = v
  | [], _ => rfl
  | c :: v, h => by
    have hc := h c List.mem_cons_self
    have ih := digs_toNat (v := v) fun n hn => h n (List.mem_cons_of_mem _ hn)
    rw [List.map_cons, List.map_cons, ih]
    congr 1
    have : ∀ i : Fin 58, (Char.ofNat i.val).toNat = i.val := by decide +kernel
    exact this ⟨c, by omega⟩
theorem num_back {v : List Nat} (h : NumW v) (d : NumText.AllDigits v) : NOk (NumText.digitsVal v : Nat) ∧ TL.tl (nu (NumText.digitsVal v : Nat)) = v := by
  obtain ⟨h1, h2, h3⟩ := h
  have e : TL.numL (NumText.digitsVal v) = v := by
    unfold TL.numL
    rw [NumText.toDigits_digitsVal (v.length - 1) v (by omega) d, digs_toNat d]
    rcases Nat.lt_or_ge 1 v.length with z | z
    · right
      cases v with
      | nil => simp at h1
      | cons c r =>
        refine ⟨c, r, rfl, ?_⟩
        have hc := d c List.mem_cons_self
        rcases Nat.lt_or_ge c 49 with y | y
        · exfalso
          refine h3 ⟨?_, fun q => ?_⟩
          · have : c = 48 := by omega
            rw [this]
            rfl
          · rw [q] at z
            simp at z
        · exact y
    · left
      omega
  refine ⟨⟨Int.natCast_nonneg _, ?_⟩, ?_⟩
  · rcases Nat.lt_or_ge (NumText.digitsVal v) (10 ^ 6) with z | z
    · have : (10 : Nat) ^ 6 = 1000000 := by decide
      omega
    · have := numL_long 6 _ z
      rw [e] at this
      omega
  · show TL.tl (Str.ofString (toString ((NumText.digitsVal v : Nat) : Int))) = v
    rw [TL.tl_num, e]
theorem take_run_digits (l : List Nat) : NumText.AllDigits (l.take (runL (TL.tl "0123456789") l)) := fun n hn => by
  have h := run_mem _ _ n hn
  rw [dig10] at h
  simp only [List.mem_cons, List.not_mem_nil, or_false] at h
  omega
theorem numP_ok {l : List Nat} {v : V} {r : List Nat} (h : numP l = some (v, r)) : ∃ i, v = .int i ∧ NOk i ∧ TL.tl (nu i) ++ r = l := by
  unfold numP at h
  split at h
  · rename_i c
    cases h
    obtain ⟨h1, h2⟩ := num_back c (take_run_digits l)
    refine ⟨_, rfl, h1, ?_⟩
    rw [h2]
    exact List.take_append_drop _ _
  · cases h
theorem codeP_ok {l : List Nat} {v : V} {r : List Nat} (h : codeP l = some (v, r)) : ∃ s : Str, v = .str s ∧ Sgn s ∧ TL.tl s ++ 122 :: r = l := by
  unfold codeP at h
  split at h
  · rename_i c
    cases h
    refine ⟨_, rfl, fun n hn => run_mem _ _ n hn, ?_⟩
    rw [TL.tl_mk]
    have hlt := (List.getElem?_eq_some_iff.mp c).1
    have e : l.drop (runL (TL.tl "0123456789ginasmtcehlujfyo") l) = 122 :: l.drop (runL (TL.tl "0123456789ginasmtcehlujfyo") l + 1) := by
      rw [List.drop_eq_getElem_cons hlt, (List.getElem?_eq_some_iff.mp c).2]
    rw [← e]
    exact List.take_append_drop _ _
  · cases h
theorem partP_ok {m : Nat} {l : List Nat} {v : V} {r : List Nat} (h : partP m l = some (v, r)) : (m ≠ 122 ∧ ∃ i, v = .int i ∧ NOk i ∧ m :: (TL.tl (nu i) ++ r) = l) ∨ (m = 122 ∧ ∃ s : Str, v = .str s ∧ Sgn s ∧ 122 :: (TL.tl s ++ 122 :: r) = l) := by
  cases l with
  | nil => cases h
  | cons c q =>
    rw [partP] at h
    split at h
    · rename_i e
      subst e
      split at h
      · rename_i e
        obtain ⟨s, h1, h2, h3⟩ := codeP_ok h
        exact .inr ⟨e, s, h1, h2, by rw [h3, e]⟩
      · rename_i e
        obtain ⟨i, h1, h2, h3⟩ := numP_ok h
        exact .inl ⟨e, i, h1, h2, by rw [h3]⟩
    · cases h
theorem partP_int {m : Nat} {l : List Nat} {v : V} {r : List Nat} (hm : m ≠ 122) (h : partP m l = some (v, r)) : ∃ i, v = .int i ∧ NOk i ∧ m :: (TL.tl (nu i) ++ r) = l := by
  rcases partP_ok h with ⟨_, h⟩ | ⟨h, _⟩
  · exact h
  · exact absurd h hm
theorem partP_code {l : List Nat} {v : V} {r : List Nat} (h : partP 122 l = some (v, r)) : ∃ s : Str, v = .str s ∧ Sgn s ∧ 122 :: (TL.tl s ++ 122 :: r) = l := by
  rcases partP_ok h with ⟨h, _⟩ | ⟨_, h⟩
  · exact absurd rfl h
  · exact h
theorem partsP_cons {m : Nat} {ms l : List Nat} {vs : List V} {q : List Nat} (h : partsP (m :: ms) l = some (vs, q)) : ∃ v r us, partP m l = some (v, r) ∧ partsP ms r = some (us, q) ∧ vs = v :: us := by
  rw [partsP] at h
  split at h
  · cases h
  · rename_i v r e
    split at h
    · cases h
    · rename_i us q' e2
      cases h
      exact ⟨v, r, us, e, e2, rfl⟩
theorem partsP_nil {l : List Nat} {vs : List V} {q : List Nat} (h : partsP [] l = some (vs, q)) : vs = [] ∧ q = l := by
  cases h
  exact ⟨rfl, rfl⟩
def ckOf (c : Nat) : Option (List Nat) := if c = 112 then some [112, 113, 114] else if c = 119 then some [119, 120] else if c = 100 then some [100, 122] else if c = 107 then some [107, 98, 118] else none
def mkC (c : Nat) : List V → Cm
  | [.int a, .int b, .int d] => if c = 112 then .p a b d else .k a b d
  | [.int a, .int b] => .w a b
  | [.int a, .str s] => .d a s
  | _ => default
def cmdP : List Nat → Option (Cm × List Nat)
  | [] => none
  | c :: r => match ckOf c with
    | none => none
    | some ms => match partsP ms (c :: r) with
      | none => none
      | some (vs, q) => some (mkC c vs, q)
theorem tl1 {c : Nat} : TL.tl ⟨#[c]⟩ = [c] := rfl
theorem mk_ok {c : Nat} {ms r : List Nat} {vs : List V} {q : List Nat} (hk : ckOf c = some ms) (h : partsP ms (c :: r) = some (vs, q)) :
    (mkC c vs).ki = ⟨#[c]⟩ ∧ (mkC c vs).ps = vs ∧ TL.tl (mkC c vs).txt ++ q = c :: r ∧ (mkC c vs).right := by
  unfold ckOf at hk
  split at hk
  · rename_i e
    cases hk
    subst e
    obtain ⟨v1, r1, u1, a1, b1, rfl⟩ := partsP_cons h
    obtain ⟨v2, r2, u2, a2, b2, rfl⟩ := partsP_cons b1
    obtain ⟨v3, r3, u3, a3, b3, rfl⟩ := partsP_cons b2
    obtain ⟨rfl, rfl⟩ := partsP_nil b3
    obtain ⟨i1, rfl, o1, e1⟩ := partP_int (by decide) a1
    obtain ⟨i2, rfl, o2, e2⟩ := partP_int (by decide) a2
    obtain ⟨i3, rfl, o3, e3⟩ := partP_int (by decide) a3
    refine ⟨rfl, rfl, ?_, o1, o2, o3⟩
    rw [← e1, ← e2, ← e3]
    show TL.tl ("p" ++ nu i1 ++ "q" ++ nu i2 ++ "r" ++ nu i3) ++ q = _
    simp only [TL.tl_append, List.append_assoc]
    rfl
  · split at hk
    · rename_i e
      cases hk
      subst e
      obtain ⟨v1, r1, u1, a1, b1, rfl⟩ := partsP_cons h
      obtain ⟨v2, r2, u2, a2, b2, rfl⟩ := partsP_cons b1
      obtain ⟨rfl, rfl⟩ := partsP_nil b2
      obtain ⟨i1, rfl, o1, e1⟩ := partP_int (by decide) a1
      obtain ⟨i2, rfl, o2, e2⟩ := partP_int (by decide) a2
      refine ⟨rfl, rfl, ?_, o1, o2⟩
      rw [← e1, ← e2]
      show TL.tl ("w" ++ nu i1 ++ "x" ++ nu i2) ++ q = _
      simp only [TL.tl_append, List.append_assoc]
      rfl
    · split at hk
      · rename_i e
        cases hk
        subst e
        obtain ⟨v1, r1, u1, a1, b1, rfl⟩ := partsP_cons h
        obtain ⟨v2, r2, u2, a2, b2, rfl⟩ := partsP_cons b1
        obtain ⟨rfl, rfl⟩ := partsP_nil b2
        obtain ⟨i1, rfl, o1, e1⟩ := partP_int (by decide) a1
        obtain ⟨i2, rfl, o2, e2⟩ := partP_code a2
        refine ⟨rfl, rfl, ?_, o1, o2⟩
        rw [← e1, ← e2]
        show TL.tl ("d" ++ nu i1 ++ "z" ++ i2 ++ "z") ++ q = _
        simp only [TL.tl_append, List.append_assoc]
        rfl
      · split at hk
        · rename_i e
          cases hk
          subst e
          obtain ⟨v1, r1, u1, a1, b1, rfl⟩ := partsP_cons h
          obtain ⟨v2, r2, u2, a2, b2, rfl⟩ := partsP_cons b1
          obtain ⟨v3, r3, u3, a3, b3, rfl⟩ := partsP_cons b2
          obtain ⟨rfl, rfl⟩ := partsP_nil b3
          obtain ⟨i1, rfl, o1, e1⟩ := partP_int (by decide) a1
          obtain ⟨i2, rfl, o2, e2⟩ := partP_int (by decide) a2
          obtain ⟨i3, rfl, o3, e3⟩ := partP_int (by decide) a3
          refine ⟨rfl, rfl, ?_, o1, o2, o3⟩
          rw [← e1, ← e2, ← e3]
          show TL.tl ("k" ++ nu i1 ++ "b" ++ nu i2 ++ "v" ++ nu i3) ++ q = _
          simp only [TL.tl_append, List.append_assoc]
          rfl
        · cases hk
theorem cmdP_ok {l : List Nat} {x : Cm} {q : List Nat} (h : cmdP l = some (x, q)) : TL.tl x.txt ++ q = l ∧ x.right := by
  cases l with
  | nil => cases h
  | cons c r =>
    rw [cmdP] at h
    split at h
    · cases h
    · rename_i ms hk
      split at h
      · cases h
      · rename_i vs q' hp
        cases h
        exact (mk_ok hk hp).2.2
def NoDig (r : List Nat) : Prop := ∀ c, r.head? = some c → c ∉ TL.tl "0123456789"
theorem num_w {i : Int} (h : NOk i) : NumW (TL.tl (nu i)) := by
  obtain ⟨h0, h1⟩ := id h
  rw [nu_tl h]
  refine ⟨List.length_pos_iff.mpr (TL.numL_ne _), TL.numL_len (by decide) (by omega), fun ⟨g1, g2⟩ => ?_⟩
  rcases Nat.eq_zero_or_pos i.toNat with z | z
  · rw [z] at g2
    exact g2 (by decide +kernel)
  · exact numL_head2 _ z g1
theorem numP_nu {i : Int} (h : NOk i) {r : List Nat} (hr : NoDig r) : numP (TL.tl (nu i) ++ r) = some (.int i, r) := by
  have hd : ∀ n ∈ TL.tl (nu i), n ∈ TL.tl "0123456789" := fun n hn => by
    rw [nu_tl h] at hn
    have := TL.numL_digits _ n hn
    rw [dig10]
    simp only [List.mem_cons, List.not_mem_nil, or_false]
    omega
  have er : runL (TL.tl "0123456789") (TL.tl (nu i) ++ r) = (TL.tl (nu i)).length := run_cut hd hr
  unfold numP
  rw [er, List.take_left', List.drop_left', if_pos (num_w h)]
  · rw [nu_tl h, TL.numL_val, Int.toNat_of_nonneg h.1]
  · rfl
  · rfl
theorem codeP_s {s : Str} (h : Sgn s) {r : List Nat} : codeP (TL.tl s ++ 122 :: r) = some (.str s, r) := by
  have er : runL (TL.tl "0123456789ginasmtcehlujfyo") (TL.tl s ++ 122 :: r) = (TL.tl s).length := run_cut h fun c hc => by
    cases hc
    decide +kernel
  unfold codeP
  have e1 : (TL.tl s ++ 122 :: r).drop ((TL.tl s).length + 1) = r := by
    rw [← List.drop_drop, List.drop_left' rfl]
    rfl
  have e2 : (TL.tl s ++ 122 :: r)[(TL.tl s).length]? = some 122 := by
    rw [List.getElem?_append_right (Nat.le_refl _), Nat.sub_self]
    rfl
  rw [er, if_pos e2, List.take_left' rfl, e1]
theorem partP_nu {m : Nat} (hm : m ≠ 122) {i : Int} (h : NOk i) {r : List Nat} (hr : NoDig r) : partP m (m :: (TL.tl (nu i) ++ r)) = some (.int i, r) := by
  rw [partP, if_pos rfl, if_neg hm]
  exact numP_nu h hr
theorem partP_s {s : Str} (h : Sgn s) {r : List Nat} : partP 122 (122 :: (TL.tl s ++ 122 :: r)) = some (.str s, r) := by
  rw [partP, if_pos rfl, if_pos rfl]
  exact codeP_s h
theorem noDig_cons {c : Nat} {r : List Nat} (h : c ∉ TL.tl "0123456789") : NoDig (c :: r) := fun d hd => by
  cases hd
  exact h
theorem partsP_step {m : Nat} {ms l : List Nat} {v : V} {r : List Nat} {us : List V} {q : List Nat} (h1 : partP m l = some (v, r)) (h2 : partsP ms r = some (us, q)) : partsP (m :: ms) l = some (v :: us, q) := by
  rw [partsP, h1]
  dsimp only
  rw [h2]
theorem partsP_end (r : List Nat) : partsP [] r = some ([], r) := rfl
theorem cmdP_txt {x : Cm} (h : x.right) {r : List Nat} (hr : NoDig r) : cmdP (TL.tl x.txt ++ r) = some (x, r) := by
  cases x with
  | p a b c =>
    obtain ⟨o1, o2, o3⟩ := h
    have e : TL.tl (Cm.p a b c).txt ++ r = 112 :: (TL.tl (nu a) ++ 113 :: (TL.tl (nu b) ++ 114 :: (TL.tl (nu c) ++ r))) := by
      show TL.tl ("p" ++ nu a ++ "q" ++ nu b ++ "r" ++ nu c) ++ r = _
      simp only [TL.tl_append, List.append_assoc]
      rfl
    have hp := partsP_step (partP_nu (m := 112) (by decide) o1 (noDig_cons (by decide +kernel))) (partsP_step (partP_nu (m := 113) (by decide) o2 (noDig_cons (by decide +kernel))) (partsP_step (partP_nu (m := 114) (by decide) o3 hr) (partsP_end r)))
    have hk : ckOf 112 = some [112, 113, 114] := rfl
    rw [e, cmdP, hk]
    dsimp only
    rw [hp]
    rfl
  | w a b =>
    obtain ⟨o1, o2⟩ := h
    have e : TL.tl (Cm.w a b).txt ++ r = 119 :: (TL.tl (nu a) ++ 120 :: (TL.tl (nu b) ++ r)) := by
      show TL.tl ("w" ++ nu a ++ "x" ++ nu b) ++ r = _
      simp only [TL.tl_append, List.append_assoc]
      rfl
    have hp := partsP_step (partP_nu (m := 119) (by decide) o1 (noDig_cons (by decide +kernel))) (partsP_step (partP_nu (m := 120) (by decide) o2 hr) (partsP_end r))
    have hk : ckOf 119 = some [119, 120] := rfl
    rw [e, cmdP, hk]
    dsimp only
    rw [hp]
    rfl
  | k a b c =>
    obtain ⟨o1, o2, o3⟩ := h
    have e : TL.tl (Cm.k a b c).txt ++ r = 107 :: (TL.tl (nu a) ++ 98 :: (TL.tl (nu b) ++ 118 :: (TL.tl (nu c) ++ r))) := by
      show TL.tl ("k" ++ nu a ++ "b" ++ nu b ++ "v" ++ nu c) ++ r = _
      simp only [TL.tl_append, List.append_assoc]
      rfl
    have hp := partsP_step (partP_nu (m := 107) (by decide) o1 (noDig_cons (by decide +kernel))) (partsP_step (partP_nu (m := 98) (by decide) o2 (noDig_cons (by decide +kernel))) (partsP_step (partP_nu (m := 118) (by decide) o3 hr) (partsP_end r)))
    have hk : ckOf 107 = some [107, 98, 118] := rfl
    rw [e, cmdP, hk]
    dsimp only
    rw [hp]
    rfl
  | d a s =>
    obtain ⟨o1, o2⟩ := h
    have e : TL.tl (Cm.d a s).txt ++ r = 100 :: (TL.tl (nu a) ++ 122 :: (TL.tl s ++ 122 :: r)) := by
      show TL.tl ("d" ++ nu a ++ "z" ++ s ++ "z") ++ r = _
      simp only [TL.tl_append, List.append_assoc]
      rfl
    have hp := partsP_step (partP_nu (m := 100) (by decide) o1 (noDig_cons (by decide +kernel))) (partsP_step (partP_s o2 (r := r)) (partsP_end r))
    have hk : ckOf 100 = some [100, 122] := rfl
    rw [e, cmdP, hk]
    dsimp only
    rw [hp]
    rfl
def cmdsP : Nat → List Nat → Option (List Cm)
  | _, [] => some []
  | 0, _ :: _ => none
  | n + 1, c :: r => match cmdP (c :: r) with
    | none => none
    | some (x, q) => match cmdsP n q with
      | none => none
      | some xs => some (x :: xs)
def cmdsOf (z : Str) : List Cm := (cmdsP z.length (TL.tl z)).getD []
def catL (xs : List Cm) : List Nat := (xs.map fun c => TL.tl c.txt).flatten
theorem tl_cat : ∀ xs : List Cm, TL.tl (cat xs) = catL xs := fun xs => by
  have h : ∀ (xs : List Cm) (z : Str), TL.tl (xs.foldl (fun z c => z ++ c.txt) z) = TL.tl z ++ catL xs := fun xs => by
    induction xs with
    | nil => intro z; simp [catL]
    | cons c xs ih =>
      intro z
      rw [List.foldl_cons, ih, TL.tl_append]
      simp [catL, List.append_assoc]
  have := h xs Str.empty
  have e : TL.tl Str.empty = [] := rfl
  rw [e, List.nil_append] at this
  exact this
theorem cmdsP_ok : ∀ (n : Nat) (l : List Nat) (xs : List Cm), cmdsP n l = some xs → catL xs = l ∧ ∀ x ∈ xs, x.right
  | n, [], xs, h => by
    have : xs = [] := by cases n <;> (cases h; rfl)
    subst this
    exact ⟨rfl, fun x hx => absurd hx List.not_mem_nil⟩
  | 0, c :: r, xs, h => by cases h
  | n + 1, c :: r, xs, h => by
    rw [cmdsP] at h
    split at h
    · cases h
    · rename_i x q hx
      split at h
      · cases h
      · rename_i ys hy
        cases h
        obtain ⟨e1, g1⟩ := cmdP_ok hx
        obtain ⟨e2, g2⟩ := cmdsP_ok n q ys hy
        refine ⟨?_, fun y hy => ?_⟩
        · rw [← e1, ← e2]
          simp [catL]
        · rcases List.mem_cons.mp hy with rfl | hy
          · exact g1
          · exact g2 y hy
theorem txt_first (x : Cm) : ∃ c r, TL.tl x.txt = c :: r ∧ c ∉ TL.tl "0123456789" := by
  cases x with
  | p a b c => exact ⟨112, _, by show TL.tl ("p" ++ nu a ++ "q" ++ nu b ++ "r" ++ nu c) = _; simp only [TL.tl_append, List.append_assoc]; rfl, by decide +kernel⟩
  | w a b => exact ⟨119, _, by show TL.tl ("w" ++ nu a ++ "x" ++ nu b) = _; simp only [TL.tl_append, List.append_assoc]; rfl, by decide +kernel⟩
  | k a b c => exact ⟨107, _, by show TL.tl ("k" ++ nu a ++ "b" ++ nu b ++ "v" ++ nu c) = _; simp only [TL.tl_append, List.append_assoc]; rfl, by decide +kernel⟩
  | d a s => exact ⟨100, _, by show TL.tl ("d" ++ nu a ++ "z" ++ s ++ "z") = _; simp only [TL.tl_append, List.append_assoc]; rfl, by decide +kernel⟩
theorem catL_cons (x : Cm) (xs : List Cm) : catL (x :: xs) = TL.tl x.txt ++ catL xs := by simp [catL]
theorem catL_noDig : ∀ xs : List Cm, NoDig (catL xs)
  | [] => fun c h => by cases h
  | x :: xs => by
    obtain ⟨c, r, e, h⟩ := txt_first x
    rw [catL_cons, e]
    exact noDig_cons h
theorem cmdsP_cat : ∀ (xs : List Cm) (n : Nat), (∀ x ∈ xs, x.right) → xs.length ≤ n → cmdsP n (catL xs) = some xs
  | [], n, _, _ => by cases n <;> rfl
  | x :: xs, 0, _, h => by simp at h
  | x :: xs, n + 1, g, h => by
    have ih := cmdsP_cat xs n (fun y hy => g y (List.mem_cons_of_mem _ hy)) (by simpa using h)
    have hx := cmdP_txt (g x List.mem_cons_self) (catL_noDig xs)
    obtain ⟨c, r, e, _⟩ := txt_first x
    rw [catL_cons]
    rw [e, List.cons_append] at hx ⊢
    rw [cmdsP, hx]
    dsimp only
    rw [ih]
theorem cat_long : ∀ xs : List Cm, xs.length ≤ (catL xs).length
  | [] => Nat.le_refl _
  | x :: xs => by
    have := cat_long xs
    obtain ⟨c, r, e, _⟩ := txt_first x
    rw [catL_cons, List.length_append, e, List.length_cons, List.length_cons]
    omega
theorem cmdsOf_cat {xs : List Cm} (g : ∀ x ∈ xs, x.right) : cmdsOf (cat xs) = xs := by
  unfold cmdsOf
  rw [TL.len_tl, tl_cat, cmdsP_cat xs _ g (cat_long xs)]
  rfl
theorem cat_one (x : Cm) : cat [x] = x.txt := by
  refine TL.ext_tl ?_
  rw [tl_cat]
  simp [catL]
theorem cmdsOf_one {x : Cm} (g : x.right) : cmdsOf x.txt = [x] := by
  have := cmdsOf_cat (xs := [x]) fun y hy => by rw [List.mem_singleton.mp hy]; exact g
  rwa [cat_one] at this
theorem cmdsOf_right {z : Str} : ∀ x ∈ cmdsOf z, x.right := by
  unfold cmdsOf
  cases e : cmdsP z.length (TL.tl z) with
  | none => intro x hx; cases hx
  | some xs => exact (cmdsP_ok _ _ _ e).2
theorem cmdsOf_text {z : Str} : cmdsOf z = [] ∨ cat (cmdsOf z) = z := by
  unfold cmdsOf
  cases e : cmdsP z.length (TL.tl z) with
  | none => exact .inl rfl
  | some xs =>
    refine .inr (TL.ext_tl ?_)
    rw [tl_cat]
    exact (cmdsP_ok _ _ _ e).1
theorem cmdsOf_iff {x : Cm} : cmdsOf x.txt = [x] ↔ x.right := ⟨fun h => cmdsOf_right x (by rw [h]; exact List.mem_singleton.mpr rfl), cmdsOf_one⟩
theorem cmdsOf_long (z : Str) : (cmdsOf z).length ≤ z.length := by
  rcases cmdsOf_text (z := z) with h | h
  · rw [h]
    exact Nat.zero_le _
  · have := cat_long (cmdsOf z)
    rw [← tl_cat, h, ← TL.len_tl] at this
    exact this

def spReadC (C CE : Addr) : Sp := fun vs H Q E => ∃ (p : Addr) (z : Str) (i : Nat), vs = [.ref p] ∧ RdAt C H p z i ∧ z.length ≤ 1000 ∧ i < z.length ∧
  (∀ c q, cmdP ((TL.tl z).drop i) = some (c, q) → q = (TL.tl z).drop (i + c.txt.length) → i + c.txt.length ≤ z.length → ∀ t H', RdAt C H' p z (i + c.txt.length) → (∀ b o, b ≠ p → H b = some o → H' b = some o) → H t = none → CmAt H' t c → Q (.ref t) H') ∧
  (cmdP ((TL.tl z).drop i) = none → ∀ H', (∀ b o, b ≠ p → H b = some o → H' b = some o) → E (.ref CE) none H')
/-- what stands before each part, by its sign -/
def mksV (ms : List Nat) : List V := ms.map fun m => V.str ⟨#[m]⟩
theorem sign_ne {c d : Nat} (h : c ≠ d) : ((⟨#[c]⟩ : Str) == ⟨#[d]⟩) = false := beq_eq_false_iff_ne.mpr fun e => h (by simpa using e)
theorem marks_get (TE : TxtE P w K mg a) (c : Nat) : (ckOf c = none ∧ [(("p" : Str), a.M_MARKS_p), ("w", a.M_MARKS_w), ("d", a.M_MARKS_d), ("k", a.M_MARKS_k)].lookup ⟨#[c]⟩ = none) ∨
    ∃ ms M, ckOf c = some ms ∧ [(("p" : Str), a.M_MARKS_p), ("w", a.M_MARKS_w), ("d", a.M_MARKS_d), ("k", a.M_MARKS_k)].lookup ⟨#[c]⟩ = some M ∧ (∀ H, SqT K H M (mksV ms)) ∧ ms.length ≤ 3 := by
  by_cases h1 : c = 112
  · subst h1
    exact .inr ⟨_, _, rfl, rfl, fun H => TE.s_MARKS_p H, by decide⟩
  by_cases h2 : c = 119
  · subst h2
    exact .inr ⟨_, _, rfl, rfl, fun H => TE.s_MARKS_w H, by decide⟩
  by_cases h3 : c = 100
  · subst h3
    exact .inr ⟨_, _, rfl, rfl, fun H => TE.s_MARKS_d H, by decide⟩
  by_cases h4 : c = 107
  · subst h4
    exact .inr ⟨_, _, rfl, rfl, fun H => TE.s_MARKS_k H, by decide⟩
  refine .inl ⟨by rw [ckOf, if_neg h1, if_neg h2, if_neg h3, if_neg h4], ?_⟩
  show [((⟨#[112]⟩ : Str), a.M_MARKS_p), (⟨#[119]⟩, a.M_MARKS_w), (⟨#[100]⟩, a.M_MARKS_d), (⟨#[107]⟩, a.M_MARKS_k)].lookup ⟨#[c]⟩ = none
  simp only [List.lookup, sign_ne h1, sign_ne h2, sign_ne h3, sign_ne h4]
/-- what is to come, behind the parts read so far -/
def contP (us : List V) (o : Option (List V × List Nat)) : Option (List V × List Nat) := o.map fun x => (us ++ x.1, x.2)
theorem contP_step {us : List V} {m : Nat} {ms l : List Nat} {v : V} {r : List Nat} (h : partP m l = some (v, r)) : contP us (partsP (m :: ms) l) = contP (us ++ [v]) (partsP ms r) := by
  rw [partsP, h]
  dsimp only
  cases partsP ms r with
  | none => rfl
  | some x => simp [contP]
theorem ok_Reader_read_command (TE : TxtE P w K mg a) (T : Txt K mg a) : ∃ fd, FnOk P w K mg base (L2.CX P w) 3 a.d_Reader_read_command fd ["self"] (spReadC a.C_Reader a.C_BadCommand) ∧ Binds K fd ["self"] [] := by
  obtain ⟨fd, F, b⟩ := T.d_Reader_read_command.F
  obtain ⟨fd_Reader_skip, G_Reader_skip, b_Reader_skip⟩ := ok_Reader_skip (P := P) (w := w) (base := base) TE T
  obtain ⟨fd_Reader_read_code, G_Reader_read_code, b_Reader_read_code⟩ := ok_Reader_read_code (P := P) (w := w) (base := base) TE T
  obtain ⟨fd_Reader_read_number, G_Reader_read_number, b_Reader_read_number⟩ := ok_Reader_read_number (P := P) (w := w) (base := base) TE T
  refine ⟨fd, F.okX sc_Reader_read_command (fun vs H Q E h => ?_) (fun cdv A outer s H vs Q E hr h => ?_), b⟩
  · obtain ⟨_, _, _, rfl, _⟩ := h
    rfl
  · obtain ⟨p, z, i, rfl, ⟨dx, hp⟩, lz, li, k1, k2⟩ := h
    refine ⟨_, (pss_cons (ps_set (i := 1) sc_Reader_read_command.nd rfl (Or.inl rfl) (pe_ix ix_str (pe_fld (pv 0) rfl) (pe_fld (pv 0) rfl) (fun _ _ => rfl)))
      (pss_cons (ps_if (pt_cmpR op_notInKd (pv 1) (pe_glob (v := .ref a.P_MARKS) rfl TE.g_MARKS rfl) (by rfl))
      (pss_one (ps_raise rfl (takes_of rfl rfl rfl rfl) (pmk_own PySem.F.excBase_ValueError TE.x_BadCommand TE.g_BadCommand TE.kc_BadCommand (raises_own TE.b_BadCommand TE.t_BadCommand) rfl)))
      pss_nil)
      (pss_cons (ps_set (i := 2) sc_Reader_read_command.nd rfl (Or.inl rfl) (pe_lst pa_nil))
      (pss_cons (ps_for (passes_of rfl) rfl (pi_tup (pe_ix ix_kdict (pe_glob (v := .ref a.P_MARKS) rfl TE.g_MARKS rfl) (pv 1) (fun _ _ => rfl))) (pg_name (i := 3) sc_Reader_read_command.nd rfl (Or.inl rfl))
      (pss_cons (ps_expr (pe_meth (pv 0) T.cl_Reader T.me_Reader_skip G_Reader_skip (hr.mono (by decide)) b_Reader_skip .nil (L2.passes_call (W := fun c d _ H => E c d H) (E := E) (L2.takes_of rfl rfl rfl rfl) (fun _ _ _ _ h => h)) (pa_cons (pv 3) pa_nil)))
        (pss_cons (ps_set (i := 4) sc_Reader_read_command.nd rfl (Or.inl rfl) (pe_ifExp (pt_cmpR op_eq (pv 3) (pe_glob (v := (.str "z")) rfl T.c_CODE_END.choose_spec ⟨_, rfl⟩) (nomark _)) (pe_meth0 (pv 0) T.cl_Reader T.me_Reader_read_code G_Reader_read_code (hr.mono (by decide)) b_Reader_read_code .nil (L2.passes_call (W := fun c d _ H => E c d H) (E := E) (L2.takes_of rfl rfl rfl rfl) (fun _ _ _ _ h => h))) (pe_meth0 (pv 0) T.cl_Reader T.me_Reader_read_number G_Reader_read_number (hr.mono (by decide)) b_Reader_read_number .nil (L2.passes_call (W := fun c d _ H => E c d H) (E := E) (L2.takes_of rfl rfl rfl rfl) (fun _ _ _ _ h => h)))))
        (pss_one (ps_expr (pe_bm PySem.F.plainAttrs_list PySem.F.slot_list_append PySem.F.type_list_append mt_append (pv 2) (pa_cons (pv 4) pa_nil)))))))
      (pss_one (ps_ret (pe_tup (pa_cons (pv 1) (StX.pa_star (pv 2) pa_nil))))))))), ?_⟩
    walk_at "rs"
    refine ⟨p, _, dx, _, .str z, rfl, hp, T.cl_Reader, T.a_Reader_text, rfl, ?_⟩
    walk_at "rs"
    refine ⟨p, _, dx, _, .int (i : Int), rfl, hp, T.cl_Reader, T.a_Reader_at, rfl, ?_⟩
    walk_at "rs"
    obtain ⟨c, rest, ed⟩ : ∃ c rest, (TL.tl z).drop i = c :: rest := by
      cases e : (TL.tl z).drop i with
      | nil =>
        have := congrArg List.length e
        rw [List.length_drop, List.length_nil, ← TL.len_tl] at this
        omega
      | cons c rest => exact ⟨c, rest, rfl⟩
    have eg : (TL.tl z)[i]? = some c := by
      have : ((TL.tl z).drop i)[0]? = some c := by rw [ed]; rfl
      rw [List.getElem?_drop] at this
      simpa using this
    refine ⟨z, i, c, rfl, rfl, (by rw [sizeLine_eq]; omega), atI_nat eg, ?_⟩
    walk_at "rs"
    refine ⟨_, _, _, rfl, rfl, TE.tab_MARKS.has _, ?_⟩
    rcases marks_get TE c with ⟨hk, hm⟩ | ⟨ms, M, hk, hm, hM, lm⟩
    · have ex : cmdP ((TL.tl z).drop i) = none := by rw [ed, cmdP, hk]
      rw [hm]
      walk_at "rs"
      exact k2 ex H fun b o _ e => e
    have ex : ∀ vs q, partsP ms ((TL.tl z).drop i) = some (vs, q) → cmdP ((TL.tl z).drop i) = some (mkC c vs, q) := fun vs q e => by
      rw [ed] at e ⊢
      rw [cmdP, hk]
      dsimp only
      rw [e]
    have ex0 : partsP ms ((TL.tl z).drop i) = none → cmdP ((TL.tl z).drop i) = none := fun e => by
      rw [ed] at e ⊢
      rw [cmdP, hk]
      dsimp only
      rw [e]
    rw [hm]
    walk_at "rs"
    refine iteF ?_
    walk_at "rs"
    refine ⟨(by show 0 ≤ sizeLine; decide), fun L hL => ?_⟩
    have pL : p ≠ L := fun e => by rw [← e, hp] at hL; cases hL
    walk_at "rs"
    refine ⟨_, _, _, rfl, rfl, TE.tab_MARKS.get hm, ?_⟩
    refine ⟨_, rfl, ⟨_, hM _⟩, for_tup (K := K) (a := M) (xs := mksV ms) (fun n σ H2 => ∃ (v3 v4 : Option V) (j : Nat) (us : List V), σ = [some (.ref p), some (.str ⟨#[c]⟩), some (.ref L), v3, v4] ∧ RdAt a.C_Reader H2 p z j ∧ j ≤ z.length ∧ H2 L = some (.lst us) ∧ us.length = n ∧
        (∀ b o, b ≠ p → H b = some o → H2 b = some o) ∧ partsP ms ((TL.tl z).drop i) = contP us (partsP (ms.drop n) ((TL.tl z).drop j)))
      ⟨none, none, i, [], rfl, ⟨dx, by rw [upd_ne pL]; exact hp⟩, Nat.le_of_lt li, upd_same, rfl, fun b o _ e => by rw [upd_ne (fun q => by rw [q, hL] at e; cases e)]; exact e, by
        rw [List.drop_zero]
        cases partsP ms ((TL.tl z).drop i) <;> rfl⟩ (fun _ _ _ _ _ => hM _) ?_ ?_⟩
    · rintro n y σ H2 hy ⟨v3, v4, j, us, rfl, ⟨dx2, hp2⟩, lj, hL2, lu, kp, er⟩
      obtain ⟨m, hm2, rfl⟩ : ∃ m, ms[n]? = some m ∧ y = V.str ⟨#[m]⟩ := by
        unfold mksV at hy
        rw [List.getElem?_map] at hy
        cases e : ms[n]? with
        | none => rw [e] at hy; cases hy
        | some m => rw [e] at hy; cases hy; exact ⟨m, rfl, rfl⟩
      have hn := (List.getElem?_eq_some_iff.mp hm2).1
      have em : ms.drop n = m :: ms.drop (n + 1) := by
        rw [List.drop_eq_getElem_cons hn, (List.getElem?_eq_some_iff.mp hm2).2]
      rw [em] at er
      have bad : partP m ((TL.tl z).drop j) = none → cmdP ((TL.tl z).drop i) = none := fun e => ex0 (by
        rw [er, partsP, e]
        rfl)
      walk_at "rs"
      refine ⟨p, dx2, _, rfl, hp2, rfl, ?_⟩
      walk_at "rs"
      refine ⟨p, z, m, j, rfl, ⟨dx2, hp2⟩, lz, lj, fun e H3 h3 kp3 => ?_, fun e => ?_⟩
      · have lj1 : j < z.length := by
          rw [TL.len_tl]
          exact (List.getElem?_eq_some_iff.mp e).1
        have ej : (TL.tl z).drop j = m :: (TL.tl z).drop (j + 1) := by
          rw [List.drop_eq_getElem_cons (by rw [← TL.len_tl]; exact lj1), (List.getElem?_eq_some_iff.mp e).2]
        rw [ej, partP, if_pos rfl] at bad
        obtain ⟨dx3, hp3⟩ := id h3
        have kp23 : ∀ b o, b ≠ p → H b = some o → H3 b = some o := fun b o q e => kp3 b o q (kp b o q e)
        walk_at "rs"
        have hL3 := kp3 _ _ (fun q => pL q.symm) hL2
        have partP_mk : ∀ {v : V} {r : List Nat}, (if m = 122 then codeP ((TL.tl z).drop (j + 1)) else numP ((TL.tl z).drop (j + 1))) = some (v, r) → partP m ((TL.tl z).drop j) = some (v, r) := fun q => by
          rw [ej, partP, if_pos rfl]
          exact q
        refine ite2 (fun c1 => ?_) (fun c1 => ?_)
        · have c1 : m = 122 := by
            have := of_decide_eq_true c1
            have z122 : (Str.ofString "z") = ⟨#[122]⟩ := rfl
            rw [z122] at this
            simpa using this
          rw [if_pos c1] at bad partP_mk
          have ec : codeP ((TL.tl z).drop (j + 1)) = if (TL.tl z)[j + 1 + (codeAt z (j + 1)).length]? = some 122 then some (.str ⟨(codeAt z (j + 1)).toArray⟩, (TL.tl z).drop (j + 1 + (codeAt z (j + 1)).length + 1)) else none := by
            unfold codeP
            rw [code_len, List.getElem?_drop, List.drop_drop]
            rfl
          walk_at "rs"
          refine ⟨p, dx3, _, rfl, hp3, rfl, ?_⟩
          walk_at "rs"
          refine ⟨p, z, j + 1, rfl, h3, lz, lj1, fun e H4 ⟨dx4, hp4⟩ kp4 => ?_, fun e H4 kp4 => ?_⟩
          · rw [if_pos e] at ec
            have hL4 := kp4 _ _ (fun q => pL q.symm) hL3
            have lj4 : j + 1 + (codeAt z (j + 1)).length + 1 ≤ z.length := by
              rw [TL.len_tl]
              exact (List.getElem?_eq_some_iff.mp e).1
            walk_at "rs"
            refine ⟨.inl ⟨rfl, _, SqL.of hL4⟩, ?_⟩
            walk_at "rs"
            refine ⟨L, _, _, rfl, rfl, hL4, small1000 (by omega), ?_⟩
            refine ⟨_, _, j + 1 + (codeAt z (j + 1)).length + 1, us ++ [V.str ⟨(codeAt z (j + 1)).toArray⟩], rfl, ⟨dx4, by rw [upd_ne pL]; exact hp4⟩, lj4, upd_same, by rw [List.length_append, lu]; rfl, fun b o q e => ?_, ?_⟩
            · rw [upd_ne (fun q => by rw [q, hL] at e; cases e)]
              exact kp4 b o q (kp23 b o q e)
            · rw [er, contP_step (partP_mk (ec))]
          · rw [if_neg e] at ec
            exact k2 (bad ec) H4 fun b o q e => kp4 b o q (kp23 b o q e)
        · have c1 : ¬ m = 122 := fun q => c1 (decide_eq_true (by rw [q]; rfl))
          rw [if_neg c1] at bad partP_mk
          have ec : numP ((TL.tl z).drop (j + 1)) = if NumW (digsAt z (j + 1)) then some (.int (NumText.digitsVal (digsAt z (j + 1)) : Nat), (TL.tl z).drop (j + 1 + (digsAt z (j + 1)).length)) else none := by
            unfold numP
            rw [digs_len, List.drop_drop]
            rfl
          walk_at "rs"
          refine ⟨p, dx3, _, rfl, hp3, rfl, ?_⟩
          walk_at "rs"
          refine ⟨p, z, j + 1, rfl, h3, lz, lj1, fun e H4 ⟨dx4, hp4⟩ kp4 => ?_, fun e H4 kp4 => ?_⟩
          · rw [if_pos e] at ec
            have hL4 := kp4 _ _ (fun q => pL q.symm) hL3
            have lj4 : j + 1 + (digsAt z (j + 1)).length ≤ z.length := by
              rw [digs_len]
              have := run_le (TL.tl "0123456789") ((TL.tl z).drop (j + 1))
              rw [List.length_drop, ← TL.len_tl] at this
              omega
            walk_at "rs"
            refine ⟨.inl ⟨rfl, _, SqL.of hL4⟩, ?_⟩
            walk_at "rs"
            refine ⟨L, _, _, rfl, rfl, hL4, small1000 (by omega), ?_⟩
            refine ⟨_, _, j + 1 + (digsAt z (j + 1)).length, us ++ [V.int (NumText.digitsVal (digsAt z (j + 1)) : Nat)], rfl, ⟨dx4, by rw [upd_ne pL]; exact hp4⟩, lj4, upd_same, by rw [List.length_append, lu]; rfl, fun b o q e => ?_, ?_⟩
            · rw [upd_ne (fun q => by rw [q, hL] at e; cases e)]
              exact kp4 b o q (kp23 b o q e)
            · rw [er, contP_step (partP_mk (ec))]
          · rw [if_neg e] at ec
            exact k2 (bad ec) H4 fun b o q e => kp4 b o q (kp23 b o q e)
      · refine k2 (bad ?_) H2 kp
        cases ed2 : (TL.tl z).drop j with
        | nil => rfl
        | cons d r =>
          rw [partP, if_neg]
          intro q
          refine e ?_
          have : ((TL.tl z).drop j)[0]? = some d := by rw [ed2]; rfl
          rw [List.getElem?_drop] at this
          rw [← q]
          simpa using this
    · rintro σ H2 ⟨v3, v4, j, us, rfl, ⟨dx2, hp2⟩, lj, hL2, lu, kp, er⟩
      have ln : (mksV ms).length = ms.length := List.length_map _
      rw [ln, List.drop_length] at er
      have er : partsP ms ((TL.tl z).drop i) = some (us ++ [], (TL.tl z).drop j) := er
      rw [List.append_nil] at er
      have em := ex _ _ er
      have hmk := mk_ok hk (by rw [← ed]; exact er)
      have et := hmk.2.2.1
      rw [← ed] at et
      have ej : j = i + (mkC c us).txt.length := by
        have := congrArg List.length et
        rw [List.length_append, List.length_drop, List.length_drop, ← TL.len_tl, ← TL.len_tl] at this
        omega
      walk_at "rs"
      refine ⟨L, us, rfl, .inr (SqL.of hL2), ?_⟩
      walk_at "rs"
      refine ⟨by rw [sizeLine_eq]; simp; omega, fun t ht => ?_⟩
      refine k1 _ _ em (by rw [ej]) (by omega) t _ ⟨dx2, ?_⟩ ?_ ?_ ?_
      · rw [upd_ne (fun q => by rw [← q, hp2] at ht; cases ht), ← ej]
        exact hp2
      · intro b o q e
        rw [upd_ne (fun q => by rw [← q, kp b o ‹_› e] at ht; cases ht)]
        exact kp b o q e
      · cases e : H t with
        | none => rfl
        | some o =>
          by_cases q : t = p
          · rw [q, hp2] at ht
            cases ht
          · rw [kp t o q e] at ht
            cases ht
      · show upd H2 t _ t = _
        rw [upd_same, hmk.1, hmk.2.1]
        simp

/-- o.m() within a try: what the method lets out is wished for at the slots -/
def tMethT0 (C : Addr) (m : Str) (sp : Sp) (E : L2.St → XK) (ta : TE) : TE := fun σ H Q => ta σ H fun x H1 => ∃ (j dx : Addr) (fs : List (Str × V)), x = V.ref j ∧ H1 j = some (HO.ins C dx fs) ∧ fs.lookup m = Option.none ∧ sp [x] H1 Q (E σ)
theorem pe_methT0 {X : Cx} {CX : CXT} {k : Nat} {f C : Addr} {fd : FuncData} {ps : List Str} {sp : Sp} {E : L2.St → XK} {m : Str} {apos pos : Pos} {o : Expr} {ta : TE} {pl : Sem Bool} (he : PE X o ta) (c : L2.Cls X.K C) (hm : L2.Meth X.K C m f) (F : FnOk X.prog X.w X.K X.mg X.base CX k f fd ps sp)
    (hr : Room k X.A) (hb : Binds X.K fd ps []) (hx : ∀ σ, PassesAt CX X σ (E σ))
    (text : eval (.Call (.Attribute o m apos) [] [] pos) X.env = (do let ov ← eval o X.env; standAt apos.atName; let (f, first) ← holding [ov] (getMethod ov m pl); callWith pos f first (backTo pos (starEach [] X.env)) (backToKw pos (keywordEach [] X.env))) := by rfl) :
    PE X (.Call (.Attribute o m apos) [] [] pos) (tMethT0 C m sp E ta) := by
  constructor
  intro pins s σ H Q I hyp
  refine PySem.W.methodCall_KW (pl := pl) (thn (he.run pins s σ H _ I hyp) fun u s1 got => ?_) text
  obtain ⟨x, H1, I1, rx, j, dx, fs, ex, ej, nf, q⟩ := got
  subst ex
  have eu : u = Value.ref j := rx
  subst eu
  refine getmeth_ok I1 ej c hm nf ?_
  exact PySem.W.callWith_K0 (first := [Value.ref j]) I1.kIn hm.kp (run_fnS (us := [Value.ref j]) (vs := [V.ref j]) F hr hb (hx σ) I1 (.cons rfl .nil) q)

def spCof (K : PySem.W.Frag) : Sp := fun vs H Q _ => ∃ z : Str, vs = [.str z] ∧ z.length ≤ 1000 ∧ ∀ (q : Addr) (ps : List Addr) H', Same H H' → H q = none → H' q = some (.lst (ps.map V.ref)) → CmsAt H' ps (cmdsOf z) → Q (.ref q) H'
theorem CmsAt.snoc {H : Hp} {ps : List Addr} {cs : List Cm} {p : Addr} {c : Cm} (h : CmsAt H ps cs) (e : CmAt H p c) : CmsAt H (ps ++ [p]) (cs ++ [c]) := by
  refine ⟨by rw [List.length_append, List.length_append, h.1]; rfl, fun i hi => ?_⟩
  rw [List.length_append, List.length_singleton] at hi
  rw [List.getD_eq_getElem?_getD, List.getD_eq_getElem?_getD]
  rcases Nat.lt_or_ge i cs.length with z | z
  · rw [List.getElem?_append_left (by rw [h.1]; exact z), List.getElem?_append_left z, ← List.getD_eq_getElem?_getD, ← List.getD_eq_getElem?_getD]
    exact h.2 i z
  · have ei : i = cs.length := by omega
    rw [ei, List.getElem?_append_right (Nat.le_of_eq h.1), List.getElem?_append_right (Nat.le_refl _), h.1, Nat.sub_self]
    exact e
theorem ok_commands_of (TE : TxtE P w K mg a) (T : Txt K mg a) : ∃ fd, FnOk P w K mg base CX0 4 a.d_commands_of fd ["block"] (spCof K) ∧ Binds K fd ["block"] [] := by
  obtain ⟨fd, F, b⟩ := T.d_commands_of.F
  obtain ⟨fd_Reader_init, G_Reader_init, b_Reader_init⟩ := ok_Reader_init (P := P) (w := w) (base := base) T
  obtain ⟨fd_Reader_read_command, G_Reader_read_command, b_Reader_read_command⟩ := ok_Reader_read_command (P := P) (w := w) (base := base) TE T
  refine ⟨fd, F.ok sc_commands_of (fun vs H Q E h => ?_) (fun cdv A outer s H vs Q E hr h => ?_), b⟩
  · obtain ⟨_, rfl, _⟩ := h
    rfl
  · obtain ⟨z, rfl, lz, k⟩ := h
    refine ⟨_, (pss_cons (ps_set (i := 1) sc_commands_of.nd rfl (Or.inl rfl) (pe_make T.m_Reader G_Reader_init (hr.mono (by decide)) (by rfl) T.g_Reader b_Reader_init .nil pass0 (pa_cons (pv 0) pa_nil)))
      (pss_cons (ps_set (i := 2) sc_commands_of.nd rfl (Or.inl rfl) (pe_lst pa_nil))
      (pss_cons (ps_try_only rfl rfl ⟨rfl, by decide, .inl TE.g_BadCommand⟩ takes0 (fun W pn xe tk po => (pss_one (ps_while po (pt_cmpR op_lt (pe_fldK (K := K) rfl (pv 1) rfl) (pe_callB call_len_str (by rfl) T.n_len PySem.boot_len (pa_cons (pv 0) pa_nil)) (nomark _)) (pss_one (ps_expr (pe_bmK (K := K) rfl PySem.F.plainAttrs_list PySem.F.slot_list_append PySem.F.type_list_append mt_append (pv 2) (pa_cons (pe_methT0 (pv 1) T.cl_Reader T.me_Reader_read_command G_Reader_read_command (hr.mono (by decide)) b_Reader_read_command (E := fun σ cls d H => W cls d σ H) (fun σ => passAt tk σ)) pa_nil))))))) (fun ae oe cls d pn hz hf => (pss_one (ps_ret (pe_lst pa_nil)))))
      (pss_one (ps_ret (pv 2)))))), ?_⟩
    walk_at "rs"
    intro rd dx hrd hdx ndx
    refine ⟨rd, dx, z, rfl, upd_same, fun H1 h1 keep => ?_⟩
    have s1 : Same H H1 := fun b o e => keep b o (fun q => by rw [q, hrd] at e; cases e) (by rw [upd_ne (fun q => by rw [q, hrd] at e; cases e), upd_ne (fun q => by rw [q, hdx] at e; cases e)]; exact e)
    refine ⟨rfl, ?_⟩
    clear keep
    walk_at "rs"
    refine ⟨(by show 0 ≤ sizeLine; decide), fun L hL => ?_⟩
    have hL0 := s1.free hL
    have rL : rd ≠ L := fun e => by
      obtain ⟨d, h⟩ := h1
      rw [e, hL] at h
      cases h
    have s2 := same_new (o := .lst []) hL
    walk_at "rs"
    refine ⟨fun m σ H2 => ∃ (j n : Nat) (ps : List Addr) (cs : List Cm), m = z.length - j ∧ σ = [some (.str z), some (.ref rd), some (.ref L)] ∧ RdAt a.C_Reader H2 rd z j ∧ j ≤ z.length ∧ H2 L = some (.lst (ps.map V.ref)) ∧ CmsAt H2 ps cs ∧ Same H H2 ∧ z.length - j ≤ n ∧ cs.length ≤ j ∧
        cmdsP z.length (TL.tl z) = (cmdsP n ((TL.tl z).drop j)).map (cs ++ ·),
      ⟨_, 0, z.length, [], [], rfl, rfl, h1.elim fun d h => ⟨d, by rw [upd_ne rL]; exact h⟩, Nat.zero_le _, upd_same, ⟨rfl, fun i hi => absurd hi (Nat.not_lt_zero i)⟩, s1.trans s2, Nat.le_of_eq (Nat.sub_zero _), Nat.le_refl _, by
        rw [List.drop_zero]
        cases cmdsP z.length (TL.tl z) <;> rfl⟩, ?_⟩
    clear s2 h1
    rintro m σ H2 ⟨j, n, ps, cs, rfl, rfl, ⟨dx2, h2⟩, lj, hL2, hc, s2, ln, lcs, er⟩
    walk_at "rs"
    refine ⟨rd, _, dx2, _, .int (j : Int), rfl, h2, T.cl_Reader, T.a_Reader_at, rfl, ?_⟩
    walk_at "rs"
    refine ⟨(by rw [sizeLine_eq]; omega), ?_⟩
    walk_at "rs"
    refine ite2 (fun c1 => ?_) (fun c1 => ?_)
    · have c1 : j < z.length := by
        have := of_decide_eq_true c1
        omega
      obtain ⟨n, rfl⟩ : ∃ k, n = k + 1 := ⟨n - 1, by omega⟩
      obtain ⟨d, rest, ed⟩ : ∃ c rest, (TL.tl z).drop j = c :: rest := by
        cases e : (TL.tl z).drop j with
        | nil =>
          have := congrArg List.length e
          rw [List.length_drop, List.length_nil, ← TL.len_tl] at this
          omega
        | cons c rest => exact ⟨c, rest, rfl⟩
      refine ⟨fun σ' H' => ∃ (t : Addr) (x : Cm) (q : List Nat), cmdP ((TL.tl z).drop j) = some (x, q) ∧ q = (TL.tl z).drop (j + x.txt.length) ∧ j + x.txt.length ≤ z.length ∧ σ' = [some (.str z), some (.ref rd), some (.ref L)] ∧ RdAt a.C_Reader H' rd z (j + x.txt.length) ∧ H' L = some (.lst ((ps ++ [t]).map V.ref)) ∧ CmsAt H' (ps ++ [t]) (cs ++ [x]) ∧ Same H H', ?_, ?_⟩
      · rintro σ' H' ⟨t, x, q, e1, e2, e3, rfl, h4, hL4, hc4, s4⟩
        have lx : 0 < x.txt.length := by
          obtain ⟨c, r, e, _⟩ := txt_first x
          rw [TL.len_tl, e]
          exact Nat.succ_pos _
        refine ⟨z.length - (j + x.txt.length), by omega, j + x.txt.length, n, ps ++ [t], cs ++ [x], rfl, rfl, h4, e3, hL4, hc4, s4, by omega, by rw [List.length_append]; show cs.length + 1 ≤ _; omega, ?_⟩
        rw [er, ← e2]
        rw [ed] at e1 ⊢
        rw [cmdsP, e1]
        dsimp only
        cases cmdsP n q with
        | none => rfl
        | some xs => simp
      walk_at "rs"
      refine ⟨.inl ⟨rfl, _, SqL.of hL2⟩, ?_⟩
      walk_at "rs"
      refine ⟨rd, dx2, _, rfl, h2, rfl, ?_⟩
      have Lr : L ≠ rd := fun e => rL e.symm
      refine ⟨rd, z, j, rfl, ⟨dx2, h2⟩, lz, c1, fun x q e1 e2 e3 t H4 h4 kp ht ct => ?_, fun e H4 kp => ?_⟩
      · have s4 : Same H H4 := fun b o e => kp b o (fun q => by rw [q, hrd] at e; cases e) (s2 b o e)
        have tL : t ≠ L := fun e => by rw [e, hL2] at ht; cases ht
        walk_at "rs"
        refine ⟨L, _, _, rfl, rfl, kp _ _ Lr hL2, by rw [List.length_map, hc.1]; exact small1000 (by omega), ?_⟩
        refine ⟨t, x, q, e1, e2, e3, rfl, ?_, by rw [upd_same, List.map_append]; rfl, ?_, same_upd s4 hL0⟩
        · obtain ⟨d4, h4⟩ := h4
          exact ⟨d4, by rw [upd_ne rL]; exact h4⟩
        · have hne : ∀ {b : Addr} {y : Cm}, CmAt H2 b y → b ≠ rd ∧ b ≠ L := fun {b y} h => by
            have h : H2 b = some (.tup _) := h
            constructor
            · intro e
              rw [e, h2] at h
              cases h
            · intro e
              rw [e, hL2] at h
              cases h
          refine CmsAt.snoc ⟨hc.1, fun i hi => ?_⟩ ?_
          · have h := hc.2 i hi
            obtain ⟨n1, n2⟩ := hne h
            show upd H4 L _ _ = _
            rw [upd_ne n2]
            exact kp _ _ n1 h
          · show upd H4 L _ _ = _
            rw [upd_ne tL]
            exact ct
      · have s4 : Same H H4 := fun b o e => kp b o (fun q => by rw [q, hrd] at e; cases e) (s2 b o e)
        have eall : cmdsOf z = [] := by
          unfold cmdsOf
          rw [er]
          rw [ed] at e ⊢
          rw [cmdsP, e]
          rfl
        refine ⟨true, TE.exm_BadCommand_BadCommand, fun _ ex hex => ?_, fun z => nomatch z⟩
        walk_at "rs"
        refine ⟨(by show 0 ≤ sizeLine; decide), fun R hR => ?_⟩
        refine k R [] _ (s4.trans (same_new hR)) (s4.free hR) upd_same ?_
        rw [eall]
        exact ⟨rfl, fun i hi => absurd hi (Nat.not_lt_zero i)⟩
    · have c1 : j = z.length := by
        have : ¬ j < z.length := fun h => c1 (decide_eq_true (by omega))
        omega
      have eall : cmdsOf z = cs := by
        unfold cmdsOf
        rw [er, List.drop_of_length_le (by rw [← TL.len_tl]; omega)]
        cases n <;> simp [cmdsP]
      walk_at "rs"
      exact k L ps H2 s2 hL0 hL2 (by rw [eall]; exact hc)

/-! ### a committee made of a tuple -/
theorem seqT_same {H H' : Hp} {b : Addr} {xs : List V} (e : Same H H') (h : SqT K H b xs) : SqT K H' b xs := by
  rcases h with (h | ⟨o, h⟩) | h
  · exact .inl (.inl (e _ _ h))
  · exact .inl (.inr ⟨o, e _ _ h⟩)
  · exact .inr h
def spFirstT (K : PySem.W.Frag) : Sp := fun vs H Q _ => ∃ (p : Addr) (ws : List Int), vs = [.ref p] ∧ SqT K H p (ws.map V.int) ∧ GoodW ws ∧ ∀ H', Same H H' → Q .non H'
def spInitT (K : PySem.W.Frag) (C : Addr) : Sp := fun vs H Q _ => ∃ (p dx t : Addr) (ws : List Int), vs = [.ref p, .ref t] ∧ H p = some (.ins C dx []) ∧ H t = some (.tup (ws.map V.int)) ∧ GoodW ws ∧
  ∀ H' : Hp, CommAt C H' p ws → (∀ b o, H b = some o → b ≠ p → H' b = some o) → Q .non H'
theorem ok_first_wrongT (T : Txt K mg a) : ∃ fd, FnOk P w K mg base CX0 1 a.d_first_wrong fd ["weights"] (spFirstT K) ∧ Binds K fd ["weights"] [] := by
  obtain ⟨fd, F, b⟩ := T.d_first_wrong.F
  refine ⟨fd, F.ok sc_first_wrong (fun vs H Q E h => ?_) (fun cdv A outer s H vs Q E hr h => ?_), b⟩
  · obtain ⟨_, _, rfl, _⟩ := h
    rfl
  · obtain ⟨p, ws, rfl, hp, gw, k⟩ := h
    refine ⟨_, (pss_cons (ps_for PassesOwn.never rfl (pi_enumT (by rfl) T.n_enumerate (pa_cons (pv 0) pa_nil)) (pg_tup rfl (pgs_cons (pg_name (i := 1) sc_first_wrong.nd rfl (Or.inl rfl)) (pgs_cons (pg_name (i := 2) sc_first_wrong.nd rfl (Or.inl rfl)) pgs_nil)))
      (pss_one (ps_if (PW.pt (pw_or (pt_cmpR op_ge (pv 1) (pe_glob (v := (.int 16)) rfl T.c_MOST_MEMBERS.choose_spec ⟨_, rfl⟩) (nomark _)) (pw_or (pt_cmpR op_lt (pv 2) pe_int (nomark _)) (pw_or1 (pt_cmpR op_gt (pv 2) (pe_glob (v := (.int 1000000000000)) rfl T.c_MOST_WEIGHT.choose_spec ⟨_, rfl⟩) (nomark _))))))
        (pss_one (ps_ret (pv 1)))
        pss_nil)))
      (pss_cons (ps_if (pt_cmpR op_eq (pe_callB call_len_seq (by rfl) T.n_len PySem.boot_len (pa_cons (pv 0) pa_nil)) pe_int (nomark _))
      (pss_one (ps_ret pe_int))
      pss_nil)
      (pss_one (ps_ret pe_non)))), ?_⟩
    walk_at "rs"
    refine ⟨p, _, rfl, hp, ?_⟩
    refine for_enumT (K := K) (a := p) (ys := ws.map V.int) (fun i σ H2 => ∃ v1 v2 : Option V, σ = [some (.ref p), v1, v2] ∧ Same H H2) ⟨_, _, rfl, Same.refl H⟩ (fun i σ H2 _ ⟨_, _, _, s2⟩ => seqT_same s2 hp) ?_ ?_
    · rintro i y σ H2 q hy ⟨v1, v2, rfl, s2⟩ hq
      have hi : i < ws.length := by
        have e := (List.getElem?_eq_some_iff.mp hy).1
        rwa [List.length_map] at e
      rw [at_ints hi] at hy
      cases hy
      have g1 := gw.2.2 _ (getD_mem hi)
      have g2 := gw.2.1
      walk_at "rs"
      refine ⟨q, _, rfl, SqT.of upd_same, rfl, ?_⟩
      refine ⟨_, _, rfl, _, _, rfl, rfl, ?_⟩
      walk_at "rs"
      refine ite2 (fun c1 => ?_) (fun c1 => ?_)
      · exfalso
        have := of_decide_eq_true c1
        omega
      walk_at "rs"
      refine ite2 (fun c2 => ?_) (fun c2 => ?_)
      · exfalso
        have := of_decide_eq_true c2
        omega
      walk_at "rs"
      refine ite2 (fun c3 => ?_) (fun c3 => ?_)
      · exfalso
        have := of_decide_eq_true c3
        omega
      exact ⟨_, _, rfl, same_upd s2 (s2.free hq)⟩
    · rintro σ H2 ⟨v1, v2, rfl, s2⟩
      walk_at "rs"
      refine ⟨p, _, rfl, .inr (seqT_same s2 hp), ?_⟩
      walk_at "rs"
      refine ite2 (fun c1 => ?_) (fun c1 => ?_)
      · exfalso
        have g0 := gw.1
        simp at c1
        simp [c1] at g0
      exact k H2 s2
theorem ok_Committee_initT (T : Txt K mg a) : ∃ fd, FnOk P w K mg base CX0 2 a.d_Committee_init fd ["self", "weights"] (spInitT K a.C_Committee) ∧ Binds K fd ["self", "weights"] [] := by
  obtain ⟨fd, F, b⟩ := T.d_Committee_init.F
  obtain ⟨fd_first_wrong, G_first_wrong, b_first_wrong⟩ := ok_first_wrongT (P := P) (w := w) (base := base) T
  refine ⟨fd, F.ok sc_Committee_init (fun vs H Q E h => ?_) (fun cdv A outer s H vs Q E hr h => ?_), b⟩
  · obtain ⟨_, _, _, _, rfl, _⟩ := h
    rfl
  · obtain ⟨p, dx, t, ws, rfl, hp, ht, gw, k⟩ := h
    refine ⟨_, (pss_cons (ps_set (i := 2) sc_Committee_init.nd rfl (Or.inl rfl) (pe_call G_first_wrong (hr.mono (by decide)) rfl T.d_first_wrong.g T.d_first_wrong.kp b_first_wrong .nil pass0 (pa_cons (pv 1) pa_nil)))
      (pss_cons (ps_if (pt_cmpR op_notN (pv 2) pe_non (nomark _))
      (pss_one ps_never)
      pss_nil)
      (pss_cons (ps_fld (pv 0) (pe_callTy call_tuple_of (by rfl) T.n_tuple (by decide +kernel) (pa_cons (pv 1) pa_nil)) rfl)
      (pss_cons (ps_fld (pv 0) (pe_callB call_len_seq (by rfl) T.n_len PySem.boot_len (pa_cons (pe_fld (pv 0) rfl) pa_nil)) rfl)
      (pss_one (ps_fld (pv 0) (pe_callB (cr_sumT rfl) (by rfl) T.n_sum (by decide +kernel) (pa_cons (pe_fld (pv 0) rfl) pa_nil)) rfl)))))), ?_⟩
    walk_at "rs"
    refine ⟨t, ws, rfl, SqT.of ht, gw, fun H1 s1 => ?_⟩
    walk_at "rs"
    have hp1 := s1 _ _ hp
    have ht1 := s1 _ _ ht
    refine ⟨t, _, rfl, .inr ⟨SqT.of ht1, ?_⟩⟩
    have npt : p ≠ t := fun e => by rw [e, ht] at hp; cases hp
    walk_at "rs"
    refine ⟨p, _, dx, [], rfl, hp1, T.cl_Committee, T.a_Committee_weights, (by show 0 < 1000; decide), ?_⟩
    have ht3 : ∀ o : HO, (upd H1 p o) t = some (.tup (ws.map V.int)) := fun o => by rw [upd_ne npt.symm]; exact ht1
    walk_at "rs"
    refine ⟨p, _, dx, _, .ref t, rfl, upd_same, T.cl_Committee, T.a_Committee_weights, by rw [lookup_putF, if_pos rfl], ?_⟩
    walk_at "rs"
    refine ⟨t, _, rfl, .inr (SqT.of (ht3 _)), ?_⟩
    walk_at "rs"
    refine ⟨p, _, dx, _, rfl, upd_same, T.cl_Committee, T.a_Committee_size, (by show 1 < 1000; decide), ?_⟩
    rw [upd_upd]
    walk_at "rs"
    refine ⟨p, _, dx, _, .ref t, rfl, upd_same, T.cl_Committee, T.a_Committee_weights, by rw [lookup_putF, if_neg ne_ws, lookup_putF, if_pos rfl], ?_⟩
    walk_at "rs"
    refine ⟨t, ws, rfl, SqT.of (ht3 _), ?_⟩
    walk_at "rs"
    refine ⟨p, _, dx, _, rfl, upd_same, T.cl_Committee, T.a_Committee_total, (Nat.lt_of_le_of_lt (length_putF _ _ _) (Nat.lt_of_le_of_lt (Nat.add_le_add_right (length_putF _ _ _) 1) (by show 2 < 1000; decide))), ?_⟩
    rw [upd_upd, List.length_map]
    exact k _ ⟨dx, t, upd_same, ht3 _⟩ fun b o e hb => by
      rw [upd_ne hb]
      exact s1 _ _ e

/-! ### ledgers that stay -/
def LdAt (C : Addr) (H : Hp) (p t : Addr) : Prop := ∃ dx c2 c3, H p = some (.ins C dx [("balances", .ref t), ("codes", c2), ("stores", c3)])
theorem LdAt.same {C : Addr} {H H' : Hp} {p t : Addr} (h : LdAt C H p t) (s : Same H H') : LdAt C H' p t := by
  obtain ⟨dx, c2, c3, h⟩ := h
  exact ⟨dx, c2, c3, s _ _ h⟩
def spLInit (C : Addr) : Sp := fun vs H Q _ => ∃ (p dx : Addr) (v1 v2 v3 : V), vs = [.ref p, v1, v2, v3] ∧ H p = some (.ins C dx []) ∧
  ∀ H', H' p = some (.ins C dx [("balances", v1), ("codes", v2), ("stores", v3)]) → (∀ b o, b ≠ p → H b = some o → H' b = some o) → Q .non H'
theorem ok_Ledger_init (T : Txt K mg a) : ∃ fd, FnOk P w K mg base CX0 1 a.d_Ledger_init fd ["self", "balances", "codes", "stores"] (spLInit a.C_Ledger) ∧ Binds K fd ["self", "balances", "codes", "stores"] [] := by
  obtain ⟨fd, F, b⟩ := T.d_Ledger_init.F
  refine ⟨fd, F.ok sc_Ledger_init (fun vs H Q E h => ?_) (fun cdv A outer s H vs Q E hr h => ?_), b⟩
  · obtain ⟨_, _, _, _, _, rfl, _⟩ := h
    rfl
  · obtain ⟨p, dx, v1, v2, v3, rfl, hp, k⟩ := h
    refine ⟨_, (pss_cons (ps_fld (pv 0) (pv 1) rfl)
      (pss_cons (ps_fld (pv 0) (pv 2) rfl)
      (pss_one (ps_fld (pv 0) (pv 3) rfl)))), ?_⟩
    walk_at "rs"
    refine ⟨p, _, dx, [], rfl, hp, T.cl_Ledger, T.a_Ledger_balances, (by show 0 < 1000; decide), ?_⟩
    walk_at "rs"
    refine ⟨p, _, dx, _, rfl, upd_same, T.cl_Ledger, T.a_Ledger_codes, (by show 1 < 1000; decide), ?_⟩
    rw [upd_upd]
    walk_at "rs"
    refine ⟨p, _, dx, _, rfl, upd_same, T.cl_Ledger, T.a_Ledger_stores, (by show 2 < 1000; decide), ?_⟩
    rw [upd_upd]
    refine k _ ?_ (fun b o n e => by rw [upd_ne n]; exact e)
    rw [upd_same]
    rfl
def spFirstL (K : PySem.W.Frag) (C : Addr) : Sp := fun vs H Q _ => ∃ (g : Addr) (x y : Int), vs = [.ref g] ∧ SqL K H g [] ∧
  ∀ p t H', Same H H' → H p = none → LdAt C H' p t → H' t = some (.tup []) → Q (.ref p) H'
theorem ok_first_ledger (T : Txt K mg a) : ∃ fd, FnOk P w K mg base CX0 3 a.d_first_ledger fd ["grants"] (spFirstL K a.C_Ledger) ∧ Binds K fd ["grants"] [] := by
  obtain ⟨fd, F, b⟩ := T.d_first_ledger.F
  obtain ⟨fd_Ledger_init, G_Ledger_init, b_Ledger_init⟩ := ok_Ledger_init (P := P) (w := w) (base := base) T
  refine ⟨fd, F.ok sc_first_ledger (fun vs H Q E h => ?_) (fun cdv A outer s H vs Q E hr h => ?_), b⟩
  · obtain ⟨_, _, _, rfl, _⟩ := h
    rfl
  · obtain ⟨g, x, y, rfl, hg, k⟩ := h
    refine ⟨_, (pss_cons (ps_set (i := 1) sc_first_ledger.nd rfl (Or.inl rfl) (pe_callTy call_tuple_of (by rfl) T.n_tuple (by decide +kernel) (pa_cons (pv 0) pa_nil)))
      (pss_one (ps_ret (pe_make T.m_Ledger G_Ledger_init (hr.mono (by decide)) (by rfl) T.g_Ledger b_Ledger_init .nil pass0 (pa_cons (pv 1) (pa_cons (pe_op op_repT0 (pe_tup (pa_cons pe_str pa_nil)) (pe_callB call_len_seq (by rfl) T.n_len PySem.boot_len (pa_cons (pv 1) pa_nil))) (pa_cons (pe_op op_repT0 (pe_tup (pa_cons (pe_tup pa_nil) pa_nil)) (pe_callB call_len_seq (by rfl) T.n_len PySem.boot_len (pa_cons (pv 1) pa_nil))) pa_nil))))))), ?_⟩
    walk_at "rs"
    refine ⟨g, _, rfl, .inl ⟨hg, fun t ht => ?_⟩⟩
    have s1 := same_new (o := .tup []) ht
    have ht1 : (upd H t (.tup [])) t = some (.tup []) := upd_same
    generalize upd H t (.tup []) = H1 at s1 ht1 ⊢
    walk_at "rs"
    refine ⟨(by show 1 ≤ sizeLine; decide), fun q1 hq1 => ?_⟩
    have s2 := same_new (o := .tup [V.str ""]) hq1
    have h2 : (upd H1 q1 (.tup [V.str ""])) q1 = some (.tup [V.str ""]) := upd_same
    generalize upd H1 q1 (.tup [V.str ""]) = H2 at s2 h2 ⊢
    walk_at "rs"
    refine ⟨t, _, rfl, .inr (SqT.of (s2 _ _ ht1)), ?_⟩
    refine ⟨q1, _, rfl, rfl, SqT.of h2, (fun e => nomatch e), fun q2 hq2 => ?_⟩
    have s3 := same_new (o := .tup []) hq2
    generalize upd H2 q2 (.tup []) = H3 at s3 ⊢
    walk_at "rs"
    refine ⟨(by show 0 ≤ sizeLine; decide), fun q3 hq3 => ?_⟩
    have s4 := same_new (o := .tup []) hq3
    generalize upd H3 q3 (.tup []) = H4 at s4 ⊢
    walk_at "rs"
    refine ⟨(by show 1 ≤ sizeLine; decide), fun q4 hq4 => ?_⟩
    have s5 := same_new (o := .tup [V.ref q3]) hq4
    have h5 : (upd H4 q4 (.tup [V.ref q3])) q4 = some (.tup [V.ref q3]) := upd_same
    generalize upd H4 q4 (.tup [V.ref q3]) = H5 at s5 h5 ⊢
    walk_at "rs"
    have s25 := s2.trans (s3.trans (s4.trans s5))
    refine ⟨t, _, rfl, .inr (SqT.of (s25 _ _ ht1)), ?_⟩
    refine ⟨q4, _, rfl, rfl, SqT.of h5, (fun e => nomatch e), fun q5 hq5 => ?_⟩
    have s6 := same_new (o := .tup []) hq5
    generalize upd H5 q5 (.tup []) = H6 at s6 ⊢
    have s16 := s1.trans (s25.trans s6)
    have ht6 := s6 _ _ (s25 _ _ ht1)
    walk_at "rs"
    intro p dx hp hdx ndx
    have hdx1 := same_new (o := .own p) hdx
    refine ⟨p, dx, _, _, _, rfl, upd_same, fun H7 h7 keep => ⟨rfl, ?_⟩⟩
    have s7 : Same H6 H7 := fun b o e => keep b o (fun q => by rw [q, hp] at e; cases e) (by rw [upd_ne (fun q => by rw [q, hp] at e; cases e), upd_ne (fun q => by rw [q, hdx] at e; cases e)]; exact e)
    exact k p t H7 (s16.trans s7) (s16.free hp) ⟨dx, _, _, h7⟩ (s7 _ _ ht6)
/-! ### chains -/
/-- what stands where in a chain -/
structure CnP where
  B : Addr
  R : Addr
  D : Addr
  L : Addr
/-- blocks, the addresses of receipts and committees, the weights, the ledgers -/
structure CnV where
  zs : List Str
  rs : List Addr
  ps : List Addr
  ws : List (List Int)
  ls : List Addr
structure CnAt (C1 C2 C3 : Addr) (H : Hp) (p : Addr) (q : CnP) (v : CnV) (x y : Int) : Prop where
  ins : ∃ dx, H p = some (.ins C1 dx [("blocks", .ref q.B), ("receipts", .ref q.R), ("committees", .ref q.D), ("ledgers", .ref q.L)])
  hB : H q.B = some (.lst (v.zs.map V.str))
  hR : H q.R = some (.lst (v.rs.map V.ref))
  hD : H q.D = some (.lst (v.ps.map V.ref))
  hL : H q.L = some (.lst (v.ls.map V.ref))
  nr : v.rs.length = v.zs.length
  np : v.ps.length = v.zs.length + 1
  nw : v.ws.length = v.zs.length + 1
  nl : v.ls.length = v.zs.length + 1
  ne1 : q.B ≠ q.R
  ne2 : q.B ≠ q.D
  ne3 : q.B ≠ q.L
  ne4 : q.R ≠ q.D
  ne5 : q.R ≠ q.L
  ne6 : q.D ≠ q.L
  cm : ∀ i, i < v.ws.length → CommAt C2 H (v.ps.getD i 0) (v.ws.getD i []) ∧ GoodW (v.ws.getD i [])
  ld : ∀ l ∈ v.ls, ∃ t, LdAt C3 H l t ∧ H t = some (.tup [])
theorem CnAt.same {C1 C2 C3 : Addr} {H H' : Hp} {p : Addr} {q : CnP} {v : CnV} {x y : Int} (c : CnAt C1 C2 C3 H p q v x y) (s : Same H H') : CnAt C1 C2 C3 H' p q v x y :=
  { c with
    ins := c.ins.elim fun d h => ⟨d, s _ _ h⟩
    hB := s _ _ c.hB
    hR := s _ _ c.hR
    hD := s _ _ c.hD
    hL := s _ _ c.hL
    cm := fun i hi => ⟨(c.cm i hi).1.same s, (c.cm i hi).2⟩
    ld := fun l hl => let ⟨t, h1, h2⟩ := c.ld l hl; ⟨t, h1.same s, s _ _ h2⟩ }
def But1 (p : Addr) (H H' : Hp) : Prop := ∀ b o, b ≠ p → H b = some o → H' b = some o
theorem But1.trans {p : Addr} {H H' H'' : Hp} (h : But1 p H H') (g : But1 p H' H'') : But1 p H H'' := fun b o n e => g b o n (h b o n e)
theorem But1.seq {p : Addr} {H H' : Hp} {C dx : Addr} {fs : List (Str × V)} {l : Addr} {xs : List V} (h : But1 p H H') (hp : H p = some (.ins C dx fs)) (s : SqL K H l xs) : SqL K H' l xs := by
  rcases s with (s | ⟨o, s⟩) | s
  · exact .inl (.inl (h _ _ (fun e => by rw [e, hp] at s; cases s) s))
  · exact .inl (.inr ⟨o, h _ _ (fun e => by rw [e, hp] at s; cases s) s⟩)
  · exact .inr s
theorem CommAt.but {C : Addr} {p : Addr} {H H' : Hp} {C1 dx : Addr} {fs : List (Str × V)} {c : Addr} {ws : List Int} (h : CommAt C H c ws) (k : But1 p H H') (n : c ≠ p) (hp : H p = some (.ins C1 dx fs)) : CommAt C H' c ws := by
  obtain ⟨d, t, h1, h2⟩ := h
  exact ⟨d, t, k _ _ n h1, k _ _ (fun e => by rw [e, hp] at h2; cases h2) h2⟩
def spCInit (K : PySem.W.Frag) (C1 C2 C3 : Addr) : Sp := fun vs H Q _ => ∃ (p dx l g : Addr) (ws : List Int) (x y : Int), vs = [.ref p, .ref l, .ref g] ∧ H p = some (.ins C1 dx []) ∧ SqL K H l (ws.map V.int) ∧ GoodW ws ∧ SqL K H g [] ∧
  ∀ q c d H', CnAt C1 C2 C3 H' p q ⟨[], [], [c], [ws], [d]⟩ x y → H q.B = none → H q.R = none → H q.D = none → H q.L = none → (∀ b o, b ≠ p → H b = some o → H' b = some o) → Q .non H'
theorem ok_Chain_init (T : Txt K mg a) : ∃ fd, FnOk P w K mg base CX0 4 a.d_Chain_init fd ["self", "weights", "grants"] (spCInit K a.C_Chain a.C_Committee a.C_Ledger) ∧ Binds K fd ["self", "weights", "grants"] [] := by
  obtain ⟨fd, F, b⟩ := T.d_Chain_init.F
  obtain ⟨fd_Committee_init, G_Committee_init, b_Committee_init⟩ := ok_Committee_init (P := P) (w := w) (base := base) T
  obtain ⟨fd_first_ledger, G_first_ledger, b_first_ledger⟩ := ok_first_ledger (P := P) (w := w) (base := base) T
  refine ⟨fd, F.ok sc_Chain_init (fun vs H Q E h => ?_) (fun cdv A outer s H vs Q E hr h => ?_), b⟩
  · obtain ⟨_, _, _, _, _, _, _, rfl, _⟩ := h
    rfl
  · obtain ⟨p, dx, l, g, ws, x, y, rfl, hp, hl, gw, hg, k⟩ := h
    refine ⟨_, (pss_cons (ps_fld (pv 0) (pe_lst pa_nil) rfl)
      (pss_cons (ps_fld (pv 0) (pe_lst pa_nil) rfl)
      (pss_cons (ps_fld (pv 0) (pe_lst (pa_cons (pe_make T.m_Committee G_Committee_init (hr.mono (by decide)) (by rfl) T.g_Committee b_Committee_init .nil pass0 (pa_cons (pv 1) pa_nil)) pa_nil)) rfl)
      (pss_one (ps_fld (pv 0) (pe_lst (pa_cons (pe_call G_first_ledger (hr.mono (by decide)) rfl T.d_first_ledger.g T.d_first_ledger.kp b_first_ledger .nil pass0 (pa_cons (pv 2) pa_nil)) pa_nil)) rfl))))), ?_⟩
    walk_at "rs"
    refine ⟨(by show 0 ≤ sizeLine; decide), fun B hB => ?_⟩
    have pB : p ≠ B := fun e => by rw [e, hB] at hp; cases hp
    walk_at "rs"
    refine ⟨p, _, dx, [], rfl, (by rw [upd_ne pB]; exact hp), T.cl_Chain, T.a_Chain_blocks, (by show 0 < 1000; decide), ?_⟩
    have k1 : But1 p H (upd (upd H B (.lst [])) p (.ins a.C_Chain dx (putF "blocks" (.ref B) []))) := fun b o n e => by
      rw [upd_ne n, upd_ne (fun q => by rw [q, hB] at e; cases e)]
      exact e
    have hB1 : (upd (upd H B (.lst [])) p (.ins a.C_Chain dx (putF "blocks" (.ref B) []))) B = some (.lst []) := by rw [upd_ne pB.symm, upd_same]
    have hp1 : (upd (upd H B (.lst [])) p (.ins a.C_Chain dx (putF "blocks" (.ref B) []))) p = some (.ins a.C_Chain dx [("blocks", .ref B)]) := by rw [upd_same]; rfl
    generalize (upd (upd H B (.lst [])) p (.ins a.C_Chain dx (putF "blocks" (.ref B) []))) = H1 at k1 hB1 hp1 ⊢
    walk_at "rs"
    refine ⟨(by show 0 ≤ sizeLine; decide), fun R hR => ?_⟩
    have pR : p ≠ R := fun e => by rw [e, hR] at hp1; cases hp1
    have BR : B ≠ R := fun e => by rw [e, hR] at hB1; cases hB1
    walk_at "rs"
    refine ⟨p, _, dx, _, rfl, (by rw [upd_ne pR]; exact hp1), T.cl_Chain, T.a_Chain_receipts, (by show 1 < 1000; decide), ?_⟩
    have k2 : But1 p H1 (upd (upd H1 R (.lst [])) p (.ins a.C_Chain dx (putF "receipts" (.ref R) [("blocks", .ref B)]))) := fun b o n e => by
      rw [upd_ne n, upd_ne (fun q => by rw [q, hR] at e; cases e)]
      exact e
    have hR2 : (upd (upd H1 R (.lst [])) p (.ins a.C_Chain dx (putF "receipts" (.ref R) [("blocks", .ref B)]))) R = some (.lst []) := by rw [upd_ne pR.symm, upd_same]
    have hp2 : (upd (upd H1 R (.lst [])) p (.ins a.C_Chain dx (putF "receipts" (.ref R) [("blocks", .ref B)]))) p = some (.ins a.C_Chain dx [("blocks", .ref B), ("receipts", .ref R)]) := by rw [upd_same]; rfl
    generalize (upd (upd H1 R (.lst [])) p (.ins a.C_Chain dx (putF "receipts" (.ref R) [("blocks", .ref B)]))) = H2 at k2 hR2 hp2 ⊢
    have k12 := k1.trans k2
    have hB2 := k2 _ _ pB.symm hB1
    walk_at "rs"
    intro c dc hc hdc ndc
    have sM : Same H2 (upd (upd H2 dc (.own c)) c (.ins a.C_Committee dc [])) := same_upd (same_new hdc) hc
    refine ⟨c, dc, l, ws, rfl, upd_same, sM.seq (k12.seq hp hl), gw, fun H3 hcm keep => ⟨rfl, ?_⟩⟩
    have s3 : Same H2 H3 := fun b o e => keep b o (sM _ _ e) (fun q => by rw [q, hc] at e; cases e)
    walk_at "rs"
    refine ⟨(by show 1 ≤ sizeLine; decide), fun D hD => ?_⟩
    have hp3 := s3 _ _ hp2
    have pD : p ≠ D := fun e => by rw [e, hD] at hp3; cases hp3
    have BD : B ≠ D := fun e => by rw [← e, s3 _ _ hB2] at hD; cases hD
    have RD : R ≠ D := fun e => by rw [← e, s3 _ _ hR2] at hD; cases hD
    walk_at "rs"
    refine ⟨p, _, dx, _, rfl, (by rw [upd_ne pD]; exact hp3), T.cl_Chain, T.a_Chain_committees, (by show 2 < 1000; decide), ?_⟩
    have k4 : But1 p H3 (upd (upd H3 D (.lst [V.ref c])) p (.ins a.C_Chain dx (putF "committees" (.ref D) [("blocks", .ref B), ("receipts", .ref R)]))) := fun b o n e => by
      rw [upd_ne n, upd_ne (fun q => by rw [q, hD] at e; cases e)]
      exact e
    have hD4 : (upd (upd H3 D (.lst [V.ref c])) p (.ins a.C_Chain dx (putF "committees" (.ref D) [("blocks", .ref B), ("receipts", .ref R)]))) D = some (.lst [V.ref c]) := by rw [upd_ne pD.symm, upd_same]
    have hp4 : (upd (upd H3 D (.lst [V.ref c])) p (.ins a.C_Chain dx (putF "committees" (.ref D) [("blocks", .ref B), ("receipts", .ref R)]))) p = some (.ins a.C_Chain dx [("blocks", .ref B), ("receipts", .ref R), ("committees", .ref D)]) := by rw [upd_same]; rfl
    have pc : c ≠ p := fun e => by rw [e, hp2] at hc; cases hc
    have hcm4 := hcm.but k4 pc hp3
    generalize (upd (upd H3 D (.lst [V.ref c])) p (.ins a.C_Chain dx (putF "committees" (.ref D) [("blocks", .ref B), ("receipts", .ref R)]))) = H4 at k4 hD4 hp4 hcm4 ⊢
    have k3 : But1 p H2 H3 := fun b o _ e => s3 _ _ e
    have k14 := (k12.trans k3).trans k4
    have hB4 := k4 _ _ pB.symm (s3 _ _ hB2)
    have hR4 := k4 _ _ pR.symm (s3 _ _ hR2)
    walk_at "rs"
    refine ⟨g, x, y, rfl, k14.seq hp hg, fun d t H5 s5 hd0 hld ht => ?_⟩
    walk_at "rs"
    refine ⟨(by show 1 ≤ sizeLine; decide), fun L hL => ?_⟩
    have hp5 := s5 _ _ hp4
    have pL : p ≠ L := fun e => by rw [e, hL] at hp5; cases hp5
    have BL : B ≠ L := fun e => by rw [← e, s5 _ _ hB4] at hL; cases hL
    have RL : R ≠ L := fun e => by rw [← e, s5 _ _ hR4] at hL; cases hL
    have DL : D ≠ L := fun e => by rw [← e, s5 _ _ hD4] at hL; cases hL
    walk_at "rs"
    refine ⟨p, _, dx, _, rfl, (by rw [upd_ne pL]; exact hp5), T.cl_Chain, T.a_Chain_ledgers, (by show 3 < 1000; decide), ?_⟩
    have k6 : But1 p H5 (upd (upd H5 L (.lst [V.ref d])) p (.ins a.C_Chain dx (putF "ledgers" (.ref L) [("blocks", .ref B), ("receipts", .ref R), ("committees", .ref D)]))) := fun b o n e => by
      rw [upd_ne n, upd_ne (fun q => by rw [q, hL] at e; cases e)]
      exact e
    have hL6 : (upd (upd H5 L (.lst [V.ref d])) p (.ins a.C_Chain dx (putF "ledgers" (.ref L) [("blocks", .ref B), ("receipts", .ref R), ("committees", .ref D)]))) L = some (.lst [V.ref d]) := by rw [upd_ne pL.symm, upd_same]
    have hp6 : (upd (upd H5 L (.lst [V.ref d])) p (.ins a.C_Chain dx (putF "ledgers" (.ref L) [("blocks", .ref B), ("receipts", .ref R), ("committees", .ref D)]))) p = some (.ins a.C_Chain dx [("blocks", .ref B), ("receipts", .ref R), ("committees", .ref D), ("ledgers", .ref L)]) := by rw [upd_same]; rfl
    generalize (upd (upd H5 L (.lst [V.ref d])) p (.ins a.C_Chain dx (putF "ledgers" (.ref L) [("blocks", .ref B), ("receipts", .ref R), ("committees", .ref D)]))) = H6 at k6 hL6 hp6 ⊢
    have k5 : But1 p H4 H5 := fun b o _ e => s5 _ _ e
    have kAll := (k14.trans k5).trans k6
    have hcm6 := (hcm4.same s5).but k6 pc hp5
    have dp : d ≠ p := fun e => by rw [e, hp4] at hd0; cases hd0
    have fr : ∀ {b : Addr} {Hx : Hp}, But1 p H Hx → b ≠ p → Hx b = none → H b = none := fun {b Hx} kx n e => by
      cases q : H b with
      | none => rfl
      | some o => rw [kx _ _ n q] at e; cases e
    refine k ⟨B, R, D, L⟩ c d H6 ⟨⟨dx, hp6⟩, k6 _ _ pB.symm (s5 _ _ hB4), k6 _ _ pR.symm (s5 _ _ hR4), k6 _ _ pD.symm (s5 _ _ hD4), hL6, rfl, rfl, rfl, rfl, BR, BD, BL, RD, RL, DL, fun i hi => ?_, fun z hz => ?_⟩ hB (fr k1 pR.symm hR) (fr (k12.trans k3) pD.symm hD) (fr (k14.trans k5) pL.symm hL) kAll
    · have : i = 0 := Nat.lt_one_iff.mp hi
      rw [this]
      exact ⟨hcm6, gw⟩
    · rw [List.mem_singleton.mp hz]
      obtain ⟨dd, c2, c3, h⟩ := hld
      exact ⟨t, ⟨dd, c2, c3, k6 _ _ dp h⟩, k6 _ _ (fun e => by rw [e, hp5] at ht; cases ht) ht⟩
def spCHeight (C1 C2 C3 : Addr) : Sp := fun vs H Q _ => ∃ (p : Addr) (q : CnP) (v : CnV) (x y : Int), vs = [.ref p] ∧ CnAt C1 C2 C3 H p q v x y ∧ Q (.int v.zs.length) H
theorem ok_Chain_height (T : Txt K mg a) : ∃ fd, FnOk P w K mg base CX0 1 a.d_Chain_height fd ["self"] (spCHeight a.C_Chain a.C_Committee a.C_Ledger) ∧ Binds K fd ["self"] [] := by
  obtain ⟨fd, F, b⟩ := T.d_Chain_height.F
  refine ⟨fd, F.ok sc_Chain_height (fun vs H Q E h => ?_) (fun cdv A outer s H vs Q E hr h => ?_), b⟩
  · obtain ⟨_, _, _, _, _, rfl, _⟩ := h
    rfl
  · obtain ⟨p, q, v, x, y, rfl, c, k⟩ := h
    obtain ⟨dx, hp⟩ := c.ins
    refine ⟨_, (pss_one (ps_ret (pe_callB call_len_seq (by rfl) T.n_len PySem.boot_len (pa_cons (pe_fld (pv 0) rfl) pa_nil)))), ?_⟩
    walk_at "rs"
    refine ⟨p, _, dx, _, .ref q.B, rfl, hp, T.cl_Chain, T.a_Chain_blocks, rfl, ?_⟩
    walk_at "rs"
    refine ⟨q.B, _, rfl, .inl (SqL.of c.hB), ?_⟩
    rw [List.length_map]
    exact k
def spCComm (C1 C2 C3 : Addr) : Sp := fun vs H Q _ => ∃ (p : Addr) (q : CnP) (v : CnV) (x y : Int), vs = [.ref p] ∧ CnAt C1 C2 C3 H p q v x y ∧ Q (.ref (v.ps.getD v.zs.length 0)) H
theorem at_last {α : Type} {xs : List α} {d : α} {n : Nat} (h : xs.length = n + 1) : atI xs (-1) = some (xs.getD n d) := by
  have ne : xs ≠ [] := fun e => by rw [e] at h; cases h
  have e := List.dropLast_concat_getLast ne
  rw [← e, atI_last]
  congr 1
  have l : xs.dropLast.length = n := by rw [List.length_dropLast]; omega
  rw [List.getD_eq_getElem?_getD, List.getElem?_append_right (Nat.le_of_eq l), l, Nat.sub_self]
  rfl
theorem map_getD {ps : List Addr} {n : Nat} (h : n < ps.length) : (ps.map V.ref).getD n .non = .ref (ps.getD n 0) := by
  rw [List.getD_eq_getElem?_getD, List.getD_eq_getElem?_getD, List.getElem?_map, List.getElem?_eq_getElem h]
  rfl
theorem ok_Chain_committee (T : Txt K mg a) : ∃ fd, FnOk P w K mg base CX0 1 a.d_Chain_committee fd ["self"] (spCComm a.C_Chain a.C_Committee a.C_Ledger) ∧ Binds K fd ["self"] [] := by
  obtain ⟨fd, F, b⟩ := T.d_Chain_committee.F
  refine ⟨fd, F.ok sc_Chain_committee (fun vs H Q E h => ?_) (fun cdv A outer s H vs Q E hr h => ?_), b⟩
  · obtain ⟨_, _, _, _, _, rfl, _⟩ := h
    rfl
  · obtain ⟨p, q, v, x, y, rfl, c, k⟩ := h
    obtain ⟨dx, hp⟩ := c.ins
    refine ⟨_, (pss_one (ps_ret (pe_ix ix_list (pe_fld (pv 0) rfl) (pe_un un_neg pe_int) (fun _ _ => rfl)))), ?_⟩
    walk_at "rs"
    refine ⟨p, _, dx, _, .ref q.D, rfl, hp, T.cl_Chain, T.a_Chain_committees, rfl, ?_⟩
    walk_at "rs"
    have e : atI (v.ps.map V.ref) (-1) = some (.ref (v.ps.getD v.zs.length 0)) := by
      rw [at_last (d := .non) (n := v.zs.length) (by rw [List.length_map]; exact c.np), map_getD (by have := c.np; omega)]
    refine ⟨q.D, _, _, _, rfl, rfl, SqL.of c.hD, e, ?_⟩
    exact k

def afterW (ws : List Int) (m v : Int) : List Int := if (ws.length : Int) ≤ m ∨ v < 1 then ws else ws.set m.toNat v
theorem afterW_len (ws : List Int) (m v : Int) : (afterW ws m v).length = ws.length := by
  unfold afterW
  split
  · rfl
  · rw [List.length_set]
theorem afterW_good {ws : List Int} {m v : Int} (g : GoodW ws) (hv : NOk v) : GoodW (afterW ws m v) := by
  unfold afterW
  split
  · exact g
  · rename_i c
    refine ⟨by rw [List.length_set]; exact g.1, by rw [List.length_set]; exact g.2.1, fun x hx => ?_⟩
    rcases List.mem_or_eq_of_mem_set hx with h | h
    · exact g.2.2 x h
    · rw [h]
      have := hv.2
      omega
def spAW (K : PySem.W.Frag) : Sp := fun vs H Q _ => ∃ (t c : Addr) (ws : List Int) (m v : Int), vs = [.ref t, .ref c] ∧ H t = some (.tup (ws.map V.int)) ∧ GoodW ws ∧ CmAt H c (.w m v) ∧ NOk m ∧ NOk v ∧
  ∀ q t' b H', Same H H' → H' q = some (.tup [.ref t', .bl b]) → H' t' = some (.tup ((afterW ws m v).map V.int)) → Q (.ref q) H'
theorem ok_after_weight (T : Txt K mg a) : ∃ fd, FnOk P w K mg base CX0 1 a.d_after_weight fd ["weights", "command"] (spAW K) ∧ Binds K fd ["weights", "command"] [] := by
  obtain ⟨fd, F, b⟩ := T.d_after_weight.F
  refine ⟨fd, F.ok sc_after_weight (fun vs H Q E h => ?_) (fun cdv A outer s H vs Q E hr h => ?_), b⟩
  · obtain ⟨_, _, _, _, _, rfl, _⟩ := h
    rfl
  · obtain ⟨t, c, ws, m, v, rfl, ht, gw, hc, om, ov, k⟩ := h
    have hc' : H c = some (.tup [.str "w", .int m, .int v]) := hc
    refine ⟨_, (pss_cons (ps_asg (pv 1) (pg_tup rfl (pgs_cons (pg_name (i := 2) sc_after_weight.nd rfl (Or.inl rfl)) (pgs_cons (pg_name (i := 3) sc_after_weight.nd rfl (Or.inl rfl)) (pgs_cons (pg_name (i := 4) sc_after_weight.nd rfl (Or.inl rfl)) pgs_nil)))))
      (pss_cons (ps_if (PW.pt (pw_or (pt_cmpR op_ge (pv 3) (pe_callB call_len_seq (by rfl) T.n_len PySem.boot_len (pa_cons (pv 0) pa_nil)) (nomark _)) (pw_or1 (pt_cmpR op_lt (pv 4) pe_int (nomark _)))))
      (pss_one (ps_ret (pe_tup (pa_cons (pv 0) (pa_cons pe_bl pa_nil)))))
      pss_nil)
      (pss_one (ps_ret (pe_tup (pa_cons (pe_op op_catA (pe_op op_catA (pe_slice sl_tup (pv 0) po_none (po_some (pv 3))) (pe_tup (pa_cons (pv 4) pa_nil))) (pe_slice sl_tup (pv 0) (po_some (pe_op op_add (pv 3) pe_int)) po_none)) (pa_cons pe_bl pa_nil))))))), ?_⟩
    walk_at "rs"
    refine ⟨c, _, rfl, SqT.of hc', rfl, ?_⟩
    refine ⟨_, _, rfl, _, _, rfl, _, _, rfl, rfl, ?_⟩
    walk_at "rs"
    refine ⟨t, _, rfl, .inr (SqT.of ht), ?_⟩
    have ln : (ws.map V.int).length = ws.length := List.length_map _
    rw [ln]
    have g2 := gw.2.1
    have no : (ws.length : Int) ≤ m ∨ v < 1 → ∀ q, H q = none → Q (.ref q) (upd H q (.tup [.ref t, .bl false])) := fun h q hq => by
      refine k q t false _ (same_new hq) upd_same ?_
      unfold afterW
      rw [if_pos h]
      exact same_new hq _ _ ht
    walk_at "rs"
    refine ite2 (fun c1 => ?_) (fun c1 => ?_)
    · have c1 : (ws.length : Int) ≤ m := by simpa using c1
      walk_at "rs"
      exact ⟨(by show 2 ≤ sizeLine; decide), no (.inl c1)⟩
    have c1 : ¬ (ws.length : Int) ≤ m := by simpa using c1
    walk_at "rs"
    refine ite2 (fun c2 => ?_) (fun c2 => ?_)
    · have c2 : v < 1 := by simpa using c2
      walk_at "rs"
      exact ⟨(by show 2 ≤ sizeLine; decide), no (.inr c2)⟩
    have c2 : ¬ v < 1 := by simpa using c2
    clear no
    have ea : afterW ws m v = ws.set m.toNat v := by
      unfold afterW
      rw [if_neg (by omega)]
    rw [ea] at k
    obtain ⟨j, rfl⟩ : ∃ j : Nat, m = (j : Int) := ⟨m.toNat, by have := om.1; omega⟩
    rw [Int.toNat_natCast] at k
    have hj : j < ws.length := by omega
    have nw1 : ¬ (HT.sIx (ws.map V.int).length 0 none = 0 ∧ HT.sIx (ws.map V.int).length (ws.map V.int).length (some (j : Int)) = (ws.map V.int).length) := by
      rw [HT.sIx_nat]
      omega
    have nw2 : ¬ (HT.sIx (ws.map V.int).length 0 (some ((j : Int) + 1)) = 0 ∧ HT.sIx (ws.map V.int).length (ws.map V.int).length none = (ws.map V.int).length) := by
      rw [show (j : Int) + 1 = ((j + 1 : Nat) : Int) from rfl, HT.sIx_nat]
      omega
    have hput : cutV (ws.map V.int) none (some (j : Int)) ++ [V.int v] ++ cutV (ws.map V.int) (some ((j : Int) + 1)) none = (ws.set j v).map V.int := by
      unfold cutV
      rw [show (j : Int) + 1 = ((j + 1 : Nat) : Int) from rfl, HT.sIx_nat, HT.sIx_nat, HT.sIx_none, HT.sIx_none, ln, Nat.min_eq_left (Nat.le_of_lt hj), Nat.min_eq_left hj, Nat.sub_zero, List.drop_zero, List.take_of_length_le (l := (ws.map V.int).drop (j + 1)) (by rw [List.length_drop, ln]; exact Nat.le_refl _), List.map_set, List.set_eq_take_append_cons_drop, if_pos (by rw [ln]; exact hj), List.append_assoc]
      rfl
    have lA := cutV_length (ws.map V.int) none (some (j : Int))
    have lC := cutV_length (ws.map V.int) (some ((j : Int) + 1)) none
    rw [ln] at lA lC
    walk_at "rs"
    refine ⟨t, _, rfl, SqT.of ht, nw1, fun q1 hq1 => ?_⟩
    generalize cutV (ws.map V.int) none (some (j : Int)) = A at hput lA
    have s1 := same_new (o := .tup A) hq1
    have h1 : (upd H q1 (.tup A)) q1 = some (.tup A) := upd_same
    generalize upd H q1 (.tup A) = H1 at s1 h1 ⊢
    walk_at "rs"
    refine ⟨(by show 1 ≤ sizeLine; decide), fun q2 hq2 => ?_⟩
    have s2 := same_new (o := .tup [V.int v]) hq2
    have h2 : (upd H1 q2 (.tup [V.int v])) q2 = some (.tup [V.int v]) := upd_same
    have h12 := s2 _ _ h1
    generalize upd H1 q2 (.tup [V.int v]) = H2 at s2 h2 h12 ⊢
    refine ⟨q1, q2, _, _, rfl, rfl, SqT.of h12, SqT.of h2, by rw [sizeLine_eq]; show A.length + 1 ≤ _; omega, fun h => ?_, fun _ h => (nomatch h), fun _ _ q3 hq3 => ?_⟩
    · have h3 : H2 q2 = some (.tup (A ++ [V.int v])) := by rw [h]; exact h2
      have s3 : Same H H2 := s1.trans s2
      generalize H2 = H3 at s3 h3 ⊢
      walk_at "rs"
      refine ⟨t, _, rfl, SqT.of (s3 _ _ ht), nw2, fun q4 hq4 => ?_⟩
      generalize cutV (ws.map V.int) (some ((j : Int) + 1)) none = C at hput lC
      have s4 := same_new (o := .tup C) hq4
      have h4 : (upd H3 q4 (.tup C)) q4 = some (.tup C) := upd_same
      have h34 := s4 _ _ h3
      generalize upd H3 q4 (.tup C) = H4 at s4 h4 h34 ⊢
      have s04 := s3.trans s4
      refine ⟨q2, q4, A ++ [V.int v], C, rfl, rfl, SqT.of h34, SqT.of h4, by rw [List.length_append, sizeLine_eq]; show A.length + 1 + C.length ≤ _; omega, fun h => absurd (congrArg List.length h) (by simp), fun _ h => ?_, fun _ _ q5 hq5 => ?_⟩
      · rw [h, List.append_nil] at hput
        rw [hput] at h34
        walk_at "rs"
        refine ⟨(by show 2 ≤ sizeLine; decide), fun r hr => ?_⟩
        exact k r q2 true _ (s04.trans (same_new hr)) upd_same (same_new hr _ _ h34)
      · have s5 := same_new (o := .tup (A ++ [V.int v] ++ C)) hq5
        have h5 : (upd H4 q5 (.tup (A ++ [V.int v] ++ C))) q5 = some (.tup (A ++ [V.int v] ++ C)) := upd_same
        generalize upd H4 q5 (.tup (A ++ [V.int v] ++ C)) = H5 at s5 h5 ⊢
        rw [hput] at h5
        walk_at "rs"
        refine ⟨(by show 2 ≤ sizeLine; decide), fun r hr => ?_⟩
        exact k r q5 true _ ((s04.trans s5).trans (same_new hr)) upd_same (same_new hr _ _ h5)
    · have h3 : (upd H2 q3 (.tup (A ++ [V.int v]))) q3 = some (.tup (A ++ [V.int v])) := upd_same
      have s3 : Same H (upd H2 q3 (.tup (A ++ [V.int v]))) := (s1.trans s2).trans (same_new hq3)
      generalize upd H2 q3 (.tup (A ++ [V.int v])) = H3 at s3 h3 ⊢
      walk_at "rs"
      refine ⟨t, _, rfl, SqT.of (s3 _ _ ht), nw2, fun q4 hq4 => ?_⟩
      generalize cutV (ws.map V.int) (some ((j : Int) + 1)) none = C at hput lC
      have s4 := same_new (o := .tup C) hq4
      have h4 : (upd H3 q4 (.tup C)) q4 = some (.tup C) := upd_same
      have h34 := s4 _ _ h3
      generalize upd H3 q4 (.tup C) = H4 at s4 h4 h34 ⊢
      have s04 := s3.trans s4
      refine ⟨q3, q4, A ++ [V.int v], C, rfl, rfl, SqT.of h34, SqT.of h4, by rw [List.length_append, sizeLine_eq]; show A.length + 1 + C.length ≤ _; omega, fun h => absurd (congrArg List.length h) (by simp), fun _ h => ?_, fun _ _ q5 hq5 => ?_⟩
      · rw [h, List.append_nil] at hput
        rw [hput] at h34
        walk_at "rs"
        refine ⟨(by show 2 ≤ sizeLine; decide), fun r hr => ?_⟩
        exact k r q3 true _ (s04.trans (same_new hr)) upd_same (same_new hr _ _ h34)
      · have s5 := same_new (o := .tup (A ++ [V.int v] ++ C)) hq5
        have h5 : (upd H4 q5 (.tup (A ++ [V.int v] ++ C))) q5 = some (.tup (A ++ [V.int v] ++ C)) := upd_same
        generalize upd H4 q5 (.tup (A ++ [V.int v] ++ C)) = H5 at s5 h5 ⊢
        rw [hput] at h5
        walk_at "rs"
        refine ⟨(by show 2 ≤ sizeLine; decide), fun r hr => ?_⟩
        exact k r q5 true _ ((s04.trans s5).trans (same_new hr)) upd_same (same_new hr _ _ h5)
/-- the weights behind commands -/
def rew (ws : List Int) (cs : List Cm) : List Int := cs.foldl (fun u c => match c with | .w m v => afterW u m v | _ => u) ws
def onlyW (cs : List Cm) : Prop := ∀ c ∈ cs, ∃ m v, c = .w m v ∧ NOk m ∧ NOk v
theorem rew_snoc (ws : List Int) (cs : List Cm) (m v : Int) : rew ws (cs ++ [.w m v]) = afterW (rew ws cs) m v := by
  unfold rew
  rw [List.foldl_append]
  rfl
theorem rew_good {ws : List Int} (g : GoodW ws) : ∀ {cs : List Cm}, onlyW cs → GoodW (rew ws cs) := by
  intro cs
  induction cs generalizing ws with
  | nil => exact fun _ => g
  | cons c cs ih =>
    intro o
    obtain ⟨m, v, rfl, _, hv⟩ := o c List.mem_cons_self
    exact ih (afterW_good g hv) fun x hx => o x (List.mem_cons_of_mem _ hx)
/-- all but what a chain may change stays -/
def ButC (q : CnP) (H H' : Hp) : Prop := ∀ b o, b ≠ q.B → b ≠ q.R → b ≠ q.D → b ≠ q.L → H b = some o → H' b = some o
theorem getD_memC {α : Type} {d : α} {xs : List α} {i : Nat} (h : i < xs.length) : xs.getD i d ∈ xs := by
  rw [List.getD_eq_getElem?_getD, List.getElem?_eq_getElem h]
  exact List.getElem_mem h
theorem take_snocC {α : Type} {d : α} {xs : List α} {i : Nat} (h : i < xs.length) : xs.take (i + 1) = xs.take i ++ [xs.getD i d] := by
  rw [List.take_add_one, List.getElem?_eq_getElem h, List.getD_eq_getElem?_getD, List.getElem?_eq_getElem h]
  rfl
theorem getD_app {α : Type} {d : α} {xs ys : List α} {i : Nat} (h : i < xs.length) : (xs ++ ys).getD i d = xs.getD i d := by
  rw [List.getD_eq_getElem?_getD, List.getD_eq_getElem?_getD, List.getElem?_append_left h]
theorem getD_end {α : Type} {d x : α} {xs : List α} : (xs ++ [x]).getD xs.length d = x := by
  rw [List.getD_eq_getElem?_getD, List.getElem?_append_right (Nat.le_refl _), Nat.sub_self]
  rfl
def NL (o : HO) : Prop := ∀ xs, o ≠ .lst xs
theorem ButC.nl {C1 C2 C3 : Addr} {H H' : Hp} {p : Addr} {q : CnP} {v : CnV} {x y : Int} (k : ButC q H H') (c : CnAt C1 C2 C3 H p q v x y) {b : Addr} {o : HO} (h : H b = some o) (n : NL o) : H' b = some o := by
  refine k b o (fun e => ?_) (fun e => ?_) (fun e => ?_) (fun e => ?_) h
  · rw [e, c.hB] at h; exact n _ (Option.some.inj h).symm
  · rw [e, c.hR] at h; exact n _ (Option.some.inj h).symm
  · rw [e, c.hD] at h; exact n _ (Option.some.inj h).symm
  · rw [e, c.hL] at h; exact n _ (Option.some.inj h).symm
def spExtend (C1 C2 C3 : Addr) : Sp := fun vs H Q _ => ∃ (p : Addr) (q : CnP) (v : CnV) (x y : Int) (z : Str), vs = [.ref p, .str z] ∧ CnAt C1 C2 C3 H p q v x y ∧ z.length ≤ 1000 ∧ onlyW (cmdsOf z) ∧ v.zs.length ≤ 900 ∧
  ∀ r c H', CnAt C1 C2 C3 H' p q ⟨v.zs ++ [z], v.rs ++ [r], v.ps ++ [c], v.ws ++ [rew (v.ws.getD v.zs.length []) (cmdsOf z)], v.ls ++ [v.ls.getD v.zs.length 0]⟩ x y → ButC q H H' → Q .non H'
theorem ok_Chain_extend (TE : TxtE P w K mg a) (T : Txt K mg a) : ∃ fd, FnOk P w K mg base CX0 5 a.d_Chain_extend fd ["self", "block"] (spExtend a.C_Chain a.C_Committee a.C_Ledger) ∧ Binds K fd ["self", "block"] [] := by
  obtain ⟨fd, F, b⟩ := T.d_Chain_extend.F
  obtain ⟨fd_commands_of, G_commands_of, b_commands_of⟩ := ok_commands_of (P := P) (w := w) (base := base) TE T
  obtain ⟨fd_Chain_committee, G_Chain_committee, b_Chain_committee⟩ := ok_Chain_committee (P := P) (w := w) (base := base) T
  obtain ⟨fd_Committee_init, G_Committee_init, b_Committee_init⟩ := ok_Committee_initT (P := P) (w := w) (base := base) T
  obtain ⟨fd_after_weight, G_after_weight, b_after_weight⟩ := ok_after_weight (P := P) (w := w) (base := base) T
  refine ⟨fd, F.ok sc_Chain_extend (fun vs H Q E h => ?_) (fun cdv A outer s H vs Q E hr h => ?_), b⟩
  · obtain ⟨_, _, _, _, _, _, rfl, _⟩ := h
    rfl
  · obtain ⟨p, q, v, x, y, z, rfl, c, lz, ow, few, k⟩ := h
    obtain ⟨dx, hp⟩ := id c.ins
    refine ⟨_, (pss_cons (ps_set (i := 2) sc_Chain_extend.nd rfl (Or.inl rfl) (pe_fld (pe_meth0 (pv 0) T.cl_Chain T.me_Chain_committee G_Chain_committee (hr.mono (by decide)) b_Chain_committee .nil pass0) rfl))
      (pss_cons (ps_set (i := 3) sc_Chain_extend.nd rfl (Or.inl rfl) (pe_ix ix_list (pe_fld (pv 0) rfl) (pe_un un_neg pe_int) (fun _ _ => rfl)))
      (pss_cons (ps_set (i := 4) sc_Chain_extend.nd rfl (Or.inl rfl) (pe_lst pa_nil))
      (pss_cons (ps_for PassesOwn.never rfl (pi_list (pe_call G_commands_of (hr.mono (by decide)) rfl T.d_commands_of.g T.d_commands_of.kp b_commands_of .nil pass0 (pa_cons (pv 1) pa_nil))) (pg_name (i := 5) sc_Chain_extend.nd rfl (Or.inl rfl))
      (pss_cons (ps_if (pt_cmpR op_eq (pe_ix ix_tup (pv 5) pe_int (fun _ _ => rfl)) pe_str (nomark _))
        (pss_one (ps_asg (pe_call G_after_weight (hr.mono (by decide)) rfl T.d_after_weight.g T.d_after_weight.kp b_after_weight .nil pass0 (pa_cons (pv 2) (pa_cons (pv 5) pa_nil))) (pg_tup rfl (pgs_cons (pg_name (i := 2) sc_Chain_extend.nd rfl (Or.inl rfl)) (pgs_cons (pg_name (i := 6) sc_Chain_extend.nd rfl (Or.inl rfl)) pgs_nil)))))
        (pss_one ps_never))
        (pss_one (ps_expr (pe_bm PySem.F.plainAttrs_list PySem.F.slot_list_append PySem.F.type_list_append mt_append (pv 4) (pa_cons (pv 6) pa_nil))))))
      (pss_cons (ps_expr (pe_bm PySem.F.plainAttrs_list PySem.F.slot_list_append PySem.F.type_list_append mt_append (pe_fld (pv 0) rfl) (pa_cons (pv 1) pa_nil)))
      (pss_cons (ps_expr (pe_bm PySem.F.plainAttrs_list PySem.F.slot_list_append PySem.F.type_list_append mt_append (pe_fld (pv 0) rfl) (pa_cons (pe_callTy call_tuple_of (by rfl) T.n_tuple (by decide +kernel) (pa_cons (pv 4) pa_nil)) pa_nil)))
      (pss_cons (ps_expr (pe_bm PySem.F.plainAttrs_list PySem.F.slot_list_append PySem.F.type_list_append mt_append (pe_fld (pv 0) rfl) (pa_cons (pe_make T.m_Committee G_Committee_init (hr.mono (by decide)) (by rfl) T.g_Committee b_Committee_init .nil pass0 (pa_cons (pv 2) pa_nil)) pa_nil)))
      (pss_one (ps_expr (pe_bm PySem.F.plainAttrs_list PySem.F.slot_list_append PySem.F.type_list_append mt_append (pe_fld (pv 0) rfl) (pa_cons (pv 3) pa_nil))))))))))), ?_⟩
    walk_at "rs"
    refine ⟨p, dx, _, rfl, hp, rfl, ?_⟩
    walk_at "rs"
    refine ⟨p, q, v, x, y, rfl, c, ?_⟩
    obtain ⟨⟨dc, t, hc1, hc2⟩, gw⟩ := c.cm v.zs.length (by have := c.nw; omega)
    walk_at "rs"
    refine ⟨_, _, dc, _, .ref t, rfl, hc1, T.cl_Committee, T.a_Committee_weights, cfs_w _ _, ?_⟩
    walk_at "rs"
    refine ⟨p, _, dx, _, .ref q.L, rfl, hp, T.cl_Chain, T.a_Chain_ledgers, rfl, ?_⟩
    walk_at "rs"
    have eL : atI (v.ls.map V.ref) (-1) = some (.ref (v.ls.getD v.zs.length 0)) := by
      rw [at_last (d := .non) (n := v.zs.length) (by rw [List.length_map]; exact c.nl), map_getD (by have := c.nl; omega)]
    refine ⟨q.L, _, _, _, rfl, rfl, SqL.of c.hL, eL, ?_⟩
    walk_at "rs"
    refine ⟨(by show 0 ≤ sizeLine; decide), fun rl hrl => ?_⟩
    have s1 := same_new (o := .lst []) hrl
    have hrl1 : (upd H rl (.lst [])) rl = some (.lst (([] : List Bool).map V.bl)) := upd_same
    generalize upd H rl (.lst []) = H1 at s1 hrl1 ⊢
    walk_at "rs"
    refine ⟨lz, fun u cps H2 s2 hu0 hu hcs => ?_⟩
    have ncs := hcs.1
    have lcs := cmdsOf_long z
    have url : u ≠ rl := fun e => by rw [e, hrl1] at hu0; cases hu0
    generalize cmdsOf z = cs at ow hcs ncs lcs k
    generalize hw0 : v.ws.getD v.zs.length [] = ws0 at gw hc2 k
    refine ⟨u, rfl, ⟨_, SqL.of hu⟩, for_list (K := K) (a := u) (xs := cps.map V.ref) (fun i σ H3 => ∃ (t' : Addr) (v5 v6 : Option V) (bs : List Bool), σ = [some (.ref p), some (.str z), some (.ref t'), some (.ref (v.ls.getD v.zs.length 0)), some (.ref rl), v5, v6] ∧ Same H H3 ∧ H3 rl = some (.lst (bs.map V.bl)) ∧ bs.length = i ∧
        H3 u = some (.lst (cps.map V.ref)) ∧ CmsAt H3 cps cs ∧ H3 t' = some (.tup ((rew ws0 (cs.take i)).map V.int)))
      ⟨t, _, _, [], rfl, s1.trans s2, s2 _ _ hrl1, rfl, hu, hcs, s2 _ _ (s1 _ _ hc2)⟩ (fun i σ H3 _ ⟨_, _, _, _, _, _, _, _, h, _⟩ => SqL.of h) ?_ ?_⟩
    · rintro i y' σ H3 hy ⟨t', v5, v6, bs, rfl, s3, hr3, lb, hu3, hc3, ht3⟩
      have hi : i < cps.length := by
        have e := (List.getElem?_eq_some_iff.mp hy).1
        rwa [List.length_map] at e
      rw [List.getElem?_map, List.getElem?_eq_getElem hi] at hy
      cases hy
      have hi' : i < cs.length := by omega
      have hcm := hc3.2 i hi'
      obtain ⟨m, vv, ec, om, ov⟩ := ow _ (getD_memC (d := default) hi')
      have et : cs.take (i + 1) = cs.take i ++ [.w m vv] := by rw [take_snocC (d := default) hi', ec]
      have ea : cps.getD i 0 = cps[i] := by rw [List.getD_eq_getElem?_getD, List.getElem?_eq_getElem hi]; rfl
      rw [ec, ea] at hcm
      have hcm' : H3 cps[i] = some (.tup [.str "w", .int m, .int vv]) := hcm
      have gi : GoodW (rew ws0 (cs.take i)) := rew_good gw fun c hc => ow c (List.mem_of_mem_take hc)
      walk_at "rs"
      refine ⟨_, _, _, _, rfl, rfl, SqT.of hcm', atI_nat (j := 0) rfl, ?_⟩
      walk_at "rs"
      refine ⟨t', cps[i], _, m, vv, rfl, ht3, gi, hcm', om, ov, fun q5 t5 b5 H4 s4 hq5 ht5 => ?_⟩
      refine ⟨q5, _, rfl, SqT.of hq5, rfl, ?_⟩
      refine ⟨_, _, rfl, _, _, rfl, rfl, ?_⟩
      walk_at "rs"
      have hr4 := s4 _ _ hr3
      refine ⟨.inl ⟨rfl, _, SqL.of hr4⟩, ?_⟩
      walk_at "rs"
      refine ⟨rl, _, _, rfl, rfl, hr4, by rw [List.length_map]; exact small1000 (by omega), ?_⟩
      have nrl : ∀ {b : Addr} {xs : List V}, H4 b = some (.tup xs) → b ≠ rl := fun {b xs} h e => by
        rw [e, hr4] at h
        cases h
      refine ⟨t5, _, _, bs ++ [b5], rfl, same_upd (s3.trans s4) hrl, by rw [upd_same, List.map_append]; rfl, by rw [List.length_append, lb]; rfl, by rw [upd_ne url]; exact s4 _ _ hu3, ⟨hc3.1, fun i' hi2 => ?_⟩, ?_⟩
      · have h := s4 _ _ (hc3.2 i' hi2)
        show upd H4 rl _ _ = _
        rw [upd_ne (nrl h)]
        exact h
      · rw [upd_ne (nrl ht5), et, rew_snoc]
        exact ht5
    · rintro σ H3 ⟨t', v5, v6, bs, rfl, s3, hr3, lb, hu3, hc3, ht3⟩
      rw [List.length_map, ncs, List.take_length] at ht3
      have gwn := rew_good gw ow
      generalize rew ws0 cs = wn at ht3 gwn k
      have c3 := c.same s3
      have lzs : v.zs.length ≤ 900 := few
      clear hcs hc3 hu3 hu hu0
      walk_at "rs"
      refine ⟨p, _, dx, _, .ref q.B, rfl, s3 _ _ hp, T.cl_Chain, T.a_Chain_blocks, rfl, ?_⟩
      refine ⟨.inl ⟨rfl, _, SqL.of c3.hB⟩, ?_⟩
      walk_at "rs"
      refine ⟨q.B, _, _, rfl, rfl, c3.hB, by rw [List.length_map]; exact small1000 (by omega), ?_⟩
      have hpB : p ≠ q.B := fun e => by rw [e, c.hB] at hp; cases hp
      have hpR : p ≠ q.R := fun e => by rw [e, c.hR] at hp; cases hp
      have hpD : p ≠ q.D := fun e => by rw [e, c.hD] at hp; cases hp
      have hpL : p ≠ q.L := fun e => by rw [e, c.hL] at hp; cases hp
      have u4 : ∀ {b : Addr} {o : HO}, b ≠ q.B → H3 b = some o → (upd H3 q.B (.lst (v.zs.map V.str ++ [V.str z]))) b = some o := fun n e => by rw [upd_ne n]; exact e
      have hB4 : (upd H3 q.B (.lst (v.zs.map V.str ++ [V.str z]))) q.B = some (.lst ((v.zs ++ [z]).map V.str)) := by rw [upd_same]; simp
      have rlB : rl ≠ q.B := fun e => by rw [e, c.hB] at hrl; cases hrl
      have rlR : rl ≠ q.R := fun e => by rw [e, c.hR] at hrl; cases hrl
      have tB : t' ≠ q.B := fun e => by rw [e, c3.hB] at ht3; cases ht3
      have tR : t' ≠ q.R := fun e => by rw [e, c3.hR] at ht3; cases ht3
      have hp4 := u4 hpB (s3 _ _ hp)
      have hr4 := u4 rlB hr3
      have ht4 := u4 tB ht3
      have hR4 := u4 c.ne1.symm c3.hR
      have hD4 := u4 c.ne2.symm c3.hD
      have hL4 := u4 c.ne3.symm c3.hL
      generalize upd H3 q.B (.lst (v.zs.map V.str ++ [V.str z])) = H4 at u4 hB4 hp4 hr4 ht4 hR4 hD4 hL4 ⊢
      walk_at "rs"
      refine ⟨p, _, dx, _, .ref q.R, rfl, hp4, T.cl_Chain, T.a_Chain_receipts, rfl, ?_⟩
      refine ⟨.inl ⟨rfl, _, SqL.of hR4⟩, ?_⟩
      walk_at "rs"
      refine ⟨rl, _, rfl, .inl ⟨SqL.of hr4, fun r hr => ?_⟩⟩
      have s5 := same_new (o := .tup (bs.map V.bl)) hr
      generalize upd H4 r (.tup (bs.map V.bl)) = H5 at s5 ⊢
      walk_at "rs"
      refine ⟨q.R, _, _, rfl, rfl, s5 _ _ hR4, by rw [List.length_map, c.nr]; exact small1000 (by omega), ?_⟩
      have u6 : ∀ {b : Addr} {o : HO}, b ≠ q.R → H5 b = some o → (upd H5 q.R (.lst (v.rs.map V.ref ++ [V.ref r]))) b = some o := fun n e => by rw [upd_ne n]; exact e
      have hR6 : (upd H5 q.R (.lst (v.rs.map V.ref ++ [V.ref r]))) q.R = some (.lst ((v.rs ++ [r]).map V.ref)) := by rw [upd_same]; simp
      have hp6 := u6 hpR (s5 _ _ hp4)
      have ht6 := u6 tR (s5 _ _ ht4)
      have hB6 := u6 c.ne1 (s5 _ _ hB4)
      have hD6 := u6 c.ne4.symm (s5 _ _ hD4)
      have hL6 := u6 c.ne5.symm (s5 _ _ hL4)
      generalize upd H5 q.R (.lst (v.rs.map V.ref ++ [V.ref r])) = H6 at u6 hR6 hp6 ht6 hB6 hD6 hL6 ⊢
      walk_at "rs"
      refine ⟨p, _, dx, _, .ref q.D, rfl, hp6, T.cl_Chain, T.a_Chain_committees, rfl, ?_⟩
      refine ⟨.inl ⟨rfl, _, SqL.of hD6⟩, ?_⟩
      walk_at "rs"
      intro cn dn hcn hdn ndn
      have sM : Same H6 (upd (upd H6 dn (.own cn)) cn (.ins a.C_Committee dn [])) := same_upd (same_new hdn) hcn
      refine ⟨cn, dn, t', wn, rfl, upd_same, sM _ _ ht6, gwn, fun H7 hcm keep => ⟨rfl, ?_⟩⟩
      have s7 : Same H6 H7 := fun b o e => keep b o (sM _ _ e) (fun q => by rw [q, hcn] at e; cases e)
      clear keep sM
      walk_at "rs"
      refine ⟨q.D, _, _, rfl, rfl, s7 _ _ hD6, by rw [List.length_map, c.np]; exact small1000 (by omega), ?_⟩
      have u8 : ∀ {b : Addr} {o : HO}, b ≠ q.D → H7 b = some o → (upd H7 q.D (.lst (v.ps.map V.ref ++ [V.ref cn]))) b = some o := fun n e => by rw [upd_ne n]; exact e
      have hD8 : (upd H7 q.D (.lst (v.ps.map V.ref ++ [V.ref cn]))) q.D = some (.lst ((v.ps ++ [cn]).map V.ref)) := by rw [upd_same]; simp
      have hp8 := u8 hpD (s7 _ _ hp6)
      have hB8 := u8 c.ne2 (s7 _ _ hB6)
      have hR8 := u8 c.ne4 (s7 _ _ hR6)
      have hL8 := u8 c.ne6.symm (s7 _ _ hL6)
      have hD7 := s7 _ _ hD6
      have hcm8 : CommAt a.C_Committee (upd H7 q.D (.lst (v.ps.map V.ref ++ [V.ref cn]))) cn wn := by
        obtain ⟨d1, t1, e1, e2⟩ := hcm
        exact ⟨d1, t1, u8 (fun e => by rw [e, hD7] at e1; cases e1) e1, u8 (fun e => by rw [e, hD7] at e2; cases e2) e2⟩
      generalize upd H7 q.D (.lst (v.ps.map V.ref ++ [V.ref cn])) = H8 at u8 hD8 hp8 hB8 hR8 hL8 hcm8 ⊢
      walk_at "rs"
      refine ⟨p, _, dx, _, .ref q.L, rfl, hp8, T.cl_Chain, T.a_Chain_ledgers, rfl, ?_⟩
      refine ⟨.inl ⟨rfl, _, SqL.of hL8⟩, ?_⟩
      walk_at "rs"
      refine ⟨q.L, _, _, rfl, rfl, hL8, by rw [List.length_map, c.nl]; exact small1000 (by omega), ?_⟩
      have u9 : ∀ {b : Addr} {o : HO}, b ≠ q.L → H8 b = some o → (upd H8 q.L (.lst (v.ls.map V.ref ++ [V.ref (v.ls.getD v.zs.length 0)]))) b = some o := fun n e => by rw [upd_ne n]; exact e
      have hL9 : (upd H8 q.L (.lst (v.ls.map V.ref ++ [V.ref (v.ls.getD v.zs.length 0)]))) q.L = some (.lst ((v.ls ++ [v.ls.getD v.zs.length 0]).map V.ref)) := by rw [upd_same]; simp
      have hcm9 : CommAt a.C_Committee (upd H8 q.L (.lst (v.ls.map V.ref ++ [V.ref (v.ls.getD v.zs.length 0)]))) cn wn := by
        obtain ⟨d1, t1, e1, e2⟩ := hcm8
        exact ⟨d1, t1, u9 (fun e => by rw [e, hL8] at e1; cases e1) e1, u9 (fun e => by rw [e, hL8] at e2; cases e2) e2⟩
      have hp9 := u9 hpL hp8
      have hB9 := u9 c.ne3 hB8
      have hR9 := u9 c.ne5 hR8
      have hD9 := u9 c.ne6 hD8
      generalize upd H8 q.L (.lst (v.ls.map V.ref ++ [V.ref (v.ls.getD v.zs.length 0)])) = H9 at u9 hL9 hcm9 hp9 hB9 hR9 hD9 ⊢
      have kq : ButC q H H9 := fun b o n1 n2 n3 n4 e => u9 n4 (u8 n3 (s7 _ _ (u6 n2 (s5 _ _ (u4 n1 (s3 _ _ e))))))
      have l1 := c.nr
      have l2 := c.np
      have l3 := c.nw
      have l4 := c.nl
      refine k r cn H9 ⟨⟨dx, hp9⟩, hB9, hR9, hD9, hL9, ?_, ?_, ?_, ?_, c.ne1, c.ne2, c.ne3, c.ne4, c.ne5, c.ne6, fun i hi => ?_, fun l hl => ?_⟩ kq
      · show (v.rs ++ [r]).length = (v.zs ++ [z]).length
        rw [List.length_append, List.length_append, l1]
        rfl
      · show (v.ps ++ [cn]).length = (v.zs ++ [z]).length + 1
        rw [List.length_append, List.length_append, l2]
        rfl
      · show (v.ws ++ [wn]).length = (v.zs ++ [z]).length + 1
        rw [List.length_append, List.length_append, l3]
        rfl
      · show (v.ls ++ [_]).length = (v.zs ++ [z]).length + 1
        rw [List.length_append, List.length_append, l4]
        rfl
      · have hi : i < (v.ws ++ [wn]).length := hi
        rw [List.length_append, List.length_singleton] at hi
        show CommAt _ _ ((v.ps ++ [cn]).getD i 0) ((v.ws ++ [wn]).getD i []) ∧ GoodW ((v.ws ++ [wn]).getD i [])
        rcases Nat.lt_or_ge i v.ws.length with z1 | z1
        · rw [getD_app (by omega), getD_app z1]
          obtain ⟨⟨d1, t1, e1, e2⟩, g1⟩ := c.cm i z1
          exact ⟨⟨d1, t1, kq.nl c e1 (fun _ e => nomatch e), kq.nl c e2 (fun _ e => nomatch e)⟩, g1⟩
        · have ei : i = v.ws.length := by omega
          rw [ei, getD_end, show v.ws.length = v.ps.length by omega, getD_end]
          exact ⟨hcm9, gwn⟩
      · have hl' : l ∈ v.ls := by
          rcases List.mem_append.mp hl with h | h
          · exact h
          · rw [List.mem_singleton.mp h]
            exact getD_memC (by omega)
        obtain ⟨t1, ⟨d1, c1, c2, e1⟩, e2⟩ := c.ld l hl'
        exact ⟨t1, ⟨d1, c1, c2, kq.nl c e1 (fun _ e => nomatch e)⟩, kq.nl c e2 (fun _ e => nomatch e)⟩

theorem good_pos {ws : List Int} (gw : GoodW ws) (k : Nat) : 0 ≤ ws.getD k 0 := by
  rcases Nat.lt_or_ge k ws.length with h | h
  · have := gw.2.2 _ (getD_mem h)
    omega
  · rw [List.getD_eq_getElem?_getD, List.getElem?_eq_none h]
    exact Int.le_refl _
theorem wt_mono2 {ws : List Int} {f g : Int → Bool} (pos : ∀ k : Nat, 0 ≤ ws.getD k 0) (h : ∀ k : Int, f k = true → g k = true) : ∀ n, wt ws f n ≤ wt ws g n
  | 0 => Int.le_refl _
  | n + 1 => by
    have ih := wt_mono2 pos h n
    have p := pos n
    have q := h n
    rw [wt_succ, wt_succ]
    cases e : f (n : Int) with
    | true =>
      rw [q e, if_pos rfl]
      omega
    | false =>
      rw [if_neg Bool.false_ne_true]
      split <;> omega
theorem qrm_mono {ws ms ns : List Int} (pos : ∀ k : Nat, 0 ≤ ws.getD k 0) (h : ∀ k ∈ ms, k ∈ ns) (q : qrm ws ms = true) : qrm ws ns = true := by
  have q := of_decide_eq_true q
  have : wOf ws ms ≤ wOf ws ns := wt_mono2 pos (fun k hk => decide_eq_true (h k (of_decide_eq_true hk))) _
  exact decide_eq_true (by omega)
theorem mem_mono {xs ys : List Lt} {h t : Int} {b : Option Str} {L M : List Int} (hxy : ∀ x ∈ xs, x ∈ ys) (hL : ∀ k ∈ L, k ∈ M) : ∀ k ∈ memM xs h t b L, k ∈ memM ys h t b M := fun k hk => by
  unfold memM at hk ⊢
  obtain ⟨x, hx, rfl⟩ := List.mem_map.mp hk
  obtain ⟨h1, h2⟩ := List.mem_filter.mp hx
  refine List.mem_map.mpr ⟨x, List.mem_filter.mpr ⟨hxy x h1, ?_⟩, rfl⟩
  unfold cnt at h2 ⊢
  rw [Bool.and_eq_true_iff] at h2 ⊢
  refine ⟨h2.1, ?_⟩
  have h3 := h2.2
  cases e : x.m.l with
  | none => rfl
  | some l =>
    rw [e] at h3
    have h3 : (decide (l ∈ L) && decide (l < t)) = true := h3
    rw [Bool.and_eq_true_iff] at h3
    show (decide (l ∈ M) && decide (l < t)) = true
    rw [decide_eq_true (hL l (of_decide_eq_true h3.1)), h3.2]
    rfl
theorem lns_mono {ws : List Int} {xs ys : List Lt} {h : Int} {b : Option Str} (pos : ∀ k : Nat, 0 ≤ ws.getD k 0) (hxy : ∀ x ∈ xs, x ∈ ys) : ∀ n, ∀ k ∈ lns ws xs h b n, k ∈ lns ws ys h b n
  | 0, k, hk => hk
  | n + 1, k, hk => by
    have ih := lns_mono (h := h) (b := b) pos hxy n
    by_cases c : certM ws xs h b n = true
    · have c2 : certM ws ys h b n = true := qrm_mono pos (mem_mono hxy ih) c
      rw [lns_yes c] at hk
      rw [lns_yes c2]
      rcases List.mem_append.mp hk with hk | hk
      · exact List.mem_append_left _ (ih k hk)
      · exact List.mem_append_right _ hk
    · rw [lns_no c] at hk
      by_cases c2 : certM ws ys h b n = true
      · rw [lns_yes c2]
        exact List.mem_append_left _ (ih k hk)
      · rw [lns_no c2]
        exact ih k hk
theorem comm_mono {ws : List Int} {xs ys : List Lt} {h : Int} {b : Option Str} {n : Nat} (pos : ∀ k : Nat, 0 ≤ ws.getD k 0) (hxy : ∀ x ∈ xs, x ∈ ys) (c : commM ws xs h b n = true) : commM ws ys h b n = true := by
  unfold commM at c ⊢
  rw [Bool.and_eq_true_iff] at c ⊢
  refine ⟨qrm_mono pos (fun k hk => ?_) c.1, qrm_mono pos (mem_mono hxy (lns_mono pos hxy n)) c.2⟩
  unfold comS at hk ⊢
  obtain ⟨x, hx, rfl⟩ := List.mem_map.mp hk
  obtain ⟨h1, h2⟩ := List.mem_filter.mp hx
  exact List.mem_map.mpr ⟨x, List.mem_filter.mpr ⟨hxy x h1, h2⟩, rfl⟩
theorem sh_some {ws : List Int} {xs : List Lt} {h : Int} {b : Str} : shM ws xs h (some b) = true ↔ ∃ t : Nat, t < 60 ∧ commM ws xs h (some b) t = true := by
  have key : ∀ u, u ∈ cmL ws xs h (some b) ↔ (0 ≤ u ∧ u < 60) ∧ commM ws xs h (some b) u.toNat = true := fun u => by
    show u ∈ (lns ws xs h (some b) 60).filter (fun t => qrm ws (comS xs h t (some b))) ↔ _
    rw [List.mem_filter, mem_lnsI]
    unfold commM
    rw [Bool.and_eq_true_iff]
    constructor
    · rintro ⟨⟨h1, h2, h3⟩, h4⟩
      have et : ((u.toNat : Nat) : Int) = u := Int.toNat_of_nonneg h1
      rw [et]
      exact ⟨⟨h1, h2⟩, h4, h3⟩
    · rintro ⟨⟨h1, h2⟩, h4, h3⟩
      have et : ((u.toNat : Nat) : Int) = u := Int.toNat_of_nonneg h1
      rw [et] at h4
      exact ⟨⟨h1, h2, h3⟩, h4⟩
  unfold shM
  constructor
  · intro z
    cases e : cmL ws xs h (some b) with
    | nil => rw [e] at z; cases z
    | cons y ys =>
      have := (key y).mp (by rw [e]; exact List.mem_cons_self)
      exact ⟨y.toNat, by omega, this.2⟩
  · rintro ⟨t, ht, c⟩
    have := (key (t : Int)).mpr ⟨⟨by omega, by omega⟩, by rw [Int.toNat_natCast]; exact c⟩
    cases e : cmL ws xs h (some b) with
    | nil => rw [e] at this; cases this
    | cons y ys => rfl
theorem sh_four {ws : List Int} {xs : List Lt} {h : Int} {b : Str} (g : GoodW ws) (four : ∀ x ∈ xs, 0 ≤ x.m.t ∧ x.m.t < 4) : shM ws xs h (some b) = true ↔ ∃ t : Nat, t < 5 ∧ commM ws xs h (some b) t = true := by
  rw [sh_some]
  constructor
  · rintro ⟨t, _, c⟩
    refine ⟨t, ?_, c⟩
    refine Nat.lt_of_not_le fun z => ?_
    have : certM ws xs h (some b) t = false := cert_none g (fun z => nomatch z) fun ⟨x, hx, y⟩ => by
      have h1 := inT_t y
      have h2 := four x hx
      omega
    unfold commM at c
    rw [this, Bool.and_false] at c
    cases c
  · rintro ⟨t, h1, c⟩
    exact ⟨t, by omega, c⟩

theorem sh_three {ws : List Int} {xs : List Lt} {h : Int} {b : Str} (g : GoodW ws) (three : ∀ x ∈ xs, 0 ≤ x.m.t ∧ x.m.t < 3) : shM ws xs h (some b) = true ↔ ∃ t : Nat, t < 3 ∧ commM ws xs h (some b) t = true := by
  rw [sh_some]
  constructor
  · rintro ⟨t, _, c⟩
    refine ⟨t, ?_, c⟩
    refine Nat.lt_of_not_le fun z => ?_
    have : certM ws xs h (some b) t = false := cert_none g (fun z => nomatch z) fun ⟨x, hx, y⟩ => by
      have h1 := inT_t y
      have h2 := three x hx
      omega
    unfold commM at c
    rw [this, Bool.and_false] at c
    cases c
  · rintro ⟨t, h1, c⟩
    exact ⟨t, by omega, c⟩
def spLShows (K : PySem.W.Frag) : Sp := fun vs H Q _ => ∃ (pw l : Addr) (ws : List Int) (b : Str) (ps : List Addr) (xs : List Lt) (h : Int), vs = [.ref pw, .ref l, .int h, .str b] ∧ SqL K H pw (ws.map V.int) ∧ GoodW ws ∧ H l = some (.lst (ps.map V.ref)) ∧ LsAt H ps xs ∧ xs.length ≤ 100 ∧ OkS (some b) ∧ OkL xs ∧ (∀ x ∈ xs, 0 ≤ x.m.t ∧ x.m.t < 3) ∧
  ∀ H', Same H H' → Q (.bl (shM ws xs h (some b))) H'
theorem ok_law_shows (T : Txt K mg a) : ∃ fd, FnOk P w K mg base CX0 4 a.d_law_shows fd ["weights", "letters", "height", "block"] (spLShows K) ∧ Binds K fd ["weights", "letters", "height", "block"] [] := by
  obtain ⟨fd, F, b⟩ := T.d_law_shows.F
  obtain ⟨fd_law_committed, G_law_committed, b_law_committed⟩ := ok_law_committed (P := P) (w := w) (base := base) T
  refine ⟨fd, F.ok sc_law_shows (fun vs H Q E h => ?_) (fun cdv A outer s H vs Q E hr h => ?_), b⟩
  · obtain ⟨_, _, _, _, _, _, _, rfl, _⟩ := h
    rfl
  · obtain ⟨pw, l, ws, b, ps, xs, h, rfl, hw, gw, hl, hx, few, ob, ok, three, k⟩ := h
    refine ⟨_, (pss_cons (ps_for PassesOwn.never rfl (pi_range1 rfl T.n_range (pa_cons pe_int pa_nil)) (pg_name (i := 4) sc_law_shows.nd rfl (Or.inl rfl))
      (pss_one (ps_if (pt_val (pe_call G_law_committed (hr.mono (by decide)) rfl T.d_law_committed.g T.d_law_committed.kp b_law_committed .nil pass0 (pa_cons (pv 0) (pa_cons (pv 1) (pa_cons (pv 2) (pa_cons (pv 4) (pa_cons (pv 3) pa_nil)))))))
        (pss_one (ps_ret pe_bl))
        pss_nil)))
      (pss_one (ps_ret pe_bl))), ?_⟩
    walk_at "rs"
    refine ⟨(by decide), (by decide), ?_⟩
    refine for_range (lo := 0) (n := (3 : Int).toNat) (fun i σ H2 => ∃ v3 : Option V, σ = [some (.ref pw), some (.ref l), some (.int h), some (.str b), v3] ∧ Same H H2 ∧ ∀ t : Nat, t < i → commM ws xs h (some b) t = false) ⟨_, rfl, Same.refl H, fun t ht => absurd ht (Nat.not_lt_zero _)⟩ ?_ ?_
    · rintro i σ H2 hi ⟨v3, rfl, s2, no⟩
      have i5 : i < 3 := hi
      have e0 : (0 : Int) + (i : Int) = (i : Int) := Int.zero_add _
      rw [e0]
      walk_at "rs"
      refine ⟨pw, l, ws, ps, xs, h, _, some b, rfl, s2.seq hw, gw.2.1, s2 _ _ hl, hx.same s2, few, by omega, by omega, ob, ok, fun H3 s3 => ?_⟩
      rw [Int.toNat_natCast]
      walk_at "rs"
      refine ite2 (fun c1 => ?_) (fun c1 => ?_)
      · walk_at "rs"
        have k1 := k H3 (s2.trans s3)
        rw [(sh_three gw three).mpr ⟨i, i5, c1⟩] at k1
        exact k1
      · refine ⟨_, rfl, s2.trans s3, fun t ht => ?_⟩
        rcases Nat.lt_or_ge t i with z | z
        · exact no t z
        · have : t = i := by omega
          rw [this]
          simpa using c1
    · rintro σ H2 ⟨v3, rfl, s2, no⟩
      walk_at "rs"
      have k1 := k H2 s2
      have e : shM ws xs h (some b) = false := by
        cases q : shM ws xs h (some b) with
        | false => rfl
        | true =>
          obtain ⟨t, h1, h2⟩ := (sh_three gw three).mp q
          rw [no t h1] at h2
          cases h2
      rw [e] at k1
      exact k1
/-! ### clients -/
def ClAt (C : Addr) (H : Hp) (k p : Addr) : Prop := ∃ dx, H k = some (.ins C dx [("chain", .ref p)])
def spClInit (K : PySem.W.Frag) (C0 C1 C2 C3 : Addr) : Sp := fun vs H Q _ => ∃ (k dx l g : Addr) (ws : List Int) (x y : Int), vs = [.ref k, .ref l, .ref g] ∧ H k = some (.ins C0 dx []) ∧ SqL K H l (ws.map V.int) ∧ GoodW ws ∧ SqL K H g [] ∧
  ∀ p q c d H', ClAt C0 H' k p → CnAt C1 C2 C3 H' p q ⟨[], [], [c], [ws], [d]⟩ x y → H p = none → H q.B = none → H q.R = none → H q.D = none → H q.L = none → But1 k H H' → Q .non H'
theorem CnAt.but {C1 C2 C3 : Addr} {H H' : Hp} {p k : Addr} {q : CnP} {v : CnV} {x y : Int} {C dx : Addr} {fs : List (Str × V)} (c : CnAt C1 C2 C3 H p q v x y) (s : But1 k H H') (hk : H k = some (.ins C dx fs)) (n : p ≠ k) (hC3 : ∀ l ∈ v.ls, l ≠ k) (hC2 : ∀ z ∈ v.ps, z ≠ k) : CnAt C1 C2 C3 H' p q v x y := by
  have L : ∀ {b : Addr} {xs : List V}, H b = some (.lst xs) → H' b = some (.lst xs) := fun {b xs} h => s _ _ (fun e => by rw [e, hk] at h; cases h) h
  have Tt : ∀ {b : Addr} {xs : List V}, H b = some (.tup xs) → H' b = some (.tup xs) := fun {b xs} h => s _ _ (fun e => by rw [e, hk] at h; cases h) h
  exact { c with
    ins := c.ins.elim fun d h => ⟨d, s _ _ n h⟩
    hB := L c.hB
    hR := L c.hR
    hD := L c.hD
    hL := L c.hL
    cm := fun i hi => by
      obtain ⟨⟨d1, t1, e1, e2⟩, g⟩ := c.cm i hi
      have : v.ps.getD i 0 ∈ v.ps := getD_memC (by have := c.np; have := c.nw; omega)
      exact ⟨⟨d1, t1, s _ _ (hC2 _ this) e1, Tt e2⟩, g⟩
    ld := fun l hl => by
      obtain ⟨t, ⟨d1, c2, c3, h1⟩, h2⟩ := c.ld l hl
      exact ⟨t, ⟨d1, c2, c3, s _ _ (hC3 l hl) h1⟩, Tt h2⟩ }
theorem ok_Client_init (T : Txt K mg a) : ∃ fd, FnOk P w K mg base CX0 6 a.d_Client_init fd ["self", "weights", "grants"] (spClInit K a.C_Client a.C_Chain a.C_Committee a.C_Ledger) ∧ Binds K fd ["self", "weights", "grants"] [] := by
  obtain ⟨fd, F, b⟩ := T.d_Client_init.F
  obtain ⟨fd_Chain_init, G_Chain_init, b_Chain_init⟩ := ok_Chain_init (P := P) (w := w) (base := base) T
  refine ⟨fd, F.ok sc_Client_init (fun vs H Q E h => ?_) (fun cdv A outer s H vs Q E hr h => ?_), b⟩
  · obtain ⟨_, _, _, _, _, _, _, rfl, _⟩ := h
    rfl
  · obtain ⟨k, dx, l, g, ws, x, y, rfl, hk, hl, gw, hg, kk⟩ := h
    refine ⟨_, (pss_one (ps_fld (pv 0) (pe_make T.m_Chain G_Chain_init (hr.mono (by decide)) (by rfl) T.g_Chain b_Chain_init .nil pass0 (pa_cons (pv 1) (pa_cons (pv 2) pa_nil))) rfl)), ?_⟩
    walk_at "rs"
    intro p dp hp hdp ndp
    have sM : Same H (upd (upd H dp (.own p)) p (.ins a.C_Chain dp [])) := same_upd (same_new hdp) hp
    refine ⟨p, dp, l, g, ws, x, y, rfl, upd_same, sM.seq hl, gw, sM.seq hg, fun q c d H1 hc f1 f2 f3 f4 keep => ⟨rfl, ?_⟩⟩
    have s1 : Same H H1 := fun b o e => keep b o (fun q => by rw [q, hp] at e; cases e) (sM _ _ e)
    have fr : ∀ {b : Addr}, (upd (upd H dp (.own p)) p (.ins a.C_Chain dp [])) b = none → H b = none := fun h => sM.free h
    have hk1 := s1 _ _ hk
    have pk : p ≠ k := fun e => by rw [e, hk] at hp; cases hp
    walk_at "rs"
    refine ⟨k, _, dx, [], rfl, hk1, T.cl_Client, T.a_Client_chain, (by show 0 < 1000; decide), ?_⟩
    have ck : ∀ z ∈ [c], z ≠ k := fun z hz e => by
      rw [List.mem_singleton.mp hz] at e
      obtain ⟨⟨d1, t1, e1, e2⟩, _⟩ := hc.cm 0 (by show 0 < 1; decide)
      have e1 : H1 c = some (.ins a.C_Committee d1 (cfs t1 ws)) := e1
      rw [e, hk1] at e1
      have e3 := (congrArg (fun o : Option HO => match o with | some (.ins _ _ fs) => fs.length | _ => 0) e1)
      have e4 : (cfs t1 ws).length = 0 := e3.symm
      have e5 := cfs_w t1 ws
      rw [List.length_eq_zero_iff.mp e4] at e5
      cases e5
    have dk : ∀ z ∈ [d], z ≠ k := fun z hz e => by
      rw [List.mem_singleton.mp hz] at e
      obtain ⟨t, ⟨d1, c2, c3, h1⟩, h2⟩ := hc.ld d (List.mem_singleton.mpr rfl)
      rw [e, hk1] at h1
      have e3 := (congrArg (fun o : Option HO => match o with | some (.ins _ _ fs) => fs.length | _ => 0) h1)
      exact absurd (show (0 : Nat) = 3 from e3) (by decide)
    have kp : But1 k H1 (upd H1 k (.ins a.C_Client dx (putF "chain" (.ref p) []))) := fun b o n e => by rw [upd_ne n]; exact e
    refine kk p q c d _ ⟨dx, by rw [upd_same]; rfl⟩ (hc.but kp hk1 pk dk ck) hp (fr f1) (fr f2) (fr f3) (fr f4) fun b o n e => kp b o n (s1 _ _ e)
def spFollow (C0 C1 C2 C3 CB : Addr) : Sp := fun vs H Q E => ∃ (k p l : Addr) (z : Str) (q : CnP) (v : CnV) (x y : Int) (ps : List Addr) (xs : List Lt), vs = [.ref k, .str z, .ref l] ∧ ClAt C0 H k p ∧ CnAt C1 C2 C3 H p q v x y ∧ z.length ≤ 1000 ∧ onlyW (cmdsOf z) ∧ v.zs.length ≤ 800 ∧
  H l = some (.lst (ps.map V.ref)) ∧ LsAt H ps xs ∧ xs.length ≤ 900 ∧ TB xs ∧
  (shM (v.ws.getD v.zs.length []) xs v.zs.length (some z) = true → ∀ r c H', CnAt C1 C2 C3 H' p q ⟨v.zs ++ [z], v.rs ++ [r], v.ps ++ [c], v.ws ++ [rew (v.ws.getD v.zs.length []) (cmdsOf z)], v.ls ++ [v.ls.getD v.zs.length 0]⟩ x y → ButC q H H' → Q (.int ((v.zs.length : Int) + 1)) H') ∧
  (shM (v.ws.getD v.zs.length []) xs v.zs.length (some z) = false → ∀ H', Same H H' → E (.ref CB) none H')
theorem ButC.of_same {q : CnP} {H H' H'' : Hp} (s : Same H H') (k : ButC q H' H'') : ButC q H H'' := fun b o n1 n2 n3 n4 e => k b o n1 n2 n3 n4 (s _ _ e)
theorem ok_Client_follow (TE : TxtE P w K mg a) (T : Txt K mg a) : ∃ fd, FnOk P w K mg base (L2N.CX P w) 7 a.d_Client_follow fd ["self", "block", "paper"] (spFollow a.C_Client a.C_Chain a.C_Committee a.C_Ledger a.C_BadPaper) ∧ Binds K fd ["self", "block", "paper"] [] := by
  obtain ⟨fd, F, b⟩ := T.d_Client_follow.F
  obtain ⟨fd_Chain_extend, G_Chain_extend, b_Chain_extend⟩ := ok_Chain_extend (P := P) (w := w) (base := base) TE T
  obtain ⟨fd_Chain_height, G_Chain_height, b_Chain_height⟩ := ok_Chain_height (P := P) (w := w) (base := base) T
  obtain ⟨fd_shows, G_shows, b_shows⟩ := ok_shows (P := P) (w := w) (base := base) T
  obtain ⟨fd_Chain_committee, G_Chain_committee, b_Chain_committee⟩ := ok_Chain_committee (P := P) (w := w) (base := base) T
  refine ⟨fd, fun_okN F sc_Client_follow (fun vs H Q E h => ?_) (fun cdv A outer s H vs Q E hr h => ?_), b⟩
  · obtain ⟨_, _, _, _, _, _, _, _, _, _, rfl, _⟩ := h
    rfl
  · obtain ⟨k, p, l, z, q, v, x, y, ps, xs, rfl, ⟨dk, hk⟩, hc, lz, ow, few, hl, hx, fx, tb, k1, k2⟩ := h
    obtain ⟨dp, hp⟩ := id hc.ins
    obtain ⟨cm, gw⟩ := hc.cm v.zs.length (by have := hc.nw; omega)
    refine ⟨_, (pss_cons (ps_if (pt_not (pt_val (pe_call G_shows (hr.mono (by decide)) rfl T.d_shows.g T.d_shows.kp b_shows .nil pass0 (pa_cons (pe_meth0 (pe_fld (pv 0) rfl) T.cl_Chain T.me_Chain_committee G_Chain_committee (hr.mono (by decide)) b_Chain_committee .nil pass0) (pa_cons (pe_meth0 (pe_fld (pv 0) rfl) T.cl_Chain T.me_Chain_height G_Chain_height (hr.mono (by decide)) b_Chain_height .nil pass0) (pa_cons (pv 1) (pa_cons (pv 2) pa_nil)))))))
      (pss_one (L2N.ps_raise rfl (L2N.takes_of rfl rfl rfl rfl) (L2N.pmk_own PySem.F.excBase_ValueError TE.x_BadPaper TE.g_BadPaper TE.kc_BadPaper (raises_own TE.b_BadPaper TE.t_BadPaper) rfl)))
      pss_nil)
      (pss_cons (ps_expr (pe_meth (pe_fld (pv 0) rfl) T.cl_Chain T.me_Chain_extend G_Chain_extend (hr.mono (by decide)) b_Chain_extend .nil pass0 (pa_cons (pv 1) pa_nil)))
      (pss_one (ps_ret (pe_meth0 (pe_fld (pv 0) rfl) T.cl_Chain T.me_Chain_height G_Chain_height (hr.mono (by decide)) b_Chain_height .nil pass0))))), ?_⟩
    walk_at "rs"
    refine ⟨k, _, dk, _, .ref p, rfl, hk, T.cl_Client, T.a_Client_chain, rfl, ?_⟩
    walk_at "rs"
    refine ⟨p, dp, _, rfl, hp, rfl, ?_⟩
    walk_at "rs"
    refine ⟨p, q, v, x, y, rfl, hc, ?_⟩
    walk_at "rs"
    refine ⟨k, _, dk, _, .ref p, rfl, hk, T.cl_Client, T.a_Client_chain, rfl, ?_⟩
    walk_at "rs"
    refine ⟨p, dp, _, rfl, hp, rfl, ?_⟩
    walk_at "rs"
    refine ⟨p, q, v, x, y, rfl, hc, ?_⟩
    walk_at "rs"
    refine ⟨_, l, _, ps, xs, _, some z, rfl, cm, gw, hl, hx, fx, tb, fun H1 s1 => ?_⟩
    cases e : shM (v.ws.getD v.zs.length []) xs v.zs.length (some z) with
    | false =>
      walk_at "rs"
      exact k2 e H1 s1
    | true =>
      have k1 := k1 e
      walk_at "rs"
      refine ⟨k, _, dk, _, .ref p, rfl, s1 _ _ hk, T.cl_Client, T.a_Client_chain, rfl, ?_⟩
      walk_at "rs"
      refine ⟨p, dp, _, rfl, s1 _ _ hp, rfl, ?_⟩
      walk_at "rs"
      refine ⟨p, q, v, x, y, z, rfl, hc.same s1, lz, ow, by omega, fun r c H2 hc2 kq => ?_⟩
      have hk2 := kq.nl (hc.same s1) (s1 _ _ hk) (fun _ e => nomatch e)
      have hp2 := kq.nl (hc.same s1) (s1 _ _ hp) (fun _ e => nomatch e)
      walk_at "rs"
      refine ⟨k, _, dk, _, .ref p, rfl, hk2, T.cl_Client, T.a_Client_chain, rfl, ?_⟩
      walk_at "rs"
      refine ⟨p, dp, _, rfl, hp2, rfl, ?_⟩
      walk_at "rs"
      refine ⟨p, q, _, x, y, rfl, hc2, ?_⟩
      have := k1 r c H2 hc2 (kq.of_same s1)
      show Q (.int (((v.zs ++ [z]).length : Nat) : Int)) H2
      rw [List.length_append]
      exact this

/-! ### a list of letters that is being made -/
structure PLg (H Hc : Hp) (pl : Addr) (G : Lt → Prop) (n : Nat) (ps : List Addr) (xs : List Lt) : Prop where
  same : Same H Hc
  free : H pl = none
  at' : Hc pl = some (.lst (ps.map V.ref))
  ls : LsAt Hc ps xs
  good : ∀ x ∈ xs, G x
  few : xs.length ≤ n
theorem PLg.start {H Hc : Hp} {pl : Addr} {G : Lt → Prop} (s : Same H Hc) (f : Hc pl = none) : PLg H (upd Hc pl (.lst [])) pl G 0 [] [] :=
  ⟨s.trans (same_new f), s.free f, upd_same, LsAt.nil, fun x hx => (nomatch hx), Nat.le_refl _⟩
theorem PLg.more {H Hc : Hp} {pl : Addr} {G : Lt → Prop} {n n' : Nat} {ps : List Addr} {xs : List Lt} (I : PLg H Hc pl G n ps xs) (h : n ≤ n') : PLg H Hc pl G n' ps xs := { I with few := Nat.le_trans I.few h }
theorem PLg.go {H Hc H' : Hp} {pl : Addr} {G : Lt → Prop} {n : Nat} {ps : List Addr} {xs : List Lt} (I : PLg H Hc pl G n ps xs) (s : Same Hc H') : PLg H H' pl G n ps xs :=
  { I with same := I.same.trans s, at' := s _ _ I.at', ls := I.ls.same s }
theorem PLg.push {H Hc : Hp} {pl t : Addr} {G : Lt → Prop} {n : Nat} {ps : List Addr} {xs : List Lt} {x : Lt} (I : PLg H Hc pl G n ps xs) (e : LtAt Hc t x) (g : G x) : PLg H (upd Hc pl (.lst (ps.map V.ref ++ [V.ref t]))) pl G (n + 1) (ps ++ [t]) (xs ++ [x]) where
  same := same_upd I.same I.free
  free := I.free
  at' := by
    rw [upd_same]
    simp
  ls := (I.ls.snoc e).upd I.at'
  good := fun y hy => by
    rcases List.mem_append.mp hy with hy | hy
    · exact I.good y hy
    · rw [List.mem_singleton.mp hy]
      exact g
  few := by
    have := I.few
    rw [List.length_append, List.length_singleton]
    omega
theorem PLg.fit {H Hc : Hp} {pl : Addr} {G : Lt → Prop} {n : Nat} {ps : List Addr} {xs : List Lt} (I : PLg H Hc pl G n ps xs) (h : n < 1000) : (ps.map V.ref).length < sizeLine := by
  have := I.few
  rw [List.length_map, I.ls.1]
  exact small1000 (by omega)
/-- a fresh statement in a fresh letter -/
theorem lt_new {H : Hp} {q t : Addr} {w : Int} {m : Sm} {vs : List V} (hq : H q = none) (ev : vs = m.vals) (ht : upd H q (.tup vs) t = none) : LtAt (upd (upd H q (.tup vs)) t (.tup [.int w, .ref q])) t ⟨w, m⟩ ∧ Same H (upd (upd H q (.tup vs)) t (.tup [.int w, .ref q])) := by
  have s1 : Same H (upd H q (.tup vs)) := same_new hq
  have s2 : Same (upd H q (.tup vs)) (upd (upd H q (.tup vs)) t (.tup [.int w, .ref q])) := same_new ht
  refine ⟨⟨q, upd_same, s2 _ _ ?_⟩, s1.trans s2⟩
  rw [upd_same, ev]
theorem upd_row {H : Hp} {pl pd : Addr} {o r : HO} (n : pd ≠ pl) (h : H pd = some r) : upd H pl o pd = some r := by
  rw [upd_ne n]
  exact h

/-! ### xs[::-1] -/
section
open PyProof.Rows
def tBack (K : PySem.W.Frag) (te ts : TE) : TE := fun σ H Q => te σ H fun x H1 => ts σ H1 fun y H2 => ∃ a xs, x = .ref a ∧ y = .int (-1) ∧ SqL K H2 a xs ∧ ∀ p, H2 p = none → Q (.ref p) (_root_.L2.upd H2 p (.lst xs.reverse))
theorem pe_back {X : Cx} {e st : Expr} {te ts : TE} {p2 pos : Pos} (he : PE X e te) (hst : PE X st ts) : PE X (.Subscript e (.Slice none none (some st) p2) pos) (tBack X.K te ts) := by
  refine ⟨fun pins s σ H Q I h => Subscript_ (thn (he.run pins s σ H _ I h) fun v s1 ⟨x, H1, I1, r1, q1⟩ => wpAny_Slice ?_)⟩
  rw [evalPart_none, evalPart_some]
  refine wpAny_pure (wpAny_pure (thn (hst.run pins s1 σ H1 _ I1 q1) fun vk s2 ⟨y, H2, I2, r2, a, xs, ex, ey, hx, q⟩ => ?_))
  subst ex ey
  obtain ⟨t, rfl⟩ := r2
  obtain rfl : v = Value.ref a := r1
  obtain ⟨its, rv, hl, hz⟩ := I2.list hx
  generalize hsl : (Value.int (-1) t) = vk
  have pk : IsPart vk (some (-1)) := by
    rw [← hsl]
    exact .int (-1) t
  have J := I2.kept (h' := s2.heap.push { cls := .type "slice", data := .fields #[.none, .none, vk] }) (t' := s2.toks) fun b o g => Heap.get?_push_of_some _ g
  obtain ⟨its2, rv2, hl2, hz2⟩ := J.list hx
  refine tail_any (ops := [.ref a, .ref s2.heap.objs.size]) hl2.isList.typeIs PySem.F.slot_list_getitem.lookup ?_ (by with_unfolding_all rfl)
  refine wpAny_getItem_list_slice hl2.isList (Heap.IsSliceOf.new ..) .none .none pk (by decide) ?_ (by rw [List.size_toArray, ← rv2.length]; exact hz2)
  rw [PySem.W.krv_pick]
  refine ⟨.ref _, upd H2 _ (.lst xs.reverse), J.laid (t' := s2.toks) (fun b o g => Heap.get?_push_of_some _ g) (Nat.le_refl _) ⟨?_, _, 0, rv2.reverse, Heap.get?_push_size _ rfl⟩, rfl, q _ (J.hok.fresh (Nat.le_refl _))⟩
  rw [List.length_reverse]
  exact hz2
end

theorem LsAt.reverse {H : Hp} {ps : List Addr} {xs : List Lt} (h : LsAt H ps xs) : LsAt H ps.reverse xs.reverse := by
  have n := h.1
  refine ⟨by rw [List.length_reverse, List.length_reverse, n], fun i hi => ?_⟩
  rw [List.length_reverse] at hi
  have := h.2 (xs.length - 1 - i) (by omega)
  rw [List.getD_eq_getElem?_getD, List.getD_eq_getElem?_getD] at this ⊢
  rw [List.getElem?_reverse (by omega), List.getElem?_reverse hi, n]
  exact this
/-- a letter of a paper that the law makes -/
def PapL (h : Int) (z : Str) (x : Lt) : Prop := x.m.b = some z ∧ x.m.h = h ∧ 0 ≤ x.m.t ∧ x.m.t < 3 ∧ x.m.k ≠ .prop ∧ 0 ≤ x.w ∧ x.w < 16 ∧ x.m.l = none
def spPaper (K : PySem.W.Frag) : Sp := fun vs H Q _ => ∃ (cell size h : Int) (z : Str), vs = [.int cell, .int size, .int h, .str z] ∧ 0 < size ∧ size ≤ 16 ∧
  ∀ p ps xs H', Same H H' → H p = none → H' p = some (.lst (ps.map V.ref)) → LsAt H' ps xs → xs.length ≤ 32 → (∀ x ∈ xs, PapL h z x) → Q (.ref p) H'
theorem ok_law_paper (T : Txt K mg a) : ∃ fd, FnOk P w K mg base CX0 2 a.d_law_paper fd ["cell", "size", "height", "block"] (spPaper K) ∧ Binds K fd ["cell", "size", "height", "block"] [] := by
  obtain ⟨fd, F, b⟩ := T.d_law_paper.F
  obtain ⟨fd_law_row, G_law_row, b_law_row⟩ := ok_law_row (P := P) (w := w) (base := base) T
  refine ⟨fd, F.ok sc_law_paper (fun vs H Q E h => ?_) (fun cdv A outer s H vs Q E hr h => ?_), b⟩
  · obtain ⟨_, _, _, _, rfl, _⟩ := h
    rfl
  · obtain ⟨cell, size, h, z, rfl, z0, z16, kk⟩ := h
    refine ⟨_, (pss_cons (ps_set (i := 4) sc_law_paper.nd rfl (Or.inl rfl) (pe_call G_law_row (hr.mono (by decide)) rfl T.d_law_row.g T.d_law_row.kp b_law_row .nil pass0 (pa_cons (pv 0) (pa_cons (pe_op op_add (pv 1) pe_int) (pa_cons pe_int pa_nil)))))
      (pss_cons (ps_set (i := 5) sc_law_paper.nd rfl (Or.inl rfl) (pe_op op_mod (pe_callTy call_int1 (by rfl) T.n_int (by decide +kernel) (pa_cons (pe_ix ix_list (pv 4) pe_int (fun _ _ => rfl)) pa_nil)) pe_int))
      (pss_cons (ps_set (i := 6) sc_law_paper.nd rfl (Or.inl rfl) (pe_lst pa_nil))
      (pss_cons (ps_for PassesOwn.never rfl (pi_range1 rfl T.n_range (pa_cons (pv 1) pa_nil)) (pg_name (i := 7) sc_law_paper.nd rfl (Or.inl rfl))
      (pss_cons (ps_set (i := 8) sc_law_paper.nd rfl (Or.inl rfl) (pe_op op_mod (pe_callTy call_int1 (by rfl) T.n_int (by decide +kernel) (pa_cons (pe_op op_add (pv 7) (pe_ix ix_list (pv 4) pe_int (fun _ _ => rfl))) pa_nil)) (pv 1)))
        (C8.pss_cut (ps_if (pt_cmpR op_ne (pe_op op_mod (pe_callTy call_int1 (by rfl) T.n_int (by decide +kernel) (pa_cons (pe_ix ix_list (pv 4) (pe_op op_add pe_int (pv 7)) (fun _ _ => rfl)) pa_nil)) pe_int) pe_int (nomark _))
        (pss_one (ps_expr (pe_bm PySem.F.plainAttrs_list PySem.F.slot_list_append PySem.F.type_list_append mt_append (pv 6) (pa_cons (pe_tup (pa_cons (pv 8) (pa_cons (pe_tup (pa_cons pe_str (pa_cons (pv 2) (pa_cons (pv 5) (pa_cons (pv 3) (pa_cons pe_non pa_nil)))))) pa_nil))) pa_nil))))
        pss_nil)
        (pss_one (ps_if (pt_cmpR op_ne (pe_op op_mod (pe_callTy call_int1 (by rfl) T.n_int (by decide +kernel) (pa_cons (pe_ix ix_list (pv 4) (pe_op op_add pe_int (pv 7)) (fun _ _ => rfl)) pa_nil)) pe_int) pe_int (nomark _))
        (pss_one (ps_expr (pe_bm PySem.F.plainAttrs_list PySem.F.slot_list_append PySem.F.type_list_append mt_append (pv 6) (pa_cons (pe_tup (pa_cons (pv 8) (pa_cons (pe_tup (pa_cons pe_str (pa_cons (pv 2) (pa_cons (pv 5) (pa_cons (pv 3) pa_nil))))) pa_nil))) pa_nil))))
        pss_nil)))))
      (C8.pss_cut (ps_if (pt_cmpR op_eq (pe_op op_mod (pe_callTy call_int1 (by rfl) T.n_int (by decide +kernel) (pa_cons (pe_ix ix_list (pv 4) pe_int (fun _ _ => rfl)) pa_nil)) pe_int) pe_int (nomark _))
      (pss_one (ps_set (i := 6) sc_law_paper.nd rfl (Or.inl rfl) (pe_back (pv 6) (pe_un un_neg pe_int))))
      pss_nil)
      (pss_one (ps_ret (pv 6)))))))), ?_⟩
    walk_at "rs"
    refine ⟨_, _, _, rfl, by omega, by omega, by decide, by decide, fun pd row H1 s1 hrow rlen hb hpd => ?_⟩
    walk_at "rs"
    refine ⟨pd, _, _, .int (row.getD 0 0), rfl, rfl, SqL.of hrow, at_of (j := 0) rfl (at_ints (by omega)), ?_⟩
    walk_at "rs"
    refine ⟨(by show 0 ≤ sizeLine; decide), fun pl hpl => ?_⟩
    have I0 : PLg H (upd H1 pl (.lst [])) pl (PapL h z) 0 [] [] := PLg.start s1 hpl
    have npd := ne_of_none hrow hpl
    have hrow0 : (upd H1 pl (.lst [])) pd = some (.lst (row.map V.int)) := (same_new hpl) _ _ hrow
    have y0 : 0 ≤ row.getD 0 0 % 3 := Int.emod_nonneg _ (by decide)
    have y3 : row.getD 0 0 % 3 < 3 := Int.emod_lt_of_pos _ (by decide)
    walk_at "rs"
    refine ⟨(by show -(2 ^ 62 : Int) ≤ _; omega), (by show _ < (2 ^ 62 : Int); omega), ?_⟩
    refine for_range (lo := 0) (n := size.toNat) (fun i σ H2 => ∃ v7 v8 : Option V, σ = [some (.int cell), some (.int size), some (.int h), some (.str z), some (.ref pd), some (.int (row.getD 0 0 % 3)), some (.ref pl), v7, v8] ∧ ∃ ps xs, PLg H H2 pl (PapL h z) (2 * i) ps xs ∧ H2 pd = some (.lst (row.map V.int))) ⟨_, _, rfl, [], [], I0, hrow0⟩ ?_ ?_
    · rintro k σ H2 hi ⟨v7, v8, rfl, ps, xs, I, hrow2⟩
      have e0 : (0 : Int) + (k : Int) = (k : Int) := Int.zero_add _
      rw [e0]
      walk_at "rs"
      refine ⟨pd, _, _, .int (row.getD 1 0), rfl, rfl, SqL.of hrow2, at_of (j := 1) rfl (at_ints (by omega)), ?_⟩
      have w0 : 0 ≤ ((k : Int) + row.getD 1 0) % size := Int.emod_nonneg _ (by omega)
      have w1 : ((k : Int) + row.getD 1 0) % size < 16 := Int.lt_of_lt_of_le (Int.emod_lt_of_pos _ z0) (by omega)
      walk_at "rs"
      refine ⟨fun σ' H' => σ' = [some (.int cell), some (.int size), some (.int h), some (.str z), some (.ref pd), some (.int (row.getD 0 0 % 3)), some (.ref pl), some (.int (k : Int)), some (.int (((k : Int) + row.getD 1 0) % size))] ∧ ∃ ps xs, PLg H H' pl (PapL h z) (2 * k + 1) ps xs ∧ H' pd = some (.lst (row.map V.int)), ?_, ?_⟩
      · walk_at "rs"
        refine ⟨pd, _, _, .int (row.getD (4 + k) 0), rfl, rfl, SqL.of hrow2, at_of (j := 4 + k) (by show (4 : Int) + (k : Int) = _; omega) (at_ints (by omega)), ?_⟩
        walk_at "rs"
        refine ite2 (fun c1 => ?_) (fun c1 => ?_)
        · walk_at "rs"
          refine ⟨.inl ⟨rfl, _, SqL.of I.at'⟩, ?_⟩
          walk_at "rs"
          refine ⟨(by show 5 ≤ sizeLine; decide), fun qI1 hqI1 => ?_⟩
          refine ⟨(by show 2 ≤ sizeLine; decide), fun tI1 htI1 => ?_⟩
          obtain ⟨ltI1, sI1⟩ := lt_new (w := ((k : Int) + row.getD 1 0) % size) (m := ⟨.pre, h, row.getD 0 0 % 3, some z, none⟩) hqI1 rfl htI1
          have JI1 := I.go sI1
          refine ⟨pl, _, _, rfl, rfl, JI1.at', JI1.fit (by omega), ?_⟩
          have I1 := JI1.push ltI1 ⟨rfl, rfl, y0, y3, fun z => (nomatch z), w0, w1, rfl⟩
          exact ⟨rfl, _, _, I1.more (by omega), upd_row npd (sI1 _ _ hrow2)⟩
        · exact ⟨rfl, _, _, I.more (by omega), hrow2⟩
      · clear I hrow2
        rintro σ' H3 ⟨rfl, ps, xs, I, hrow2⟩
        walk_at "rs"
        refine ⟨pd, _, _, .int (row.getD (4 + k) 0), rfl, rfl, SqL.of hrow2, at_of (j := 4 + k) (by show (4 : Int) + (k : Int) = _; omega) (at_ints (by omega)), ?_⟩
        walk_at "rs"
        refine ite2 (fun c1 => ?_) (fun c1 => ?_)
        · walk_at "rs"
          refine ⟨.inl ⟨rfl, _, SqL.of I.at'⟩, ?_⟩
          walk_at "rs"
          refine ⟨(by show 4 ≤ sizeLine; decide), fun qI1 hqI1 => ?_⟩
          refine ⟨(by show 2 ≤ sizeLine; decide), fun tI1 htI1 => ?_⟩
          obtain ⟨ltI1, sI1⟩ := lt_new (w := ((k : Int) + row.getD 1 0) % size) (m := ⟨.com, h, row.getD 0 0 % 3, some z, none⟩) hqI1 rfl htI1
          have JI1 := I.go sI1
          refine ⟨pl, _, _, rfl, rfl, JI1.at', JI1.fit (by omega), ?_⟩
          have I1 := JI1.push ltI1 ⟨rfl, rfl, y0, y3, fun z => (nomatch z), w0, w1, rfl⟩
          exact ⟨_, _, rfl, _, _, I1.more (by omega), upd_row npd (sI1 _ _ hrow2)⟩
        · exact ⟨_, _, rfl, _, _, I.more (by omega), hrow2⟩
    · rintro σ H2 ⟨v7, v8, rfl, ps, xs, I, hrow2⟩
      have len2 := I.few
      walk_at "rs"
      refine ⟨fun σ' H' => ∃ (p : Addr) (ps : List Addr) (xs : List Lt), σ' = [some (.int cell), some (.int size), some (.int h), some (.str z), some (.ref pd), some (.int (row.getD 0 0 % 3)), some (.ref p), v7, v8] ∧ Same H H' ∧ H p = none ∧ H' p = some (.lst (ps.map V.ref)) ∧ LsAt H' ps xs ∧ xs.length ≤ 32 ∧ ∀ x ∈ xs, PapL h z x, ?_, ?_⟩
      · walk_at "rs"
        refine ⟨pd, _, _, .int (row.getD 2 0), rfl, rfl, SqL.of hrow2, at_of (j := 2) rfl (at_ints (by omega)), ?_⟩
        walk_at "rs"
        refine ite2 (fun c1 => ?_) (fun c1 => ?_)
        · walk_at "rs"
          refine ⟨pl, _, rfl, rfl, SqL.of I.at', fun p5 hp5 => ?_⟩
          have s5 := same_new (o := .lst (ps.map V.ref).reverse) hp5
          exact ⟨p5, ps.reverse, xs.reverse, rfl, I.same.trans s5, I.same.free hp5, by rw [upd_same, List.map_reverse], (LsAt.reverse I.ls).same s5, by rw [List.length_reverse]; omega, fun x hx => I.good x (List.mem_reverse.mp hx)⟩
        · exact ⟨pl, ps, xs, rfl, I.same, I.free, I.at', I.ls, by omega, I.good⟩
      · rintro σ' H3 ⟨p, ps, xs, rfl, s3, fp, hp, hx, len, good⟩
        walk_at "rs"
        exact kk p ps xs H3 s3 fp hp hx len good
/-! ### blocks that the law makes -/
def BlkOk (z : Str) : Prop := z.length ≤ 60 ∧ PyData.strOk z = true ∧ ((∃ m v : Int, z = (Cm.w m v).txt ∧ 0 ≤ m ∧ m < 5 ∧ 1 ≤ v ∧ v < 10) ∨ ((∃ c r, TL.tl z = c :: r ∧ (c = 98 ∨ c = 99))))
theorem BlkOk.cmds {z : Str} (h : BlkOk z) : (∃ m v : Int, z = (Cm.w m v).txt ∧ 0 ≤ m ∧ m < 5 ∧ 1 ≤ v ∧ v < 10 ∧ cmdsOf z = [.w m v]) ∨ ((∃ c r, TL.tl z = c :: r ∧ (c = 98 ∨ c = 99)) ∧ cmdsOf z = []) := by
  rcases h.2.2 with ⟨m, v, e, m0, m1, v0, v1⟩ | ⟨c, r, e, hc⟩
  · refine .inl ⟨m, v, e, m0, m1, v0, v1, ?_⟩
    rw [e]
    exact cmdsOf_one ⟨⟨m0, by omega⟩, ⟨by omega, by omega⟩⟩
  · refine .inr ⟨⟨c, r, e, hc⟩, ?_⟩
    unfold cmdsOf
    rw [TL.len_tl, e, List.length_cons, cmdsP, cmdP]
    have : ckOf c = none := by rcases hc with rfl | rfl <;> rfl
    rw [this]
    rfl
theorem BlkOk.only {z : Str} (h : BlkOk z) : onlyW (cmdsOf z) := by
  rcases h.cmds with ⟨m, v, _, m0, m1, v0, v1, e⟩ | ⟨_, e⟩
  · rw [e]
    intro c hc
    rw [List.mem_singleton.mp hc]
    exact ⟨m, v, rfl, ⟨m0, by omega⟩, ⟨by omega, by omega⟩⟩
  · rw [e]
    exact fun c hc => absurd hc List.not_mem_nil
def spLBlock : Sp := fun vs H Q _ => ∃ c h : Int, vs = [.int c, .int h] ∧ 0 ≤ h ∧ h ≤ 1000 ∧ ∀ z, BlkOk z → blkB z = true → Q (.str z) H
theorem nu_ok {i : Int} (h : NOk i) : ∀ c ∈ TL.tl (nu i), c < 1114112 := fun c hc => by
  rw [nu_tl h] at hc
  have := TL.numL_digits _ c hc
  omega
theorem nu_len6 {i : Int} (h : NOk i) : (nu i).length ≤ 6 := by
  obtain ⟨h0, h1⟩ := id h
  rw [TL.len_tl, nu_tl h]
  exact TL.numL_len (k := 6) (by decide) (by omega)
theorem nu_log2 {i : Int} (h : NOk i) : i.natAbs.log2 < 1920 := by
  obtain ⟨h0, h1⟩ := h
  rcases Nat.eq_zero_or_pos i.natAbs with z | z
  · rw [z]
    decide
  · have : i.natAbs.log2 < 30 := (Nat.log2_lt (Nat.ne_of_gt z)).mpr (by omega)
    omega
theorem isA_digit : ∀ c : _root_.Fin 10, isA (48 + c.val) = true := by decide +kernel
theorem nu_isA {i : Int} (h : NOk i) : (TL.tl (nu i)).all isA = true := by
  rw [nu_tl h]
  refine List.all_eq_true.mpr fun c hc => ?_
  have := TL.numL_digits _ c hc
  have e := isA_digit ⟨c - 48, by omega⟩
  rwa [show 48 + (c - 48) = c by omega] at e
theorem blk_mk4 {A B : Str} {p q : Nat} (hA : TL.tl A = [p]) (hB : TL.tl B = [q]) (lp : isL p = true) (ap : isA p = true) (aq : isA q = true) {i j : Int} (hi : NOk i) (hj : NOk j) : blkB (((A ++ nu i) ++ B) ++ nu j) = true := by
  have l1 := nu_len6 hi
  have l2 := nu_len6 hj
  rw [TL.len_tl] at l1 l2
  have e : TL.tl (((A ++ nu i) ++ B) ++ nu j) = p :: (TL.tl (nu i) ++ q :: TL.tl (nu j)) := by
    rw [TL.tl_append, TL.tl_append, TL.tl_append, hA, hB]
    simp
  unfold blkB
  rw [e]
  show (decide ((TL.tl (nu i) ++ q :: TL.tl (nu j)).length + 1 ≤ 60) && (isL p && (p :: (TL.tl (nu i) ++ q :: TL.tl (nu j))).all isA)) = true
  rw [decide_eq_true (by rw [List.length_append, List.length_cons]; omega), lp, List.all_cons, ap, List.all_append, nu_isA hi, List.all_cons, aq, nu_isA hj]
  rfl
theorem ok_law_block (T : Txt K mg a) : ∃ fd, FnOk P w K mg base CX0 1 a.d_law_block fd ["cell", "height"] spLBlock ∧ Binds K fd ["cell", "height"] [] := by
  obtain ⟨fd, F, b⟩ := T.d_law_block.F
  refine ⟨fd, F.ok sc_law_block (fun vs H Q E h => ?_) (fun cdv A outer s H vs Q E hr h => ?_), b⟩
  · obtain ⟨_, _, rfl, _⟩ := h
    rfl
  · obtain ⟨c, h, rfl, h0, h1, k⟩ := h
    refine ⟨_, (pss_cons (ps_if (pt_cmpR op_eq (pe_op op_mod (pe_callTy call_int1 (by rfl) T.n_int (by decide +kernel) (pa_cons (pv 0) pa_nil)) pe_int) pe_int (nomark _))
      (pss_one (ps_ret (pe_op op_add_str (pe_op op_add_str (pe_op op_add_str pe_str (pe_callTy cr_strA (by rfl) T.n_str (by decide +kernel) (pa_cons (pe_op op_mod (pe_op op_fdiv (pv 0) pe_int) pe_int) pa_nil))) pe_str) (pe_callTy cr_strA (by rfl) T.n_str (by decide +kernel) (pa_cons (pe_op op_add pe_int (pe_op op_mod (pe_op op_fdiv (pv 0) pe_int) pe_int)) pa_nil)))))
      pss_nil)
      (pss_one (ps_ret (pe_op op_add_str (pe_op op_add_str (pe_op op_add_str pe_str (pe_callTy cr_strA (by rfl) T.n_str (by decide +kernel) (pa_cons (pv 1) pa_nil))) pe_str) (pe_callTy cr_strA (by rfl) T.n_str (by decide +kernel) (pa_cons (pe_op op_mod (pe_op op_fdiv (pv 0) pe_int) pe_int) pa_nil)))))), ?_⟩
    have m0 := Int.emod_nonneg (c / 3) (show (5 : Int) ≠ 0 by decide)
    have m1 := Int.emod_lt_of_pos (c / 3) (show (0 : Int) < 5 by decide)
    have v0 := Int.emod_nonneg (c / 15) (show (9 : Int) ≠ 0 by decide)
    have v1 := Int.emod_lt_of_pos (c / 15) (show (0 : Int) < 9 by decide)
    have t0 := Int.emod_nonneg (c / 3) (show (3 : Int) ≠ 0 by decide)
    have t1 := Int.emod_lt_of_pos (c / 3) (show (0 : Int) < 3 by decide)
    have om : NOk (c / 3 % 5) := ⟨m0, by omega⟩
    have ov : NOk (1 + c / 15 % 9) := ⟨by omega, by omega⟩
    have oh : NOk h := ⟨h0, by omega⟩
    have ot : NOk (c / 3 % 3) := ⟨t0, by omega⟩
    have l1 : (Str.ofString (toString (c / 3 % 5))).length ≤ 6 := nu_len6 om
    have l2 : (Str.ofString (toString (1 + c / 15 % 9))).length ≤ 6 := nu_len6 ov
    have l3 : (Str.ofString (toString h)).length ≤ 6 := nu_len6 oh
    have l4 : (Str.ofString (toString (c / 3 % 3))).length ≤ 6 := nu_len6 ot
    have q1 : ("w" : Str).length = 1 := rfl
    have q2 : ("x" : Str).length = 1 := rfl
    have q3 : ("b" : Str).length = 1 := rfl
    have q4 : ("t" : Str).length = 1 := rfl
    walk_at "rs"
    refine ite2 (fun c1 => ?_) (fun c1 => ?_)
    · walk_at "rs"
      refine ⟨nu_log2 om, ?_⟩
      walk_at "rs"
      refine ⟨by rw [sizeLine_eq]; omega, ?_⟩
      walk_at "rs"
      refine ⟨by rw [PySem.Str.length_append, sizeLine_eq]; omega, ?_⟩
      walk_at "rs"
      refine ⟨nu_log2 ov, ?_⟩
      walk_at "rs"
      refine ⟨by simp only [PySem.Str.length_append]; rw [sizeLine_eq]; omega, ?_⟩
      walk_at "rs"
      refine k _ ⟨by simp only [PySem.Str.length_append]; omega, strOk_cps fun n hn => ?_, .inl ⟨c / 3 % 5, 1 + c / 15 % 9, rfl, m0, m1, by omega, by omega⟩⟩ (blk_mk4 (A := "w") (B := "x") (p := 119) (q := 120) (by decide +kernel) (by decide +kernel) (by decide +kernel) (by decide +kernel) (by decide +kernel) om ov)
      simp only [TL.tl_append, List.mem_append] at hn
      rcases hn with ((hn | hn) | hn) | hn
      · have : ∀ n ∈ TL.tl "w", n < 1114112 := by decide +kernel
        exact this n hn
      · exact nu_ok om n hn
      · have : ∀ n ∈ TL.tl "x", n < 1114112 := by decide +kernel
        exact this n hn
      · exact nu_ok ov n hn
    · walk_at "rs"
      refine ⟨nu_log2 oh, ?_⟩
      walk_at "rs"
      refine ⟨by rw [sizeLine_eq]; omega, ?_⟩
      walk_at "rs"
      refine ⟨by rw [PySem.Str.length_append, sizeLine_eq]; omega, ?_⟩
      walk_at "rs"
      refine ⟨nu_log2 ot, ?_⟩
      walk_at "rs"
      refine ⟨by simp only [PySem.Str.length_append]; rw [sizeLine_eq]; omega, ?_⟩
      walk_at "rs"
      refine k _ ⟨by simp only [PySem.Str.length_append]; omega, strOk_cps fun n hn => ?_, .inr ⟨98, TL.tl (nu h ++ "t" ++ nu (c / 3 % 3)), ?_, .inl rfl⟩⟩ (blk_mk4 (A := "b") (B := "t") (p := 98) (q := 116) (by decide +kernel) (by decide +kernel) (by decide +kernel) (by decide +kernel) (by decide +kernel) oh ot)
      · simp only [TL.tl_append, List.mem_append] at hn
        rcases hn with ((hn | hn) | hn) | hn
        · have : ∀ n ∈ TL.tl "b", n < 1114112 := by decide +kernel
          exact this n hn
        · exact nu_ok oh n hn
        · have : ∀ n ∈ TL.tl "t", n < 1114112 := by decide +kernel
          exact this n hn
        · exact nu_ok ot n hn
      · simp only [TL.tl_append]
        rfl

/-- what stands in the text of a new weight -/
theorem wtxt_facts {m v : Int} (m0 : 0 ≤ m) (m1 : m < 5) (v0 : 1 ≤ v) (v1 : v < 10) : (TL.tl (Cm.w m v).txt)[0]? = some 119 ∧ ∃ d, (TL.tl (Cm.w m v).txt)[1]? = some d ∧ PySem.intText? ⟨#[d]⟩ = some m ∧
    PySem.intText? (cutS (Cm.w m v).txt (some 3) none) = some v ∧ (cutS (Cm.w m v).txt (some 3) none).length ≤ 640 := by
  have h : ∀ i : Fin 5, ∀ j : Fin 9, (TL.tl (Cm.w (i.val : Int) ((j.val : Int) + 1)).txt)[0]? = some 119 ∧ (TL.tl (Cm.w (i.val : Int) ((j.val : Int) + 1)).txt)[1]? = some (48 + i.val) ∧ PySem.intText? ⟨#[48 + i.val]⟩ = some (i.val : Int) ∧
      PySem.intText? (cutS (Cm.w (i.val : Int) ((j.val : Int) + 1)).txt (some 3) none) = some ((j.val : Int) + 1) ∧ (cutS (Cm.w (i.val : Int) ((j.val : Int) + 1)).txt (some 3) none).length ≤ 640 := by
    decide +kernel
  have := h ⟨m.toNat, by omega⟩ ⟨(v - 1).toNat, by omega⟩
  rw [show ((m.toNat : Nat) : Int) = m by omega, show (((v - 1).toNat : Nat) : Int) + 1 = v by omega] at this
  exact ⟨this.1, _, this.2.1, this.2.2.1, this.2.2.2.1, this.2.2.2.2⟩
def spRew (K : PySem.W.Frag) : Sp := fun vs H Q _ => ∃ (pw : Addr) (ws : List Int) (z : Str), vs = [.ref pw, .str z] ∧ SqL K H pw (ws.map V.int) ∧ GoodW ws ∧ BlkOk z ∧
  ∀ p H', Same H H' → H p = none → H' p = some (.lst ((rew ws (cmdsOf z)).map V.int)) → Q (.ref p) H'
theorem ok_law_reweighted (T : Txt K mg a) : ∃ fd, FnOk P w K mg base CX0 1 a.d_law_reweighted fd ["weights", "block"] (spRew K) ∧ Binds K fd ["weights", "block"] [] := by
  obtain ⟨fd, F, b⟩ := T.d_law_reweighted.F
  refine ⟨fd, F.ok sc_law_reweighted (fun vs H Q E h => ?_) (fun cdv A outer s H vs Q E hr h => ?_), b⟩
  · obtain ⟨_, _, _, rfl, _⟩ := h
    rfl
  · obtain ⟨pw, ws, z, rfl, hw, gw, bo, k⟩ := h
    refine ⟨_, (pss_cons (ps_set (i := 2) sc_law_reweighted.nd rfl (Or.inl rfl) (pe_callTy call_list_of (by rfl) T.n_list (by decide +kernel) (pa_cons (pv 0) pa_nil)))
      (pss_cons (ps_if (PW.pt (pw_and (pt_cmpR op_eq (pe_ix ix_str (pv 1) pe_int (fun _ _ => rfl)) pe_str (nomark _)) (pw_and1 (pt_cmpR op_lt (pe_callTy call_int_str (by rfl) T.n_int (by decide +kernel) (pa_cons (pe_ix ix_str (pv 1) pe_int (fun _ _ => rfl)) pa_nil)) (pe_callB call_len_seq (by rfl) T.n_len PySem.boot_len (pa_cons (pv 0) pa_nil)) (nomark _)))))
      (pss_one (ps_asg (pe_callTy call_int_str (by rfl) T.n_int (by decide +kernel) (pa_cons (pe_slice sl_str (pv 1) (po_some pe_int) po_none) pa_nil)) (pg_sub (pv 2) (pe_callTy call_int_str (by rfl) T.n_int (by decide +kernel) (pa_cons (pe_ix ix_str (pv 1) pe_int (fun _ _ => rfl)) pa_nil)) set_list)))
      pss_nil)
      (pss_one (ps_ret (pv 2))))), ?_⟩
    have lz := bo.1
    walk_at "rs"
    refine ⟨pw, _, rfl, .inl hw, fun p hp => ?_⟩
    have s1 := same_new (o := .lst (ws.map V.int)) hp
    have hp1 : (upd H p (.lst (ws.map V.int))) p = some (.lst (ws.map V.int)) := upd_same
    generalize upd H p (.lst (ws.map V.int)) = H1 at s1 hp1 ⊢
    walk_at "rs"
    have z119 : (Str.ofString "w") = ⟨#[119]⟩ := rfl
    rcases bo.cmds with ⟨m, v, rfl, m0, m1, v0, v1, ec⟩ | ⟨⟨c, r, e, hc⟩, ec⟩
    · obtain ⟨f0, d, f1, fi, fv, fl⟩ := wtxt_facts m0 m1 v0 v1
      rw [ec] at k
      refine ⟨_, 0, 119, rfl, rfl, (by rw [sizeLine_eq]; omega), atI_nat (j := 0) f0, ?_⟩
      walk_at "rs"
      refine ⟨_, 1, d, rfl, rfl, (by rw [sizeLine_eq]; omega), atI_nat (j := 1) f1, ?_⟩
      walk_at "rs"
      refine ⟨_, _, rfl, fi, (by show 1 ≤ 640; decide), ?_⟩
      walk_at "rs"
      refine ⟨pw, _, rfl, .inl (s1.seq hw), ?_⟩
      walk_at "rs"
      have ln : (ws.map V.int).length = ws.length := List.length_map _
      have er : rew ws [.w m v] = afterW ws m v := rfl
      rw [er] at k
      unfold afterW at k
      refine ite2 (fun c1 => ?_) (fun c1 => ?_)
      · have c1 : m < (ws.length : Int) := by
          have := of_decide_eq_true c1
          rwa [ln] at this
        rw [if_neg (by omega)] at k
        walk_at "rs"
        refine ⟨by rw [sizeLine_eq]; omega, ?_⟩
        walk_at "rs"
        refine ⟨_, _, rfl, fv, fl, ?_⟩
        walk_at "rs"
        refine ⟨_, 1, d, rfl, rfl, (by rw [sizeLine_eq]; omega), atI_nat (j := 1) f1, ?_⟩
        walk_at "rs"
        refine ⟨_, _, rfl, fi, (by show 1 ≤ 640; decide), ?_⟩
        refine ⟨p, _, m, m.toNat, rfl, rfl, hp1, (by unfold ixN; rw [if_pos m0, if_pos (by rw [ln]; omega)]), ?_⟩
        walk_at "rs"
        exact k p _ (same_upd s1 hp) hp (by rw [upd_same, List.map_set])
      · have c1 : ¬ m < (ws.length : Int) := fun h => c1 (decide_eq_true (by rw [ln]; exact h))
        rw [if_pos (by omega)] at k
        walk_at "rs"
        exact k p H1 s1 hp hp1
    · rw [ec] at k
      refine ⟨_, 0, c, rfl, rfl, (by rw [sizeLine_eq]; omega), atI_nat (j := 0) (show (TL.tl z)[0]? = some c by rw [e]; rfl), ?_⟩
      have nc : ¬ V.str ⟨#[c]⟩ = V.str "w" := fun h => by
        have h := V.str.inj h
        rw [z119] at h
        have : c = 119 := by simpa using h
        omega
      walk_at "rs"
      refine ite2 (fun c1 => absurd (of_decide_eq_true c1) nc) (fun c1 => ?_)
      walk_at "rs"
      exact k p H1 s1 hp hp1

/-! ### archives: the head line -/
def wrd (ws : List Str) (k : Nat) : Str := ws.getD k ""
def headM (line : Str) : Option (Str × Int) :=
  if (Txt.split line " ").length = 3 ∧ wrd (Txt.split line " ") 0 = "block" ∧ blkB (wrd (Txt.split line " ") 1) = true ∧ numB (wrd (Txt.split line " ") 2) = true then some (wrd (Txt.split line " ") 1, numV (wrd (Txt.split line " ") 2)) else none
def spHead (K : PySem.W.Frag) : Sp := fun vs H Q _ => ∃ line : Str, vs = [.str line] ∧ line.length + 2 ≤ 16777216 ∧
  (headM line = none → ∀ H', Same H H' → Q .non H') ∧ (∀ z n, headM line = some (z, n) → ∀ q H', Same H H' → H' q = some (.tup [.str z, .int n]) → Q (.ref q) H')
theorem wrd_at {ws : List Str} {k : Nat} (h : k < ws.length) : (ws.map V.str)[k]? = some (.str (wrd ws k)) := by
  unfold wrd
  rw [List.getElem?_map, List.getD_eq_getElem?_getD, List.getElem?_eq_getElem h]
  rfl
theorem ok_read_head (T : Txt K mg a) : ∃ fd, FnOk P w K mg base CX0 2 a.d_read_head fd ["line"] (spHead K) ∧ Binds K fd ["line"] [] := by
  obtain ⟨fd, F, b⟩ := T.d_read_head.F
  obtain ⟨fd_is_block, G_is_block, b_is_block⟩ := ok_is_block (P := P) (w := w) (base := base) T
  obtain ⟨fd_is_number, G_is_number, b_is_number⟩ := ok_is_number (P := P) (w := w) (base := base) T
  refine ⟨fd, F.ok sc_read_head (fun vs H Q E h => ?_) (fun cdv A outer s H vs Q E hr h => ?_), b⟩
  · obtain ⟨_, rfl, _⟩ := h
    rfl
  · obtain ⟨line, rfl, ll, kn, ky⟩ := h
    refine ⟨_, (pss_cons (ps_set (i := 1) sc_read_head.nd rfl (Or.inl rfl) (pe_split (pv 0) pe_str))
      (pss_cons (ps_if (PW.pt (pw_or (pt_cmpR op_ne (pe_callB call_len_seq (by rfl) T.n_len PySem.boot_len (pa_cons (pv 1) pa_nil)) pe_int (nomark _)) (pw_or (pt_cmpR op_ne (pe_ix ix_list (pv 1) pe_int (fun _ _ => rfl)) (pe_glob (v := (.str "block")) rfl T.c_HEAD.choose_spec ⟨_, rfl⟩) (nomark _)) (pw_or (pt_not (pt_val (pe_call G_is_block (hr.mono (by decide)) rfl T.d_is_block.g T.d_is_block.kp b_is_block .nil pass0 (pa_cons (pe_ix ix_list (pv 1) pe_int (fun _ _ => rfl)) pa_nil)))) (pw_or1 (pt_not (pt_val (pe_call G_is_number (hr.mono (by decide)) rfl T.d_is_number.g T.d_is_number.kp b_is_number .nil pass0 (pa_cons (pe_ix ix_list (pv 1) pe_int (fun _ _ => rfl)) pa_nil)))))))))
      (pss_one (ps_ret pe_non))
      pss_nil)
      (pss_one (ps_ret (pe_tup (pa_cons (pe_ix ix_list (pv 1) pe_int (fun _ _ => rfl)) (pa_cons (pe_callTy call_int_str (by rfl) T.n_int (by decide +kernel) (pa_cons (pe_ix ix_list (pv 1) pe_int (fun _ _ => rfl)) pa_nil)) pa_nil))))))), ?_⟩
    walk_at "rs"
    refine ⟨⟨_, rfl⟩, _, _, rfl, rfl, by decide +kernel, ll, fun W hW0 => ?_⟩
    have s0 := same_new (o := .lst ((Txt.split line " ").map V.str)) hW0
    have hW := (upd_same : upd H W (.lst ((Txt.split line " ").map V.str)) W = _)
    have sw : ∀ w ∈ Txt.split line " ", w.length ≤ 16777216 := fun w hw => by
      have := PyProof.Rows.part_short hw
      omega
    unfold headM at kn ky
    generalize upd H W (.lst ((Txt.split line " ").map V.str)) = H0 at s0 hW ⊢
    generalize Txt.split line " " = ws at hW sw kn ky
    walk_at "rs"
    refine ⟨W, _, rfl, .inl (SqL.of hW), ?_⟩
    rw [List.length_map]
    walk_at "rs"
    refine ite2 (fun c1 => ?_) (fun c1 => ?_)
    · have n3 : ws.length ≠ 3 := by
        intro e
        rw [e] at c1
        simp at c1
      walk_at "rs"
      exact kn (if_neg fun z => n3 z.1) H0 s0
    have n3 : ws.length = 3 := by
      have : (ws.length : Int) = 3 := by simpa using c1
      omega
    walk_at "rs"
    refine ⟨W, _, _, _, rfl, rfl, SqL.of hW, at_of (j := 0) rfl (wrd_at (by omega)), ?_⟩
    walk_at "rs"
    refine ite2 (fun c2 => ?_) (fun c2 => ?_)
    · walk_at "rs"
      refine kn (if_neg fun z => ?_) H0 s0
      rw [z.2.1] at c2
      simp at c2
    have w0 : wrd ws 0 = "block" := by simpa using c2
    walk_at "rs"
    refine ⟨W, _, _, _, rfl, rfl, SqL.of hW, at_of (j := 1) rfl (wrd_at (by omega)), ?_⟩
    have mem : ∀ k, k < 3 → wrd ws k ∈ ws := fun k hk => by
      unfold wrd
      rw [List.getD_eq_getElem?_getD, List.getElem?_eq_getElem (by omega)]
      exact List.getElem_mem _
    walk_at "rs"
    refine ⟨sw _ (mem 1 (by decide)), fun H1 s1 => ?_⟩
    walk_at "rs"
    refine ite2 (fun c3 => ?_) (fun c3 => ?_)
    · walk_at "rs"
      refine kn (if_neg fun z => ?_) H1 (s0.trans s1)
      rw [z.2.2.1] at c3
      simp at c3
    have b1 : blkB (wrd ws 1) = true := by simpa using c3
    walk_at "rs"
    refine ⟨W, _, _, _, rfl, rfl, SqL.of (s1 _ _ hW), at_of (j := 2) rfl (wrd_at (by omega)), ?_⟩
    walk_at "rs"
    refine ⟨sw _ (mem 2 (by decide)), fun H2 s2 => ?_⟩
    walk_at "rs"
    have t2 := s0.trans (s1.trans s2)
    have hW2 := s2 _ _ (s1 _ _ hW)
    refine ite2 (fun c4 => ?_) (fun c4 => ?_)
    · walk_at "rs"
      refine kn (if_neg fun z => ?_) H2 t2
      rw [z.2.2.2] at c4
      simp at c4
    have b2 : numB (wrd ws 2) = true := by simpa using c4
    obtain ⟨e1, e2⟩ := num_int b2
    walk_at "rs"
    refine ⟨W, _, _, _, rfl, rfl, SqL.of hW2, at_of (j := 1) rfl (wrd_at (by omega)), ?_⟩
    walk_at "rs"
    refine ⟨W, _, _, _, rfl, rfl, SqL.of hW2, at_of (j := 2) rfl (wrd_at (by omega)), ?_⟩
    walk_at "rs"
    refine ⟨_, _, rfl, e1, by omega, ?_⟩
    walk_at "rs"
    refine ⟨(by show 2 ≤ sizeLine; decide), fun q hq => ?_⟩
    exact ky _ _ (if_pos ⟨n3, w0, b1, b2⟩) q _ (t2.trans (same_new hq)) upd_same
/-! ### the lines of an archive -/
def headS (z : Str) (n : Nat) : Str := ((((Str.empty ++ ("block" : Str)) ++ (" " : Str)) ++ z) ++ (" " : Str)) ++ (toString (n : Int) : Str)
def archM : List (Str × List Lt) → List Str
  | [] => []
  | (z, xs) :: r => headS z xs.length :: (xs.map fun x => lineS x.w x.m) ++ archM r
theorem archM_len : ∀ {es : List (Str × List Lt)}, (∀ e ∈ es, e.2.length ≤ 100) → (archM es).length ≤ 101 * es.length
  | [], _ => Nat.le_refl _
  | (z, xs) :: r, h => by
    have h1 := h (z, xs) List.mem_cons_self
    have h2 := archM_len (es := r) fun e he => h e (List.mem_cons_of_mem _ he)
    have h1 : xs.length ≤ 100 := h1
    simp only [archM, List.length_cons, List.length_append, List.length_map]
    omega
theorem archM_snoc : ∀ (es : List (Str × List Lt)) (z : Str) (xs : List Lt), archM (es ++ [(z, xs)]) = (archM es ++ [headS z xs.length]) ++ xs.map fun x => lineS x.w x.m
  | [], z, xs => by simp [archM]
  | (y, ys) :: r, z, xs => by simp [archM, archM_snoc r z xs]
def LnOk (x : Lt) : Prop := 0 ≤ x.w ∧ x.w < 1000000000 ∧ SmallM x.m
structure Ae where
  z : Str
  l : Addr
  ps : List Addr
  xs : List Lt
instance : Inhabited Ae := ⟨⟨Str.empty, 0, [], []⟩⟩
structure AeOk (H : Hp) (n : Ae) : Prop where
  hl : H n.l = some (.lst (n.ps.map V.ref))
  hx : LsAt H n.ps n.xs
  few : n.xs.length ≤ 100
  ok : ∀ x ∈ n.xs, LnOk x
  lz : n.z.length ≤ 100
theorem AeOk.same {H H' : Hp} {n : Ae} (h : AeOk H n) (s : Same H H') : AeOk H' n := { h with hl := s _ _ h.hl, hx := h.hx.same s }
def spArch (K : PySem.W.Frag) : Sp := fun vs H Q _ => ∃ (p q : Addr) (es : List Ae), vs = [.ref p, .ref q] ∧ H p = some (.lst ((es.map (·.z)).map V.str)) ∧ H q = some (.lst ((es.map (·.l)).map V.ref)) ∧ es.length ≤ 10 ∧ (∀ n ∈ es, AeOk H n) ∧
  ∀ R H', Same H H' → H R = none → H' R = some (.lst ((archM (es.map fun n => (n.z, n.xs))).map V.str)) → Q (.ref R) H'
theorem ok_archive_lines (T : Txt K mg a) : ∃ fd, FnOk P w K mg base CX0 3 a.d_archive_lines fd ["blocks", "papers"] (spArch K) ∧ Binds K fd ["blocks", "papers"] [] := by
  obtain ⟨fd, F, b⟩ := T.d_archive_lines.F
  obtain ⟨fd_letter_line, G_letter_line, b_letter_line⟩ := ok_letter_line (P := P) (w := w) (base := base) T
  refine ⟨fd, F.ok sc_archive_lines (fun vs H Q E h => ?_) (fun cdv A outer s H vs Q E hr h => ?_), b⟩
  · obtain ⟨_, _, _, rfl, _⟩ := h
    rfl
  · obtain ⟨p, q, es, rfl, hp, hq, few, ok, k⟩ := h
    refine ⟨_, (pss_cons (ps_set (i := 2) sc_archive_lines.nd rfl (Or.inl rfl) (pe_lst pa_nil))
      (pss_cons (ps_for PassesOwn.never rfl (pi_zip (by rfl) T.n_zip (pa_cons (pv 0) (pa_cons (pv 1) pa_nil))) (pg_tup rfl (pgs_cons (pg_name (i := 3) sc_archive_lines.nd rfl (Or.inl rfl)) (pgs_cons (pg_name (i := 4) sc_archive_lines.nd rfl (Or.inl rfl)) pgs_nil)))
      (pss_cons (ps_expr (pe_bm PySem.F.plainAttrs_list PySem.F.slot_list_append PySem.F.type_list_append mt_append (pv 2) (pa_cons (pe_joined (PJ.cons (pe_fmt (pe_glob (v := (.str "block")) rfl T.c_HEAD.choose_spec ⟨_, rfl⟩)) (PJ.cons pe_str (PJ.cons (pe_fmt (pv 3)) (PJ.cons pe_str (PJ.cons (pe_fmt (pe_callB call_len_seq (by rfl) T.n_len PySem.boot_len (pa_cons (pv 4) pa_nil))) PJ.nil)))))) pa_nil)))
        (pss_one (ps_expr (pe_bm PySem.F.plainAttrs_list PySem.F.slot_list_extend PySem.F.type_list_extend mt_extend (pv 2) (pa_cons (pe_lc (own := [("letter", 5)]) (g := (gName 5)) (tt := tYes) rfl sc_archive_lines.nd (pi_list (pv 4)) (blkOk_by (own := [("letter", 5)]) (N := sc_archive_lines_N) (sc := defScope s_archive_lines) (by decide +kernel)) (fun _ _ _ _ _ => (pg_name (i := 5) sc_archive_lines.nd rfl (Or.inl rfl))) (fun _ _ _ _ _ => pts_nil) (fun _ _ _ _ _ => (pe_call G_letter_line (hr.mono (by decide)) rfl T.d_letter_line.g T.d_letter_line.kp b_letter_line .nil pass0 (pa_cons (pv 5) pa_nil)))) pa_nil))))))
      (pss_one (ps_ret (pv 2))))), ?_⟩
    walk_at "rs"
    refine ⟨(by show 0 ≤ sizeLine; decide), fun R hR => ?_⟩
    have s1 := same_new (o := .lst []) hR
    have hR1 : (upd H R (.lst [])) R = some (.lst (([] : List Str).map V.str)) := upd_same
    generalize upd H R (.lst []) = H1 at s1 hR1 ⊢
    walk_at "rs"
    refine ⟨p, q, _, _, rfl, SqL.of (s1 _ _ hp), SqL.of (s1 _ _ hq), ?_⟩
    refine RZ.for_zipL (K := K) (a := p) (b := q) (xs := (es.map (·.z)).map V.str) (ys := (es.map (·.l)).map V.ref) (by simp) (fun i σ Hx => ∃ v3 v4 v5 : Option V, σ = [some (.ref p), some (.ref q), some (.ref R), v3, v4, v5] ∧ Same H Hx ∧ Hx R = some (.lst ((archM ((es.take i).map fun n => (n.z, n.xs))).map V.str)))
      ⟨_, _, _, rfl, s1, hR1⟩ (fun i σ Hx ⟨_, _, _, _, sx, _⟩ => ⟨SqL.of (sx _ _ hp), SqL.of (sx _ _ hq)⟩) ?_ ?_
    · rintro i x y t σ Hx hx hy ⟨v3, v4, v5, rfl, sx, hRx⟩ ht
      obtain ⟨n, hn, rfl, rfl⟩ : ∃ n, es[i]? = some n ∧ x = V.str n.z ∧ y = V.ref n.l := by
        rw [List.getElem?_map, List.getElem?_map] at hx hy
        cases e : es[i]? with
        | none =>
          rw [e] at hx
          cases hx
        | some n =>
          rw [e] at hx hy
          cases hx
          cases hy
          exact ⟨n, rfl, rfl, rfl⟩
      have hi := (List.getElem?_eq_some_iff.mp hn).1
      have et : es.take (i + 1) = es.take i ++ [n] := by
        rw [List.take_add_one, hn]
        rfl
      have N := (ok n (List.mem_of_getElem? hn)).same sx
      have s2 := same_new (o := .tup [V.str n.z, V.ref n.l]) ht
      have t2 : (upd Hx t (.tup [V.str n.z, V.ref n.l])) t = some (.tup [V.str n.z, V.ref n.l]) := upd_same
      generalize upd Hx t (.tup [V.str n.z, V.ref n.l]) = H2 at s2 t2 ⊢
      have N := N.same s2
      have hR2 := s2 _ _ hRx
      refine ⟨t, _, rfl, SqT.of t2, rfl, ?_⟩
      refine ⟨_, _, rfl, _, _, rfl, rfl, ?_⟩
      walk_at "rs"
      refine ⟨.inl ⟨rfl, _, SqL.of hR2⟩, ?_⟩
      walk_at "rs"
      have q1 : (Str.ofString "block").length = 5 := rfl
      have q2 : (Str.ofString " ").length = 1 := rfl
      have q0 : Str.empty.length = 0 := rfl
      have lz := N.lz
      have n1 := N.hx.1
      have few' := N.few
      have q3 : (toString ((n.xs.length : Nat) : Int) : Str).length ≤ 60 := (num_ok (Int.natCast_nonneg _) (by omega)).1
      refine ⟨by rw [sizeLine_eq]; omega, _, rfl, by simp only [PySem.Str.length_append]; rw [sizeLine_eq]; omega, ?_⟩
      refine ⟨_, rfl, by simp only [PySem.Str.length_append]; rw [sizeLine_eq]; omega, ?_⟩
      walk_at "rs"
      refine ⟨by rw [sizeLine_eq]; omega, _, rfl, by simp only [PySem.Str.length_append]; rw [sizeLine_eq]; omega, ?_⟩
      refine ⟨_, rfl, by simp only [PySem.Str.length_append]; rw [sizeLine_eq]; omega, ?_⟩
      walk_at "rs"
      refine ⟨n.l, _, rfl, .inl (SqL.of N.hl), ?_⟩
      rw [List.length_map, n1]
      refine .inr ⟨_, rfl, log_small (Int.natCast_nonneg _) (by omega), _, rfl, by simp only [PySem.Str.length_append]; rw [sizeLine_eq]; omega, ?_⟩
      have al : (archM ((es.take i).map fun n => (n.z, n.xs))).length ≤ 1010 := by
        have := archM_len (es := (es.take i).map fun n => (n.z, n.xs)) fun e he => by
          obtain ⟨m, hm, rfl⟩ := List.mem_map.mp he
          exact (ok m (List.mem_of_mem_take hm)).few
        rw [List.length_map, List.length_take] at this
        omega
      generalize hL0 : archM ((es.take i).map fun n => (n.z, n.xs)) = L0 at hR2 al hRx
      refine ⟨R, _, _, rfl, rfl, hR2, by rw [List.length_map, sizeLine_eq]; omega, ?_⟩
      have s3 : Same H (upd H2 R (.lst (L0.map V.str ++ [V.str (headS n.z n.xs.length)]))) := same_upd (sx.trans s2) hR
      have hR3 : (upd H2 R (.lst (L0.map V.str ++ [V.str (headS n.z n.xs.length)]))) R = some (.lst ((L0 ++ [headS n.z n.xs.length]).map V.str)) := by rw [upd_same]; simp
      have e0 : upd H2 R (.lst (L0.map V.str ++ [V.str (headS n.z n.xs.length)])) = upd H2 R (.lst (L0.map V.str ++ [V.str (Str.empty ++ Str.ofString "block" ++ Str.ofString " " ++ n.z ++ Str.ofString " " ++ Str.ofString (toString ((n.xs.length : Nat) : Int)))])) := rfl
      rw [← e0]
      generalize upd H2 R (.lst (L0.map V.str ++ [V.str (headS n.z n.xs.length)])) = H3 at s3 hR3 ⊢
      clear e0 N hR2
      have N := (ok n (List.mem_of_getElem? hn)).same s3
      walk_at "rs"
      refine ⟨.inl ⟨rfl, _, SqL.of hR3⟩, ?_⟩
      walk_at "rs"
      refine ⟨⟨_, SqL.of N.hl⟩, fun D hD => ?_⟩
      refine lc_list (K := K) (a := n.l) (xs := n.ps.map V.ref) (fun j Hj => Same H3 Hj ∧ Hj D = some (.lst (((n.xs.take j).map fun x => lineS x.w x.m).map V.str))) ⟨same_new hD, upd_same⟩ (fun j Hj _ ⟨sj, _⟩ => SqL.of (sj _ _ N.hl)) ?_ ?_
      · rintro j y Hj hy ⟨sj, hDj⟩
        have hj : j < n.ps.length := by
          have e := (List.getElem?_eq_some_iff.mp hy).1
          rwa [List.length_map] at e
        have hj' : j < n.xs.length := by omega
        rw [at_refs hj] at hy
        cases hy
        have hlt := (N.hx.2 j hj').same sj
        have hok := N.ok _ (getD_mem2 (d := default) hj')
        refine ⟨rfl, ?_⟩
        walk_at "rs"
        refine ⟨_, _, rfl, hlt, hok.1, hok.2.1, hok.2.2, fun H' s' => ?_⟩
        refine ⟨_, s' _ _ hDj, by rw [List.length_map, List.length_map, List.length_take]; exact small1000 (by omega), ?_, ?_⟩
        · exact same_upd (sj.trans s') hD
        · rw [upd_same, take_succ_getD (d := default) hj']
          simp
      · rintro H4 ⟨s4, hD4⟩
        rw [List.length_map, n1, List.take_length] at hD4
        refine ⟨R, D, _, _, rfl, rfl, s4 _ _ hR3, hD4, by rw [List.length_map, List.length_map, List.length_map, List.length_append, List.length_singleton, sizeLine_eq]; omega, ?_⟩
        refine ⟨_, _, _, rfl, same_upd (s3.trans s4) hR, ?_⟩
        have ea : archM ((es.take i ++ [n]).map fun n => (n.z, n.xs)) = (L0 ++ [headS n.z n.xs.length]) ++ n.xs.map fun x => lineS x.w x.m := by
          rw [List.map_append]
          show archM (_ ++ [(n.z, n.xs)]) = _
          rw [archM_snoc, hL0]
        rw [upd_same, et, ea]
        simp
    · rintro σ Hx ⟨v3, v4, v5, rfl, sx, hRx⟩
      walk_at "rs"
      rw [List.length_map, List.length_map, List.take_length] at hRx
      exact k R Hx sx hR hRx
/-! ### a line of an archive is refused -/
theorem msgA (i : Int) (h0 : 0 ≤ i) (h1 : i < 1000000000) : (((Str.empty ++ ("no right line of an archive at index " : Str)) ++ (toString i : Str)) : Str).length ≤ 1000 := by
  have a := (num_ok h0 h1).1
  have e : (((Str.empty ++ ("no right line of an archive at index " : Str)) ++ (toString i : Str)) : Str).length = (Str.empty ++ ("no right line of an archive at index " : Str)).length + (toString i : Str).length := by
    rw [TL.len_tl, TL.tl_append, List.length_append, ← TL.len_tl, ← TL.len_tl]
  rw [e]
  have c : (Str.empty ++ ("no right line of an archive at index " : Str)).length = 37 := by decide +kernel
  omega
theorem ok_BadArchive_init (TE : TxtE P w K mg a) (T : Txt K mg a) : ∃ fd, FnOk P w K mg base CX0 1 a.d_BadArchive_init fd ["self", "at"] (spSup a.C_BadArchive "at" fun v => ∃ i : Int, v = .int i ∧ 0 ≤ i ∧ i < 1000000000) ∧ Binds K fd ["self", "at"] [] := by
  obtain ⟨fd, S, b⟩ := TE.sup_BadArchive
  have T0 : SupTxt "at" "at" s_BadArchive_init _ _ _ _ _ _ _ _ _ _ := ⟨rfl, rfl, rfl, rfl, rfl, rfl, rfl, rfl, by decide +kernel, ⟨_, rfl, rfl⟩⟩
  refine ⟨fd, ok_sup S T0 (by decide +kernel) (by decide) (by decide) T.n_super ?_ (fun _ => rfl) (fun _ _ _ _ => rfl) (fun _ _ _ _ => rfl) (fun _ _ _ _ => rfl) _ (fun _ => rfl), b⟩
  rintro cd cc A outer s H E e v ⟨i, rfl, i0, i1⟩
  refine ⟨_, pa_cons (pe_joined (.cons pe_str (.cons (pe_fmt (pv 1)) .nil))) pa_nil, fun H1 Q q => ?_⟩
  have len := msgA i i0 i1
  refine ⟨_, rfl, by rw [sizeLine_eq]; decide +kernel, _, rfl, .inr ⟨i, rfl, log_small i0 i1, _, rfl, ?_, q _⟩⟩
  rw [sizeLine_eq]
  exact Nat.le_trans len (by decide)
theorem okh_BadArchive_init (TE : TxtE P w K mg a) (T : Txt K mg a) : ∃ fd, L2H.FnH P w K mg base CX0 1 a.d_BadArchive_init fd ["self", "at"] (spSup a.C_BadArchive "at" fun v => ∃ i : Int, v = .int i ∧ 0 ≤ i ∧ i < 1000000000) ∧ Binds K fd ["self", "at"] [] := by
  obtain ⟨fd, S, b⟩ := TE.sup_BadArchive
  have T0 : SupTxt "at" "at" s_BadArchive_init _ _ _ _ _ _ _ _ _ _ := ⟨rfl, rfl, rfl, rfl, rfl, rfl, rfl, rfl, by decide +kernel, ⟨_, rfl, rfl⟩⟩
  refine ⟨fd, ok_supH S T0 (by decide +kernel) (by decide) (by decide) T.n_super ?_ (fun _ => rfl) (fun _ _ _ _ => rfl) (fun _ _ _ _ => rfl) (fun _ _ _ _ => rfl) _ (fun _ => rfl), b⟩
  rintro cd cc A outer s H E p e v ⟨i, rfl, i0, i1⟩
  refine ⟨_, pa_cons (pe_joined (.cons pe_str (.cons (pe_fmt (pv 1)) .nil))) pa_nil, fun H1 Q q => ?_⟩
  have len := msgA i i0 i1
  refine ⟨_, rfl, by rw [sizeLine_eq]; decide +kernel, _, rfl, .inr ⟨i, rfl, log_small i0 i1, _, rfl, ?_, q _⟩⟩
  rw [sizeLine_eq]
  exact Nat.le_trans len (by decide)
def spRef (C : Addr) : Sp := fun vs H Q E => ∃ (l : Addr) (ls : List Str) (i : Int), vs = [.ref l, .int i] ∧ H l = some (.lst (ls.map V.str)) ∧ 0 ≤ i ∧ i < 1000000000 ∧
  (i < (ls.length : Int) - 1 → ExR C H E i) ∧ (¬ i < (ls.length : Int) - 1 → ∀ H', Same H H' → Q .non H')
theorem ok_refuse_before_end (TE : TxtE P w K mg a) (T : Txt K mg a) : ∃ fd, FnOk P w K mg base (L2.CX P w) 3 a.d_refuse_before_end fd ["lines", "at"] (spRef a.C_BadArchive) ∧ Binds K fd ["lines", "at"] [] := by
  obtain ⟨fd, F, b⟩ := T.d_refuse_before_end.F
  obtain ⟨fd_BadArchive_init, G_BadArchive_init, b_BadArchive_init⟩ := ok_BadArchive_init (P := P) (w := w) (base := base) TE T
  refine ⟨fd, F.okX sc_refuse_before_end (fun vs H Q E h => ?_) (fun cdv A outer s H vs Q E hr h => ?_), b⟩
  · obtain ⟨_, _, _, rfl, _⟩ := h
    rfl
  · obtain ⟨l, ls, i, rfl, hl, i0, i1, kr, kn⟩ := h
    refine ⟨_, (pss_one (ps_if (pt_cmpR op_lt (pv 1) (pe_op op_sub (pe_callB call_len_seq (by rfl) T.n_len PySem.boot_len (pa_cons (pv 0) pa_nil)) pe_int) (nomark _))
      (pss_one (ps_raise rfl (takes_of rfl rfl rfl rfl) (pmk_weak (pmk_sup TE.oex_BadArchive TE.iC_BadArchive TE.tI_BadArchive G_BadArchive_init (hr.mono (by decide)) b_BadArchive_init rfl TE.g_BadArchive (pa_cons (pv 1) pa_nil)))))
      pss_nil)), ?_⟩
    walk_at "rs"
    refine ⟨l, _, rfl, .inl (SqL.of hl), ?_⟩
    rw [List.length_map]
    walk_at "rs"
    refine ite2 (fun c1 => ?_) (fun c1 => ?_)
    · have c1 : i < (ls.length : Int) - 1 := by simpa using c1
      walk_at "rs"
      refine ⟨⟨_, rfl, i0, i1⟩, fun d hd => ?_⟩
      exact kr c1 d _ (same_new hd) upd_same
    · have c1 : ¬ i < (ls.length : Int) - 1 := by simpa using c1
      walk_at "rs"
      exact kn c1 H (Same.refl H)
theorem fun_okHC {CX : CXT} {x qual : Str} {st : Stmt} {f : Addr} {fd : FuncData} {N ps : List Str} {k : Nat} {sp : Sp} (F : Fun K x qual st f fd) (S : FnScope N ps (defScope st)) (len : ∀ vs H Q E, sp vs H Q E → vs.length = ps.length)
    (hbody : ∀ (cdv : Value) (A : Around) (outer : List Env) (s : Shared) (H : Hp) (vs : List V) (Q : VK) (E : XK) (p : Addr × Obj), L2H.Hot1 A p → L2H.RoomH k (A.deeper (PyProof.Rows.envOfC qual (defScope st) s.heap.objs.size f cdv)) → sp vs H Q E →
      ∃ t, PSs (L2H.cxH CX P w K mg base N qual (defScope st) f cdv A outer s H E p) (defBody st) t ∧ t { nx := fun _ H' => Q .non H', rt := Q } (start N vs) H) : L2H.FnH P w K mg base CX (k + 1) f fd ps sp := by
  obtain ⟨oc, od, kV, doc, pm, an, cdv, ct, osl, rfl, lk, hcd⟩ := F.ex
  exact L2H.fn_ofH lk hcd S len fun A outer s H vs Q E p hot hr hsp => hbody cdv A outer s H vs Q E p hot hr hsp
theorem okh_refuse_before_end (TE : TxtE P w K mg a) (T : Txt K mg a) : ∃ fd, L2H.FnH P w K mg base (L2.CX P w) 3 a.d_refuse_before_end fd ["lines", "at"] (spRef a.C_BadArchive) ∧ Binds K fd ["lines", "at"] [] := by
  obtain ⟨fd, F, b⟩ := T.d_refuse_before_end.F
  obtain ⟨fdH, GH, bH⟩ := okh_BadArchive_init (P := P) (w := w) (base := base) TE T
  refine ⟨fd, fun_okHC F sc_refuse_before_end (fun vs H Q E h => ?_) (fun cdv A outer s H vs Q E p hot1 hr h => ?_), b⟩
  · obtain ⟨_, _, _, rfl, _⟩ := h
    rfl
  · obtain ⟨l, ls, i, rfl, hl, i0, i1, kr, kn⟩ := h
    have hc : ∀ N, L2H.HotC (L2H.cxH (L2.CX P w) P w K mg base N "_refuse_before_end" (defScope s_refuse_before_end) a.d_refuse_before_end cdv A outer s H E p) := fun N => ⟨p, hot1, List.mem_singleton.mpr rfl⟩
    refine ⟨_, (pss_one (ps_if (pt_cmpR op_lt (pv 1) (pe_op op_sub (pe_callB (id := "len") (r := rLenOf K) (cr_lenK rfl) (by rfl) T.n_len PySem.boot_len (pa_cons (pv 0) pa_nil)) pe_int) (nomark _)) (pss_one (L2H.ps_raiseH (hc sc_refuse_before_end_N) (takes_of rfl rfl rfl rfl) (L2H.PMk5.pmk (L2H.pmk5_oexH (x := "BadArchive") TE.oex_BadArchive TE.iC_BadArchive TE.tI_BadArchive GH (hr.mono (by decide)) (hc sc_refuse_before_end_N) bH pass0 rfl TE.g_BadArchive (pa_cons (pv 1) pa_nil))))) pss_nil)), ?_⟩
    walk_at "rs"
    refine ⟨l, _, rfl, .inl (SqL.of hl), ?_⟩
    rw [List.length_map]
    walk_at "rs"
    refine ite2 (fun c1 => ?_) (fun c1 => ?_)
    · have c1 : i < (ls.length : Int) - 1 := by simpa using c1
      have kr' := kr c1
      walk_at "rs"
      refine ⟨by show 1 ≤ 1000; decide, fun b hb => ⟨b, _, rfl, upd_same, ⟨i, rfl, i0, i1⟩, fun dx3 hdx3 ndx3 => ?_⟩⟩
      have fd : H dx3 = none := by rwa [upd_ne ndx3] at hdx3
      refine ⟨rfl, dx3, _, upd_same, by rw [upd_ne ndx3, upd_same], fd, ?_⟩
      rw [sup_heap hb ndx3]
      exact kr' _ _ (same_new fd) upd_same
    · have c1 : ¬ i < (ls.length : Int) - 1 := by simpa using c1
      walk_at "rs"
      exact kn c1 H (Same.refl H)

/-! ### an entry of an archive -/
theorem bindE_ok {α β : Type} {r : Except Int α} {f : α → Except Int β} {y : β} (h : bindE r f = .ok y) : ∃ x, r = .ok x ∧ f x = .ok y := by
  cases r with
  | error e => cases h
  | ok x => exact ⟨x, rfl, h⟩
theorem blockAt_ok {ws : List Str} {k : Nat} {d : Kd} {b : Option Str} (h : blockAt ws k d = .ok b) : (∀ x, b = some x → blkB x = true) ∧ (d = .prop → b ≠ none) := by
  unfold blockAt at h
  split at h
  · cases h
  · split at h
    · rename_i c
      cases h
      exact ⟨fun x z => (nomatch z), fun z => absurd z c.2⟩
    · split at h
      · rename_i c
        cases h
        exact ⟨fun x z => by cases z; exact c, fun _ z => nomatch z⟩
      · cases h
theorem digitsVal_lt : ∀ (l : List Nat) (a : Nat), (∀ c ∈ l, 48 ≤ c ∧ c ≤ 57) → l.foldl (fun acc c => acc * 10 + (c - 48)) a < (a + 1) * 10 ^ l.length
  | [], a, _ => by simp
  | c :: l, a, h => by
    have h1 := h c List.mem_cons_self
    have h2 := digitsVal_lt l (a * 10 + (c - 48)) fun d hd => h d (List.mem_cons_of_mem _ hd)
    rw [List.foldl_cons, List.length_cons, Nat.pow_succ]
    refine Nat.lt_of_lt_of_le h2 ?_
    rw [Nat.mul_comm (10 ^ l.length) 10, ← Nat.mul_assoc]
    exact Nat.mul_le_mul_right _ (by omega)
theorem numV_lt {w : Str} (h : numB w = true) : numV w < 1000000000 := by
  obtain ⟨h1, h2, h3⟩ := num_all h
  have := digitsVal_lt (TL.tl w) 0 h1
  have e : (10 : Nat) ^ (TL.tl w).length ≤ 10 ^ 9 := Nat.pow_le_pow_right (by decide) h3
  have v : numV w = (((TL.tl w).foldl (fun acc c => acc * 10 + (c - 48)) 0 : Nat) : Int) := rfl
  rw [v]
  omega
theorem numAt_ok {ws : List Str} {k : Nat} {n : Int} (h : numAt ws k = .ok n) : 0 ≤ n ∧ n < 1000000000 := by
  unfold numAt at h
  split at h
  · cases h
  · split at h
    · rename_i c
      cases h
      exact ⟨numV_nonneg _, numV_lt c⟩
    · cases h
theorem leanAt_ok {ws : List Str} {k : Nat} {t : Int} {l : Option Int} (h : leanAt ws k t = .ok l) : ∀ x, l = some x → 0 ≤ x ∧ x < t := by
  unfold leanAt at h
  split at h
  · cases h
  · split at h
    · cases h
      exact fun x z => nomatch z
    · split at h
      · split at h
        · rename_i c
          cases h
          exact fun x z => by cases z; exact ⟨numV_nonneg _, c⟩
        · cases h
      · cases h
theorem read_good {line : Str} {x : Lt} (h : readL line = .ok x) : GoodM x.m ∧ 0 ≤ x.w ∧ x.w < 1000000000 := by
  unfold readL readW at h
  obtain ⟨w, h1, h⟩ := bindE_ok h
  obtain ⟨k, h2, h⟩ := bindE_ok h
  obtain ⟨ht, h3, h⟩ := bindE_ok h
  obtain ⟨t, h4, h⟩ := bindE_ok h
  obtain ⟨b, h5, h⟩ := bindE_ok h
  have a3 := numAt_ok h3
  have a4 := numAt_ok h4
  have a5 := blockAt_ok h5
  unfold readEnd at h
  split at h
  · rename_i ek
    obtain ⟨l, h6, h⟩ := bindE_ok h
    obtain ⟨_, h7, h⟩ := bindE_ok h
    cases h
    exact ⟨⟨a3.1, a3.2, a4.1, a4.2, a5.1, fun z => (nomatch z), leanAt_ok h6, fun z => absurd rfl z⟩, numAt_ok h1⟩
  · rename_i ek
    obtain ⟨_, h7, h⟩ := bindE_ok h
    cases h
    exact ⟨⟨a3.1, a3.2, a4.1, a4.2, a5.1, a5.2, fun x z => (nomatch z), fun _ => rfl⟩, numAt_ok h1⟩

inductive Er where
  | bad (k : Nat)
  | torn
  | ok (z : Str) (xs : List Lt)
def rdM (ls : List Str) : Nat → Nat → List Lt → Except Nat (List Lt)
  | _, 0, acc => .ok acc
  | p, n + 1, acc => match readL (wrd ls p) with
    | .error _ => .error p
    | .ok x => rdM ls (p + 1) n (acc ++ [x])
def entR (ls : List Str) (z : Str) (r : Except Nat (List Lt)) : Er := match r with
  | .error p => if p + 1 < ls.length then .bad p else .torn
  | .ok xs => .ok z xs
def entM (ls : List Str) (i : Nat) : Er := match headM (wrd ls i) with
  | none => if i + 1 < ls.length then .bad i else .torn
  | some (z, n) => if ls.length ≤ i + n.toNat then .torn else entR ls z (rdM ls (i + 1) n.toNat [])
theorem head_lim {line z : Str} {n : Int} (h : headM line = some (z, n)) : 0 ≤ n ∧ n < 1000000000 := by
  unfold headM at h
  split at h
  · rename_i c
    cases h
    exact ⟨numV_nonneg _, numV_lt c.2.2.2⟩
  · cases h
def spEnt (C : Addr) : Sp := fun vs H Q E => ∃ (l : Addr) (ls : List Str) (i : Nat), vs = [.ref l, .int (i : Int)] ∧ H l = some (.lst (ls.map V.str)) ∧ i < ls.length ∧ ls.length ≤ 2000 ∧ (∀ x ∈ ls, x.length + 2 ≤ 16777216) ∧
  (∀ k, entM ls i = .bad k → ExR C H E (k : Int)) ∧ (entM ls i = .torn → ∀ H', Same H H' → Q .non H') ∧
  (∀ z xs, entM ls i = .ok z xs → ∀ (t p : Addr) (ps : List Addr) H', Same H H' → H p = none → H t = none → H' t = some (.tup [.str z, .ref p]) → H' p = some (.lst (ps.map V.ref)) → LsAt H' ps xs → Q (.ref t) H')
theorem wrd_mem {ws : List Str} {k : Nat} (h : k < ws.length) : wrd ws k ∈ ws := by
  unfold wrd
  rw [List.getD_eq_getElem?_getD, List.getElem?_eq_getElem h]
  exact List.getElem_mem _
theorem LsAt.snocA {H : Hp} {ps : List Addr} {xs : List Lt} {p : Addr} {x : Lt} (h : LsAt H ps xs) (e : LtAt H p x) : LsAt H (ps ++ [p]) (xs ++ [x]) := by
  refine ⟨by rw [List.length_append, List.length_append, h.1]; rfl, fun i hi => ?_⟩
  rw [List.length_append, List.length_singleton] at hi
  rcases Nat.lt_or_ge i xs.length with z | z
  · rw [getD_left (by rw [h.1]; exact z), getD_left z]
    exact h.2 i z
  · have ei : i = xs.length := by omega
    subst ei
    rw [getD_last]
    have : (ps ++ [p]).getD xs.length 0 = p := by rw [← h.1, getD_last]
    rw [this]
    exact e
theorem upd_tup {H : Hp} {b : Addr} {ys : List V} {o : HO} (hb : H b = some (.lst ys)) {a : Addr} {zs : List V} (h : H a = some (.tup zs)) : upd H b o a = some (.tup zs) := by
  rw [upd_ne (fun e => by rw [e, hb] at h; cases h)]
  exact h
theorem lsat_updL {H : Hp} {ps : List Addr} {xs : List Lt} {b : Addr} {ys : List V} {o : HO} (h : LsAt H ps xs) (hb : H b = some (.lst ys)) : LsAt (upd H b o) ps xs :=
  ⟨h.1, fun i hi => let ⟨r, h1, h2⟩ := h.2 i hi; ⟨r, upd_tup hb h1, upd_tup hb h2⟩⟩
theorem ok_entry_at (TE : TxtE P w K mg a) (T : Txt K mg a) : ∃ fd, FnOk P w K mg base (L2.CX P w) 7 a.d_entry_at fd ["lines", "at"] (spEnt a.C_BadArchive) ∧ Binds K fd ["lines", "at"] [] := by
  obtain ⟨fd, F, b⟩ := T.d_entry_at.F
  obtain ⟨fd_read_head, G_read_head, b_read_head⟩ := ok_read_head (P := P) (w := w) (base := base) T
  obtain ⟨fd_refuse_before_end, G_refuse_before_end, b_refuse_before_end⟩ := ok_refuse_before_end (P := P) (w := w) (base := base) TE T
  obtain ⟨fd_read_letter, G_read_letter, b_read_letter⟩ := ok_read_letter (P := P) (w := w) (base := base) TE T
  obtain ⟨fdH, GH_refuse, bH_refuse⟩ := okh_refuse_before_end (P := P) (w := w) (base := base) TE T
  refine ⟨fd, F.okX sc_entry_at (fun vs H Q E h => ?_) (fun cdv A outer s H vs Q E hr h => ?_), b⟩
  · obtain ⟨_, _, _, rfl, _⟩ := h
    rfl
  · obtain ⟨l, ls, i, rfl, hl, hi, few, lim, kb, kt, ko⟩ := h
    refine ⟨_, (pss_cons (ps_set (i := 2) sc_entry_at.nd rfl (Or.inl rfl) (pe_call G_read_head (hr.mono (by decide)) rfl T.d_read_head.g T.d_read_head.kp b_read_head .nil pass0 (pa_cons (pe_ix ix_list (pv 0) (pv 1) (fun _ _ => rfl)) pa_nil)))
      (pss_cons (ps_if (pt_cmpR op_isN (pv 2) pe_non (nomark _))
      (pss_cons (ps_expr (pe_call G_refuse_before_end (hr.mono (by decide)) rfl T.d_refuse_before_end.g T.d_refuse_before_end.kp b_refuse_before_end .nil (L2.passes_call (W := fun c d _ H => E c d H) (E := E) (L2.takes_of rfl rfl rfl rfl) (fun _ _ _ _ h => h)) (pa_cons (pv 0) (pa_cons (pv 1) pa_nil))))
        (pss_one (ps_ret pe_non)))
      pss_nil)
      (pss_cons (ps_asg (pv 2) (pg_tup rfl (pgs_cons (pg_name (i := 3) sc_entry_at.nd rfl (Or.inl rfl)) (pgs_cons (pg_name (i := 4) sc_entry_at.nd rfl (Or.inl rfl)) pgs_nil))))
      (pss_cons (ps_set (i := 5) sc_entry_at.nd rfl (Or.inl rfl) (pe_op op_add (pv 1) (pv 4)))
      (pss_cons (ps_if (pt_cmpR op_ge (pv 5) (pe_callB call_len_seq (by rfl) T.n_len PySem.boot_len (pa_cons (pv 0) pa_nil)) (nomark _))
      (pss_one (ps_ret pe_non))
      pss_nil)
      (pss_cons (ps_set (i := 6) sc_entry_at.nd rfl (Or.inl rfl) (pe_lst pa_nil))
      (pss_cons (ps_for (passes_of rfl) rfl (pi_range2 rfl T.n_range (pa_cons (pe_op op_add (pv 1) pe_int) (pa_cons (pe_op op_add (pv 5) pe_int) pa_nil))) (pg_name (i := 7) sc_entry_at.nd rfl (Or.inl rfl))
      (pss_one (ps_whole (L2H.ps_try_onlyX rfl rfl ⟨rfl, by decide, .inl TE.g_BadLine⟩ (fun hd => L2H.passesAt_of rfl hd) (takes_of rfl rfl rfl rfl) (fun W pn xe tk tk2 po => (pss_one (ps_expr (pe_bmK (K := K) rfl PySem.F.plainAttrs_list PySem.F.slot_list_append PySem.F.type_list_append mt_append (pv 6) (pa_cons (pe_callS G_read_letter (hr.mono (by decide)) rfl T.d_read_letter.g T.d_read_letter.kp b_read_letter (fun σ => L2N.passAt tk σ) (pa_cons (pe_ix (r := rIxL K) ix_list (pv 0) (pv 7) (fun _ _ => rfl)) pa_nil)) pa_nil))))) (fun ae oe cls d pn hz hf tkS hot => (pss_cons (ps_expr (L2H.pe_callH GH_refuse ((L2H.roomH_mark hr _).mono (by decide)) hot rfl T.d_refuse_before_end.g T.d_refuse_before_end.kp bH_refuse (fun σ => L2.passAt tkS σ) (pa_cons (pv 0) (pa_cons (pv 7) pa_nil)))) (pss_one (ps_ret pe_non))))))))
      (pss_one (ps_ret (pe_tup (pa_cons (pv 3) (pa_cons (pv 6) pa_nil)))))))))))), ?_⟩
    unfold entM at kb kt ko
    walk_at "rs"
    refine ⟨l, _, _, _, rfl, rfl, SqL.of hl, at_of (j := i) rfl (wrd_at hi), ?_⟩
    walk_at "rs"
    refine ⟨by have := lim _ (wrd_mem hi); omega, fun e1 H1 s1 => ?_, fun z n e1 q H1 s1 hq => ?_⟩
    · rw [e1] at kb kt
      dsimp only at kb kt
      walk_at "rs"
      refine ⟨l, ls, i, rfl, s1 _ _ hl, by omega, by omega, fun c d H2 s2 hd => ?_, fun c H2 s2 => ?_⟩
      · exact kb i (if_pos (by omega)) d H2 (s1.trans s2) hd
      · walk_at "rs"
        exact kt (if_neg (by omega)) H2 (s1.trans s2)
    · rw [e1] at kb kt ko
      dsimp only at kb kt ko
      obtain ⟨n0, n1⟩ := head_lim e1
      walk_at "rs"
      refine ⟨q, _, rfl, SqT.of hq, rfl, ?_⟩
      refine ⟨_, _, rfl, _, _, rfl, rfl, ?_⟩
      walk_at "rs"
      refine ⟨l, _, rfl, .inl (SqL.of (s1 _ _ hl)), ?_⟩
      rw [List.length_map]
      walk_at "rs"
      refine ite2 (fun c1 => ?_) (fun c1 => ?_)
      · have c1 : (ls.length : Int) ≤ (i : Int) + n := by simpa using c1
        walk_at "rs"
        exact kt (if_pos (by omega)) H1 s1
      have c1 : ¬ (ls.length : Int) ≤ (i : Int) + n := by simpa using c1
      rw [if_neg (by omega)] at kb kt ko
      walk_at "rs"
      refine ⟨(by show 0 ≤ sizeLine; decide), fun L hL => ?_⟩
      have hL0 := s1.free hL
      have s2 := s1.trans (same_new (o := .lst []) hL)
      have hL2 : (upd H1 L (.lst [])) L = some (.lst (([] : List Addr).map V.ref)) := upd_same
      have hq2 := (same_new (o := .lst []) hL) _ _ hq
      generalize upd H1 L (.lst []) = H2 at s2 hL2 hq2 ⊢
      clear s1 hL
      walk_at "rs"
      refine ⟨_, _, rfl, ⟨by omega, by omega, by omega, by omega⟩, ?_⟩
      have en : ((i : Int) + n + 1 - ((i : Int) + 1)).toNat = n.toNat := by omega
      rw [en]
      obtain ⟨N, rfl⟩ : ∃ N : Nat, n = (N : Int) := ⟨n.toNat, by omega⟩
      rw [Int.toNat_natCast] at kb kt ko ⊢
      have hN : i + N < ls.length := by omega
      clear en n0 n1 c1
      refine for_range (lo := (i : Int) + 1) (n := N) (fun j σ Hx => ∃ (v7 : Option V) (ps : List Addr) (xs : List Lt), σ = [some (.ref l), some (.int (i : Int)), some (.ref q), some (.str z), some (.int (N : Int)), some (.int ((i : Int) + (N : Int))), some (.ref L), v7] ∧ Same H Hx ∧ Hx L = some (.lst (ps.map V.ref)) ∧ LsAt Hx ps xs ∧ xs.length = j ∧ rdM ls (i + 1) N [] = rdM ls (i + 1 + j) (N - j) xs)
        ⟨_, [], [], rfl, s2, hL2, ⟨rfl, fun k hk => absurd hk (Nat.not_lt_zero k)⟩, rfl, rfl⟩ ?_ ?_
      · rintro j σ Hx hj ⟨v7, ps, xs, rfl, sx, hLx, hx, lx, er⟩
        have n1 := hx.1
        have ej : (i : Int) + 1 + (j : Int) = ((i + 1 + j : Nat) : Int) := by omega
        rw [ej]
        have hij : i + 1 + j < ls.length := by omega
        obtain ⟨m, em⟩ : ∃ m, N - j = m + 1 := ⟨N - j - 1, by omega⟩
        rw [em, rdM] at er
        walk_at "rs"
        refine ⟨.inl ⟨rfl, _, SqL.of hLx⟩, ?_⟩
        walk_at "rs"
        refine ⟨l, _, _, _, rfl, rfl, SqL.of (sx _ _ hl), at_of (j := i + 1 + j) rfl (wrd_at hij), ?_⟩
        walk_at "rs"
        refine ⟨lim _ (wrd_mem hij), fun e he => ?_, fun x hx' t H4 s4 ht => ?_⟩
        · intro d H4 s4 hd
          refine ⟨true, TE.exm_BadLine_BadLine, fun _ ex hex => ?_, fun z => nomatch z⟩
          have s14 := sx.trans s4
          rw [he] at er
          rw [er] at kb kt
          unfold entR at kb kt
          dsimp only at kb kt
          walk_at "rs"
          refine ⟨l, ls, ((i + 1 + j : Nat) : Int), rfl, s14 _ _ hl, by omega, by omega, fun c d2 H5 s5 hd5 => ?_, fun c H5 s5 => ?_⟩
          · exact kb _ (if_pos (by omega)) d2 H5 (s14.trans s5) hd5
          · walk_at "rs"
            exact kt (if_neg (by omega)) H5 (s14.trans s5)
        · rw [hx'] at er
          walk_at "rs"
          refine ⟨L, _, _, rfl, rfl, s4 _ _ hLx, by rw [List.length_map, n1, sizeLine_eq]; omega, ?_⟩
          refine ⟨_, ps ++ [t], xs ++ [x], rfl, same_upd (sx.trans s4) hL0, by rw [upd_same]; simp, ?_, by rw [List.length_append, lx]; rfl, ?_⟩
          · have hx4 := hx.same s4
            exact lsat_updL (LsAt.snocA hx4 ht) (s4 _ _ hLx)
          · rw [er]
            show rdM ls (i + 1 + j + 1) m (xs ++ [x]) = _
            rw [show N - (j + 1) = m by omega]
            rfl
      · rintro σ Hx ⟨v7, ps, xs, rfl, sx, hLx, hx, lx, er⟩
        rw [Nat.sub_self, rdM] at er
        rw [er] at ko
        walk_at "rs"
        refine ⟨(by show 2 ≤ sizeLine; decide), fun t ht => ?_⟩
        have s3 := same_new (o := .tup [V.str z, V.ref L]) ht
        exact ko z xs rfl t L ps _ (sx.trans s3) hL0 (sx.free ht) upd_same (s3 _ _ hLx) (hx.same s3)

/-- the blocks that are followed -/
def folE : List (Str × List Lt) → Nat → List Int → List Str
  | [], _, _ => []
  | (z, xs) :: r, n, ws => if shM ws xs n (some z) = true then z :: folE r (n + 1) (rew ws (cmdsOf z)) else []
structure En where
  e : Addr
  z : Str
  l : Addr
  ps : List Addr
  xs : List Lt
instance : Inhabited En := ⟨⟨0, Str.empty, 0, [], []⟩⟩
structure EnOk (H : Hp) (q : CnP) (n : En) : Prop where
  he : H n.e = some (.tup [.str n.z, .ref n.l])
  hl : H n.l = some (.lst (n.ps.map V.ref))
  hx : LsAt H n.ps n.xs
  few : n.xs.length ≤ 100
  tb : TB n.xs
  lz : n.z.length ≤ 1000
  ow : onlyW (cmdsOf n.z)
  n1 : n.l ≠ q.B
  n2 : n.l ≠ q.R
  n3 : n.l ≠ q.D
  n4 : n.l ≠ q.L
theorem EnOk.same {H H' : Hp} {q : CnP} {n : En} (h : EnOk H q n) (s : Same H H') : EnOk H' q n := { h with he := s _ _ h.he, hl := s _ _ h.hl, hx := h.hx.same s }
theorem LtAt.butC {C1 C2 C3 : Addr} {H H' : Hp} {p : Addr} {q : CnP} {v : CnV} {x y : Int} (k : ButC q H H') (c : CnAt C1 C2 C3 H p q v x y) {t : Addr} {m : Lt} (h : LtAt H t m) : LtAt H' t m := by
  obtain ⟨r, h1, h2⟩ := h
  exact ⟨r, k.nl c h1 (fun _ e => nomatch e), k.nl c h2 (fun _ e => nomatch e)⟩
theorem EnOk.butC {C1 C2 C3 : Addr} {H H' : Hp} {p : Addr} {q : CnP} {v : CnV} {x y : Int} {n : En} (h : EnOk H q n) (k : ButC q H H') (c : CnAt C1 C2 C3 H p q v x y) : EnOk H' q n :=
  { h with he := k.nl c h.he (fun _ e => nomatch e), hl := k _ _ h.n1 h.n2 h.n3 h.n4 h.hl, hx := ⟨h.hx.1, fun i hi => LtAt.butC k c (h.hx.2 i hi)⟩ }
theorem ButC.trans {q : CnP} {H H' H'' : Hp} (h : ButC q H H') (g : ButC q H' H'') : ButC q H H'' := fun b o n1 n2 n3 n4 e => g b o n1 n2 n3 n4 (h b o n1 n2 n3 n4 e)
theorem ButC.snd_same {q : CnP} {H H' H'' : Hp} (h : ButC q H H') (s : Same H' H'') : ButC q H H'' := fun b o n1 n2 n3 n4 e => s _ _ (h b o n1 n2 n3 n4 e)
/-! ### what is followed, entry by entry -/
def rwE (ws : List Int) : List (Str × List Lt) → List Int
  | [] => ws
  | e :: r => rwE (rew ws (cmdsOf e.1)) r
theorem rwE_snoc : ∀ (es : List (Str × List Lt)) (ws : List Int) (e : Str × List Lt), rwE ws (es ++ [e]) = rew (rwE ws es) (cmdsOf e.1)
  | [], _, _ => rfl
  | f :: r, ws, e => rwE_snoc r (rew ws (cmdsOf f.1)) e
theorem folE_le : ∀ (es : List (Str × List Lt)) (n : Nat) (ws : List Int), (folE es n ws).length ≤ es.length
  | [], _, _ => Nat.le_refl _
  | (z, xs) :: r, n, ws => by
    have := folE_le r (n + 1) (rew ws (cmdsOf z))
    rw [folE]
    split
    · rw [List.length_cons, List.length_cons]
      omega
    · exact Nat.zero_le _
theorem folE_open : ∀ (es : List (Str × List Lt)) (n : Nat) (ws : List Int) (e : Str × List Lt), (folE es n ws).length = es.length →
    folE (es ++ [e]) n ws = folE es n ws ++ (if shM (rwE ws es) e.2 ((n + es.length : Nat) : Int) (some e.1) = true then [e.1] else [])
  | [], n, ws, (z, xs), _ => by
    show (if shM ws xs (n : Int) (some z) = true then z :: folE [] (n + 1) _ else []) = [] ++ _
    rw [List.nil_append]
    rfl
  | (z, xs) :: r, n, ws, e, h => by
    rw [folE] at h
    rw [List.cons_append, folE, folE]
    by_cases c : shM ws xs (n : Int) (some z) = true
    · rw [if_pos c] at h ⊢
      rw [if_pos c, List.cons_append, folE_open r (n + 1) _ e (by simpa using h)]
      have : n + 1 + r.length = n + ((z, xs) :: r).length := by rw [List.length_cons]; omega
      rw [this]
      rfl
    · rw [if_neg c] at h
      simp at h
theorem folE_closed : ∀ (es : List (Str × List Lt)) (n : Nat) (ws : List Int) (e : Str × List Lt), (folE es n ws).length < es.length → folE (es ++ [e]) n ws = folE es n ws
  | [], n, ws, e, h => absurd h (Nat.not_lt_zero _)
  | (z, xs) :: r, n, ws, e, h => by
    rw [folE] at h
    rw [List.cons_append, folE, folE]
    by_cases c : shM ws xs (n : Int) (some z) = true
    · rw [if_pos c] at h ⊢
      rw [if_pos c, folE_closed r (n + 1) _ e (by simpa using h)]
    · rw [if_neg c, if_neg c]
theorem sh_height {ws : List Int} {xs : List Lt} {h : Int} {b : Str} (g : GoodW ws) (c : shM ws xs h (some b) = true) : ∃ x ∈ xs, x.m.h = h := by
  obtain ⟨t, _, ct⟩ := sh_some.mp c
  unfold commM at ct
  have q := (Bool.and_eq_true_iff.mp ct).1
  cases e : comS xs h t (some b) with
  | nil => rw [e, qrm_nil g] at q; cases q
  | cons k r =>
    have hk : k ∈ comS xs h t (some b) := by rw [e]; exact List.mem_cons_self
    unfold comS at hk
    obtain ⟨x, hx, _⟩ := List.mem_map.mp hk
    obtain ⟨h1, h2⟩ := List.mem_filter.mp hx
    exact ⟨x, h1, (of_decide_eq_true h2).2.1⟩
/-! ### two chains beside each other -/
def NQ (q : CnP) (b : Addr) : Prop := b ≠ q.B ∧ b ≠ q.R ∧ b ≠ q.D ∧ b ≠ q.L
def Dis (q1 q2 : CnP) : Prop := NQ q1 q2.B ∧ NQ q1 q2.R ∧ NQ q1 q2.D ∧ NQ q1 q2.L
theorem ButC.at {q : CnP} {H H' : Hp} (k : ButC q H H') {b : Addr} {o : HO} (n : NQ q b) (h : H b = some o) : H' b = some o := k b o n.1 n.2.1 n.2.2.1 n.2.2.2 h
theorem CnAt.butC2 {C1 C2 C3 : Addr} {H H' : Hp} {p1 p2 : Addr} {q1 q2 : CnP} {v1 v2 : CnV} {x y x2 y2 : Int} (k : ButC q1 H H') (c1 : CnAt C1 C2 C3 H p1 q1 v1 x y) (c2 : CnAt C1 C2 C3 H p2 q2 v2 x2 y2) (d : Dis q1 q2) : CnAt C1 C2 C3 H' p2 q2 v2 x2 y2 :=
  { c2 with
    ins := c2.ins.elim fun dd h => ⟨dd, k.nl c1 h (fun _ e => nomatch e)⟩
    hB := k.at d.1 c2.hB
    hR := k.at d.2.1 c2.hR
    hD := k.at d.2.2.1 c2.hD
    hL := k.at d.2.2.2 c2.hL
    cm := fun i hi => let ⟨⟨d1, t1, e1, e2⟩, g⟩ := c2.cm i hi; ⟨⟨d1, t1, k.nl c1 e1 (fun _ e => nomatch e), k.nl c1 e2 (fun _ e => nomatch e)⟩, g⟩
    ld := fun l hl => let ⟨t, ⟨d1, c2', c3, h1⟩, h2⟩ := c2.ld l hl; ⟨t, ⟨d1, c2', c3, k.nl c1 h1 (fun _ e => nomatch e)⟩, k.nl c1 h2 (fun _ e => nomatch e)⟩ }
theorem upd_nl {H : Hp} {b : Addr} {ys : List V} {o : HO} (hb : H b = some (.lst ys)) {a : Addr} {u : HO} (h : H a = some u) (n : NL u) : upd H b o a = some u := by
  rw [upd_ne (fun e => by rw [e, hb] at h; exact n _ (Option.some.inj h).symm)]
  exact h
theorem CnAt.updL {C1 C2 C3 : Addr} {H : Hp} {p b : Addr} {q : CnP} {v : CnV} {x y : Int} {ys : List V} {o : HO} (c : CnAt C1 C2 C3 H p q v x y) (hb : H b = some (.lst ys)) (n : NQ q b) : CnAt C1 C2 C3 (upd H b o) p q v x y :=
  { c with
    ins := c.ins.elim fun dd h => ⟨dd, upd_nl hb h (fun _ e => nomatch e)⟩
    hB := by rw [upd_ne n.1.symm]; exact c.hB
    hR := by rw [upd_ne n.2.1.symm]; exact c.hR
    hD := by rw [upd_ne n.2.2.1.symm]; exact c.hD
    hL := by rw [upd_ne n.2.2.2.symm]; exact c.hL
    cm := fun i hi => let ⟨⟨d1, t1, e1, e2⟩, g⟩ := c.cm i hi; ⟨⟨d1, t1, upd_nl hb e1 (fun _ e => nomatch e), upd_nl hb e2 (fun _ e => nomatch e)⟩, g⟩
    ld := fun l hl => let ⟨t, ⟨d1, c2', c3, h1⟩, h2⟩ := c.ld l hl; ⟨t, ⟨d1, c2', c3, upd_nl hb h1 (fun _ e => nomatch e)⟩, upd_nl hb h2 (fun _ e => nomatch e)⟩ }
theorem EnOk.updL {H : Hp} {b : Addr} {q : CnP} {n : En} {ys : List V} {o : HO} (h : EnOk H q n) (hb : H b = some (.lst ys)) (ne : n.l ≠ b) : EnOk (upd H b o) q n :=
  { h with
    he := upd_nl hb h.he (fun _ e => nomatch e)
    hl := by rw [upd_ne ne]; exact h.hl
    hx := ⟨h.hx.1, fun i hi => let ⟨r, h1, h2⟩ := h.hx.2 i hi; ⟨r, upd_nl hb h1 (fun _ e => nomatch e), upd_nl hb h2 (fun _ e => nomatch e)⟩⟩ }
theorem EnOk.butC2 {C1 C2 C3 : Addr} {H H' : Hp} {p : Addr} {q1 q2 : CnP} {v : CnV} {x y : Int} {n : En} (h : EnOk H q2 n) (k : ButC q1 H H') (c : CnAt C1 C2 C3 H p q1 v x y) (ne : NQ q1 n.l) : EnOk H' q2 n :=
  { h with he := k.nl c h.he (fun _ e => nomatch e), hl := k.at ne h.hl, hx := ⟨h.hx.1, fun i hi => LtAt.butC k c (h.hx.2 i hi)⟩ }
/-- a new object is none of a chain's -/
theorem CnAt.fresh {C1 C2 C3 : Addr} {H : Hp} {p : Addr} {q : CnP} {v : CnV} {x y : Int} (c : CnAt C1 C2 C3 H p q v x y) {b : Addr} (h : H b = none) : NQ q b :=
  ⟨fun e => (by rw [e, c.hB] at h; cases h), fun e => (by rw [e, c.hR] at h; cases h), fun e => (by rw [e, c.hD] at h; cases h), fun e => (by rw [e, c.hL] at h; cases h)⟩

/-! ### an archive is read -/
def posE : List (Str × List Lt) → Nat
  | [] => 0
  | e :: r => 1 + e.2.length + posE r
theorem posE_snoc : ∀ (es : List (Str × List Lt)) (e : Str × List Lt), posE (es ++ [e]) = posE es + e.2.length + 1
  | [], e => by simp [posE]; omega
  | f :: r, e => by
    have := posE_snoc r e
    simp only [List.cons_append, posE] at this ⊢
    omega
structure GoodE (e : Str × List Lt) : Prop where
  lz : e.1.length ≤ 1000
  ow : onlyW (cmdsOf e.1)
  tb : TB e.2
  few : e.2.length ≤ 100
structure EnR (H : Hp) (n : En) : Prop where
  he : H n.e = some (.tup [.str n.z, .ref n.l])
  hl : H n.l = some (.lst (n.ps.map V.ref))
  hx : LsAt H n.ps n.xs
def En.pr (n : En) : Str × List Lt := (n.z, n.xs)
def ResA (H : Hp) (es : List (Str × List Lt)) (Q : VK) : Prop := ∀ (en : List En) (r : Addr) H', Same H H' → H r = none → H' r = some (.lst ((en.map (·.e)).map V.ref)) → en.map En.pr = es → (∀ n ∈ en, EnR H' n) → Q (.ref r) H'
def spRA (K : PySem.W.Frag) (C : Addr) : Sp := fun vs H Q E => ∃ (pw g l : Addr) (ws : List Int) (ls : List Str) (es : List (Str × List Lt)), vs = [.ref pw, .ref g, .ref l] ∧ SqL K H pw (ws.map V.int) ∧ GoodW ws ∧ SqL K H g [] ∧ H l = some (.lst (ls.map V.str)) ∧ ls.length ≤ 900 ∧ (∀ x ∈ ls, x.length + 2 ≤ 16777216) ∧
  (∀ j, j < es.length → posE (es.take j) < ls.length ∧ entM ls (posE (es.take j)) = .ok (es.getD j default).1 (es.getD j default).2) ∧ (∀ e ∈ es, GoodE e) ∧ es.length ≤ 700 ∧ (∀ j, j < es.length → shM (rwE ws (es.take j)) (es.getD j default).2 (j : Int) (some (es.getD j default).1) = true) ∧
  (ls.length ≤ posE es → ResA H es Q) ∧ (posE es < ls.length → (∀ k, entM ls (posE es) = .bad k → ExR C H E (k : Int)) ∧ (entM ls (posE es) = .torn → ResA H es Q) ∧
    ∀ z xs, entM ls (posE es) = .ok z xs → GoodE (z, xs) ∧ shM (rwE ws es) xs (es.length : Int) (some z) = false ∧ (posE es + xs.length + 1 = ls.length → ResA H es Q) ∧ (posE es + xs.length + 1 ≠ ls.length → ExR C H E (posE es : Int)))
/-- the state of the loop -/
structure RdS (C0 C1 C2 C3 : Addr) (H Hx : Hp) (k p : Addr) (q : CnP) (v : CnV) (R : Addr) (ws : List Int) (en : List En) : Prop where
  s : Same H Hx
  k : ClAt C0 Hx k p
  c : CnAt C1 C2 C3 Hx p q v 0 0
  hR : Hx R = some (.lst ((en.map (·.e)).map V.ref))
  nR : NQ q R
  zs : v.zs.length = en.length
  ws : v.ws.getD v.zs.length [] = rwE ws (en.map En.pr)
  en : ∀ n ∈ en, EnOk Hx q n ∧ n.l ≠ R
theorem RdS.same {C0 C1 C2 C3 : Addr} {H Hx Hy : Hp} {k p : Addr} {q : CnP} {v : CnV} {R : Addr} {ws : List Int} {en : List En} (h : RdS C0 C1 C2 C3 H Hx k p q v R ws en) (s : Same Hx Hy) : RdS C0 C1 C2 C3 H Hy k p q v R ws en :=
  { h with s := h.s.trans s, k := h.k.elim fun d e => ⟨d, s _ _ e⟩, c := h.c.same s, hR := s _ _ h.hR, en := fun n hn => ⟨(h.en n hn).1.same s, (h.en n hn).2⟩ }
theorem ok_read_archive (TE : TxtE P w K mg a) (T : Txt K mg a) : ∃ fd, FnOk P w K mg base (L2.CX P w) 8 a.d_read_archive fd ["weights", "grants", "lines"] (spRA K a.C_BadArchive) ∧ Binds K fd ["weights", "grants", "lines"] [] := by
  obtain ⟨fd, F, b⟩ := T.d_read_archive.F
  obtain ⟨fd_Client_init, G_Client_init, b_Client_init⟩ := ok_Client_init (P := P) (w := w) (base := base) T
  obtain ⟨fd_entry_at, G_entry_at, b_entry_at⟩ := ok_entry_at (P := P) (w := w) (base := base) TE T
  obtain ⟨fd_Client_follow, G_Client_follow, b_Client_follow⟩ := ok_Client_follow (P := P) (w := w) (base := base) TE T
  obtain ⟨fdH, GH_BadArchive_init, bH⟩ := okh_BadArchive_init (P := P) (w := w) (base := base) TE T
  refine ⟨fd, F.okX sc_read_archive (fun vs H Q E h => ?_) (fun cdv A outer s H vs Q E hr h => ?_), b⟩
  · obtain ⟨_, _, _, _, _, _, rfl, _⟩ := h
    rfl
  · obtain ⟨pw, g, l, ws, ls, es, rfl, hw, gw, hg, hl, few, lim, hes, good, fes, sh, k0, k1⟩ := h
    refine ⟨_, (pss_cons (ps_set (i := 3) sc_read_archive.nd rfl (Or.inl rfl) (pe_make T.m_Client G_Client_init (hr.mono (by decide)) (by rfl) T.g_Client b_Client_init .nil pass0 (pa_cons (pv 0) (pa_cons (pv 1) pa_nil))))
      (pss_cons (ps_set (i := 4) sc_read_archive.nd rfl (Or.inl rfl) (pe_lst pa_nil))
      (pss_cons (ps_set (i := 5) sc_read_archive.nd rfl (Or.inl rfl) pe_int)
      (pss_cons (ps_while (passes_of rfl) (pt_cmpR op_lt (pv 5) (pe_callB call_len_seq (by rfl) T.n_len PySem.boot_len (pa_cons (pv 2) pa_nil)) (nomark _))
      (pss_cons (ps_set (i := 6) sc_read_archive.nd rfl (Or.inl rfl) (pe_call G_entry_at (hr.mono (by decide)) rfl T.d_entry_at.g T.d_entry_at.kp b_entry_at .nil (L2.passes_call (W := fun c d _ H => E c d H) (E := E) (L2.takes_of rfl rfl rfl rfl) (fun _ _ _ _ h => h)) (pa_cons (pv 2) (pa_cons (pv 5) pa_nil))))
        (pss_cons (ps_if (pt_cmpR op_isN (pv 6) pe_non (nomark _))
        (pss_one (ps_ret (pv 4)))
        pss_nil)
        (pss_cons (ps_asg (pv 6) (pg_tup rfl (pgs_cons (pg_name (i := 7) sc_read_archive.nd rfl (Or.inl rfl)) (pgs_cons (pg_name (i := 8) sc_read_archive.nd rfl (Or.inl rfl)) pgs_nil))))
        (pss_cons (ps_set (i := 9) sc_read_archive.nd rfl (Or.inl rfl) (pe_op op_add (pv 5) (pe_callB call_len_seq (by rfl) T.n_len PySem.boot_len (pa_cons (pv 8) pa_nil))))
        (pss_cons (ps_whole (L2H.ps_try_onlyX rfl rfl ⟨rfl, by decide, .inl TE.g_BadPaper⟩ (fun hd => L2H.passesAt_of rfl hd) (takes_of rfl rfl rfl rfl) (fun W pn xe tk tk2 po => (pss_one (ps_expr (pe_methT (pv 3) T.cl_Client T.me_Client_follow G_Client_follow (hr.mono (by decide)) b_Client_follow (E := fun σ cls d H => W cls d σ H) (fun σ pins H s u s_ I c => tk u s_ (L2N.XE.of_call I (fun _ _ _ h => h) c)) (pa_cons (pv 7) (pa_cons (pv 8) pa_nil)))))) (fun ae oe cls d pn hz hf tkS hot => (pss_cons (ps_if (pt_cmpR op_eq (pv 9) (pe_op op_sub (pe_callB (id := "len") (r := rLenOf K) (cr_lenK rfl) (by rfl) T.n_len PySem.boot_len (pa_cons (pv 2) pa_nil)) pe_int) (nomark _)) (pss_one (ps_ret (pv 4))) pss_nil) (pss_one (L2H.ps_raiseHN hot tkS (L2H.pmk5_oexH TE.oex_BadArchive TE.iC_BadArchive TE.tI_BadArchive GH_BadArchive_init ((L2H.roomH_mark hr _).mono (by decide)) hot bH pass0 rfl TE.g_BadArchive (pa_cons (pv 5) pa_nil))))))))
        (pss_cons (ps_expr (pe_bm PySem.F.plainAttrs_list PySem.F.slot_list_append PySem.F.type_list_append mt_append (pv 4) (pa_cons (pv 6) pa_nil)))
        (pss_one (ps_set (i := 5) sc_read_archive.nd rfl (Or.inl rfl) (pe_op op_add (pv 9) pe_int))))))))))
      (pss_one (ps_ret (pv 4))))))), ?_⟩
    walk_at "rs"
    intro k dk hk0 hdk ndk
    have sM : Same H (upd (upd H dk (.own k)) k (.ins a.C_Client dk [])) := same_upd (same_new hdk) hk0
    have fr : ∀ {b : Addr}, (upd (upd H dk (.own k)) k (.ins a.C_Client dk [])) b = none → H b = none := fun h => sM.free h
    refine ⟨k, dk, pw, g, ws, 0, 0, rfl, upd_same, sM.seq hw, gw, sM.seq hg, fun p q c d H1 hk hc fp f1 f2 f3 f4 keep => ⟨rfl, ?_⟩⟩
    have s1 : Same H H1 := fun b o e => keep b o (fun z => by rw [z, hk0] at e; cases e) (sM _ _ e)
    have g1 := fr f1
    have g2 := fr f2
    have g3 := fr f3
    have g4 := fr f4
    clear f1 f2 f3 f4 fp keep fr sM hdk ndk hk0
    walk_at "rs"
    refine ⟨(by show 0 ≤ sizeLine; decide), fun R hR => ?_⟩
    have hR0 := s1.free hR
    have S0 : RdS a.C_Client a.C_Chain a.C_Committee a.C_Ledger H (upd H1 R (.lst [])) k p q ⟨[], [], [c], [ws], [d]⟩ R ws [] := by
      have sn := same_new (o := .lst []) hR
      exact { s := s1.trans sn, k := hk.elim fun d e => ⟨d, sn _ _ e⟩, c := hc.same sn, hR := upd_same, nR := hc.fresh hR, zs := rfl, ws := rfl, en := fun n hn => absurd hn List.not_mem_nil }
    generalize upd H1 R (.lst []) = H2 at S0 ⊢
    clear hk hc s1 hR
    walk_at "rs"
    refine ⟨fun m σ H2 => ∃ (v6 v7 v8 v9 : Option V) (v : CnV) (en : List En), m = es.length - en.length ∧ en.length ≤ es.length ∧ σ = [some (.ref pw), some (.ref g), some (.ref l), some (.ref k), some (.ref R), some (.int (posE (es.take en.length) : Nat)), v6, v7, v8, v9] ∧ en.map En.pr = es.take en.length ∧ RdS a.C_Client a.C_Chain a.C_Committee a.C_Ledger H H2 k p q v R ws en,
      ⟨_, _, _, _, _, _, [], rfl, Nat.zero_le _, rfl, rfl, S0⟩, ?_⟩
    clear S0 H2
    rintro m σ H2 ⟨v6, v7, v8, v9, v, en, rfl, le, rfl, een, S⟩
    walk_at "rs"
    refine ⟨l, _, rfl, .inl (SqL.of (S.s _ _ hl)), ?_⟩
    rw [List.length_map]
    walk_at "rs"
    have fin : ∀ Hy, Same H2 Hy → ResA H (es.take en.length) Q → Q (.ref R) Hy := fun Hy sy r => by
      have S := S.same sy
      exact r en R Hy S.s hR0 S.hR een fun n hn => ⟨(S.en n hn).1.he, (S.en n hn).1.hl, (S.en n hn).1.hx⟩
    refine ite2 (fun c1 => ?_) (fun c1 => ?_)
    · have c1 : posE (es.take en.length) < ls.length := by
        have := of_decide_eq_true c1
        omega
      have lim63 : en.length ≤ 700 := by omega
      have A : ∀ k, entM ls (posE (es.take en.length)) = .bad k → ExR a.C_BadArchive H E (k : Int) := fun k e => by
        rcases Nat.lt_or_ge en.length es.length with z | z
        · rw [(hes _ z).2] at e
          cases e
        · rw [List.take_of_length_le z] at e c1
          exact (k1 c1).1 k e
      have B : entM ls (posE (es.take en.length)) = .torn → ResA H (es.take en.length) Q := fun e => by
        rcases Nat.lt_or_ge en.length es.length with z | z
        · rw [(hes _ z).2] at e
          cases e
        · rw [List.take_of_length_le z] at e c1 ⊢
          exact (k1 c1).2.1 e
      have D : ∀ z xs, entM ls (posE (es.take en.length)) = .ok z xs → GoodE (z, xs) ∧ ((en.length < es.length ∧ es.getD en.length default = (z, xs) ∧ shM (rwE ws (es.take en.length)) xs (en.length : Int) (some z) = true) ∨
          (shM (rwE ws (es.take en.length)) xs (en.length : Int) (some z) = false ∧ (posE (es.take en.length) + xs.length + 1 = ls.length → ResA H (es.take en.length) Q) ∧ (posE (es.take en.length) + xs.length + 1 ≠ ls.length → ExR a.C_BadArchive H E (posE (es.take en.length) : Int)))) := fun z xs e => by
        rcases Nat.lt_or_ge en.length es.length with y | y
        · rw [(hes _ y).2] at e
          have e1 : es.getD en.length default = (z, xs) := by
            cases e
            rfl
          have gd : GoodE (es.getD en.length default) := good _ (by rw [List.getD_eq_getElem?_getD, List.getElem?_eq_getElem y]; exact List.getElem_mem _)
          have sh1 := sh _ y
          rw [e1] at gd sh1
          exact ⟨gd, .inl ⟨y, e1, sh1⟩⟩
        · have el : en.length = es.length := by omega
          rw [List.take_of_length_le y] at e c1 ⊢
          obtain ⟨g1, g2, g3, g4⟩ := (k1 c1).2.2 z xs e
          rw [el]
          exact ⟨g1, .inr ⟨g2, g3, g4⟩⟩
      refine ⟨fun σ' H' => ∃ (v6 v7 v8 v9 : Option V) (v : CnV) (en' : List En), en'.length = en.length + 1 ∧ en'.length ≤ es.length ∧ σ' = [some (.ref pw), some (.ref g), some (.ref l), some (.ref k), some (.ref R), some (.int (posE (es.take en'.length) : Nat)), v6, v7, v8, v9] ∧ en'.map En.pr = es.take en'.length ∧ RdS a.C_Client a.C_Chain a.C_Committee a.C_Ledger H H' k p q v R ws en', fun σ' H' ⟨v6, v7, v8, v9, v', en', e1, e2, e3, e4, e5⟩ => ⟨_, by omega, v6, v7, v8, v9, v', en', rfl, e2, e3, e4, e5⟩, ?_⟩
      walk_at "rs"
      refine ⟨l, ls, posE (es.take en.length), rfl, S.s _ _ hl, c1, by omega, lim, fun kk e d H' s' hd => A kk e d H' (S.s.trans s') hd, fun e H3 s3 => ?_, fun z xs e t lp ps H3 s3 fl ft ht hlp hxs => ?_⟩
      · walk_at "rs"
        exact fin H3 s3 (B e)
      have S3 := S.same s3
      have ND : NQ q lp := S.c.fresh fl
      have lR : lp ≠ R := fun e => by rw [e, S.hR] at fl; cases fl
      obtain ⟨gz, alt⟩ := D z xs e
      clear A B D e s3 fl ft
      walk_at "rs"
      refine ⟨t, _, rfl, SqT.of ht, rfl, ?_⟩
      refine ⟨_, _, rfl, _, _, rfl, rfl, ?_⟩
      walk_at "rs"
      refine ⟨lp, _, rfl, .inl (SqL.of hlp), ?_⟩
      have nps := hxs.1
      rw [List.length_map, nps]
      obtain ⟨dk2, hk3⟩ := S3.k
      walk_at "rs"
      refine ⟨k, dk2, _, rfl, hk3, rfl, ?_⟩
      walk_at "rs"
      have few2 : xs.length ≤ 100 := gz.few
      have tkl : (es.take en.length).length = en.length := by rw [List.length_take]; omega
      have ezl : v.zs.length = en.length := S3.zs
      have ews : v.ws.getD v.zs.length [] = rwE ws (es.take en.length) := by rw [S3.ws, een]
      refine ⟨k, p, lp, z, q, v, 0, 0, ps, xs, rfl, ⟨dk2, hk3⟩, S3.c, gz.lz, gz.ow, by omega, hlp, hxs, by omega, gz.tb, fun e r c H4 hc4 kq4 => ?_, fun e H4 s4 => ?_⟩
      · rw [ews] at e hc4
        rw [ezl] at e
        rcases alt with ⟨y, ey, _⟩ | ⟨y, _⟩
        · have hR4 := kq4.at S3.nR S3.hR
          have ht4 := kq4.nl S3.c ht (fun _ e => nomatch e)
          have hlp4 := kq4.at ND hlp
          have hxs4 : LsAt H4 ps xs := ⟨hxs.1, fun i hi => LtAt.butC kq4 S3.c (hxs.2 i hi)⟩
          have tR : t ≠ R := fun e => by rw [e, S3.hR] at ht; cases ht
          walk_at "rs"
          refine ⟨.inl ⟨rfl, _, SqL.of hR4⟩, ?_⟩
          walk_at "rs"
          refine ⟨R, _, _, rfl, rfl, hR4, by rw [List.length_map, List.length_map]; exact small1000 (by omega), ?_⟩
          walk_at "rs"
          have et : es.take (en.length + 1) = es.take en.length ++ [(z, xs)] := by rw [take_succ_getD (d := default) y, ey]
          refine ⟨some (.ref t), some (.str z), some (.ref lp), some (.int ((posE (es.take en.length) : Int) + (xs.length : Int))), ⟨v.zs ++ [z], v.rs ++ [r], v.ps ++ [c], v.ws ++ [rew (rwE ws (es.take en.length)) (cmdsOf z)], v.ls ++ [v.ls.getD v.zs.length 0]⟩, en ++ [⟨t, z, lp, ps, xs⟩], by rw [List.length_append]; rfl, by rw [List.length_append, List.length_singleton]; omega, ?_, ?_, ?_⟩
          · rw [List.length_append, List.length_singleton, et, posE_snoc]
            have e1 : ((posE (es.take en.length) + xs.length + 1 : Nat) : Int) = (posE (es.take en.length) : Int) + (xs.length : Int) + 1 := by omega
            show _ = [some (V.ref pw), some (V.ref g), some (V.ref l), some (V.ref k), some (V.ref R), some (.int ((posE (es.take en.length) + xs.length + 1 : Nat) : Int)), _, _, _, _]
            rw [e1]
            rfl
          · rw [List.length_append, List.length_singleton, et, List.map_append, een]
            rfl
          · have n5 : Same H (upd H4 R (.lst ((en.map (·.e)).map V.ref ++ [V.ref t]))) := fun b o e => by
              rw [upd_ne (fun z => by rw [z, hR0] at e; cases e)]
              exact kq4 b o (fun z => by rw [z, g1] at e; cases e) (fun z => by rw [z, g2] at e; cases e) (fun z => by rw [z, g3] at e; cases e) (fun z => by rw [z, g4] at e; cases e) (S3.s _ _ e)
            refine { s := n5, k := ⟨dk2, upd_nl hR4 (kq4.nl S3.c hk3 (fun _ e => nomatch e)) (fun _ e => nomatch e)⟩, c := hc4.updL hR4 S3.nR, hR := by rw [upd_same]; simp, nR := S3.nR, zs := ?_, ws := ?_, en := fun n hn => ?_ }
            · show (v.zs ++ [z]).length = _
              rw [List.length_append, List.length_append, ezl]
              rfl
            · show (v.ws ++ [rew (rwE ws (es.take en.length)) (cmdsOf z)]).getD (v.zs ++ [z]).length [] = _
              have := S3.c.nw
              rw [List.length_append, List.length_singleton, ← this, getD_end, List.map_append, een]
              exact (rwE_snoc _ _ (z, xs)).symm
            · rcases List.mem_append.mp hn with hn | hn
              · exact ⟨((S3.en n hn).1.butC kq4 S3.c).updL hR4 (S3.en n hn).2, (S3.en n hn).2⟩
              · rw [List.mem_singleton.mp hn]
                exact ⟨⟨upd_nl hR4 ht4 (fun _ e => nomatch e), by show upd _ _ _ lp = _; rw [upd_ne lR]; exact hlp4, lsat_updL hxs4 hR4, few2, gz.tb, gz.lz, gz.ow, ND.1, ND.2.1, ND.2.2.1, ND.2.2.2⟩, lR⟩
        · rw [y] at e
          cases e
      · rw [ews, ezl] at e
        rcases alt with ⟨_, _, y⟩ | ⟨_, y1, y2⟩
        · rw [y] at e
          cases e
        refine ⟨true, TE.exm_BadPaper_BadPaper, fun _ ex hex => ?_, fun z => nomatch z⟩
        have S4 := S3.same s4
        walk_at "rs"
        refine ⟨l, _, rfl, .inl (SqL.of (S4.s _ _ hl)), ?_⟩
        rw [List.length_map]
        walk_at "rs"
        refine ite2 (fun c2 => ?_) (fun c2 => ?_)
        · have c2 : ((posE (es.take en.length) : Nat) : Int) + (xs.length : Int) = (ls.length : Int) - 1 := by simpa using c2
          walk_at "rs"
          exact y1 (by omega) en R H4 S4.s hR0 S4.hR een fun n hn => ⟨(S4.en n hn).1.he, (S4.en n hn).1.hl, (S4.en n hn).1.hx⟩
        · have c2 : ¬ ((posE (es.take en.length) : Nat) : Int) + (xs.length : Int) = (ls.length : Int) - 1 := by simpa using c2
          have kr' := y2 (by omega)
          walk_at "rs"
          refine ⟨by show 1 ≤ 1000; decide, fun b hb => ⟨b, _, rfl, upd_same, ⟨_, rfl, Int.natCast_nonneg _, by omega⟩, fun dx3 hdx3 ndx3 => ?_⟩⟩
          have fd : H4 dx3 = none := by rwa [upd_ne ndx3] at hdx3
          refine ⟨rfl, dx3, _, upd_same, by rw [upd_ne ndx3, upd_same], fd, ?_⟩
          rw [sup_heap hb ndx3]
          exact kr' _ _ (S4.s.trans (same_new fd)) upd_same
    · have c1 : ¬ posE (es.take en.length) < ls.length := by
        intro z
        exact c1 (decide_eq_true (by omega))
      walk_at "rs"
      have : en.length = es.length := by
        refine Nat.le_antisymm le (Nat.le_of_not_lt fun z => c1 (hes _ z).1)
      rw [List.take_of_length_le (by omega)] at fin c1
      exact fin H2 (Same.refl _) (k0 (by omega))

/-! ### words that are joined -/
theorem tl_sp : TL.tl (" " : Str) = [32] := by decide +kernel
theorem sp_split {ws : List Str} (n : ws ≠ []) (f : ∀ p ∈ ws, 32 ∉ TL.tl p) : Txt.split (Txt.join " " ws) " " = ws :=
  TL.split_join (y := " ") (s := 32) (S := []) (by decide +kernel) (by decide +kernel) n f
theorem join_cons {x : Str} {ws : List Str} (n : ws ≠ []) : Txt.join " " (x :: ws) = x ++ (" " : Str) ++ Txt.join " " ws := by
  rw [TL.join_eq, TL.join_eq]
  cases ws with
  | nil => exact absurd rfl n
  | cons y r => rfl
theorem join_snoc {x : Str} : ∀ {ws : List Str}, ws ≠ [] → Txt.join " " (ws ++ [x]) = Txt.join " " ws ++ (" " : Str) ++ x
  | [], n => absurd rfl n
  | [y], _ => by
    rw [List.singleton_append, join_cons (List.cons_ne_nil _ _)]
    rfl
  | y :: z :: r, _ => by
    rw [List.cons_append, join_cons (by simp), join_cons (by simp), join_snoc (List.cons_ne_nil z r)]
    refine TL.ext_tl ?_
    simp only [TL.tl_append, List.append_assoc]
theorem head_of {ws : List Str} {line : Str} (e : Txt.split line " " = ws) : headM line = if ws.length = 3 ∧ wrd ws 0 = "block" ∧ blkB (wrd ws 1) = true ∧ numB (wrd ws 2) = true then some (wrd ws 1, numV (wrd ws 2)) else none := by
  unfold headM
  rw [e]
theorem headS_join (z : Str) (n : Nat) : headS z n = Txt.join " " [("block" : Str), z, (toString (n : Int) : Str)] := by
  rw [join_cons (by simp), join_cons (by simp)]
  refine TL.ext_tl ?_
  show TL.tl (((((Str.empty ++ ("block" : Str)) ++ (" " : Str)) ++ z) ++ (" " : Str)) ++ (toString (n : Int) : Str)) = TL.tl (("block" : Str) ++ (" " : Str) ++ (z ++ (" " : Str) ++ (toString (n : Int) : Str)))
  simp only [TL.tl_append, List.append_assoc]
  rfl
theorem fr_block : 32 ∉ TL.tl ("block" : Str) := by decide +kernel
theorem fr_blk {z : Str} (h : blkB z = true) : 32 ∉ TL.tl z := blk_free h (by decide +kernel)
theorem fr_nat (n : Nat) : 32 ∉ TL.tl (toString (n : Int) : Str) := num_free (Int.natCast_nonneg _) (.inl (by decide))
theorem fr_three {a b c : Str} (ha : 32 ∉ TL.tl a) (hb : 32 ∉ TL.tl b) (hc : 32 ∉ TL.tl c) : ∀ p ∈ [a, b, c], 32 ∉ TL.tl p := by
  intro p hp
  simp only [List.mem_cons, List.not_mem_nil, or_false] at hp
  rcases hp with rfl | rfl | rfl <;> assumption
theorem headS_words {z : Str} (h : blkB z = true) (n : Nat) : Txt.split (headS z n) " " = [("block" : Str), z, (toString (n : Int) : Str)] := by
  rw [headS_join]
  exact sp_split (by simp) (fr_three fr_block (fr_blk h) (fr_nat n))
theorem head_read {z : Str} (h : blkB z = true) {n : Nat} (hn : n < 1000) : headM (headS z n) = some (z, (n : Int)) := by
  have := num_str (i := (n : Int)) (Int.natCast_nonneg _) (by omega)
  rw [head_of (headS_words h n)]
  refine (if_pos ⟨rfl, rfl, h, this.1⟩).trans ?_
  show some (z, numV (toString (n : Int) : Str)) = _
  rw [this.2]
/-- a head line with another word does not read -/
theorem head_bad {a b c : Str} (ha : 32 ∉ TL.tl a) (hb : 32 ∉ TL.tl b) (hc : 32 ∉ TL.tl c) (bad : a ≠ "block" ∨ blkB b = false ∨ numB c = false) : headM (Txt.join " " [a, b, c]) = none := by
  rw [head_of (sp_split (by simp) (fr_three ha hb hc))]
  refine if_neg fun ⟨_, h1, h2, h3⟩ => ?_
  have h2 : blkB b = true := h2
  have h3 : numB c = true := h3
  rcases bad with h | h | h
  · exact h h1
  · rw [h] at h2
    cases h2
  · rw [h] at h3
    cases h3
/-- what is joined behind, or ahead -/
theorem add_x {ws : List Str} (n : ws ≠ []) : Txt.join " " ws ++ (" x" : Str) = Txt.join " " (ws ++ [("x" : Str)]) := by
  rw [join_snoc n]
  refine TL.ext_tl ?_
  simp only [TL.tl_append, List.append_assoc]
  rfl
theorem add_sp {ws : List Str} (n : ws ≠ []) : Txt.join " " ws ++ (" " : Str) = Txt.join " " (ws ++ [("" : Str)]) := by
  rw [join_snoc n]
  refine TL.ext_tl ?_
  simp only [TL.tl_append, List.append_assoc]
  rfl
theorem sp_add {ws : List Str} (n : ws ≠ []) : (" " : Str) ++ Txt.join " " ws = Txt.join " " ("" :: ws) := by
  rw [join_cons n]
  rfl
theorem three_cases {line : Str} {ws : List Str} (e : line = Txt.join " " ws) (n : ws ≠ []) (f : ∀ p ∈ ws, 32 ∉ TL.tl p) {y : Str} (hy : y = line ++ (" x" : Str) ∨ y = line ++ (" " : Str) ∨ y = (" " : Str) ++ line) :
    (∃ u : Str, Txt.split y " " = ws ++ [u]) ∨ Txt.split y " " = ("" : Str) :: ws := by
  have f0 : 32 ∉ TL.tl ("" : Str) := by decide +kernel
  have fx : 32 ∉ TL.tl ("x" : Str) := by decide +kernel
  have fs : ∀ u : Str, 32 ∉ TL.tl u → ∀ p ∈ ws ++ [u], 32 ∉ TL.tl p := fun u hu p hp => by
    rcases List.mem_append.mp hp with hp | hp
    · exact f p hp
    · rw [List.mem_singleton.mp hp]
      exact hu
  rcases hy with rfl | rfl | rfl
  · exact .inl ⟨"x", by rw [e, add_x n]; exact sp_split (by simp) (fs _ fx)⟩
  · exact .inl ⟨"", by rw [e, add_sp n]; exact sp_split (by simp) (fs _ f0)⟩
  · refine .inr ?_
    rw [e, sp_add n]
    refine sp_split (List.cons_ne_nil _ _) fun p hp => ?_
    rcases List.mem_cons.mp hp with rfl | hp
    · exact f0
    · exact f p hp
theorem head_spoilt {z : Str} (h : blkB z = true) {n : Nat} {y : Str} (hy : y = headS z n ++ (" x" : Str) ∨ y = headS z n ++ (" " : Str) ∨ y = (" " : Str) ++ headS z n) : headM y = none := by
  rcases three_cases (headS_join z n) (by simp) (fr_three fr_block (fr_blk h) (fr_nat n)) hy with ⟨u, e⟩ | e
  · rw [head_of e]
    exact if_neg fun q => absurd q.1 (by simp)
  · rw [head_of e]
    exact if_neg fun q => absurd q.1 (by simp)
/-! ### a letter with a word too many -/
theorem wordAt_app {ws : List Str} {k : Nat} (h : k < ws.length) (u : Str) : wordAt (ws ++ [u]) k = wordAt ws k := by
  unfold wordAt
  rw [if_pos h, if_pos (by rw [List.length_append]; omega), getD_left h]
theorem kindAt_app {ws : List Str} {k : Nat} (h : k < ws.length) (u : Str) : kindAt (ws ++ [u]) k = kindAt ws k := by
  unfold kindAt
  rw [wordAt_app h]
theorem wordAt_lt {ws : List Str} {k : Nat} {x : Str} (h : wordAt ws k = .ok x) : k < ws.length := by
  unfold wordAt at h
  split at h
  · assumption
  · cases h
theorem blockAt_lt {ws : List Str} {k : Nat} {d : Kd} {b : Option Str} (h : blockAt ws k d = .ok b) : k < ws.length := by
  unfold blockAt at h
  split at h
  · cases h
  · rename_i e
    exact wordAt_lt e
theorem leanAt_lt {ws : List Str} {k : Nat} {t : Int} {l : Option Int} (h : leanAt ws k t = .ok l) : k < ws.length := by
  unfold leanAt at h
  split at h
  · cases h
  · rename_i e
    exact wordAt_lt e
theorem endAt_le {ws : List Str} {k : Nat} {u : Unit} (h : endAt ws k = .ok u) : ws.length ≤ k := by
  unfold endAt at h
  split at h
  · cases h
  · omega
theorem readW_kind {ws : List Str} {x : Lt} (h : readW ws = .ok x) : ∃ k : Kd, kindAt ws 1 = .ok k ∧ ws.length = if k = .pre then 6 else 5 := by
  unfold readW at h
  obtain ⟨w, h1, h⟩ := bindE_ok h
  obtain ⟨k, h2, h⟩ := bindE_ok h
  obtain ⟨ht, h3, h⟩ := bindE_ok h
  obtain ⟨t, h4, h⟩ := bindE_ok h
  obtain ⟨b, h5, h⟩ := bindE_ok h
  have a5 := blockAt_lt h5
  refine ⟨k, h2, ?_⟩
  unfold readEnd at h
  split at h
  · rename_i ek
    obtain ⟨l, h6, h⟩ := bindE_ok h
    obtain ⟨_, h7, h⟩ := bindE_ok h
    have := leanAt_lt h6
    have := endAt_le h7
    rw [if_pos ek]
    omega
  · rename_i ek
    obtain ⟨_, h7, h⟩ := bindE_ok h
    have := endAt_le h7
    rw [if_neg ek]
    omega
theorem readW_more {ws : List Str} {x : Lt} (h : readW ws = .ok x) (u : Str) : ∃ e, readW (ws ++ [u]) = .error e := by
  cases q : readW (ws ++ [u]) with
  | error e => exact ⟨e, rfl⟩
  | ok y =>
    exfalso
    obtain ⟨k, h1, h2⟩ := readW_kind h
    obtain ⟨k', h3, h4⟩ := readW_kind q
    have l5 : 5 ≤ ws.length := by
      rw [h2]
      split <;> omega
    rw [kindAt_app (by omega), h1] at h3
    cases h3
    rw [List.length_append, List.length_singleton, h2] at h4
    omega
theorem readW_before (ws : List Str) : ∃ e, readW (("" : Str) :: ws) = .error e := by
  refine ⟨0, ?_⟩
  unfold readW
  have e : numAt (("" : Str) :: ws) 0 = .error 0 := by
    unfold numAt
    rw [wordAt_ok (x := "") rfl]
    have : numB ("" : Str) = false := by decide +kernel
    simp only [this]
    rfl
  rw [e]
  rfl
theorem line_free {who : Int} (w0 : 0 ≤ who) {m : Sm} (g : GoodM m) : ∀ p ∈ (toString who : Str) :: m.vals.map wordV, 32 ∉ TL.tl p := fun p hp => by
  rcases List.mem_cons.mp hp with rfl | hp
  · exact num_free w0 (.inl (by decide))
  · obtain ⟨v, hv, rfl⟩ := List.mem_map.mp hp
    exact word_free g v hv
theorem line_spoilt {who : Int} (w0 : 0 ≤ who) (w1 : who < 1000000000) {m : Sm} (g : GoodM m) {y : Str} (hy : y = lineS who m ++ (" x" : Str) ∨ y = lineS who m ++ (" " : Str) ∨ y = (" " : Str) ++ lineS who m) : ∃ e, readL y = .error e := by
  have r := read_line w0 w1 g
  unfold readL at r ⊢
  rw [line_words w0 g] at r
  rcases three_cases (ws := (toString who : Str) :: m.vals.map wordV) rfl (List.cons_ne_nil _ _) (line_free w0 g) hy with ⟨u, e⟩ | e
  · rw [e]
    exact readW_more r u
  · rw [e]
    exact readW_before _

theorem ok_law_line (T : Txt K mg a) : ∃ fd, FnOk P w K mg base CX0 1 a.d_law_line fd ["letter"] (spLine K) ∧ Binds K fd ["letter"] [] := by
  obtain ⟨fd, F, b⟩ := T.d_law_line.F
  refine ⟨fd, F.ok sc_law_line (fun vs H Q E h => ?_) (fun cdv A outer s H vs Q E hr h => ?_), b⟩
  · obtain ⟨_, _, rfl, _⟩ := h
    rfl
  · obtain ⟨t, x, rfl, hx, w0, w1, hs, k⟩ := h
    obtain ⟨p, ht, hp⟩ := hx
    have hp' : H p = some (.tup x.m.vals) := hp
    have l5 := vals_len x.m
    refine ⟨_, (pss_cons (ps_set (i := 1) sc_law_line.nd rfl (Or.inl rfl) (pe_lst (pa_cons (pe_callTy cr_strA (by rfl) T.n_str (by decide +kernel) (pa_cons (pe_ix ix_tup (pv 0) pe_int (fun _ _ => rfl)) pa_nil)) pa_nil)))
      (pss_cons (ps_for PassesOwn.never rfl (pi_tup (pe_ix ix_tup (pv 0) pe_int (fun _ _ => rfl))) (pg_name (i := 2) sc_law_line.nd rfl (Or.inl rfl))
      (pss_one (ps_if (pt_cmpR op_isN (pv 2) pe_non (nomark _))
        (pss_one (ps_expr (pe_bm PySem.F.plainAttrs_list PySem.F.slot_list_append PySem.F.type_list_append mt_append (pv 1) (pa_cons pe_str pa_nil))))
        (pss_one (ps_expr (pe_bm PySem.F.plainAttrs_list PySem.F.slot_list_append PySem.F.type_list_append mt_append (pv 1) (pa_cons (pe_callTy cr_strA (by rfl) T.n_str (by decide +kernel) (pa_cons (pv 2) pa_nil)) pa_nil)))))))
      (pss_one (ps_ret (pe_join pe_str (pv 1)))))), ?_⟩
    walk_at "rs"
    refine ⟨_, _, _, _, rfl, rfl, SqT.of ht, rfl, ?_⟩
    walk_at "rs"
    refine ⟨log_small w0 w1, ?_⟩
    refine ⟨(by show 1 ≤ sizeLine; decide), fun W hW => ?_⟩
    have s1 := same_new (o := .lst [V.str (toString x.w)]) hW
    walk_at "rs"
    refine ⟨_, _, _, _, rfl, rfl, SqT.of (s1 _ _ ht), rfl, ?_⟩
    walk_at "rs"
    refine ⟨⟨_, SqT.of (s1 _ _ hp')⟩, for_tup (K := K) (a := p) (xs := x.m.vals) (fun i σ H2 => ∃ v2 : Option V, σ = [some (.ref t), some (.ref W), v2] ∧ Same H H2 ∧ H2 W = some (.lst (((toString x.w : Str) :: (x.m.vals.take i).map wordV).map V.str)))
      ⟨_, rfl, s1, by rw [upd_same]; rfl⟩ (fun i σ H2 _ ⟨_, _, s2, _⟩ => SqT.of (s2 _ _ hp')) ?_ ?_⟩
    · rintro i y σ H2 hy ⟨v2, rfl, s2, hw2⟩
      have hi : i < x.m.vals.length := (List.getElem?_eq_some_iff.mp hy).1
      have et : x.m.vals.take (i + 1) = x.m.vals.take i ++ [y] := by rw [List.take_add_one, hy]; rfl
      have hsy := hs y (List.mem_of_getElem? hy)
      have lw : (((toString x.w : Str) :: (x.m.vals.take i).map wordV).map V.str).length < sizeLine := by
        rw [List.length_map, List.length_cons, List.length_map, List.length_take]
        exact small1000 (by omega)
      have fin : ∀ z : Str, z = wordV y → ∃ v2 : Option V, [some (V.ref t), some (.ref W), some y] = [some (V.ref t), some (.ref W), v2] ∧ Same H (upd H2 W (.lst (((toString x.w : Str) :: (x.m.vals.take i).map wordV).map V.str ++ [V.str z]))) ∧
          (upd H2 W (.lst (((toString x.w : Str) :: (x.m.vals.take i).map wordV).map V.str ++ [V.str z]))) W = some (.lst (((toString x.w : Str) :: (x.m.vals.take (i + 1)).map wordV).map V.str)) := fun z e => by
        refine ⟨_, rfl, same_upd s2 hW, ?_⟩
        rw [upd_same, et, e]
        simp
      rcases hsy with rfl | ⟨z, rfl, h0, h1⟩ | ⟨z, rfl, hx⟩
      · walk_at "rs"
        refine ⟨.inl ⟨rfl, _, SqL.of hw2⟩, ?_⟩
        walk_at "rs"
        refine ⟨W, _, _, rfl, rfl, hw2, lw, ?_⟩
        exact fin _ rfl
      · walk_at "rs"
        refine ⟨.inl ⟨rfl, _, SqL.of hw2⟩, ?_⟩
        walk_at "rs"
        refine ⟨log_small h0 h1, ?_⟩
        refine ⟨W, _, _, rfl, rfl, hw2, lw, ?_⟩
        exact fin _ rfl
      · walk_at "rs"
        refine ⟨.inl ⟨rfl, _, SqL.of hw2⟩, ?_⟩
        walk_at "rs"
        refine .inr ⟨z, rfl, ?_⟩
        refine ⟨W, _, _, rfl, rfl, hw2, lw, ?_⟩
        exact fin _ rfl
    · rintro σ H2 ⟨v2, rfl, s2, hw2⟩
      rw [List.take_length] at hw2
      have fit := join_fit (who := x.w) w0 w1 hs
      walk_at "rs"
      refine ⟨⟨_, rfl⟩, ?_⟩
      walk_at "rs"
      refine ⟨_, W, _, rfl, rfl, .inl (SqL.of hw2), fit, ?_⟩
      exact k _ s2

/-! ### the law's lines -/
def headsM (es : List (Str × List Lt)) (i : Nat) : List Int := (List.range i).map fun j => ((posE (es.take j) : Nat) : Int)
theorem headsM_len (es : List (Str × List Lt)) (i : Nat) : (headsM es i).length = i := by
  unfold headsM
  rw [List.length_map, List.length_range]
theorem headsM_snoc (es : List (Str × List Lt)) (i : Nat) : headsM es (i + 1) = headsM es i ++ [((posE (es.take i) : Nat) : Int)] := by
  unfold headsM
  rw [List.range_succ, List.map_append]
  rfl
theorem archM_pos : ∀ es : List (Str × List Lt), (archM es).length = posE es
  | [] => rfl
  | (z, xs) :: r => by
    have := archM_pos r
    simp only [archM, posE, List.length_cons, List.length_append, List.length_map]
    omega
theorem headS_law (z : Str) (n : Nat) : ((("block " : Str) ++ z) ++ (" " : Str)) ++ (toString (n : Int) : Str) = headS z n := by
  refine TL.ext_tl ?_
  unfold headS
  simp only [TL.tl_append]
  rfl
structure EnL (H : Hp) (n : En) : Prop where
  r : EnR H n
  few : n.xs.length ≤ 32
  lz : n.z.length ≤ 60
  ok : ∀ x ∈ n.xs, LnOk x
theorem EnR.same {H H' : Hp} {n : En} (h : EnR H n) (s : Same H H') : EnR H' n := ⟨s _ _ h.he, s _ _ h.hl, h.hx.same s⟩
theorem EnL.same {H H' : Hp} {n : En} (h : EnL H n) (s : Same H H') : EnL H' n := { h with r := h.r.same s }
def spLLines : Sp := fun vs H Q _ => ∃ (p : Addr) (en : List En), vs = [.ref p] ∧ H p = some (.lst ((en.map (·.e)).map V.ref)) ∧ en.length ≤ 4 ∧ (∀ n ∈ en, EnL H n) ∧
  ∀ (t L D : Addr) H', Same H H' → H' t = some (.tup [.ref L, .ref D]) → H' L = some (.lst ((archM (en.map En.pr)).map V.str)) → H' D = some (.lst ((headsM (en.map En.pr) en.length).map V.int)) → Q (.ref t) H'
theorem en_at {en : List En} {i : Nat} {y : V} (h : ((en.map (·.e)).map V.ref)[i]? = some y) : ∃ n, en[i]? = some n ∧ y = V.ref n.e ∧ n ∈ en ∧ i < en.length := by
  rw [List.getElem?_map, List.getElem?_map] at h
  cases e : en[i]? with
  | none => rw [e] at h; cases h
  | some n => rw [e] at h; cases h; exact ⟨n, rfl, rfl, List.mem_of_getElem? e, (List.getElem?_eq_some_iff.mp e).1⟩
theorem pr_take {en : List En} {i : Nat} {n : En} (h : en[i]? = some n) : (en.map En.pr).take (i + 1) = (en.map En.pr).take i ++ [(n.z, n.xs)] := by
  rw [List.take_add_one, List.getElem?_map, h]
  rfl
theorem ok_law_lines (T : Txt K mg a) : ∃ fd, FnOk P w K mg base CX0 2 a.d_law_lines fd ["entries"] spLLines ∧ Binds K fd ["entries"] [] := by
  obtain ⟨fd, F, b⟩ := T.d_law_lines.F
  obtain ⟨fd_law_line, G_law_line, b_law_line⟩ := ok_law_line (P := P) (w := w) (base := base) T
  refine ⟨fd, F.ok sc_law_lines (fun vs H Q E h => ?_) (fun cdv A outer s H vs Q E hr h => ?_), b⟩
  · obtain ⟨_, _, rfl, _⟩ := h
    rfl
  · obtain ⟨p, en, rfl, hp, few, ok, k⟩ := h
    refine ⟨_, (pss_cons (ps_set (i := 1) sc_law_lines.nd rfl (Or.inl rfl) (pe_lst pa_nil))
      (pss_cons (ps_set (i := 2) sc_law_lines.nd rfl (Or.inl rfl) (pe_lst pa_nil))
      (pss_cons (ps_for PassesOwn.never rfl (pi_list (pv 0)) (pg_name (i := 3) sc_law_lines.nd rfl (Or.inl rfl))
      (pss_cons (ps_expr (pe_bm PySem.F.plainAttrs_list PySem.F.slot_list_append PySem.F.type_list_append mt_append (pv 2) (pa_cons (pe_callB call_len_seq (by rfl) T.n_len PySem.boot_len (pa_cons (pv 1) pa_nil)) pa_nil)))
        (pss_cons (ps_expr (pe_bm PySem.F.plainAttrs_list PySem.F.slot_list_append PySem.F.type_list_append mt_append (pv 1) (pa_cons (pe_op op_add_str (pe_op op_add_str (pe_op op_add_str pe_str (pe_ix ix_tup (pv 3) pe_int (fun _ _ => rfl))) pe_str) (pe_callTy cr_strA (by rfl) T.n_str (by decide +kernel) (pa_cons (pe_callB call_len_seq (by rfl) T.n_len PySem.boot_len (pa_cons (pe_ix ix_tup (pv 3) pe_int (fun _ _ => rfl)) pa_nil)) pa_nil))) pa_nil)))
        (pss_one (ps_set (i := 1) sc_law_lines.nd rfl (Or.inl rfl) (pe_op op_cat (pv 1) (pe_lc (own := [("letter", 4)]) (g := (gName 4)) (tt := tYes) rfl sc_law_lines.nd (pi_list (pe_ix ix_tup (pv 3) pe_int (fun _ _ => rfl))) (blkOk_by (own := [("letter", 4)]) (N := sc_law_lines_N) (sc := defScope s_law_lines) (by decide +kernel)) (fun _ _ _ _ _ => (pg_name (i := 4) sc_law_lines.nd rfl (Or.inl rfl))) (fun _ _ _ _ _ => pts_nil) (fun _ _ _ _ _ => (pe_call G_law_line (hr.mono (by decide)) rfl T.d_law_line.g T.d_law_line.kp b_law_line .nil pass0 (pa_cons (pv 4) pa_nil))))))))))
      (pss_one (ps_ret (pe_tup (pa_cons (pv 1) (pa_cons (pv 2) pa_nil)))))))), ?_⟩
    walk_at "rs"
    refine ⟨(by show 0 ≤ sizeLine; decide), fun L hL => ?_⟩
    walk_at "rs"
    refine ⟨(by show 0 ≤ sizeLine; decide), fun D hD => ?_⟩
    have nLD : L ≠ D := fun z => by rw [z, upd_same] at hD; cases hD
    have hD0 : H D = none := by rwa [upd_ne nLD.symm] at hD
    have s1 : Same H (upd (upd H L (.lst [])) D (.lst [])) := (same_new hL).trans (same_new hD)
    have hL1 : (upd (upd H L (.lst [])) D (.lst [])) L = some (.lst []) := by rw [upd_ne nLD, upd_same]
    have hD1 : (upd (upd H L (.lst [])) D (.lst [])) D = some (.lst []) := upd_same
    generalize upd (upd H L (.lst [])) D (.lst []) = H1 at s1 hL1 hD1 ⊢
    clear hD
    walk_at "rs"
    refine ⟨⟨_, SqL.of (s1 _ _ hp)⟩, for_list (K := K) (a := p) (xs := (en.map (·.e)).map V.ref) (fun i σ Hx => ∃ (L : Addr) (v3 v4 : Option V), σ = [some (.ref p), some (.ref L), some (.ref D), v3, v4] ∧ Same H Hx ∧ H L = none ∧ L ≠ D ∧ Hx L = some (.lst ((archM ((en.map En.pr).take i)).map V.str)) ∧ Hx D = some (.lst ((headsM (en.map En.pr) i).map V.int)))
      ⟨L, _, _, rfl, s1, hL, nLD, hL1, hD1⟩ (fun i σ Hx _ ⟨_, _, _, _, sx, _⟩ => SqL.of (sx _ _ hp)) ?_ ?_⟩
    · clear hL hL1 hD1 nLD s1
      rintro i y σ Hx hy ⟨L, v3, v4, rfl, sx, hL, nLD, hLx, hDx⟩
      obtain ⟨n, hn, rfl, hm, hi⟩ := en_at hy
      have N := (ok n hm).same sx
      have lz := N.lz
      have n1 := N.r.hx.1
      have fewn := N.few
      have al : (archM ((en.map En.pr).take i)).length ≤ 500 := by
        have := archM_len (es := (en.map En.pr).take i) fun e he => by
          obtain ⟨m, hm, rfl⟩ := List.mem_map.mp (List.mem_of_mem_take he)
          exact Nat.le_trans (ok m hm).few (by decide)
        rw [List.length_take, List.length_map] at this
        omega
      walk_at "rs"
      refine ⟨.inl ⟨rfl, _, SqL.of hDx⟩, ?_⟩
      walk_at "rs"
      refine ⟨L, _, rfl, .inl (SqL.of hLx), ?_⟩
      rw [List.length_map, archM_pos]
      refine ⟨D, _, _, rfl, rfl, hDx, by rw [List.length_map, headsM_len]; exact small1000 (by omega), ?_⟩
      have keep : ∀ o, ∀ b u, b ≠ D → Hx b = some u → upd Hx D o b = some u := fun o b u nb e => by rw [upd_ne nb]; exact e
      have eD : n.e ≠ D := fun z => by have := N.r.he; rw [z, hDx] at this; cases this
      have s2 : Same H (upd Hx D (.lst ((headsM (en.map En.pr) i).map V.int ++ [V.int ((posE ((en.map En.pr).take i) : Nat) : Int)]))) := same_upd sx hD0
      have N2 := (ok n hm).same s2
      have hL2 := keep (.lst ((headsM (en.map En.pr) i).map V.int ++ [V.int ((posE ((en.map En.pr).take i) : Nat) : Int)])) _ _ nLD hLx
      have hD2 : (upd Hx D (.lst ((headsM (en.map En.pr) i).map V.int ++ [V.int ((posE ((en.map En.pr).take i) : Nat) : Int)]))) D = some (.lst ((headsM (en.map En.pr) (i + 1)).map V.int)) := by
        rw [upd_same, headsM_snoc, List.map_append]
        rfl
      generalize upd Hx D (.lst ((headsM (en.map En.pr) i).map V.int ++ [V.int ((posE ((en.map En.pr).take i) : Nat) : Int)])) = H2 at s2 N2 hL2 hD2 ⊢
      clear keep N hLx hDx sx
      have q1 : ("block " : Str).length = 6 := rfl
      have q2 : (" " : Str).length = 1 := rfl
      have q3 : (toString ((n.xs.length : Nat) : Int) : Str).length ≤ 60 := (num_ok (Int.natCast_nonneg _) (by omega)).1
      walk_at "rs"
      refine ⟨.inl ⟨rfl, _, SqL.of hL2⟩, ?_⟩
      walk_at "rs"
      refine ⟨n.e, _, _, .str n.z, rfl, rfl, SqT.of N2.r.he, rfl, ?_⟩
      walk_at "rs"
      refine ⟨by rw [sizeLine_eq]; omega, ?_⟩
      walk_at "rs"
      refine ⟨by rw [PySem.Str.length_append, sizeLine_eq]; omega, ?_⟩
      walk_at "rs"
      refine ⟨n.e, _, _, .ref n.l, rfl, rfl, SqT.of N2.r.he, rfl, ?_⟩
      walk_at "rs"
      refine ⟨n.l, _, rfl, .inl (SqL.of N2.r.hl), ?_⟩
      rw [List.length_map, n1]
      refine .inl ⟨_, rfl, log_small (Int.natCast_nonneg _) (by omega), ?_⟩
      refine ⟨_, _, rfl, rfl, by simp only [PySem.Str.length_append]; rw [sizeLine_eq]; omega, ?_⟩
      refine ⟨L, _, _, rfl, rfl, hL2, by rw [List.length_map]; exact small1000 (by omega), ?_⟩
      rw [show ((("block " : Str) ++ n.z) ++ (" " : Str)) ++ (toString ((n.xs.length : Nat) : Int) : Str) = headS n.z n.xs.length from headS_law _ _]
      have eL : n.e ≠ L := fun z => by have := N2.r.he; rw [z, hL2] at this; cases this
      have s3 : Same H (upd H2 L (.lst ((archM ((en.map En.pr).take i)).map V.str ++ [V.str (headS n.z n.xs.length)]))) := same_upd s2 hL
      have N3 := (ok n hm).same s3
      have hL3 : (upd H2 L (.lst ((archM ((en.map En.pr).take i)).map V.str ++ [V.str (headS n.z n.xs.length)]))) L = some (.lst ((archM ((en.map En.pr).take i) ++ [headS n.z n.xs.length]).map V.str)) := by rw [upd_same]; simp
      have hD3 : (upd H2 L (.lst ((archM ((en.map En.pr).take i)).map V.str ++ [V.str (headS n.z n.xs.length)]))) D = some (.lst ((headsM (en.map En.pr) (i + 1)).map V.int)) := by rw [upd_ne nLD.symm]; exact hD2
      generalize upd H2 L (.lst ((archM ((en.map En.pr).take i)).map V.str ++ [V.str (headS n.z n.xs.length)])) = H3 at s3 N3 hL3 hD3 ⊢
      clear N2 hL2 hD2 s2
      walk_at "rs"
      refine ⟨n.e, _, _, .ref n.l, rfl, rfl, SqT.of N3.r.he, rfl, ?_⟩
      refine ⟨n.l, rfl, ⟨_, SqL.of N3.r.hl⟩, fun R hR => ?_⟩
      refine lc_list (K := K) (a := n.l) (xs := n.ps.map V.ref) (fun j Hj => Same H3 Hj ∧ Hj R = some (.lst (((n.xs.take j).map fun x => lineS x.w x.m).map V.str))) ⟨same_new hR, upd_same⟩ (fun j Hj _ ⟨sj, _⟩ => SqL.of (sj _ _ N3.r.hl)) ?_ ?_
      · rintro j y Hj hy ⟨sj, hRj⟩
        have hj : j < n.ps.length := by
          have e := (List.getElem?_eq_some_iff.mp hy).1
          rwa [List.length_map] at e
        have hj' : j < n.xs.length := by omega
        rw [at_refs hj] at hy
        cases hy
        have hlt := (N3.r.hx.2 j hj').same sj
        have hok := N3.ok _ (getD_mem2 (d := default) hj')
        refine ⟨rfl, ?_⟩
        walk_at "rs"
        refine ⟨_, _, rfl, hlt, hok.1, hok.2.1, hok.2.2, fun H' s' => ?_⟩
        refine ⟨_, s' _ _ hRj, by rw [List.length_map, List.length_map, List.length_take]; exact small1000 (by omega), ?_, ?_⟩
        · exact same_upd (sj.trans s') hR
        · rw [upd_same, take_succ_getD (d := default) hj']
          simp
      · rintro H4 ⟨s4, hR4⟩
        rw [List.length_map, n1, List.take_length] at hR4
        refine ⟨L, R, _, _, rfl, rfl, s4 _ _ hL3, hR4, by rw [List.length_map, List.length_map, List.length_map, List.length_append, List.length_singleton, sizeLine_eq]; omega, fun M hM => ?_⟩
        have s5 := same_new (o := .lst (((archM ((en.map En.pr).take i) ++ [headS n.z n.xs.length]).map V.str) ++ ((n.xs.map fun x => lineS x.w x.m).map V.str))) hM
        have s35 := s4.trans s5
        refine ⟨M, _, _, rfl, s3.trans s35, (s3.trans s4).free hM, (fun z => by rw [z, s4 _ _ hD3] at hM; cases hM), ?_, s35 _ _ hD3⟩
        rw [upd_same, pr_take hn, archM_snoc]
        simp
    · rintro σ Hx ⟨L, v3, v4, rfl, sx, hL, nLD, hLx, hDx⟩
      rw [List.length_map, List.length_map] at hLx hDx
      rw [List.take_of_length_le (by rw [List.length_map]; exact Nat.le_refl _)] at hLx
      walk_at "rs"
      refine ⟨(by show 2 ≤ sizeLine; decide), fun t ht => ?_⟩
      have s3 := same_new (o := .tup [V.ref L, V.ref D]) ht
      exact k t L D _ (sx.trans s3) upd_same (s3 _ _ hLx) (s3 _ _ hDx)

/-! ### what the law's entries are good for -/
structure GoodN (z : Str) (xs : List Lt) : Prop where
  bo : BlkOk z
  bb : blkB z = true
  few : xs.length ≤ 32
  pap : ∀ x ∈ xs, ∃ h : Int, 0 ≤ h ∧ h < 10 ∧ PapL h z x
theorem GoodN.gm {z : Str} {xs : List Lt} (g : GoodN z xs) {x : Lt} (hx : x ∈ xs) : GoodM x.m := by
  obtain ⟨h, h0, h1, p1, p2, p3, p4, p5, p6, p7, p8⟩ := g.pap x hx
  refine ⟨by omega, by omega, p3, by omega, fun y e => ?_, fun e => absurd e p5, fun y e => ?_, fun _ => p8⟩
  · rw [p1] at e
    cases e
    exact g.bb
  · rw [p8] at e
    cases e
theorem GoodN.wh {z : Str} {xs : List Lt} (g : GoodN z xs) {x : Lt} (hx : x ∈ xs) : 0 ≤ x.w ∧ x.w < 1000000000 := by
  obtain ⟨h, h0, h1, p1, p2, p3, p4, p5, p6, p7, p8⟩ := g.pap x hx
  omega
theorem GoodN.ln {z : Str} {xs : List Lt} (g : GoodN z xs) {x : Lt} (hx : x ∈ xs) : LnOk x := ⟨(g.wh hx).1, (g.wh hx).2, (g.gm hx).small⟩
theorem GoodN.three {z : Str} {xs : List Lt} (g : GoodN z xs) : ∀ x ∈ xs, 0 ≤ x.m.t ∧ x.m.t < 3 := fun x hx => by
  obtain ⟨h, h0, h1, p1, p2, p3, p4, p5, p6, p7, p8⟩ := g.pap x hx
  omega
theorem GoodN.okl {z : Str} {xs : List Lt} (g : GoodN z xs) : OkL xs := fun x hx y e => (blk_ok ((g.gm hx).b y e)).2
theorem GoodN.ge {z : Str} {xs : List Lt} (g : GoodN z xs) : GoodE (z, xs) := ⟨Nat.le_trans g.bo.1 (by decide), g.bo.only, fun x hx => by have := g.three x hx; omega, Nat.le_trans g.few (by decide)⟩
theorem GoodN.el {H : Hp} {n : En} (g : GoodN n.z n.xs) (r : EnR H n) : EnL H n := ⟨r, g.few, g.bo.1, fun _ hx => g.ln hx⟩
/-- whether the entry at place j is shown -/
def shE (ws : List Int) (es : List (Str × List Lt)) (j : Nat) : Bool := shM (rwE ws (es.take j)) (es.getD j default).2 (j : Int) (some (es.getD j default).1)
theorem rwE_good {ws : List Int} (g : GoodW ws) : ∀ {es : List (Str × List Lt)}, (∀ e ∈ es, onlyW (cmdsOf e.1)) → GoodW (rwE ws es) := by
  intro es
  induction es generalizing ws with
  | nil => exact fun _ => g
  | cons e r ih => exact fun h => ih (rew_good g (h e List.mem_cons_self)) fun f hf => h f (List.mem_cons_of_mem _ hf)
def spDue (K : PySem.W.Frag) : Sp := fun vs H Q _ => ∃ (pw p hd : Addr) (ws : List Int) (en : List En), vs = [.ref pw, .ref p, .ref hd] ∧ SqL K H pw (ws.map V.int) ∧ GoodW ws ∧ H p = some (.lst ((en.map (·.e)).map V.ref)) ∧ H hd = some (.lst ((headsM (en.map En.pr) en.length).map V.int)) ∧ en.length ≤ 4 ∧ (∀ n ∈ en, EnR H n ∧ GoodN n.z n.xs) ∧
  ((∀ j, j < en.length → shE ws (en.map En.pr) j = true) → ∀ t H', Same H H' → H' t = some (.tup [.ref p, .non]) → Q (.ref t) H') ∧
  ∀ i, i < en.length → (∀ j, j < i → shE ws (en.map En.pr) j = true) → shE ws (en.map En.pr) i = false →
    (i + 1 = en.length → ∀ t R H', Same H H' → H' R = some (.lst (((en.take i).map (·.e)).map V.ref)) → H' t = some (.tup [.ref R, .non]) → Q (.ref t) H') ∧
    (i + 1 ≠ en.length → ∀ t H', Same H H' → H' t = some (.tup [.non, .int ((posE ((en.map En.pr).take i) : Nat) : Int)]) → Q (.ref t) H')
theorem pr_getD {en : List En} {i : Nat} {n : En} (h : en[i]? = some n) : (en.map En.pr).getD i default = (n.z, n.xs) := by
  rw [List.getD_eq_getElem?_getD, List.getElem?_map, h]
  rfl
theorem ref_at {en : List En} {i : Nat} {n : En} (h : en[i]? = some n) : ((en.map (·.e)).map V.ref)[i]? = some (V.ref n.e) := by
  rw [List.getElem?_map, List.getElem?_map, h]
  rfl
theorem heads_at (es : List (Str × List Lt)) {i m : Nat} (h : i < m) : ((headsM es m).map V.int)[i]? = some (V.int ((posE (es.take i) : Nat) : Int)) := by
  unfold headsM
  rw [List.getElem?_map, List.getElem?_map, List.getElem?_range h]
  rfl
theorem ok_law_due (T : Txt K mg a) : ∃ fd, FnOk P w K mg base CX0 5 a.d_law_due fd ["weights", "entries", "heads"] (spDue K) ∧ Binds K fd ["weights", "entries", "heads"] [] := by
  obtain ⟨fd, F, b⟩ := T.d_law_due.F
  obtain ⟨fd_law_reweighted, G_law_reweighted, b_law_reweighted⟩ := ok_law_reweighted (P := P) (w := w) (base := base) T
  obtain ⟨fd_law_shows, G_law_shows, b_law_shows⟩ := ok_law_shows (P := P) (w := w) (base := base) T
  refine ⟨fd, F.ok sc_law_due (fun vs H Q E h => ?_) (fun cdv A outer s H vs Q E hr h => ?_), b⟩
  · obtain ⟨_, _, _, _, _, rfl, _⟩ := h
    rfl
  · obtain ⟨pw, p, hd, ws, en, rfl, hw, gw, hp, hh, few, ok, k1, k2⟩ := h
    refine ⟨_, (pss_cons (ps_set (i := 3) sc_law_due.nd rfl (Or.inl rfl) (pe_callTy call_list_of (by rfl) T.n_list (by decide +kernel) (pa_cons (pv 0) pa_nil)))
      (pss_cons (ps_for PassesOwn.never rfl (pi_range1 rfl T.n_range (pa_cons (pe_callB call_len_seq (by rfl) T.n_len PySem.boot_len (pa_cons (pv 1) pa_nil)) pa_nil)) (pg_name (i := 4) sc_law_due.nd rfl (Or.inl rfl))
      (pss_cons (ps_set (i := 5) sc_law_due.nd rfl (Or.inl rfl) (pe_ix ix_tup (pe_ix ix_list (pv 1) (pv 4) (fun _ _ => rfl)) pe_int (fun _ _ => rfl)))
        (pss_cons (ps_if (pt_not (pt_val (pe_call G_law_shows (hr.mono (by decide)) rfl T.d_law_shows.g T.d_law_shows.kp b_law_shows .nil pass0 (pa_cons (pv 3) (pa_cons (pe_ix ix_tup (pe_ix ix_list (pv 1) (pv 4) (fun _ _ => rfl)) pe_int (fun _ _ => rfl)) (pa_cons (pv 4) (pa_cons (pv 5) pa_nil)))))))
        (pss_cons (ps_if (pt_cmpR op_eq (pv 4) (pe_op op_sub (pe_callB call_len_seq (by rfl) T.n_len PySem.boot_len (pa_cons (pv 1) pa_nil)) pe_int) (nomark _))
          (pss_one (ps_ret (pe_tup (pa_cons (pe_slice sl_list (pv 1) po_none (po_some (pv 4))) (pa_cons pe_non pa_nil)))))
          pss_nil)
          (pss_one (ps_ret (pe_tup (pa_cons pe_non (pa_cons (pe_ix ix_list (pv 2) (pv 4) (fun _ _ => rfl)) pa_nil))))))
        pss_nil)
        (pss_one (ps_set (i := 3) sc_law_due.nd rfl (Or.inl rfl) (pe_call G_law_reweighted (hr.mono (by decide)) rfl T.d_law_reweighted.g T.d_law_reweighted.kp b_law_reweighted .nil pass0 (pa_cons (pv 3) (pa_cons (pv 5) pa_nil))))))))
      (pss_one (ps_ret (pe_tup (pa_cons (pv 1) (pa_cons pe_non pa_nil))))))), ?_⟩
    walk_at "rs"
    refine ⟨pw, _, rfl, .inl hw, fun nw hnw => ?_⟩
    have s1 := same_new (o := .lst (ws.map V.int)) hnw
    have hnw1 : (upd H nw (.lst (ws.map V.int))) nw = some (.lst (ws.map V.int)) := upd_same
    generalize upd H nw (.lst (ws.map V.int)) = H1 at s1 hnw1 ⊢
    walk_at "rs"
    refine ⟨p, _, rfl, .inl (SqL.of (s1 _ _ hp)), ?_⟩
    rw [List.length_map, List.length_map]
    walk_at "rs"
    refine ⟨(by show -(2 ^ 62 : Int) ≤ _; omega), (by show _ < (2 ^ 62 : Int); omega), ?_⟩
    refine for_range (lo := 0) (n := ((en.length : Int)).toNat) (fun i σ Hx => ∃ (nw : Addr) (v4 v5 : Option V), σ = [some (.ref pw), some (.ref p), some (.ref hd), some (.ref nw), v4, v5] ∧ Same H Hx ∧ Hx nw = some (.lst ((rwE ws ((en.map En.pr).take i)).map V.int)) ∧ ∀ j, j < i → shE ws (en.map En.pr) j = true)
      ⟨nw, _, _, rfl, s1, hnw1, fun j hj => absurd hj (Nat.not_lt_zero j)⟩ ?_ ?_
    · clear s1 hnw1 hnw
      rintro i σ Hx hi ⟨nw, v4, v5, rfl, sx, hnw, done⟩
      have hi : i < en.length := by omega
      have e0 : (0 : Int) + (i : Int) = (i : Int) := Int.zero_add _
      rw [e0]
      obtain ⟨n, hn⟩ : ∃ n, en[i]? = some n := ⟨_, List.getElem?_eq_getElem hi⟩
      have hm := List.mem_of_getElem? hn
      obtain ⟨R, G⟩ := ok n hm
      have R := R.same sx
      have gi : GoodW (rwE ws ((en.map En.pr).take i)) := rwE_good gw fun e he => by
        obtain ⟨m, hm, rfl⟩ := List.mem_map.mp (List.mem_of_mem_take he)
        exact (ok m hm).2.bo.only
      walk_at "rs"
      refine ⟨p, _, _, _, rfl, rfl, SqL.of (sx _ _ hp), at_of (j := i) rfl (ref_at hn), ?_⟩
      walk_at "rs"
      refine ⟨n.e, _, _, .str n.z, rfl, rfl, SqT.of R.he, rfl, ?_⟩
      walk_at "rs"
      refine ⟨p, _, _, _, rfl, rfl, SqL.of (sx _ _ hp), at_of (j := i) rfl (ref_at hn), ?_⟩
      walk_at "rs"
      refine ⟨n.e, _, _, .ref n.l, rfl, rfl, SqT.of R.he, rfl, ?_⟩
      walk_at "rs"
      have osz : OkS (some n.z) := fun x e => by cases e; exact G.bo.2.1
      have hsh : shE ws (en.map En.pr) i = shM (rwE ws ((en.map En.pr).take i)) n.xs (i : Int) (some n.z) := by
        unfold shE
        rw [pr_getD hn]
      refine ⟨nw, n.l, _, n.z, n.ps, n.xs, (i : Int), rfl, SqL.of hnw, gi, R.hl, R.hx, by have := G.few; omega, osz, G.okl, G.three, fun H2 s2 => ?_⟩
      rw [← hsh]
      walk_at "rs"
      refine ite2 (fun c1 => ?_) (fun c1 => ?_)
      · have c1 : shE ws (en.map En.pr) i = false := by simpa using c1
        obtain ⟨q1, q2⟩ := k2 i hi done c1
        have sx2 := sx.trans s2
        walk_at "rs"
        refine ⟨p, _, rfl, .inl (SqL.of (sx2 _ _ hp)), ?_⟩
        rw [List.length_map, List.length_map]
        walk_at "rs"
        refine ite2 (fun c2 => ?_) (fun c2 => ?_)
        · have c2 : (i : Int) = (en.length : Int) - 1 := by simpa using c2
          walk_at "rs"
          refine ⟨p, _, rfl, SqL.of (sx2 _ _ hp), fun RR hRR => ?_⟩
          have ecut : cutV ((en.map (·.e)).map V.ref) none (some (i : Int)) = ((en.take i).map (·.e)).map V.ref := by
            unfold cutV
            rw [HT.sIx_nat, HT.sIx_none, List.length_map, List.length_map, Nat.min_eq_left (by omega), Nat.sub_zero, List.drop_zero, List.map_take, List.map_take]
          rw [ecut]
          have s3 := same_new (o := .lst (((en.take i).map (·.e)).map V.ref)) hRR
          have hRR3 : (upd H2 RR (.lst (((en.take i).map (·.e)).map V.ref))) RR = some (.lst (((en.take i).map (·.e)).map V.ref)) := upd_same
          generalize upd H2 RR (.lst (((en.take i).map (·.e)).map V.ref)) = H3 at s3 hRR3 ⊢
          refine ⟨(by show 2 ≤ sizeLine; decide), fun t ht => ?_⟩
          have s4 := same_new (o := .tup [V.ref RR, V.non]) ht
          exact q1 (by omega) t RR _ ((sx2.trans s3).trans s4) (s4 _ _ hRR3) upd_same
        · have c2 : ¬ (i : Int) = (en.length : Int) - 1 := by simpa using c2
          walk_at "rs"
          refine ⟨hd, _, _, _, rfl, rfl, SqL.of (sx2 _ _ hh), at_of (j := i) rfl (heads_at _ hi), ?_⟩
          walk_at "rs"
          refine ⟨(by show 2 ≤ sizeLine; decide), fun t ht => ?_⟩
          exact q2 (by omega) t _ (sx2.trans (same_new ht)) upd_same
      · have c1 : shE ws (en.map En.pr) i = true := by simpa using c1
        walk_at "rs"
        refine ⟨nw, _, n.z, rfl, SqL.of (s2 _ _ hnw), gi, G.bo, fun nw' H3 s3 fn hn' => ?_⟩
        refine ⟨nw', _, _, rfl, (sx.trans s2).trans s3, ?_, fun j hj => ?_⟩
        · rw [pr_take hn, rwE_snoc]
          exact hn'
        · rcases Nat.lt_or_ge j i with z | z
          · exact done j z
          · have : j = i := by omega
            rw [this]
            exact c1
    · clear s1 hnw1 hnw
      rintro σ Hx ⟨nw, v4, v5, rfl, sx, hnw, done⟩
      walk_at "rs"
      refine ⟨(by show 2 ≤ sizeLine; decide), fun t ht => ?_⟩
      exact k1 (fun j hj => done j (by omega)) t _ (sx.trans (same_new ht)) upd_same

def spIsInt (K : PySem.W.Frag) : Sp := fun vs H Q _ => ∃ i : Int, vs = [.int i] ∧ Q (.bl true) H
theorem okw_law_is_integer (T : Txt K mg a) : ∃ fd, FnW P w K mg base 1 a.d_law_is_integer fd ["actual"] (spIsInt K) ∧ Binds K fd ["actual"] [] := by
  obtain ⟨fd, F, b⟩ := T.d_law_is_integer.F
  refine ⟨fd, fun_okW F sc_law_is_integer (fun vs H Q E h => ?_) (fun cdv A outer s H vs Q E p hr h => ?_), b⟩
  · obtain ⟨_, rfl, _⟩ := h
    rfl
  · obtain ⟨i, rfl, k⟩ := h
    refine ⟨_, (pss_one (ps_ret (pe_and (pe_callB call_isi (by rfl) T.n_isinstance (by decide +kernel) (pa_cons (pv 0) (pa_cons (pe_bltn (v := .ty "int") (u := .type "int") (by rfl) T.n_int (by decide +kernel) rfl) pa_nil))) (pe_one (pe_not (pe_callB call_isi (by rfl) T.n_isinstance (by decide +kernel) (pa_cons (pv 0) (pa_cons (pe_bltn (v := .ty "bool") (u := .type "bool") (by rfl) T.n_bool (by decide +kernel) rfl) pa_nil)))))))), ?_⟩
    walk_at "rs"
    refine ⟨_, _, .type "int", .type "int", true, rfl, .ty _, .base (.int _), kit_ty (by decide +kernel), ?_⟩
    walk_at "rs"
    refine ⟨_, _, .type "int", .type "bool", false, rfl, .ty _, .base (.int _), kit_ty (by decide +kernel), ?_⟩
    walk_at "rs"
    exact k

/-! ### lists of entries as data -/
def eD (e : Str × List Lt) : PyData := .tuple [.str e.1, .list (e.2.map Lt.dat)]
theorem dp_eDs {H : Hp} : ∀ {en : List En}, (∀ n ∈ en, EnR H n) → DpAll K H ((en.map (·.e)).map V.ref) ((en.map En.pr).map eD)
  | [], _ => .nil
  | n :: es, h => by
    have r := h n List.mem_cons_self
    exact .cons (.tup (SqT.of r.he) (.cons (.str _) (.cons (.lst (SqL.of r.hl) (dp_lts r.hx)) .nil))) (dp_eDs fun m hm => h m (List.mem_cons_of_mem _ hm))
def OkE (e : Str × List Lt) : Prop := OkL e.2 ∧ PyData.strOk e.1 = true
theorem lay_eD {e : Str × List Lt} (o : OkE e) : PyData.canLay0 (eD e) = true := by
  simp only [eD, PyData.canLay0, PyData.canLayAll0, o.2, lay_lts o.1]
  rfl
theorem lay_eDs : ∀ {es : List (Str × List Lt)}, (∀ e ∈ es, OkE e) → PyData.canLayAll0 (es.map eD) = true
  | [], _ => by simp [PyData.canLayAll0]
  | n :: es, o => by
    simp only [List.map_cons, PyData.canLayAll0]
    rw [lay_eD (o n List.mem_cons_self), lay_eDs fun y hy => o y (List.mem_cons_of_mem _ hy)]
    rfl
theorem depth_eDs : ∀ es : List (Str × List Lt), PyData.depthAll (es.map eD) ≤ 4
  | [] => by simp [PyData.depthAll]
  | n :: es => by
    have := depth_eDs es
    have h := depth_lts n.2
    simp only [List.map_cons, PyData.depthAll, eD, PyData.depth]
    omega
theorem shaped_eDs {es : List (Str × List Lt)} (o : ∀ e ∈ es, OkE e) : SeqAt.shaped (.list (es.map eD)) = true := by
  have h := depth_eDs es
  unfold SeqAt.shaped
  have e : PyData.depth (.list (es.map eD)) = PyData.depthAll (es.map eD) + 1 := by simp only [PyData.depth]
  have l : PyData.canLay0 (.list (es.map eD)) = true := by simp only [PyData.canLay0, lay_eDs o]
  rw [l, e, decide_eq_true (show PyData.depthAll (es.map eD) + 1 ≤ 64 by omega)]
  rfl
theorem eDs_refl {es : List (Str × List Lt)} (o : ∀ e ∈ es, OkE e) : PyData.eqv (.list (es.map eD)) (.list (es.map eD)) = true := SeqAt.eqv_refl _ (by
  simp only [PyData.canLay0, lay_eDs o])
/-! ### what the law reads -/
def IsD (H : Hp) (x : V) (es : List (Str × List Lt)) : Prop := ∃ (D : Addr) (en : List En), x = .ref D ∧ H D = some (.lst ((en.map (·.e)).map V.ref)) ∧ en.map En.pr = es ∧ ∀ n ∈ en, EnR H n
def IsX (x y : V) (k : Nat) : Prop := x = .non ∧ y = .int (k : Int)
def spLRead (K : PySem.W.Frag) : Sp := fun vs H Q _ => ∃ (pw l : Addr) (x y : V) (ws : List Int) (ls : List Str) (es : List (Str × List Lt)), vs = [.ref pw, .ref l, x, y] ∧ SqL K H pw (ws.map V.int) ∧ GoodW ws ∧ H l = some (.lst (ls.map V.str)) ∧ ls.length ≤ 900 ∧ (∀ z ∈ ls, z.length + 2 ≤ 16777216 ∧ PyData.strOk z = true) ∧
  (∀ j, j < es.length → posE (es.take j) < ls.length ∧ entM ls (posE (es.take j)) = .ok (es.getD j default).1 (es.getD j default).2) ∧ (∀ e ∈ es, GoodE e ∧ OkE e) ∧ es.length ≤ 700 ∧ (∀ j, j < es.length → shE ws es j = true) ∧
  (ls.length ≤ posE es → IsD H x es) ∧ (posE es < ls.length → (∀ k, entM ls (posE es) = .bad k → IsX x y k) ∧ (entM ls (posE es) = .torn → IsD H x es) ∧
    ∀ z xs, entM ls (posE es) = .ok z xs → GoodE (z, xs) ∧ shM (rwE ws es) xs (es.length : Int) (some z) = false ∧ (posE es + xs.length + 1 = ls.length → IsD H x es) ∧ (posE es + xs.length + 1 ≠ ls.length → IsX x y (posE es))) ∧
  ∀ H', Same H H' → Q (.bl true) H'
theorem ok_law_read (TE : TxtE P w K mg a) (T : Txt K mg a) : ∃ fd, FnOk P w K mg base CX0 9 a.d_law_read fd ["weights", "lines", "due", "at"] (spLRead K) ∧ Binds K fd ["weights", "lines", "due", "at"] [] := by
  obtain ⟨fd, F, b⟩ := T.d_law_read.F
  obtain ⟨fd_read_archive, G_read_archive, b_read_archive⟩ := ok_read_archive (P := P) (w := w) (base := base) TE T
  obtain ⟨fdW, GW, bW⟩ := okw_law_is_integer (P := P) (w := w) (base := base) T
  obtain ⟨fdS, SupS, bS⟩ := TE.sup_BadArchive
  have nof := SupS.nof
  refine ⟨fd, F.ok sc_law_read (fun vs H Q E h => ?_) (fun cdv A outer s H vs Q E hr h => ?_), b⟩
  · obtain ⟨_, _, _, _, _, _, _, rfl, _⟩ := h
    rfl
  · obtain ⟨pw, l, x, y, ws, ls, es, rfl, hw, gw, hl, few, lim, hes, good, fes, sh, k0, k1, kk⟩ := h
    refine ⟨_, (pss_cons (ps_set (i := 4) sc_law_read.nd rfl (Or.inl rfl) (pe_callTy call_list_of (by rfl) T.n_list (by decide +kernel) (pa_cons (pv 1) pa_nil)))
      (pss_cons (ps_try_as (i := 6) rfl rfl sc_law_read.nd rfl rfl ⟨rfl, by decide, .inl TE.g_TribunalError⟩ takes0 (fun W pn xe tk _ => (pss_one (ps_set (i := 5) sc_law_read.nd rfl (Or.inl rfl) (pe_callS G_read_archive (hr.mono (by decide)) rfl T.d_read_archive.g T.d_read_archive.kp b_read_archive (fun σ => passAt tk σ) (pa_cons (pe_callTy (T := "list") (r := rListOf K) (cr_listK rfl) (by rfl) T.n_list (by decide +kernel) (pa_cons (pv 0) pa_nil)) (pa_cons (pe_lst pa_nil) (pa_cons (pv 1) pa_nil))))))) (fun ae oe cls d pn hz hf => (pss_cons (ps_if (PW.pt (pw_or (pt_val (pe_callB (call_isXT hz hf) (by rfl) T.n_isinstance (by decide +kernel) (pa_cons (pv 6) (pa_cons (pe_tup (pa_cons (pe_glob (v := .ref a.C_BadLine) rfl TE.g_BadLine rfl) (pa_cons (pe_glob (v := .ref a.C_BadPaper) rfl TE.g_BadPaper rfl) pa_nil))) pa_nil)))) (pw_or1 (pt_cmpR op_notN (pv 2) pe_non (nomark _))))) (pss_one (ps_ret pe_bl)) pss_nil) (pss_one (ps_ret (pe_and (pe_callB (call_isX hz hf) (by rfl) T.n_isinstance (by decide +kernel) (pa_cons (pv 6) (pa_cons (pe_glob (v := .ref a.C_BadArchive) rfl TE.g_BadArchive rfl) pa_nil))) (pe_and (pe_callW (p := (ae, oe)) GW ((L2H.roomH_mark hr _).mono (by decide)) List.mem_cons_self rfl T.d_law_is_integer.g T.d_law_is_integer.kp bW (pa_cons (pe_xf ⟨TE.xc_BadArchive.ga, TE.xc_BadArchive.gt, TE.xc_BadArchive.sub, TE.xc_BadArchive.has⟩ nof hz hf (pv 6)) pa_nil)) (pe_one (pe_cmpR op_eq (pe_xf ⟨TE.xc_BadArchive.ga, TE.xc_BadArchive.gt, TE.xc_BadArchive.sub, TE.xc_BadArchive.has⟩ nof hz hf (pv 6)) (pv 3) (nomark _))))))))))
      (pss_one (ps_ret (pe_and (pe_cmpR (op_eqD hr.units) (pv 1) (pv 4) (nomark _)) (pe_and (pe_cmpR op_notN (pv 2) pe_non (nomark _)) (pe_and (pe_callB call_isi (by rfl) T.n_isinstance (by decide +kernel) (pa_cons (pv 5) (pa_cons (pe_bltn (v := .ty "list") (u := .type "list") (by rfl) T.n_list (by decide +kernel) rfl) pa_nil))) (pe_one (pe_cmpR (op_eqD hr.units) (pv 5) (pv 2) (nomark _)))))))))), ?_⟩
    have okx : ∀ z ∈ ls, PyData.strOk z = true := fun z hz => (lim z hz).2
    walk_at "rs"
    refine ⟨l, _, rfl, .inl (SqL.of hl), fun kp hkp => ?_⟩
    have s1 := same_new (o := .lst (ls.map V.str)) hkp
    have hkp1 : (upd H kp (.lst (ls.map V.str))) kp = some (.lst (ls.map V.str)) := upd_same
    generalize upd H kp (.lst (ls.map V.str)) = H1 at s1 hkp1 ⊢
    walk_at "rs"
    refine ⟨pw, _, rfl, .inl (s1.seq hw), fun pw2 hpw2 => ?_⟩
    have s2 := s1.trans (same_new (o := .lst (ws.map V.int)) hpw2)
    have hkp2 := (same_new (o := .lst (ws.map V.int)) hpw2) _ _ hkp1
    have hw2 : (upd H1 pw2 (.lst (ws.map V.int))) pw2 = some (.lst (ws.map V.int)) := upd_same
    generalize upd H1 pw2 (.lst (ws.map V.int)) = H2 at s2 hkp2 hw2 ⊢
    clear hkp1 s1 hpw2
    walk_at "rs"
    refine ⟨(by show 0 ≤ sizeLine; decide), fun g hg => ?_⟩
    have s3 := s2.trans (same_new (o := .lst []) hg)
    have hkp3 := (same_new (o := .lst []) hg) _ _ hkp2
    have hw3 := (same_new (o := .lst []) hg) _ _ hw2
    have hg3 : (upd H2 g (.lst [])) g = some (.lst []) := upd_same
    generalize upd H2 g (.lst []) = H3 at s3 hkp3 hw3 hg3 ⊢
    clear hkp2 s2 hw2 hg
    walk_at "rs"
    have key : ∀ (Q' : VK) (E' : XK), (IsD H x es → ResA H3 es Q') → (∀ k : Nat, IsX x y k → ExR a.C_BadArchive H3 E' (k : Int)) → spRA K a.C_BadArchive [.ref pw2, .ref g, .ref l] H3 Q' E' := fun Q' E' ha hb =>
      ⟨pw2, g, l, ws, ls, es, rfl, SqL.of hw3, gw, SqL.of hg3, s3 _ _ hl, few, fun z hz => (lim z hz).1, hes, fun e he => (good e he).1, fes, sh, fun z => ha (k0 z), fun z =>
        ⟨fun k e => hb k ((k1 z).1 k e), fun e => ha ((k1 z).2.1 e), fun z' xs e => let ⟨g1, g2, g3, g4⟩ := (k1 z).2.2 z' xs e; ⟨g1, g2, fun q => ha (g3 q), fun q => hb _ (g4 q)⟩⟩⟩
    refine key _ _ ?_ ?_
    · rintro ⟨D, en, rfl, hD, ee, okn⟩ en' r H4 s4 fr hr ee' okn'
      have s34 := s3.trans s4
      have oke : ∀ e ∈ es, OkE e := fun e he => (good e he).2
      have d1 := dp_eDs (K := K) (fun n hn => (okn n hn).same s34)
      have d2 := dp_eDs (K := K) okn'
      rw [ee] at d1
      rw [ee'] at d2
      walk_at "rs"
      refine ⟨_, _, .lst (SqL.of (s34 _ _ hl)) (dp_strs _), .lst (SqL.of (s4 _ _ hkp3)) (dp_strs _), shaped_strs okx, shaped_strs okx, ?_⟩
      rw [eqv_strs okx]
      walk_at "rs"
      refine ⟨_, _, .type "list", .type "list", true, rfl, .ty _, .base (.lst hr), kit_ty (by decide +kernel), ?_⟩
      walk_at "rs"
      refine ⟨_, _, .lst (SqL.of hr) d2, .lst (SqL.of (s34 _ _ hD)) d1, shaped_eDs oke, shaped_eDs oke, ?_⟩
      rw [eDs_refl oke]
      exact kk _ s34
    · rintro k ⟨rfl, rfl⟩ d H5 s5 hd
      refine ⟨true, TE.exm_TribunalError_BadArchive, fun _ ex hex => ?_, fun z => nomatch z⟩
      walk_at "rs"
      refine ⟨(by show 2 ≤ sizeLine; decide), fun tp htp => ?_⟩
      have s6 := same_new (o := .tup [V.ref a.C_BadLine, V.ref a.C_BadPaper]) htp
      have hd6 := s6 _ _ hd
      have s36 := (s3.trans s5).trans s6
      refine ⟨a.C_BadArchive, d, tp, _, _, false, _, rfl, rfl, rfl, TE.xc_BadArchive, upd_same, .cons (.own _) (.cons (.own _) .nil), hd6, TE.kta_BadArchive_BadLine_BadPaper, ?_⟩
      generalize upd H5 tp (.tup [V.ref a.C_BadLine, V.ref a.C_BadPaper]) = H6 at hd6 s36 ⊢
      walk_at "rs"
      refine ⟨a.C_BadArchive, d, .ref a.C_BadArchive, .ref a.C_BadArchive, true, _, rfl, rfl, rfl, TE.xc_BadArchive, .own _, hd6, TE.kt_BadArchive_BadArchive, ?_⟩
      walk_at "rs"
      refine ⟨d, _, _, rfl, hd6, (by rfl : List.lookup ("at" : Str) [(("at" : Str), V.int (k : Int))] = some (.int (k : Int))), ?_⟩
      walk_at "rs"
      refine ⟨d, _, _, rfl, hd6, (by rfl : List.lookup ("at" : Str) [(("at" : Str), V.int (k : Int))] = some (.int (k : Int))), ?_⟩
      walk_at "rs"
      show Q (V.bl (decide (V.int (k : Int) = V.int (k : Int)))) H6
      rw [decide_eq_true rfl]
      exact kk _ s36

/-! ### the law's spoilt line -/
theorem join_len (y : Str) : ∀ parts : List Str, (Str.join y parts).length ≤ (parts.map (·.length)).sum + parts.length * y.length
  | [] => by show (Str.empty).length ≤ _; exact Nat.zero_le _
  | [x] => by
    show x.length ≤ _
    simp
  | x :: z :: r => by
    have h := join_len y (z :: r)
    have e : (Str.join y (x :: z :: r)).length = x.length + y.length + (Str.join y (z :: r)).length := by
      show ((x ++ y) ++ Str.join y (z :: r)).length = _
      rw [TL.len_tl, TL.tl_append, List.length_append, TL.tl_append, List.length_append, ← TL.len_tl, ← TL.len_tl, ← TL.len_tl]
    rw [e]
    simp only [List.map_cons, List.sum_cons, List.length_cons, Nat.add_mul, Nat.one_mul] at h ⊢
    omega
theorem line_len {who : Int} {m : Sm} (w0 : 0 ≤ who) (w1 : who < 1000000000) (h : SmallM m) : (lineS who m).length ≤ 1000 := by
  have l := vals_len m
  have s := sum_small (ys := (toString who : Str) :: m.vals.map wordV) fun y hy => by
    rcases List.mem_cons.mp hy with rfl | hy
    · exact (num_ok w0 w1).1
    · obtain ⟨v, hv, rfl⟩ := List.mem_map.mp hy
      exact (word_ok (h v hv)).1
  have e : (" " : Str).length = 1 := by decide +kernel
  unfold lineS
  rw [TL.join_eq]
  refine Nat.le_trans (join_len _ _) ?_
  simp only [List.length_cons, List.length_map] at s ⊢
  rw [e]
  omega
theorem op_mulS {X : Cx} : OpR X (binaryOp .Mult) (fun x y H Q => ∃ (z : Str) (n : Int), x = .str z ∧ y = .int n ∧ MulOk z n ∧ Q (.str (Txt.mul z n)) H) := by
  intro pins s σ H x y v u Q I rx ry h
  obtain ⟨z, n, rfl, rfl, ok, q⟩ := h
  obtain ⟨t, rfl⟩ := rx
  obtain ⟨t', rfl⟩ := ry
  exact SB.mul ok fun t2 k => ⟨.str _, H, I.kept (t' := k) fun _ _ z => z, ⟨_, rfl⟩, q⟩

def spSpoilt : Sp := fun vs H Q _ => ∃ (line : Str) (hd : Bool) (way : Int), vs = [.str line, .bl hd, .int way] ∧ 0 ≤ way ∧ line.length ≤ 1000 ∧ PyData.strOk line = true ∧
  ((hd = true ∧ ∃ (z : Str) (n : Nat), blkB z = true ∧ n < 1000 ∧ line = headS z n) ∨ (hd = false ∧ ∃ x : Lt, GoodM x.m ∧ 0 ≤ x.w ∧ x.w < 1000000000 ∧ line = lineS x.w x.m)) ∧
  ∀ y H', Same H H' → y.length ≤ 2000 → PyData.strOk y = true → ((hd = true ∧ headM y = none) ∨ (hd = false ∧ ∃ e, readL y = .error e)) → Q (.str y) H'
theorem mul_ok : MulOk "a" 61 := by
  refine ⟨by decide, fun _ _ => ?_, fun _ _ => ?_⟩ <;> decide +kernel
/-- a strange word -/
def StrW (u : Str) : Prop := 32 ∉ TL.tl u ∧ u.length ≤ 61 ∧ PyData.strOk u = true
instance (u : Str) : Decidable (StrW u) := by unfold StrW; infer_instance
theorem pick3 {x y z : Str} {P : Str → Prop} (hx : P x) (hy : P y) (hz : P z) {m : Int} (m0 : 0 ≤ m) (m1 : m < 3) : ∃ u, atI [V.str x, V.str y, V.str z] m = some (.str u) ∧ P u := by
  rcases (show m = 0 ∨ m = 1 ∨ m = 2 by omega) with rfl | rfl | rfl
  · exact ⟨x, rfl, hx⟩
  · exact ⟨y, rfl, hy⟩
  · exact ⟨z, rfl, hz⟩
theorem join3_fit {a b c : Str} (ha : a.length ≤ 61) (hb : b.length ≤ 61) (hc : c.length ≤ 61) : ([a, b, c].map (·.length)).sum + [a, b, c].length * (" " : Str).length ≤ 16777216 := by
  have e : (" " : Str).length = 1 := by decide +kernel
  simp only [List.map_cons, List.map_nil, List.sum_cons, List.sum_nil, List.length_cons, List.length_nil]
  rw [e]
  omega
theorem join3_ok {a b c : Str} (ha : a.length ≤ 61 ∧ PyData.strOk a = true) (hb : b.length ≤ 61 ∧ PyData.strOk b = true) (hc : c.length ≤ 61 ∧ PyData.strOk c = true) : (Txt.join " " [a, b, c]).length ≤ 2000 ∧ PyData.strOk (Txt.join " " [a, b, c]) = true := by
  have e : (" " : Str).length = 1 := by decide +kernel
  refine ⟨?_, ?_⟩
  · rw [join_cons (by simp), join_cons (by simp)]
    show (a ++ " " ++ (b ++ " " ++ c)).length ≤ 2000
    simp only [PySem.Str.length_append]
    rw [e]
    omega
  · rw [TL.join_eq]
    refine strOk_join (by decide +kernel) fun x hx => ?_
    simp only [List.mem_cons, List.not_mem_nil, or_false] at hx
    rcases hx with rfl | rfl | rfl
    · exact ha.2
    · exact hb.2
    · exact hc.2
theorem ok_law_spoilt (T : Txt K mg a) : ∃ fd, FnOk P w K mg base CX0 1 a.d_law_spoilt fd ["line", "head", "way"] spSpoilt ∧ Binds K fd ["line", "head", "way"] [] := by
  obtain ⟨fd, F, b⟩ := T.d_law_spoilt.F
  refine ⟨fd, F.ok sc_law_spoilt (fun vs H Q E h => ?_) (fun cdv A outer s H vs Q E hr h => ?_), b⟩
  · obtain ⟨_, _, _, rfl, _⟩ := h
    rfl
  · obtain ⟨line, hd, way, rfl, w0, ll, lok, kind, k⟩ := h
    refine ⟨_, (pss_cons (ps_set (i := 3) sc_law_spoilt.nd rfl (Or.inl rfl) (pe_split (pv 0) pe_str))
      (C8.pss_cut (ps_if (PW.pt (pw_and (pt_val (pv 1)) (pw_and1 (pt_cmpR op_eq (pe_op op_mod (pv 2) pe_int) pe_int (nomark _)))))
      (pss_cons (ps_set (i := 4) sc_law_spoilt.nd rfl (Or.inl rfl) (pe_op op_mod (pe_op op_fdiv (pv 2) pe_int) pe_int))
        (pss_cons (ps_set (i := 5) sc_law_spoilt.nd rfl (Or.inl rfl) (pe_ix ix_tup (pe_tup (pa_cons (pe_tup (pa_cons pe_str (pa_cons pe_str (pa_cons pe_str pa_nil)))) (pa_cons (pe_tup (pa_cons pe_str (pa_cons (pe_op op_mulS pe_str pe_int) (pa_cons pe_str pa_nil)))) (pa_cons (pe_tup (pa_cons pe_str (pa_cons pe_str (pa_cons pe_str pa_nil)))) pa_nil)))) (pv 4) (fun _ _ => rfl)))
        (pss_cons (ps_asg (pe_ix ix_tup (pv 5) (pe_op op_mod (pe_op op_fdiv (pv 2) pe_int) pe_int) (fun _ _ => rfl)) (pg_sub (pv 3) (pv 4) set_list))
        (pss_one (ps_ret (pe_join pe_str (pv 3)))))))
      pss_nil)
      (pss_one (ps_ret (pe_ix ix_tup (pe_tup (pa_cons (pe_op op_add_str (pv 0) pe_str) (pa_cons (pe_op op_add_str (pv 0) pe_str) (pa_cons (pe_op op_add_str pe_str (pv 0)) pa_nil)))) (pe_op op_mod (pe_op op_fdiv (pv 2) pe_int) pe_int) (fun _ _ => rfl)))))), ?_⟩
    walk_at "rs"
    refine ⟨⟨_, rfl⟩, _, _, rfl, rfl, by decide +kernel, Nat.le_trans (Nat.add_le_add_right ll 2) (by decide), fun W hW0 => ?_⟩
    have s0 := same_new (o := .lst ((Txt.split line " ").map V.str)) hW0
    have hW := (upd_same : upd H W (.lst ((Txt.split line " ").map V.str)) W = _)
    generalize upd H W (.lst ((Txt.split line " ").map V.str)) = H0 at s0 hW ⊢
    walk_at "rs"
    refine ⟨fun σ H' => σ = [some (.str line), some (.bl hd), some (.int way), some (.ref W), none, none] ∧ H0 = H', ?_, ?_⟩
    · walk_at "rs"
      refine ite2 (fun c1 => ?_) (fun c1 => ?_)
      · have c1 : hd = true := c1
        subst c1
        obtain ⟨z, n, bz, n1, rfl⟩ : ∃ (z : Str) (n : Nat), blkB z = true ∧ n < 1000 ∧ line = headS z n := by
          rcases kind with ⟨_, h⟩ | ⟨h, _⟩
          · exact h
          · cases h
        walk_at "rs"
        refine ite2 (fun c2 => ?_) (fun c2 => ?_)
        · have hws := headS_words bz n
          rw [hws] at hW
          have b0 := Int.emod_nonneg (way / 2) (show (3 : Int) ≠ 0 by decide)
          have b1 := Int.emod_lt_of_pos (way / 2) (show (0 : Int) < 3 by decide)
          have d0 := Int.emod_nonneg (way / 6) (show (3 : Int) ≠ 0 by decide)
          have d1 := Int.emod_lt_of_pos (way / 6) (show (0 : Int) < 3 by decide)
          walk_at "rs"
          refine ⟨(by show 3 ≤ sizeLine; decide), fun t1 ht1 => ?_⟩
          walk_at "rs"
          refine ⟨mul_ok, ?_⟩
          refine ⟨(by show 3 ≤ sizeLine; decide), fun t2 ht2 => ?_⟩
          walk_at "rs"
          refine ⟨(by show 3 ≤ sizeLine; decide), fun t3 ht3 => ?_⟩
          walk_at "rs"
          refine ⟨(by show 3 ≤ sizeLine; decide), fun t0 ht0 => ?_⟩
          have g1 : (upd H0 t1 (.tup [V.str "blocks", V.str "", V.str "Block"])) t1 = some (.tup [V.str "blocks", V.str "", V.str "Block"]) := upd_same
          have r1 := same_new (o := .tup [V.str "blocks", V.str "", V.str "Block"]) ht1
          generalize upd H0 t1 (.tup [V.str "blocks", V.str "", V.str "Block"]) = H1 at ht2 ht3 ht0 g1 r1 ⊢
          have g2 : (upd H1 t2 (.tup [V.str "A", V.str (Txt.mul "a" 61), V.str "a_"])) t2 = some (.tup [V.str "A", V.str (Txt.mul "a" 61), V.str "a_"]) := upd_same
          have r2 := same_new (o := .tup [V.str "A", V.str (Txt.mul "a" 61), V.str "a_"]) ht2
          generalize upd H1 t2 (.tup [V.str "A", V.str (Txt.mul "a" 61), V.str "a_"]) = H2 at ht3 ht0 g2 r2 ⊢
          have g3 : (upd H2 t3 (.tup [V.str "01", V.str "1234567890", V.str "1_0"])) t3 = some (.tup [V.str "01", V.str "1234567890", V.str "1_0"]) := upd_same
          have r3 := same_new (o := .tup [V.str "01", V.str "1234567890", V.str "1_0"]) ht3
          generalize upd H2 t3 (.tup [V.str "01", V.str "1234567890", V.str "1_0"]) = H3 at ht0 g3 r3 ⊢
          have g0 : (upd H3 t0 (.tup [V.ref t1, V.ref t2, V.ref t3])) t0 = some (.tup [V.ref t1, V.ref t2, V.ref t3]) := upd_same
          have r0 := same_new (o := .tup [V.ref t1, V.ref t2, V.ref t3]) ht0
          generalize upd H3 t0 (.tup [V.ref t1, V.ref t2, V.ref t3]) = H4 at g0 r0 ⊢
          have r4 := s0.trans (((r1.trans r2).trans r3).trans r0)
          have hW4 := r0 _ _ (r3 _ _ (r2 _ _ (r1 _ _ hW)))
          have g1 := r0 _ _ (r3 _ _ (r2 _ _ g1))
          have g2 := r0 _ _ (r3 _ _ g2)
          have g3 := r0 _ _ g3
          have nt := num_ok (i := (n : Int)) (Int.natCast_nonneg _) (by omega)
          have nb := blk_ok bz
          have fn := fr_nat n
          have fb := fr_blk bz
          have kb : ("block" : Str).length ≤ 61 ∧ PyData.strOk ("block" : Str) = true := by decide +kernel
          rcases (show way / 2 % 3 = 0 ∨ way / 2 % 3 = 1 ∨ way / 2 % 3 = 2 by omega) with e | e | e
          · obtain ⟨u, eu, ⟨u1, u2, u3⟩, u4⟩ := pick3 (x := "blocks") (y := "") (z := "Block") (P := fun u => StrW u ∧ u ≠ "block") (by decide +kernel) (by decide +kernel) (by decide +kernel) d0 d1
            walk_at "rs"
            refine ⟨t0, _, _, .ref t1, rfl, rfl, SqT.of g0, by show atI _ (way / 2 % 3) = _; rw [e]; rfl, ?_⟩
            walk_at "rs"
            refine ⟨t1, _, _, .str u, rfl, rfl, SqT.of g1, eu, ?_⟩
            walk_at "rs"
            refine ⟨W, _, way / 2 % 3, 0, rfl, rfl, hW4, by show ixN _ (way / 2 % 3) = some 0; rw [e]; rfl, ?_⟩
            have hW5 : (upd H4 W (.lst (([("block" : Str), z, (toString (n : Int) : Str)].map V.str).set 0 (.str u)))) W = some (.lst ([u, z, (toString (n : Int) : Str)].map V.str)) := upd_same
            have s5 : Same H (upd H4 W (.lst (([("block" : Str), z, (toString (n : Int) : Str)].map V.str).set 0 (.str u)))) := same_upd r4 hW0
            generalize upd H4 W (.lst (([("block" : Str), z, (toString (n : Int) : Str)].map V.str).set 0 (.str u))) = H5 at hW5 s5 ⊢
            have jk := join3_ok ⟨u2, u3⟩ ⟨by omega, nb.2⟩ ⟨by omega, nt.2⟩
            walk_at "rs"
            refine ⟨⟨_, rfl⟩, ?_⟩
            walk_at "rs"
            refine ⟨_, W, [u, z, (toString (n : Int) : Str)], rfl, rfl, .inl (SqL.of hW5), join3_fit u2 (by omega) (by omega), ?_⟩
            exact k _ H5 s5 jk.1 jk.2 (.inl ⟨rfl, head_bad u1 fb fn (.inl u4)⟩)
          · obtain ⟨u, eu, ⟨u1, u2, u3⟩, u4⟩ := pick3 (x := "A") (y := Txt.mul "a" 61) (z := "a_") (P := fun u => StrW u ∧ blkB u = false) (by decide +kernel) (by decide +kernel) (by decide +kernel) d0 d1
            walk_at "rs"
            refine ⟨t0, _, _, .ref t2, rfl, rfl, SqT.of g0, by show atI _ (way / 2 % 3) = _; rw [e]; rfl, ?_⟩
            walk_at "rs"
            refine ⟨t2, _, _, .str u, rfl, rfl, SqT.of g2, eu, ?_⟩
            walk_at "rs"
            refine ⟨W, _, way / 2 % 3, 1, rfl, rfl, hW4, by show ixN _ (way / 2 % 3) = some 1; rw [e]; rfl, ?_⟩
            have hW5 : (upd H4 W (.lst (([("block" : Str), z, (toString (n : Int) : Str)].map V.str).set 1 (.str u)))) W = some (.lst ([("block" : Str), u, (toString (n : Int) : Str)].map V.str)) := upd_same
            have s5 : Same H (upd H4 W (.lst (([("block" : Str), z, (toString (n : Int) : Str)].map V.str).set 1 (.str u)))) := same_upd r4 hW0
            generalize upd H4 W (.lst (([("block" : Str), z, (toString (n : Int) : Str)].map V.str).set 1 (.str u))) = H5 at hW5 s5 ⊢
            have jk := join3_ok kb ⟨u2, u3⟩ ⟨by omega, nt.2⟩
            walk_at "rs"
            refine ⟨⟨_, rfl⟩, ?_⟩
            walk_at "rs"
            refine ⟨_, W, [("block" : Str), u, (toString (n : Int) : Str)], rfl, rfl, .inl (SqL.of hW5), join3_fit kb.1 u2 (by omega), ?_⟩
            exact k _ H5 s5 jk.1 jk.2 (.inl ⟨rfl, head_bad fr_block u1 fn (.inr (.inl u4))⟩)
          · obtain ⟨u, eu, ⟨u1, u2, u3⟩, u4⟩ := pick3 (x := "01") (y := "1234567890") (z := "1_0") (P := fun u => StrW u ∧ numB u = false) (by decide +kernel) (by decide +kernel) (by decide +kernel) d0 d1
            walk_at "rs"
            refine ⟨t0, _, _, .ref t3, rfl, rfl, SqT.of g0, by show atI _ (way / 2 % 3) = _; rw [e]; rfl, ?_⟩
            walk_at "rs"
            refine ⟨t3, _, _, .str u, rfl, rfl, SqT.of g3, eu, ?_⟩
            walk_at "rs"
            refine ⟨W, _, way / 2 % 3, 2, rfl, rfl, hW4, by show ixN _ (way / 2 % 3) = some 2; rw [e]; rfl, ?_⟩
            have hW5 : (upd H4 W (.lst (([("block" : Str), z, (toString (n : Int) : Str)].map V.str).set 2 (.str u)))) W = some (.lst ([("block" : Str), z, u].map V.str)) := upd_same
            have s5 : Same H (upd H4 W (.lst (([("block" : Str), z, (toString (n : Int) : Str)].map V.str).set 2 (.str u)))) := same_upd r4 hW0
            generalize upd H4 W (.lst (([("block" : Str), z, (toString (n : Int) : Str)].map V.str).set 2 (.str u))) = H5 at hW5 s5 ⊢
            have jk := join3_ok kb ⟨by omega, nb.2⟩ ⟨u2, u3⟩
            walk_at "rs"
            refine ⟨⟨_, rfl⟩, ?_⟩
            walk_at "rs"
            refine ⟨_, W, [("block" : Str), z, u], rfl, rfl, .inl (SqL.of hW5), join3_fit kb.1 (by omega) u2, ?_⟩
            exact k _ H5 s5 jk.1 jk.2 (.inl ⟨rfl, head_bad fr_block fb u1 (.inr (.inr u4))⟩)
        · exact ⟨rfl, rfl⟩
      · exact ⟨rfl, rfl⟩
    · rintro σ H' ⟨rfl, rfl⟩
      have q1 : (" x" : Str).length = 2 := rfl
      have q2 : (" " : Str).length = 1 := rfl
      have k1 : PyData.strOk (" x" : Str) = true := by decide +kernel
      have k2 : PyData.strOk (" " : Str) = true := by decide +kernel
      walk_at "rs"
      refine ⟨by rw [sizeLine_eq]; omega, ?_⟩
      walk_at "rs"
      refine ⟨by rw [sizeLine_eq]; omega, ?_⟩
      walk_at "rs"
      refine ⟨by rw [sizeLine_eq]; omega, ?_⟩
      refine ⟨(by show 3 ≤ sizeLine; decide), fun t ht => ?_⟩
      have st := s0.trans (same_new (o := .tup [V.str (line ++ " x"), V.str (line ++ " "), V.str (" " ++ line)]) ht)
      have htt : (upd H0 t (.tup [V.str (line ++ " x"), V.str (line ++ " "), V.str (" " ++ line)])) t = some (.tup [V.str (line ++ " x"), V.str (line ++ " "), V.str (" " ++ line)]) := upd_same
      generalize upd H0 t (.tup [V.str (line ++ " x"), V.str (line ++ " "), V.str (" " ++ line)]) = H1 at st htt ⊢
      have fin : ∀ y : Str, (y = line ++ (" x" : Str) ∨ y = line ++ (" " : Str) ∨ y = (" " : Str) ++ line) → Q (.str y) H1 := fun y hy => by
        refine k y H1 st ?_ ?_ ?_
        · rcases hy with rfl | rfl | rfl <;> rw [PySem.Str.length_append] <;> omega
        · rcases hy with rfl | rfl | rfl
          · exact strOk_app lok k1
          · exact strOk_app lok k2
          · exact strOk_app k2 lok
        · rcases kind with ⟨e, z, n, bz, n1, rfl⟩ | ⟨e, x, gm, w0, w1, rfl⟩
          · exact .inl ⟨e, head_spoilt bz hy⟩
          · exact .inr ⟨e, line_spoilt w0 w1 gm hy⟩
      walk_at "rs"
      have m0 := Int.emod_nonneg (way / 2) (show (3 : Int) ≠ 0 by decide)
      have m1 := Int.emod_lt_of_pos (way / 2) (show (0 : Int) < 3 by decide)
      rcases (show way / 2 % 3 = 0 ∨ way / 2 % 3 = 1 ∨ way / 2 % 3 = 2 by omega) with e | e | e
      · exact ⟨t, _, _, .str (line ++ " x"), rfl, rfl, SqT.of htt, by show atI _ (way / 2 % 3) = _; rw [e]; rfl, fin _ (.inl rfl)⟩
      · exact ⟨t, _, _, .str (line ++ " "), rfl, rfl, SqT.of htt, by show atI _ (way / 2 % 3) = _; rw [e]; rfl, fin _ (.inr (.inl rfl))⟩
      · exact ⟨t, _, _, .str (" " ++ line), rfl, rfl, SqT.of htt, by show atI _ (way / 2 % 3) = _; rw [e]; rfl, fin _ (.inr (.inr rfl))⟩

/-! ### what stands where in an archive -/
theorem archM_app : ∀ (es fs : List (Str × List Lt)), archM (es ++ fs) = archM es ++ archM fs
  | [], _ => rfl
  | (z, xs) :: r, fs => by
    rw [List.cons_append, archM, archM, archM_app r fs]
    simp
theorem wrd_app {A B : List Str} (k : Nat) : wrd (A ++ B) (A.length + k) = wrd B k := by
  unfold wrd
  rw [List.getD_eq_getElem?_getD, List.getD_eq_getElem?_getD, List.getElem?_append_right (Nat.le_add_right _ _), Nat.add_sub_cancel_left]
theorem drop_get {es : List (Str × List Lt)} {j : Nat} (h : j < es.length) : es.drop j = es.getD j default :: es.drop (j + 1) := by
  rw [List.drop_eq_getElem_cons h, List.getD_eq_getElem?_getD, List.getElem?_eq_getElem h]
  rfl
theorem arch_split {es : List (Str × List Lt)} {j : Nat} (h : j < es.length) : archM es = archM (es.take j) ++ (headS (es.getD j default).1 (es.getD j default).2.length :: (((es.getD j default).2.map fun x => lineS x.w x.m) ++ archM (es.drop (j + 1)))) := by
  have e : archM es = archM (es.take j ++ es.drop j) := by rw [List.take_append_drop]
  rw [e, archM_app, drop_get h]
  rfl
theorem wrd_head {es : List (Str × List Lt)} {j : Nat} (h : j < es.length) : wrd (archM es) (posE (es.take j)) = headS (es.getD j default).1 (es.getD j default).2.length := by
  have := wrd_app (A := archM (es.take j)) (B := headS (es.getD j default).1 (es.getD j default).2.length :: (((es.getD j default).2.map fun x => lineS x.w x.m) ++ archM (es.drop (j + 1)))) 0
  rw [← arch_split h, archM_pos] at this
  exact this
theorem wrd_line {es : List (Str × List Lt)} {j i : Nat} (h : j < es.length) (hi : i < (es.getD j default).2.length) : wrd (archM es) (posE (es.take j) + 1 + i) = lineS ((es.getD j default).2.getD i default).w ((es.getD j default).2.getD i default).m := by
  have := wrd_app (A := archM (es.take j)) (B := headS (es.getD j default).1 (es.getD j default).2.length :: (((es.getD j default).2.map fun x => lineS x.w x.m) ++ archM (es.drop (j + 1)))) (1 + i)
  rw [← arch_split h, archM_pos, ← Nat.add_assoc] at this
  rw [this]
  clear this
  generalize es.getD j default = e at hi ⊢
  unfold wrd
  rw [Nat.add_comm 1 i, List.getD_cons_succ, List.getD_eq_getElem?_getD, List.getElem?_append_left (by rw [List.length_map]; exact hi), List.getElem?_map, List.getD_eq_getElem?_getD, List.getElem?_eq_getElem hi]
  rfl
theorem pos_succ {es : List (Str × List Lt)} {j : Nat} (h : j < es.length) : posE (es.take (j + 1)) = posE (es.take j) + (es.getD j default).2.length + 1 := by
  rw [take_succ_getD (d := default) h, posE_snoc]
theorem pos_mono {es : List (Str × List Lt)} : ∀ {i j : Nat}, i ≤ j → posE (es.take i) ≤ posE (es.take j) := by
  intro i j h
  induction j with
  | zero => rw [Nat.le_zero.mp h]; exact Nat.le_refl _
  | succ j ih =>
    rcases Nat.lt_or_ge j i with z | z
    · have : i = j + 1 := by omega
      rw [this]
      exact Nat.le_refl _
    · refine Nat.le_trans (ih z) ?_
      rcases Nat.lt_or_ge j es.length with y | y
      · rw [pos_succ y]
        omega
      · rw [List.take_of_length_le y, List.take_of_length_le (by omega)]
        exact Nat.le_refl _
theorem pos_lt {es : List (Str × List Lt)} {i j : Nat} (h : i < j) (hj : j ≤ es.length) : posE (es.take i) < posE (es.take j) := by
  have h1 := pos_succ (es := es) (j := i) (by omega)
  have h2 := pos_mono (es := es) (show i + 1 ≤ j from h)
  omega
theorem pos_all {es : List (Str × List Lt)} {j : Nat} (h : j < es.length) : posE (es.take j) + (es.getD j default).2.length < posE es := by
  have h1 := pos_succ h
  have h2 := pos_mono (es := es) (show j + 1 ≤ es.length from h)
  rw [List.take_length] at h2
  omega
/-! ### reading what stands there -/
theorem rdM_ok {ls : List Str} : ∀ (xs : List Lt) (p : Nat) (acc : List Lt), (∀ i, i < xs.length → readL (wrd ls (p + i)) = .ok (xs.getD i default)) → rdM ls p xs.length acc = .ok (acc ++ xs)
  | [], _, acc, _ => by rw [List.append_nil]; rfl
  | x :: xs, p, acc, h => by
    have h0 := h 0 (Nat.succ_pos _)
    rw [Nat.add_zero] at h0
    rw [List.length_cons, rdM, h0]
    show rdM ls (p + 1) xs.length (acc ++ [x]) = _
    rw [rdM_ok xs (p + 1) (acc ++ [x]) fun i hi => by
      have := h (i + 1) (Nat.succ_lt_succ hi)
      rw [show p + 1 + i = p + (i + 1) by omega]
      exact this]
    simp
theorem rdM_bad {ls : List Str} : ∀ (d n p : Nat) (acc : List Lt), d < n → (∀ i, i < d → ∃ x, readL (wrd ls (p + i)) = .ok x) → (∃ e, readL (wrd ls (p + d)) = .error e) → rdM ls p n acc = .error (p + d)
  | 0, n + 1, p, acc, _, _, ⟨e, he⟩ => by
    rw [Nat.add_zero] at he
    rw [rdM, he]
    rfl
  | d + 1, n + 1, p, acc, hd, h, he => by
    obtain ⟨x, h0⟩ := h 0 (Nat.succ_pos _)
    rw [Nat.add_zero] at h0
    rw [rdM, h0]
    show rdM ls (p + 1) n (acc ++ [x]) = _
    rw [rdM_bad d n (p + 1) (acc ++ [x]) (by omega) (fun i hi => by
      have := h (i + 1) (Nat.succ_lt_succ hi)
      rwa [show p + 1 + i = p + (i + 1) by omega]) (by rwa [show p + 1 + d = p + (d + 1) by omega])]
    rw [show p + 1 + d = p + (d + 1) by omega]
/-- the entry stands at p, its first d lines -/
structure At (ls : List Str) (p d : Nat) (e : Str × List Lt) : Prop where
  h : 0 < d → wrd ls p = headS e.1 e.2.length
  l : ∀ i, i < e.2.length → i + 1 < d → wrd ls (p + 1 + i) = lineS (e.2.getD i default).w (e.2.getD i default).m
theorem GoodN.rd {z : Str} {xs : List Lt} (g : GoodN z xs) {i : Nat} (hi : i < xs.length) : readL (lineS (xs.getD i default).w (xs.getD i default).m) = .ok (xs.getD i default) := by
  have hm := getD_mem2 (d := default) hi
  exact read_line (g.wh hm).1 (g.wh hm).2 (g.gm hm)
theorem GoodN.hd {z : Str} {xs : List Lt} (g : GoodN z xs) : headM (headS z xs.length) = some (z, (xs.length : Int)) := head_read g.bb (by have := g.few; omega)
theorem entM_ok {ls : List Str} {p : Nat} {e : Str × List Lt} (g : GoodN e.1 e.2) (a : At ls p (e.2.length + 1) e) (h : p + e.2.length < ls.length) : entM ls p = .ok e.1 e.2 := by
  unfold entM
  rw [a.h (Nat.succ_pos _), g.hd]
  dsimp only
  rw [Int.toNat_natCast, if_neg (by omega), rdM_ok e.2 (p + 1) [] fun i hi => by rw [a.l i hi (by omega)]; exact g.rd hi]
  rfl
theorem entM_torn {ls : List Str} {p : Nat} {e : Str × List Lt} (g : GoodN e.1 e.2) (a : At ls p 1 e) (h : ls.length ≤ p + e.2.length) : entM ls p = .torn := by
  unfold entM
  rw [a.h (Nat.succ_pos _), g.hd]
  dsimp only
  rw [Int.toNat_natCast, if_pos h]
theorem entM_head {ls : List Str} {p : Nat} (h : headM (wrd ls p) = none) : entM ls p = if p + 1 < ls.length then .bad p else .torn := by
  unfold entM
  rw [h]
theorem entM_line {ls : List Str} {p d : Nat} {e : Str × List Lt} (g : GoodN e.1 e.2) (a : At ls p (d + 1) e) (h : p + e.2.length < ls.length) (hd : d < e.2.length) (he : ∃ x, readL (wrd ls (p + 1 + d)) = .error x) : entM ls p = if p + 1 + d + 1 < ls.length then .bad (p + 1 + d) else .torn := by
  unfold entM
  rw [a.h (Nat.succ_pos _), g.hd]
  dsimp only
  rw [Int.toNat_natCast, if_neg (by omega), rdM_bad d e.2.length (p + 1) [] hd (fun i hi => ⟨_, by rw [a.l i (by omega) (by omega)]; exact g.rd (by omega)⟩) he]
  rfl
theorem at_arch {es : List (Str × List Lt)} {j d : Nat} (h : j < es.length) : At (archM es) (posE (es.take j)) d (es.getD j default) :=
  ⟨fun _ => wrd_head h, fun i hi _ => wrd_line h hi⟩
theorem At.eq {ls ms : List Str} {p d : Nat} {e : Str × List Lt} (a : At ls p d e) (h : ∀ k, k < p + d → wrd ms k = wrd ls k) : At ms p d e :=
  ⟨fun z => by rw [h p (by omega)]; exact a.h z, fun i h1 h2 => by rw [h (p + 1 + i) (by omega)]; exact a.l i h1 h2⟩
theorem wrd_set_ne {ls : List Str} {k i : Nat} {y : Str} (h : k ≠ i) : wrd (ls.set i y) k = wrd ls k := by
  unfold wrd
  rw [List.getD_eq_getElem?_getD, List.getD_eq_getElem?_getD, List.getElem?_set_ne (fun z => h z.symm)]
theorem wrd_set_eq {ls : List Str} {i : Nat} {y : Str} (h : i < ls.length) : wrd (ls.set i y) i = y := by
  unfold wrd
  rw [List.getD_eq_getElem?_getD, List.getElem?_set_self h]
  rfl
theorem wrd_take {ls : List Str} {k i : Nat} (h : k < i) : wrd (ls.take i) k = wrd ls k := by
  unfold wrd
  rw [List.getD_eq_getElem?_getD, List.getD_eq_getElem?_getD, List.getElem?_take_of_lt h]
/-- the entries ahead of a place, if nothing has changed ahead of it -/
theorem ents_ahead {es : List (Str × List Lt)} (good : ∀ e ∈ es, GoodN e.1 e.2) {ls : List Str} {c n : Nat} (hc : c ≤ es.length) (hn : posE (es.take c) ≤ n) (hl : n ≤ ls.length) (eq : ∀ k, k < n → wrd ls k = wrd (archM es) k) :
    ∀ j, j < (es.take c).length → posE ((es.take c).take j) < ls.length ∧ entM ls (posE ((es.take c).take j)) = .ok ((es.take c).getD j default).1 ((es.take c).getD j default).2 := by
  intro j hj
  rw [List.length_take] at hj
  have hjc : j < c := by omega
  have hje : j < es.length := by omega
  have e1 : (es.take c).take j = es.take j := by rw [List.take_take, Nat.min_eq_left (by omega)]
  have e2 : (es.take c).getD j default = es.getD j default := by rw [List.getD_eq_getElem?_getD, List.getD_eq_getElem?_getD, List.getElem?_take_of_lt hjc]
  rw [e1, e2]
  have p1 := pos_succ hje
  have p2 := pos_mono (es := es) (show j + 1 ≤ c from hjc)
  refine ⟨by omega, entM_ok (good _ (getD_mem2 (d := default) hje)) ((at_arch hje).eq fun k hk => eq k (by omega)) (by omega)⟩
theorem archM_ok {es : List (Str × List Lt)} (good : ∀ e ∈ es, GoodN e.1 e.2) : ∀ l ∈ archM es, l.length ≤ 1000 ∧ PyData.strOk l = true := by
  induction es with
  | nil => exact fun l h => absurd h List.not_mem_nil
  | cons e r ih =>
    obtain ⟨z, xs⟩ := e
    have g := good (z, xs) List.mem_cons_self
    intro l hl
    rw [archM, List.mem_append, List.mem_cons] at hl
    rcases hl with (rfl | hl) | hl
    · have nt := num_ok (i := (xs.length : Int)) (Int.natCast_nonneg _) (by have := g.few; have : xs.length ≤ 32 := this; omega)
      have nb := blk_ok g.bb
      have kb : ("block" : Str).length ≤ 61 ∧ PyData.strOk ("block" : Str) = true := by decide +kernel
      rw [headS_join]
      have e1 : (" " : Str).length = 1 := by decide +kernel
      have e2 : ("block" : Str).length = 5 := by decide +kernel
      have nb1 : z.length ≤ 60 := nb.1
      refine ⟨?_, ?_⟩
      · rw [join_cons (by simp), join_cons (by simp)]
        show (("block" : Str) ++ " " ++ (z ++ " " ++ (toString (xs.length : Int) : Str))).length ≤ 1000
        simp only [PySem.Str.length_append]
        rw [e1, e2]
        omega
      · rw [TL.join_eq]
        refine strOk_join (by decide +kernel) fun x hx => ?_
        simp only [List.mem_cons, List.not_mem_nil, or_false] at hx
        rcases hx with rfl | rfl | rfl
        · exact kb.2
        · exact nb.2
        · exact nt.2
    · obtain ⟨x, hx, rfl⟩ := List.mem_map.mp hl
      have w := g.wh hx
      exact ⟨line_len w.1 w.2 (g.gm hx).small, line_ok w.1 w.2 (g.gm hx).small⟩
    · exact ih (fun e he => good e (List.mem_cons_of_mem _ he)) l hl
theorem eqvAll_len : ∀ {xs ys : List PyData}, PyData.eqvAll xs ys = true → xs.length = ys.length
  | [], [], _ => rfl
  | x :: xs, y :: ys, h => by
    rw [PyData.eqvAll, Bool.and_eq_true] at h
    rw [List.length_cons, List.length_cons, eqvAll_len h.2]
  | [], _ :: _, h => by simp [PyData.eqvAll] at h
  | _ :: _, [], h => by simp [PyData.eqvAll] at h
theorem eD_ne {es : List (Str × List Lt)} {i : Nat} (h : i < es.length) : PyData.eqv (.list ((es.take i).map eD)) (.list (es.map eD)) = false := by
  cases q : PyData.eqv (.list ((es.take i).map eD)) (.list (es.map eD)) with
  | false => rfl
  | true =>
    rw [PyData.eqv] at q
    have := eqvAll_len q
    rw [List.length_map, List.length_map, List.length_take] at this
    omega
theorem pos_le (es : List (Str × List Lt)) (c : Nat) : posE (es.take c) ≤ posE es := by
  rcases Nat.lt_or_ge c es.length with h | h
  · have := pos_mono (es := es) (Nat.le_of_lt h)
    rwa [List.take_length] at this
  · rw [List.take_of_length_le h]
    exact Nat.le_refl _
/-! ### what the law's readings ask -/
def Ahead (ws : List Int) (ls : List Str) (es : List (Str × List Lt)) : Prop := (∀ j, j < es.length → posE (es.take j) < ls.length ∧ entM ls (posE (es.take j)) = .ok (es.getD j default).1 (es.getD j default).2) ∧ (∀ e ∈ es, GoodE e ∧ OkE e) ∧ es.length ≤ 700 ∧ (∀ j, j < es.length → shE ws es j = true)
def Ends (H : Hp) (x y : V) (ws : List Int) (ls : List Str) (es : List (Str × List Lt)) : Prop := (ls.length ≤ posE es → IsD H x es) ∧ (posE es < ls.length → (∀ k, entM ls (posE es) = .bad k → IsX x y k) ∧ (entM ls (posE es) = .torn → IsD H x es) ∧
    ∀ z xs, entM ls (posE es) = .ok z xs → GoodE (z, xs) ∧ shM (rwE ws es) xs (es.length : Int) (some z) = false ∧ (posE es + xs.length + 1 = ls.length → IsD H x es) ∧ (posE es + xs.length + 1 ≠ ls.length → IsX x y (posE es)))
theorem shE_take {ws : List Int} {es : List (Str × List Lt)} {c j : Nat} (h : j < c) : shE ws (es.take c) j = shE ws es j := by
  unfold shE
  rw [List.take_take, Nat.min_eq_left (by omega), List.getD_eq_getElem?_getD, List.getD_eq_getElem?_getD, List.getElem?_take_of_lt h]
theorem ahead {es : List (Str × List Lt)} (good : ∀ e ∈ es, GoodN e.1 e.2) (few : es.length ≤ 4) {ws : List Int} {ls : List Str} {c n : Nat} (hc : c ≤ es.length) (hn : posE (es.take c) ≤ n) (hl : n ≤ ls.length) (eq : ∀ k, k < n → wrd ls k = wrd (archM es) k) (sh : ∀ j, j < c → shE ws es j = true) : Ahead ws ls (es.take c) := by
  have lc : (es.take c).length = c := by rw [List.length_take]; omega
  refine ⟨ents_ahead good hc hn hl eq, fun e he => ?_, by omega, fun j hj => ?_⟩
  · have g := good e (List.mem_of_mem_take he)
    exact ⟨g.ge, g.okl, g.bo.2.1⟩
  · rw [lc] at hj
    rw [shE_take hj]
    exact sh j hj
theorem ends_all {es : List (Str × List Lt)} {H : Hp} {x y : V} {ws : List Int} (h : IsD H x es) : Ends H x y ws (archM es) es := by
  have e := archM_pos es
  exact ⟨fun _ => h, fun z => absurd z (by omega)⟩
theorem ends_no {es : List (Str × List Lt)} (good : ∀ e ∈ es, GoodN e.1 e.2) {H : Hp} {x y : V} {ws : List Int} {i : Nat} (hi : i < es.length) (no : shE ws es i = false) (h1 : i + 1 = es.length → IsD H x (es.take i)) (h2 : i + 1 ≠ es.length → IsX x y (posE (es.take i))) : Ends H x y ws (archM es) (es.take i) := by
  have e := archM_pos es
  have p1 := pos_all hi
  have p2 := pos_succ hi
  have g := good _ (getD_mem2 (d := default) hi)
  have q := entM_ok (ls := archM es) g (at_arch hi) (by omega)
  refine ⟨fun z => absurd z (by omega), fun _ => ⟨fun k z => (by rw [q] at z; cases z), fun z => (by rw [q] at z; cases z), fun z xs ez => ?_⟩⟩
  rw [q] at ez
  have ee : es.getD i default = (z, xs) := by
    cases ez
    rfl
  have li : (es.take i).length = i := by rw [List.length_take]; omega
  have exs : (es.getD i default).2 = xs := by rw [ee]
  refine ⟨by have := g.ge; rw [ee] at this; exact this, ?_, fun z => h1 ?_, fun z => h2 fun y => z ?_⟩
  · unfold shE at no
    rw [ee] at no
    rw [li]
    exact no
  · rw [e] at z
    refine Nat.le_antisymm hi (Nat.le_of_not_lt fun y => ?_)
    have := pos_lt (es := es) y (Nat.le_refl _)
    rw [List.take_length, p2, exs] at this
    omega
  · rw [e]
    have := p2
    rw [y, List.take_length, exs] at this
    omega
/-- where a line stands -/
theorem set_eq_parts (ls : List Str) {i : Nat} (h : i < ls.length) (y : Str) : (ls.take i ++ [y]) ++ ls.drop (i + 1) = ls.set i y := by
  rw [List.set_eq_take_append_cons_drop, if_pos h]
  simp
theorem ends_spoilt {es : List (Str × List Lt)} (good : ∀ e ∈ es, GoodN e.1 e.2) {H : Hp} {x y : V} {ws : List Int} {c n : Nat} {u : Str} (hc : c < es.length) (h0 : posE (es.take c) ≤ n) (h1 : n < posE (es.take (c + 1)))
    (bad : (n = posE (es.take c) ∧ headM u = none) ∨ (n ≠ posE (es.take c) ∧ ∃ e, readL u = .error e)) (r1 : n + 1 < (archM es).length → IsX x y n) (r2 : n + 1 = (archM es).length → IsD H x (es.take c)) : Ends H x y ws ((archM es).set n u) (es.take c) := by
  have e := archM_pos es
  have p1 := pos_all hc
  have p2 := pos_succ hc
  have p3 := pos_mono (es := es) (show c + 1 ≤ es.length from hc)
  rw [List.take_length] at p3
  have ln : n < (archM es).length := by omega
  have ll : ((archM es).set n u).length = (archM es).length := List.length_set
  have g := good _ (getD_mem2 (d := default) hc)
  have key : entM ((archM es).set n u) (posE (es.take c)) = if n + 1 < (archM es).length then .bad n else .torn := by
    rcases bad with ⟨rfl, b⟩ | ⟨ne, b⟩
    · rw [entM_head (by rw [wrd_set_eq ln]; exact b), ll]
    · obtain ⟨d, hd⟩ : ∃ d, n = posE (es.take c) + 1 + d := ⟨n - posE (es.take c) - 1, by omega⟩
      subst hd
      have := entM_line (ls := (archM es).set (posE (es.take c) + 1 + d) u) (p := posE (es.take c)) (d := d) g ((at_arch hc).eq fun k hk => wrd_set_ne (by omega)) (by rw [ll]; omega) (by omega) (by rw [wrd_set_eq ln]; exact b)
      rw [this, ll]
  refine ⟨fun z => absurd z (by rw [ll]; omega), fun _ => ?_⟩
  rw [key]
  by_cases q : n + 1 < (archM es).length
  · rw [if_pos q]
    exact ⟨fun k z => by cases z; exact r1 q, fun z => (nomatch z), fun z xs z => (nomatch z)⟩
  · rw [if_neg q]
    exact ⟨fun k z => (nomatch z), fun _ => r2 (by omega), fun z xs z => (nomatch z)⟩
theorem ends_cut {es : List (Str × List Lt)} (good : ∀ e ∈ es, GoodN e.1 e.2) {H : Hp} {x y : V} {ws : List Int} {c n : Nat} (hc : c < es.length) (h0 : posE (es.take c) ≤ n) (h1 : n < posE (es.take (c + 1))) (r : IsD H x (es.take c)) : Ends H x y ws ((archM es).take n) (es.take c) := by
  have e := archM_pos es
  have p1 := pos_all hc
  have p2 := pos_succ hc
  have ll : ((archM es).take n).length = n := by rw [List.length_take]; omega
  have g := good _ (getD_mem2 (d := default) hc)
  refine ⟨fun _ => r, fun z => ?_⟩
  rw [ll] at z
  have := entM_torn (ls := (archM es).take n) (p := posE (es.take c)) g ((at_arch hc).eq fun k hk => wrd_take (by omega)) (by rw [ll]; omega)
  rw [this]
  exact ⟨fun k z => (nomatch z), fun _ => r, fun z xs z => (nomatch z)⟩
theorem mem_heads {es : List (Str × List Lt)} {c n : Nat} (hc : c < es.length) (h0 : posE (es.take c) ≤ n) (h1 : n < posE (es.take (c + 1))) : decide ((n : Int) ∈ headsM es es.length) = decide (n = posE (es.take c)) := by
  refine decide_eq_decide.mpr ⟨fun h => ?_, fun h => ?_⟩
  · unfold headsM at h
    obtain ⟨j, hj, e⟩ := List.mem_map.mp h
    have hj := List.mem_range.mp hj
    have e : posE (es.take j) = n := by omega
    rcases Nat.lt_or_ge j c with z | z
    · have := pos_lt (es := es) z (by omega)
      omega
    · rcases Nat.lt_or_ge c j with y | y
      · have := pos_mono (es := es) (show c + 1 ≤ j from y)
        omega
      · have : j = c := by omega
        rw [← e, this]
  · unfold headsM
    exact List.mem_map.mpr ⟨c, List.mem_range.mpr hc, by rw [h]⟩
theorem cut_take_str {ls : List Str} {n : Nat} (h : n ≤ ls.length) : cutV (ls.map V.str) none (some (n : Int)) = (ls.take n).map V.str := by
  unfold cutV
  rw [HT.sIx_nat, HT.sIx_none, List.length_map, Nat.min_eq_left h, Nat.sub_zero, List.drop_zero, List.map_take]
theorem cut_drop_str {ls : List Str} {n : Nat} (h : n ≤ ls.length) : cutV (ls.map V.str) (some (n : Int)) none = (ls.drop n).map V.str := by
  unfold cutV
  rw [HT.sIx_nat, HT.sIx_none, List.length_map, Nat.min_eq_left h, List.map_drop]
  rw [List.take_of_length_le (by rw [List.length_drop, List.length_map]; omega)]
theorem kind_at {es : List (Str × List Lt)} (good : ∀ e ∈ es, GoodN e.1 e.2) {c n : Nat} (hc : c < es.length) (h0 : posE (es.take c) ≤ n) (h1 : n < posE (es.take (c + 1))) :
    (decide (n = posE (es.take c)) = true ∧ ∃ (z : Str) (m : Nat), blkB z = true ∧ m < 1000 ∧ wrd (archM es) n = headS z m) ∨ (decide (n = posE (es.take c)) = false ∧ ∃ x : Lt, GoodM x.m ∧ 0 ≤ x.w ∧ x.w < 1000000000 ∧ wrd (archM es) n = lineS x.w x.m) := by
  have g := good _ (getD_mem2 (d := default) hc)
  have p2 := pos_succ hc
  by_cases e : n = posE (es.take c)
  · refine .inl ⟨decide_eq_true e, _, _, g.bb, ?_, by rw [e]; exact wrd_head hc⟩
    have := g.few
    omega
  · obtain ⟨d, hd⟩ : ∃ d, n = posE (es.take c) + 1 + d := ⟨n - posE (es.take c) - 1, by omega⟩
    have hdx : d < (es.getD c default).2.length := by omega
    have hm := getD_mem2 (d := default) hdx
    exact .inr ⟨decide_eq_false e, _, g.gm hm, (g.wh hm).1, (g.wh hm).2, by rw [hd]; exact wrd_line hc hdx⟩

theorem abs_nn (c : Int) : 0 ≤ (c.natAbs : Int) := Int.natCast_nonneg _
def En.ae (n : En) : Ae := ⟨n.z, n.l, n.ps, n.xs⟩
theorem ok_law {f : Addr} {fd : FuncData} (F : Fun K "law" "law" s_law f fd) (TE : TxtE P w K mg a) (T : Txt K mg a) : FnOk P w K mg base CX0 10 f fd ["script"] (spLaw K) := by
  obtain ⟨fd_law_weights, G_law_weights, b_law_weights⟩ := ok_law_weights (P := P) (w := w) (base := base) T
  obtain ⟨fd_law_lines, G_law_lines, b_law_lines⟩ := ok_law_lines (P := P) (w := w) (base := base) T
  obtain ⟨fd_archive_lines, G_archive_lines, b_archive_lines⟩ := ok_archive_lines (P := P) (w := w) (base := base) T
  obtain ⟨fd_law_due, G_law_due, b_law_due⟩ := ok_law_due (P := P) (w := w) (base := base) T
  obtain ⟨fd_law_cell, G_law_cell, b_law_cell⟩ := ok_law_cell (P := P) (w := w) (base := base) T
  obtain ⟨fd_law_block, G_law_block, b_law_block⟩ := ok_law_block (P := P) (w := w) (base := base) T
  obtain ⟨fd_law_read, G_law_read, b_law_read⟩ := ok_law_read (P := P) (w := w) (base := base) TE T
  obtain ⟨fd_law_paper, G_law_paper, b_law_paper⟩ := ok_law_paper (P := P) (w := w) (base := base) T
  obtain ⟨fd_law_spoilt, G_law_spoilt, b_law_spoilt⟩ := ok_law_spoilt (P := P) (w := w) (base := base) T
  refine F.ok sc_law (fun vs H Q E h => ?_) (fun cdv A outer s H vs Q E hr h => ?_)
  · obtain ⟨_, _, rfl, _⟩ := h
    rfl
  · obtain ⟨l, ns, rfl, hS, hl, k⟩ := h
    refine ⟨_, (pss_cons (ps_set (i := 1) sc_law.nd rfl (Or.inl rfl) (pe_call G_law_weights (hr.mono (by decide)) rfl T.d_law_weights.g T.d_law_weights.kp b_law_weights .nil pass0 (pa_cons (pe_call G_law_cell (hr.mono (by decide)) rfl T.d_law_cell.g T.d_law_cell.kp b_law_cell .nil pass0 (pa_cons (pv 0) (pa_cons pe_int pa_nil))) (pa_cons pe_int pa_nil))))
      (pss_cons (ps_set (i := 2) sc_law.nd rfl (Or.inl rfl) (pe_lst pa_nil))
      (pss_cons (ps_for PassesOwn.never rfl (pi_range1 rfl T.n_range (pa_cons (pe_op op_mod (pe_callTy call_int1 (by rfl) T.n_int (by decide +kernel) (pa_cons (pe_call G_law_cell (hr.mono (by decide)) rfl T.d_law_cell.g T.d_law_cell.kp b_law_cell .nil pass0 (pa_cons (pv 0) (pa_cons pe_int pa_nil))) pa_nil)) pe_int) pa_nil)) (pg_name (i := 3) sc_law.nd rfl (Or.inl rfl))
      (pss_cons (ps_set (i := 4) sc_law.nd rfl (Or.inl rfl) (pe_call G_law_block (hr.mono (by decide)) rfl T.d_law_block.g T.d_law_block.kp b_law_block .nil pass0 (pa_cons (pe_callB call_abs (by rfl) T.n_abs (by decide +kernel) (pa_cons (pe_call G_law_cell (hr.mono (by decide)) rfl T.d_law_cell.g T.d_law_cell.kp b_law_cell .nil pass0 (pa_cons (pv 0) (pa_cons (pe_op op_add pe_int (pv 3)) pa_nil))) pa_nil)) (pa_cons (pv 3) pa_nil))))
        (pss_one (ps_expr (pe_bm PySem.F.plainAttrs_list PySem.F.slot_list_append PySem.F.type_list_append mt_append (pv 2) (pa_cons (pe_tup (pa_cons (pv 4) (pa_cons (pe_call G_law_paper (hr.mono (by decide)) rfl T.d_law_paper.g T.d_law_paper.kp b_law_paper .nil pass0 (pa_cons (pe_call G_law_cell (hr.mono (by decide)) rfl T.d_law_cell.g T.d_law_cell.kp b_law_cell .nil pass0 (pa_cons (pv 0) (pa_cons (pe_op op_add pe_int (pv 3)) pa_nil))) (pa_cons (pe_callB call_len_seq (by rfl) T.n_len PySem.boot_len (pa_cons (pv 1) pa_nil)) (pa_cons (pv 3) (pa_cons (pv 4) pa_nil))))) pa_nil))) pa_nil))))))
      (pss_cons (ps_set (i := 5) sc_law.nd rfl (Or.inl rfl) (pe_call G_law_lines (hr.mono (by decide)) rfl T.d_law_lines.g T.d_law_lines.kp b_law_lines .nil pass0 (pa_cons (pv 2) pa_nil)))
      (pss_cons (ps_set (i := 6) sc_law.nd rfl (Or.inl rfl) (pe_call G_archive_lines (hr.mono (by decide)) rfl T.d_archive_lines.g T.d_archive_lines.kp b_archive_lines .nil pass0 (pa_cons (pe_lc (own := [("entry", 13)]) (g := (gName 13)) (tt := tYes) rfl sc_law.nd (pi_list (pv 2)) (blkOk_by (own := [("entry", 13)]) (N := sc_law_N) (sc := defScope s_law) (by decide +kernel)) (fun _ _ _ _ _ => (pg_name (i := 13) sc_law.nd rfl (Or.inl rfl))) (fun _ _ _ _ _ => pts_nil) (fun _ _ _ _ _ => (pe_ix (r := rIxT K) ix_tup (pv 13) pe_int (fun _ _ => rfl)))) (pa_cons (pe_lc (own := [("entry", 13)]) (g := (gName 13)) (tt := tYes) rfl sc_law.nd (pi_list (pv 2)) (blkOk_by (own := [("entry", 13)]) (N := sc_law_N) (sc := defScope s_law) (by decide +kernel)) (fun _ _ _ _ _ => (pg_name (i := 13) sc_law.nd rfl (Or.inl rfl))) (fun _ _ _ _ _ => pts_nil) (fun _ _ _ _ _ => (pe_ix (r := rIxT K) ix_tup (pv 13) pe_int (fun _ _ => rfl)))) pa_nil))))
      (pss_cons (ps_if (PW.pt (pw_or (pt_not (pt_val (pe_callB call_isi (by rfl) T.n_isinstance (by decide +kernel) (pa_cons (pv 6) (pa_cons (pe_bltn (v := .ty "list") (u := .type "list") (by rfl) T.n_list (by decide +kernel) rfl) pa_nil))))) (pw_or1 (pt_cmpR (op_neD hr.units) (pv 6) (pe_ix ix_tup (pv 5) pe_int (fun _ _ => rfl)) (nomark _)))))
      (pss_one (ps_ret pe_bl))
      pss_nil)
      (pss_cons (ps_set (i := 7) sc_law.nd rfl (Or.inl rfl) (pe_call G_law_due (hr.mono (by decide)) rfl T.d_law_due.g T.d_law_due.kp b_law_due .nil pass0 (pa_cons (pv 1) (pa_cons (pv 2) (pa_cons (pe_ix ix_tup (pv 5) pe_int (fun _ _ => rfl)) pa_nil)))))
      (pss_cons (ps_if (pt_not (pt_val (pe_call G_law_read (hr.mono (by decide)) rfl T.d_law_read.g T.d_law_read.kp b_law_read .nil pass0 (pa_cons (pv 1) (pa_cons (pe_callTy call_list_of (by rfl) T.n_list (by decide +kernel) (pa_cons (pv 6) pa_nil)) (pa_cons (pe_ix ix_tup (pv 7) pe_int (fun _ _ => rfl)) (pa_cons (pe_ix ix_tup (pv 7) pe_int (fun _ _ => rfl)) pa_nil)))))))
      (pss_one (ps_ret pe_bl))
      pss_nil)
      (pss_cons (ps_if (PW.pt (pw_or (pt_cmpR (op_neD hr.units) (pe_ix ix_tup (pv 7) pe_int (fun _ _ => rfl)) (pv 2) (nomark _)) (pw_or1 (pt_cmpR op_eq (pe_callB call_len_seq (by rfl) T.n_len PySem.boot_len (pa_cons (pv 6) pa_nil)) pe_int (nomark _)))))
      (pss_one (ps_ret pe_bl))
      pss_nil)
      (pss_cons (ps_set (i := 8) sc_law.nd rfl (Or.inl rfl) (pe_op op_mod (pe_callTy call_int1 (by rfl) T.n_int (by decide +kernel) (pa_cons (pe_call G_law_cell (hr.mono (by decide)) rfl T.d_law_cell.g T.d_law_cell.kp b_law_cell .nil pass0 (pa_cons (pv 0) (pa_cons pe_int pa_nil))) pa_nil)) (pe_callB call_len_seq (by rfl) T.n_len PySem.boot_len (pa_cons (pv 6) pa_nil))))
      (pss_cons (ps_set (i := 9) sc_law.nd rfl (Or.inl rfl) pe_int)
      (pss_cons (ps_set (i := 10) sc_law.nd rfl (Or.inl rfl) pe_int)
      (pss_cons (ps_for PassesOwn.never rfl (pi_range1 rfl T.n_range (pa_cons (pe_callB call_len_seq (by rfl) T.n_len PySem.boot_len (pa_cons (pe_ix ix_tup (pv 5) pe_int (fun _ _ => rfl)) pa_nil)) pa_nil)) (pg_name (i := 11) sc_law.nd rfl (Or.inl rfl))
      (pss_one (ps_if (pt_cmpR op_le (pe_ix ix_list (pe_ix ix_tup (pv 5) pe_int (fun _ _ => rfl)) (pv 11) (fun _ _ => rfl)) (pv 8) (nomark _))
        (pss_cons (ps_set (i := 9) sc_law.nd rfl (Or.inl rfl) (pe_ix ix_list (pe_ix ix_tup (pv 5) pe_int (fun _ _ => rfl)) (pv 11) (fun _ _ => rfl)))
          (pss_one (ps_set (i := 10) sc_law.nd rfl (Or.inl rfl) (pv 11))))
        pss_nil)))
      (pss_cons (ps_set (i := 12) sc_law.nd rfl (Or.inl rfl) (pe_op op_cat (pe_op op_cat (pe_slice sl_list (pv 6) po_none (po_some (pv 8))) (pe_lst (pa_cons (pe_call G_law_spoilt (hr.mono (by decide)) rfl T.d_law_spoilt.g T.d_law_spoilt.kp b_law_spoilt .nil pass0 (pa_cons (pe_ix ix_list (pv 6) (pv 8) (fun _ _ => rfl)) (pa_cons (pe_cmpR op_in_seq (pv 8) (pe_ix ix_tup (pv 5) pe_int (fun _ _ => rfl)) (by rfl)) (pa_cons (pe_callB call_abs (by rfl) T.n_abs (by decide +kernel) (pa_cons (pe_call G_law_cell (hr.mono (by decide)) rfl T.d_law_cell.g T.d_law_cell.kp b_law_cell .nil pass0 (pa_cons (pv 0) (pa_cons pe_int pa_nil))) pa_nil)) pa_nil)))) pa_nil))) (pe_slice sl_list (pv 6) (po_some (pe_op op_add (pv 8) pe_int)) po_none)))
      (pss_cons (ps_if (pt_cmpR op_eq (pv 8) (pe_op op_sub (pe_callB call_len_seq (by rfl) T.n_len PySem.boot_len (pa_cons (pv 6) pa_nil)) pe_int) (nomark _))
      (pss_one (ps_ret (pe_call G_law_read (hr.mono (by decide)) rfl T.d_law_read.g T.d_law_read.kp b_law_read .nil pass0 (pa_cons (pv 1) (pa_cons (pv 12) (pa_cons (pe_slice sl_list (pv 2) po_none (po_some (pv 10))) (pa_cons pe_non pa_nil)))))))
      pss_nil)
      (pss_one (ps_ret (pe_and (pe_call G_law_read (hr.mono (by decide)) rfl T.d_law_read.g T.d_law_read.kp b_law_read .nil pass0 (pa_cons (pv 1) (pa_cons (pv 12) (pa_cons pe_non (pa_cons (pv 8) pa_nil))))) (pe_one (pe_call G_law_read (hr.mono (by decide)) rfl T.d_law_read.g T.d_law_read.kp b_law_read .nil pass0 (pa_cons (pv 1) (pa_cons (pe_slice sl_list (pv 6) po_none (po_some (pv 8))) (pa_cons (pe_slice sl_list (pv 2) po_none (po_some (pv 10))) (pa_cons pe_non pa_nil)))))))))))))))))))))))), ?_⟩
    walk_at "rs"
    refine ⟨l, ns, _, rfl, hS, hl, by decide, ?_⟩
    walk_at "rs"
    refine ⟨_, _, rfl, by decide, by decide, fun pw ws H1 s1 hpw gw lw => ?_⟩
    have hS1 := s1.seq hS
    walk_at "rs"
    refine ⟨(by show 0 ≤ sizeLine; decide), fun R hR => ?_⟩
    have s2 := same_new (o := .lst []) hR
    have hR2 : (upd H1 R (.lst [])) R = some (.lst []) := upd_same
    have hpw2 := s2 _ _ hpw
    have hS2 := s2.seq hS1
    walk_at "rs"
    refine ⟨l, ns, _, rfl, hS2, hl, by decide, ?_⟩
    walk_at "rs"
    have g0 : 0 ≤ ns.getD (Int.toNat 1) 0 % 5 := Int.emod_nonneg _ (by decide)
    have g1 : ns.getD (Int.toNat 1) 0 % 5 < 5 := Int.emod_lt_of_pos _ (by decide)
    refine ⟨(by show -(2 ^ 62 : Int) ≤ _; omega), (by show _ < (2 ^ 62 : Int); omega), ?_⟩
    refine for_range (lo := 0) (n := (ns.getD (Int.toNat 1) 0 % 5).toNat) (fun i σ Hx => ∃ (v3 v4 : Option V) (en : List En), σ = [some (.ref l), some (.ref pw), some (.ref R), v3, v4, none, none, none, none, none, none, none, none, none] ∧ en.length = i ∧ Same H1 Hx ∧ Hx R = some (.lst ((en.map (·.e)).map V.ref)) ∧ ∀ n ∈ en, (EnR Hx n ∧ GoodN n.z n.xs) ∧ n.l ≠ R)
      ⟨_, _, [], rfl, rfl, s2, hR2, fun n hn => absurd hn List.not_mem_nil⟩ ?_ ?_
    · rintro i σ Hx hi ⟨v3, v4, en, rfl, le, sx, hRx, ok⟩
      have e0 : (0 : Int) + (i : Int) = (i : Int) := Int.zero_add _
      rw [e0]
      have i5 : i < 5 := by omega
      walk_at "rs"
      refine ⟨l, ns, _, rfl, sx.seq hS1, hl, by omega, ?_⟩
      walk_at "rs"
      refine ⟨_, _, rfl, Int.natCast_nonneg i, by omega, fun z bo bb => ?_⟩
      walk_at "rs"
      refine ⟨.inl ⟨rfl, _, SqL.of hRx⟩, ?_⟩
      walk_at "rs"
      refine ⟨l, ns, _, rfl, sx.seq hS1, hl, by omega, ?_⟩
      walk_at "rs"
      refine ⟨pw, _, rfl, .inl (SqL.of (sx _ _ hpw)), ?_⟩
      rw [List.length_map]
      walk_at "rs"
      have gl := gw.1
      refine ⟨_, _, _, z, rfl, by omega, by have := gw.2.1; omega, fun p ps xs H3 s3 fp hp hx few pap => ?_⟩
      refine ⟨(by show 2 ≤ sizeLine; decide), fun t ht => ?_⟩
      have s4 := s3.trans (same_new (o := .tup [V.str z, V.ref p]) ht)
      have s34 := same_new (o := .tup [V.str z, V.ref p]) ht
      have ht4 : (upd H3 t (.tup [V.str z, V.ref p])) t = some (.tup [V.str z, V.ref p]) := upd_same
      have hp4 := s34 _ _ hp
      have hx4 := hx.same s34
      generalize upd H3 t (.tup [V.str z, V.ref p]) = H4 at s4 ht4 hp4 hx4 ⊢
      clear s34 hp hx ht
      have hR4 := s4 _ _ hRx
      have pR : p ≠ R := fun z => by rw [z, hRx] at fp; cases fp
      refine ⟨R, _, _, rfl, rfl, hR4, by rw [List.length_map, List.length_map]; exact small1000 (by omega), ?_⟩
      have hR1 : H1 R = none := hR
      have un : ∀ {n : En}, EnR H4 n → n.l ≠ R → EnR (upd H4 R (.lst ((en.map (·.e)).map V.ref ++ [V.ref t]))) n := fun {n} r ne =>
        ⟨upd_tup hR4 r.he, by rw [upd_ne ne]; exact r.hl, lsat_updL r.hx hR4⟩
      refine ⟨_, _, en ++ [⟨t, z, p, ps, xs⟩], rfl, by rw [List.length_append, le]; rfl, same_upd (sx.trans s4) hR1, by rw [upd_same]; simp, fun n hn => ?_⟩
      rcases List.mem_append.mp hn with hn | hn
      · exact ⟨⟨un ((ok n hn).1.1.same s4) (ok n hn).2, (ok n hn).1.2⟩, (ok n hn).2⟩
      · rw [List.mem_singleton.mp hn]
        exact ⟨⟨un ⟨ht4, hp4, hx4⟩ pR, ⟨bo, bb, few, fun x hx => ⟨i, Int.natCast_nonneg i, by omega, pap x hx⟩⟩⟩, pR⟩
    · rintro σ Hx ⟨v3, v4, en, rfl, le, sx, hRx, ok⟩
      have few : en.length ≤ 4 := by omega
      have hSx := sx.seq hS1
      have hpwx := sx _ _ hpw
      have ok : ∀ n ∈ en, EnR Hx n ∧ GoodN n.z n.xs := fun n hn => (ok n hn).1
      clear le sx s1 s2 hR2 hpw2 hS2 hS1 hS hpw hR
      walk_at "rs"
      refine ⟨R, en, rfl, hRx, few, fun n hn => (ok n hn).2.el (ok n hn).1, fun t L D H2 s2 ht hL hD => ?_⟩
      have hS2 := s2.seq hSx
      have hpw2 := s2 _ _ hpwx
      have hR2 := s2 _ _ hRx
      have ok2 : ∀ n ∈ en, EnR H2 n ∧ GoodN n.z n.xs := fun n hn => ⟨(ok n hn).1.same s2, (ok n hn).2⟩
      clear s2 ok hRx hpwx hSx
      walk_at "rs"
      refine ⟨⟨_, SqL.of hR2⟩, fun ZL hZL => ?_⟩
      refine lc_list (K := K) (a := R) (xs := (en.map (·.e)).map V.ref) (fun j Hj => Same H2 Hj ∧ Hj ZL = some (.lst (((en.take j).map (·.z)).map V.str))) ⟨same_new hZL, upd_same⟩ (fun j Hj _ ⟨sj, _⟩ => SqL.of (sj _ _ hR2)) ?_ ?_
      · rintro j y Hj hy ⟨sj, hZj⟩
        obtain ⟨n, hn, rfl, hm, hj⟩ := en_at hy
        refine ⟨rfl, ?_⟩
        walk_at "rs"
        refine ⟨n.e, _, _, .str n.z, rfl, rfl, SqT.of (sj _ _ (ok2 n hm).1.he), rfl, ?_⟩
        refine ⟨_, hZj, by rw [List.length_map, List.length_map, List.length_take]; exact small1000 (by omega), same_upd sj hZL, ?_⟩
        rw [upd_same, List.take_add_one, hn]
        simp
      rintro H3 ⟨s3, hZ3⟩
      rw [List.length_map, List.length_map, List.take_length] at hZ3
      have hS3 := s3.seq hS2
      have hpw3 := s3 _ _ hpw2
      have hR3 := s3 _ _ hR2
      have ok3 : ∀ n ∈ en, EnR H3 n ∧ GoodN n.z n.xs := fun n hn => ⟨(ok2 n hn).1.same s3, (ok2 n hn).2⟩
      have ht3 := s3 _ _ ht
      have hL3 := s3 _ _ hL
      have hD3 := s3 _ _ hD
      clear s3 hZL hS2 hpw2 hR2 ok2 ht hL hD
      walk_at "rs"
      refine ⟨⟨_, SqL.of hR3⟩, fun QL hQL => ?_⟩
      refine lc_list (K := K) (a := R) (xs := (en.map (·.e)).map V.ref) (fun j Hj => Same H3 Hj ∧ Hj QL = some (.lst (((en.take j).map (·.l)).map V.ref))) ⟨same_new hQL, upd_same⟩ (fun j Hj _ ⟨sj, _⟩ => SqL.of (sj _ _ hR3)) ?_ ?_
      · rintro j y Hj hy ⟨sj, hQj⟩
        obtain ⟨n, hn, rfl, hm, hj⟩ := en_at hy
        refine ⟨rfl, ?_⟩
        walk_at "rs"
        refine ⟨n.e, _, _, .ref n.l, rfl, rfl, SqT.of (sj _ _ (ok3 n hm).1.he), rfl, ?_⟩
        refine ⟨_, hQj, by rw [List.length_map, List.length_map, List.length_take]; exact small1000 (by omega), same_upd sj hQL, ?_⟩
        rw [upd_same, List.take_add_one, hn]
        simp
      rintro H4 ⟨s4, hQ4⟩
      rw [List.length_map, List.length_map, List.take_length] at hQ4
      have hZ4 := s4 _ _ hZ3
      have hS4 := s4.seq hS3
      have hpw4 := s4 _ _ hpw3
      have hR4 := s4 _ _ hR3
      have ok4 : ∀ n ∈ en, EnR H4 n ∧ GoodN n.z n.xs := fun n hn => ⟨(ok3 n hn).1.same s4, (ok3 n hn).2⟩
      have ht4 := s4 _ _ ht3
      have hL4 := s4 _ _ hL3
      have hD4 := s4 _ _ hD3
      clear s4 hQL hS3 hpw3 hR3 ok3 ht3 hL3 hD3 hZ3
      have ez : (en.map En.ae).map (·.z) = en.map (·.z) := by rw [List.map_map]; rfl
      have el : (en.map En.ae).map (·.l) = en.map (·.l) := by rw [List.map_map]; rfl
      have ep : ((en.map En.ae).map fun n => (n.z, n.xs)) = en.map En.pr := by rw [List.map_map]; rfl
      refine ⟨ZL, QL, en.map En.ae, rfl, by rw [ez]; exact hZ4, by rw [el]; exact hQ4, by rw [List.length_map]; omega, fun n hn => ?_, fun LS H5 s5 fLS hLS => ?_⟩
      · obtain ⟨m, hm, rfl⟩ := List.mem_map.mp hn
        obtain ⟨r, g⟩ := ok4 m hm
        exact ⟨r.hl, r.hx, Nat.le_trans g.few (by decide), fun x hx => g.ln hx, Nat.le_trans g.bo.1 (by decide)⟩
      rw [ep] at hLS
      have hS5 := s5.seq hS4
      have hpw5 := s5 _ _ hpw4
      have hR5 := s5 _ _ hR4
      have ok5 : ∀ n ∈ en, EnR H5 n ∧ GoodN n.z n.xs := fun n hn => ⟨(ok4 n hn).1.same s5, (ok4 n hn).2⟩
      have ht5 := s5 _ _ ht4
      have hL5 := s5 _ _ hL4
      have hD5 := s5 _ _ hD4
      clear s5 hS4 hpw4 hR4 ok4 ht4 hL4 hD4 hZ4 hQ4 ez el ep
      have goods : ∀ e ∈ en.map En.pr, GoodN e.1 e.2 := fun e he => by
        obtain ⟨m, hm, rfl⟩ := List.mem_map.mp he
        exact (ok5 m hm).2
      have aok := archM_ok goods
      have aln : (archM (en.map En.pr)).length ≤ 140 := by
        have := archM_len (es := en.map En.pr) fun e he => Nat.le_trans (goods e he).few (by decide)
        have h2 : ∀ es : List (Str × List Lt), (∀ e ∈ es, e.2.length ≤ 32) → (archM es).length ≤ 33 * es.length := by
          intro es
          induction es with
          | nil => exact fun _ => Nat.le_refl _
          | cons e r ih =>
            intro h
            have i1 := ih fun f hf => h f (List.mem_cons_of_mem _ hf)
            have i2 := h e List.mem_cons_self
            rw [archM_pos] at i1 ⊢
            simp only [posE, List.length_cons]
            omega
        have := h2 _ fun e he => (goods e he).few
        rw [List.length_map] at this
        omega
      have aso : ∀ z ∈ archM (en.map En.pr), PyData.strOk z = true := fun z hz => (aok z hz).2
      walk_at "rs"
      refine ⟨_, _, .type "list", .type "list", true, rfl, .ty _, .base (.lst hLS), kit_ty (by decide +kernel), ?_⟩
      walk_at "rs"
      refine ⟨t, _, _, .ref L, rfl, rfl, SqT.of ht5, rfl, ?_⟩
      refine ⟨_, _, .lst (SqL.of hLS) (dp_strs _), .lst (SqL.of hL5) (dp_strs _), shaped_strs aso, shaped_strs aso, ?_⟩
      rw [eqv_strs aso]
      walk_at "rs"
      refine ⟨t, _, _, .ref D, rfl, rfl, SqT.of ht5, rfl, ?_⟩
      generalize hes : en.map En.pr = es at *
      have les : es.length = en.length := by rw [← hes, List.length_map]
      have few4 : es.length ≤ 4 := by omega
      have ee := archM_pos es
      rw [← les] at hD5
      have alim : ∀ z ∈ archM es, z.length + 2 ≤ 16777216 ∧ PyData.strOk z = true := fun z hz => ⟨by have := (aok z hz).1; omega, (aok z hz).2⟩
      have oke : ∀ e ∈ es, OkE e := fun e he => ⟨(goods e he).okl, (goods e he).bo.2.1⟩
      walk_at "rs"
      refine ⟨pw, R, D, ws, en, rfl, SqL.of hpw5, gw, hR5, by rw [hes, ← les]; exact hD5, few, ok5, fun all t2 H6 s6 ht6 => ?_, fun i hi done no => ⟨fun i1 t2 RR H6 s6 hRR ht6 => ?_, fun i1 t2 H6 s6 ht6 => ?_⟩⟩
      · rw [hes] at all
        walk_at "rs"
        refine ⟨LS, _, rfl, .inl (SqL.of (s6 _ _ hLS)), fun l2 hl2 => ?_⟩
        have s7 := same_new (o := .lst ((archM es).map V.str)) hl2
        have hl7 : (upd H6 l2 (.lst ((archM es).map V.str))) l2 = some (.lst ((archM es).map V.str)) := upd_same
        have s67 := s6.trans s7
        have ht7 := s7 _ _ ht6
        generalize upd H6 l2 (.lst ((archM es).map V.str)) = H7 at s7 hl7 s67 ht7 ⊢
        have ok7 : ∀ n ∈ en, EnR H7 n := fun n hn => (ok5 n hn).1.same s67
        walk_at "rs"
        refine ⟨t2, _, _, .ref R, rfl, rfl, SqT.of ht7, rfl, ?_⟩
        walk_at "rs"
        refine ⟨t2, _, _, .non, rfl, rfl, SqT.of ht7, rfl, ?_⟩
        have ah := ahead goods few4 (ws := ws) (ls := archM es) (c := es.length) (n := (archM es).length) (Nat.le_refl _) (by rw [ee]; exact pos_le _ _) (Nat.le_refl _) (fun _ _ => rfl) (fun j hj => all j (by omega))
        have ed : Ends H7 (.ref R) (.non) ws (archM es) (es.take (es.length)) := (by rw [List.take_length]; exact ends_all ⟨R, en, rfl, s67 _ _ hR5, hes, ok7⟩)
        refine ⟨pw, l2, _, _, ws, archM es, es.take (es.length), rfl, SqL.of (s67 _ _ hpw5), gw, hl7, by omega, alim, ah.1, ah.2.1, ah.2.2.1, ah.2.2.2, ed.1, ed.2, fun H8 s8 => ?_⟩
        have s58 := s67.trans s8
        have ht8 := s8 _ _ ht7
        have d8 := dp_eDs (K := K) (fun n hn => (ok7 n hn).same s8)
        rw [hes] at d8
        walk_at "rs"
        refine ⟨t2, _, _, .ref R, rfl, rfl, SqT.of ht8, rfl, ?_⟩
        walk_at "rs"
        refine ⟨_, _, .lst (SqL.of (s58 _ _ hR5)) d8, .lst (SqL.of (s58 _ _ hR5)) d8, shaped_eDs oke, shaped_eDs oke, ?_⟩
        rw [eDs_refl oke]
        refine ⟨_, rfl, ?_⟩
        walk_at "rs"
        refine ⟨LS, _, rfl, .inl (SqL.of (s58 _ _ hLS)), ?_⟩
        rw [List.length_map]
        walk_at "rs"
        refine ite2 (fun c0 => ?_) (fun c0 => ?_)
        · walk_at "rs"
          exact k _
        have c0 : (archM es).length ≠ 0 := by simpa using c0
        have hS8 := s58.seq hS5
        have hpw8 := s58 _ _ hpw5
        have hR8 := s58 _ _ hR5
        have hLS8 := s58 _ _ hLS
        have hD8 := s58 _ _ hD5
        have ht58 := s58 _ _ ht5
        have ok8 : ∀ n ∈ en, EnR H8 n := fun n hn => (ok7 n hn).same s8
        clear ah ed s58 s8 s7 s67 s6 hl7 ht6 ht7 hl2 hLS hD5 ht5 hS5 hpw5 hR5 hL5 ok7 ok5 d8
        walk_at "rs"
        refine ⟨l, ns, _, rfl, hS8, hl, by decide, ?_⟩
        walk_at "rs"
        refine ⟨LS, _, rfl, .inl (SqL.of hLS8), ?_⟩
        rw [List.length_map]
        walk_at "rs"
        have c1 : 0 < es.length := by
          refine Nat.pos_of_ne_zero fun z => c0 ?_
          rw [List.length_eq_zero_iff.mp z]
          rfl
        have a0 : 0 ≤ ns.getD (Int.toNat 10) 0 % ((archM es).length : Int) := Int.emod_nonneg _ (by omega)
        have a1 : ns.getD (Int.toNat 10) 0 % ((archM es).length : Int) < ((archM es).length : Int) := Int.emod_lt_of_pos _ (by omega)
        refine ⟨t, _, _, .ref D, rfl, rfl, SqT.of ht58, rfl, ?_⟩
        refine ⟨D, _, rfl, .inl (SqL.of hD8), ?_⟩
        rw [List.length_map, headsM_len]
        walk_at "rs"
        refine ⟨(by show -(2 ^ 62 : Int) ≤ _; omega), (by show _ < (2 ^ 62 : Int); omega), ?_⟩
        refine for_range (lo := 0) (n := ((es.length : Int)).toNat) (fun i σ Hx => ∃ (v9 v11 : Option V) (c : Nat), σ = [some (.ref l), some (.ref pw), some (.ref R), v3, v4, some (.ref t), some (.ref LS), some (.ref t2), some (.int (ns.getD (Int.toNat 10) 0 % ((archM es).length : Int))), v9, some (.int (c : Int)), v11, none, none] ∧ H8 = Hx ∧ c < es.length ∧ ((posE (es.take c) : Nat) : Int) ≤ ns.getD (Int.toNat 10) 0 % ((archM es).length : Int) ∧ ∀ j, j < i → ((posE (es.take j) : Nat) : Int) ≤ ns.getD (Int.toNat 10) 0 % ((archM es).length : Int) → j ≤ c)
          ⟨_, _, 0, rfl, rfl, c1, by show ((0 : Nat) : Int) ≤ _; omega, fun j hj => absurd hj (Nat.not_lt_zero j)⟩ ?_ ?_
        · rintro i σ _ hi ⟨v9, v11, c, rfl, rfl, hc, hp, mx⟩
          have e0 : (0 : Int) + (i : Int) = (i : Int) := Int.zero_add _
          rw [e0]
          have hi : i < es.length := by omega
          walk_at "rs"
          refine ⟨t, _, _, .ref D, rfl, rfl, SqT.of ht58, rfl, ?_⟩
          walk_at "rs"
          refine ⟨D, _, _, _, rfl, rfl, SqL.of hD8, at_of (j := i) rfl (heads_at es hi), ?_⟩
          walk_at "rs"
          refine ite2 (fun c2 => ?_) (fun c2 => ?_)
          · have c2 : ((posE (es.take i) : Nat) : Int) ≤ ns.getD (Int.toNat 10) 0 % ((archM es).length : Int) := of_decide_eq_true c2
            walk_at "rs"
            refine ⟨t, _, _, .ref D, rfl, rfl, SqT.of ht58, rfl, ?_⟩
            walk_at "rs"
            refine ⟨D, _, _, _, rfl, rfl, SqL.of hD8, at_of (j := i) rfl (heads_at es hi), ?_⟩
            walk_at "rs"
            exact ⟨_, _, i, rfl, rfl, hi, c2, fun j hj _ => by omega⟩
          · have c2 : ¬ ((posE (es.take i) : Nat) : Int) ≤ ns.getD (Int.toNat 10) 0 % ((archM es).length : Int) := fun z => c2 (decide_eq_true z)
            refine ⟨_, _, c, rfl, rfl, hc, hp, fun j hj z => ?_⟩
            rcases Nat.lt_or_ge j i with y | y
            · exact mx j y z
            · have : j = i := by omega
              rw [this] at z
              exact absurd z c2
        rintro σ _ ⟨v9, v11, c, rfl, rfl, hc, hp, mx⟩
        obtain ⟨n, en2⟩ : ∃ n : Nat, ns.getD (Int.toNat 10) 0 % ((archM es).length : Int) = (n : Int) := ⟨(ns.getD (Int.toNat 10) 0 % ((archM es).length : Int)).toNat, by omega⟩
        rw [en2] at a1 hp mx ⊢
        have hn : n < (archM es).length := by omega
        have hp : posE (es.take c) ≤ n := by omega
        have hq : n < posE (es.take (c + 1)) := by
          refine Nat.lt_of_not_le fun z => ?_
          rcases Nat.lt_or_ge (c + 1) es.length with y | y
          · have := mx (c + 1) (by omega) (by omega)
            omega
          · rw [List.take_of_length_le y] at z
            omega
        clear mx a0 a1 en2
        walk_at "rs"
        refine ⟨LS, _, rfl, SqL.of hLS8, fun X1 hX1 => ?_⟩
        rw [cut_take_str (Nat.le_of_lt hn)]
        have s9 := same_new (o := .lst (((archM es).take n).map V.str)) hX1
        have hX9 : (upd H8 X1 (.lst (((archM es).take n).map V.str))) X1 = some (.lst (((archM es).take n).map V.str)) := upd_same
        generalize upd H8 X1 (.lst (((archM es).take n).map V.str)) = H9 at s9 hX9 ⊢
        walk_at "rs"
        refine ⟨LS, _, _, _, rfl, rfl, SqL.of (s9 _ _ hLS8), at_of (j := n) rfl (wrd_at hn), ?_⟩
        walk_at "rs"
        refine ⟨t, _, _, .ref D, rfl, rfl, SqT.of (s9 _ _ ht58), rfl, ?_⟩
        refine ⟨D, _, rfl, .inl (SqL.of (s9 _ _ hD8)), rfl, flat_ints _, ?_⟩
        rw [if_neg Bool.false_ne_true, inV_ints, mem_heads hc hp hq]
        walk_at "rs"
        refine ⟨l, ns, _, rfl, s9.seq hS8, hl, by decide, ?_⟩
        walk_at "rs"
        have lm := aok _ (wrd_mem hn)
        refine ⟨_, _, _, rfl, by split <;> omega, lm.1, lm.2, kind_at goods hc hp hq, fun y H10 s10 ly oky bad => ?_⟩
        have bad2 : (n = posE (es.take c) ∧ headM y = none) ∨ (n ≠ posE (es.take c) ∧ ∃ e, readL y = .error e) := by
          rcases bad with ⟨z1, z2⟩ | ⟨z1, z2⟩
          · exact .inl ⟨of_decide_eq_true z1, z2⟩
          · exact .inr ⟨of_decide_eq_false z1, z2⟩
        refine ⟨(by show 1 ≤ sizeLine; decide), fun X2 hX2 => ?_⟩
        have s11 := s10.trans (same_new (o := .lst [V.str y]) hX2)
        have hX211 : (upd H10 X2 (.lst [V.str y])) X2 = some (.lst [V.str y]) := upd_same
        generalize upd H10 X2 (.lst [V.str y]) = H11 at s11 hX211 ⊢
        refine ⟨X1, X2, _, _, rfl, rfl, s11 _ _ hX9, hX211, by rw [List.length_map, List.length_take, sizeLine_eq]; simp only [List.length_cons, List.length_nil]; omega, fun X3 hX3 => ?_⟩
        have s12 := s11.trans (same_new (o := .lst (((archM es).take n).map V.str ++ [V.str y])) hX3)
        have hX312 : (upd H11 X3 (.lst (((archM es).take n).map V.str ++ [V.str y]))) X3 = some (.lst (((archM es).take n).map V.str ++ [V.str y])) := upd_same
        generalize upd H11 X3 (.lst (((archM es).take n).map V.str ++ [V.str y])) = H12 at s12 hX312 ⊢
        have s13 := s9.trans s12
        walk_at "rs"
        refine ⟨LS, _, rfl, SqL.of (s13 _ _ hLS8), fun X4 hX4 => ?_⟩
        have ec : cutV ((archM es).map V.str) (some ((n : Int) + 1)) none = ((archM es).drop (n + 1)).map V.str := by
          rw [show ((n : Int) + 1) = ((n + 1 : Nat) : Int) by omega, cut_drop_str (by omega)]
        rw [ec]
        have s14 := s12.trans (same_new (o := .lst (((archM es).drop (n + 1)).map V.str)) hX4)
        have hX314 := (same_new (o := .lst (((archM es).drop (n + 1)).map V.str)) hX4) _ _ hX312
        have hX414 : (upd H12 X4 (.lst (((archM es).drop (n + 1)).map V.str))) X4 = some (.lst (((archM es).drop (n + 1)).map V.str)) := upd_same
        generalize upd H12 X4 (.lst (((archM es).drop (n + 1)).map V.str)) = H14 at s14 hX314 hX414 ⊢
        refine ⟨X3, X4, _, _, rfl, rfl, hX314, hX414, by simp only [List.length_append, List.length_map, List.length_take, List.length_drop, List.length_cons, List.length_nil, sizeLine_eq]; omega, fun X5 hX5 => ?_⟩
        have ecat : ((((archM es).take n).map V.str ++ [V.str y]) ++ ((archM es).drop (n + 1)).map V.str) = ((archM es).set n y).map V.str := by
          rw [← set_eq_parts _ hn]
          simp
        rw [ecat]
        have s15 := s14.trans (same_new (o := .lst (((archM es).set n y).map V.str)) hX5)
        have hX515 : (upd H14 X5 (.lst (((archM es).set n y).map V.str))) X5 = some (.lst (((archM es).set n y).map V.str)) := upd_same
        generalize upd H14 X5 (.lst (((archM es).set n y).map V.str)) = H15 at s15 hX515 ⊢
        have sAll := s9.trans s15
        have hpw15 := sAll _ _ hpw8
        have hR15 := sAll _ _ hR8
        have hLS15 := sAll _ _ hLS8
        have ok15 : ∀ n ∈ en, EnR H15 n := fun n hn => (ok8 n hn).same sAll
        clear s9 s10 s11 s12 s13 s14 s15 sAll hX9 hX211 hX312 hX314 hX414 hX1 hX2 hX3 hX4 hX5 ec ecat hS8 hpw8 hR8 hLS8 hD8 ht58 ok8
        have slim : ∀ z ∈ (archM es).set n y, z.length + 2 ≤ 16777216 ∧ PyData.strOk z = true := fun z hz => by
          rcases List.mem_or_eq_of_mem_set hz with h | h
          · exact alim z h
          · rw [h]
            exact ⟨by omega, oky⟩
        have sln : ((archM es).set n y).length = (archM es).length := List.length_set
        have ah2 := ahead goods few4 (ws := ws) (ls := (archM es).set n y) (c := c) (n := n) (Nat.le_of_lt hc) hp (by rw [sln]; exact Nat.le_of_lt hn) (fun kk hk => wrd_set_ne (by omega)) (fun j hj => all j (by omega))
        have ah3 := ahead goods few4 (ws := ws) (ls := (archM es).take n) (c := c) (n := n) (Nat.le_of_lt hc) hp (by rw [List.length_take]; omega) (fun kk hk => wrd_take hk) (fun j hj => all j (by omega))
        have ecr : cutV ((en.map (·.e)).map V.ref) none (some (c : Int)) = ((en.take c).map (·.e)).map V.ref := by
          unfold cutV
          rw [HT.sIx_nat, HT.sIx_none, List.length_map, List.length_map, Nat.min_eq_left (by omega), Nat.sub_zero, List.drop_zero, List.map_take, List.map_take]
        have ecp : (en.take c).map En.pr = es.take c := by rw [List.map_take, hes]
        walk_at "rs"
        refine ⟨LS, _, rfl, .inl (SqL.of hLS15), ?_⟩
        rw [List.length_map]
        walk_at "rs"
        refine ite2 (fun c2 => ?_) (fun c2 => ?_)
        · have c2 : (n : Int) = ((archM es).length : Int) - 1 := by simpa using c2
          walk_at "rs"
          refine ⟨R, _, rfl, SqL.of hR15, fun Y hY => ?_⟩
          rw [ecr]
          have s16 := same_new (o := .lst (((en.take c).map (·.e)).map V.ref)) hY
          have hY16 : (upd H15 Y (.lst (((en.take c).map (·.e)).map V.ref))) Y = some (.lst (((en.take c).map (·.e)).map V.ref)) := upd_same
          generalize upd H15 Y (.lst (((en.take c).map (·.e)).map V.ref)) = H16 at s16 hY16 ⊢
          have ed2 : Ends H16 (.ref Y) .non ws ((archM es).set n y) (es.take c) := ends_spoilt goods hc hp hq bad2 (fun z => absurd z (by omega)) (fun _ => ⟨Y, en.take c, rfl, hY16, ecp, fun m hm => (ok15 m (List.mem_of_mem_take hm)).same s16⟩)
          walk_at "rs"
          refine ⟨pw, X5, _, _, ws, (archM es).set n y, es.take c, rfl, SqL.of (s16 _ _ hpw15), gw, s16 _ _ hX515, by omega, slim, ah2.1, ah2.2.1, ah2.2.2.1, ah2.2.2.2, ed2.1, ed2.2, fun H17 s17 => ?_⟩
          exact k _
        · have c2 : ¬ (n : Int) = ((archM es).length : Int) - 1 := by simpa using c2
          walk_at "rs"
          have ed2 : Ends H15 .non (.int (n : Int)) ws ((archM es).set n y) (es.take c) := ends_spoilt goods hc hp hq bad2 (fun _ => ⟨rfl, rfl⟩) (fun z => absurd z (by omega))
          refine ⟨pw, X5, _, _, ws, (archM es).set n y, es.take c, rfl, SqL.of hpw15, gw, hX515, by omega, slim, ah2.1, ah2.2.1, ah2.2.2.1, ah2.2.2.2, ed2.1, ed2.2, fun H16 s16 => ?_⟩
          walk_at "rs"
          refine ⟨LS, _, rfl, SqL.of (s16 _ _ hLS15), fun Z hZ => ?_⟩
          rw [cut_take_str (Nat.le_of_lt hn)]
          have s17 := s16.trans (same_new (o := .lst (((archM es).take n).map V.str)) hZ)
          have hZ17 : (upd H16 Z (.lst (((archM es).take n).map V.str))) Z = some (.lst (((archM es).take n).map V.str)) := upd_same
          generalize upd H16 Z (.lst (((archM es).take n).map V.str)) = H17 at s17 hZ17 ⊢
          walk_at "rs"
          refine ⟨R, _, rfl, SqL.of (s17 _ _ hR15), fun Y hY => ?_⟩
          rw [ecr]
          have s18 := s17.trans (same_new (o := .lst (((en.take c).map (·.e)).map V.ref)) hY)
          have hZ18 := (same_new (o := .lst (((en.take c).map (·.e)).map V.ref)) hY) _ _ hZ17
          have hY18 : (upd H17 Y (.lst (((en.take c).map (·.e)).map V.ref))) Y = some (.lst (((en.take c).map (·.e)).map V.ref)) := upd_same
          generalize upd H17 Y (.lst (((en.take c).map (·.e)).map V.ref)) = H18 at s18 hZ18 hY18 ⊢
          have ed3 : Ends H18 (.ref Y) .non ws ((archM es).take n) (es.take c) := ends_cut goods hc hp hq ⟨Y, en.take c, rfl, hY18, ecp, fun m hm => (ok15 m (List.mem_of_mem_take hm)).same s18⟩
          walk_at "rs"
          refine ⟨pw, Z, _, _, ws, (archM es).take n, es.take c, rfl, SqL.of (s18 _ _ hpw15), gw, hZ18, by rw [List.length_take]; omega, fun z hz => alim z (List.mem_of_mem_take hz), ah3.1, ah3.2.1, ah3.2.2.1, ah3.2.2.2, ed3.1, ed3.2, fun H19 s19 => ?_⟩
          exact k _
      · rw [hes] at done no
        walk_at "rs"
        refine ⟨LS, _, rfl, .inl (SqL.of (s6 _ _ hLS)), fun l2 hl2 => ?_⟩
        have s7 := same_new (o := .lst ((archM es).map V.str)) hl2
        have hl7 : (upd H6 l2 (.lst ((archM es).map V.str))) l2 = some (.lst ((archM es).map V.str)) := upd_same
        have s67 := s6.trans s7
        have ht7 := s7 _ _ ht6
        have hRR7 := s7 _ _ hRR
        generalize upd H6 l2 (.lst ((archM es).map V.str)) = H7 at s7 hl7 s67 ht7 hRR7 ⊢
        have ok7 : ∀ n ∈ en, EnR H7 n := fun n hn => (ok5 n hn).1.same s67
        walk_at "rs"
        refine ⟨t2, _, _, .ref RR, rfl, rfl, SqT.of ht7, rfl, ?_⟩
        walk_at "rs"
        refine ⟨t2, _, _, .non, rfl, rfl, SqT.of ht7, rfl, ?_⟩
        have ah := ahead goods few4 (ws := ws) (ls := archM es) (c := i) (n := (archM es).length) (Nat.le_of_lt (by omega)) (by rw [ee]; exact pos_le _ _) (Nat.le_refl _) (fun _ _ => rfl) done
        have ed : Ends H7 (.ref RR) (.non) ws (archM es) (es.take (i)) := (ends_no goods (by omega) no (fun _ => ⟨RR, en.take i, rfl, hRR7, by rw [List.map_take, hes], fun n hn => ok7 n (List.mem_of_mem_take hn)⟩) (fun z => absurd (by omega) z))
        refine ⟨pw, l2, _, _, ws, archM es, es.take (i), rfl, SqL.of (s67 _ _ hpw5), gw, hl7, by omega, alim, ah.1, ah.2.1, ah.2.2.1, ah.2.2.2, ed.1, ed.2, fun H8 s8 => ?_⟩
        have s58 := s67.trans s8
        have ht8 := s8 _ _ ht7
        have d8 := dp_eDs (K := K) (fun n hn => (ok7 n hn).same s8)
        rw [hes] at d8
        walk_at "rs"
        refine ⟨t2, _, _, .ref RR, rfl, rfl, SqT.of ht8, rfl, ?_⟩
        have d9 := dp_eDs (K := K) (en := en.take i) (fun n hn => (ok7 n (List.mem_of_mem_take hn)).same s8)
        have e9 : (en.take i).map En.pr = es.take i := by rw [List.map_take, hes]
        rw [e9] at d9
        walk_at "rs"
        refine ⟨_, _, .lst (SqL.of (s8 _ _ hRR7)) d9, .lst (SqL.of (s58 _ _ hR5)) d8, shaped_eDs (fun e he => oke e (List.mem_of_mem_take he)), shaped_eDs oke, ?_⟩
        rw [eD_ne (by omega)]
        refine ⟨_, rfl, ?_⟩
        walk_at "rs"
        exact k _
      · rw [hes] at done no ht6
        walk_at "rs"
        refine ⟨LS, _, rfl, .inl (SqL.of (s6 _ _ hLS)), fun l2 hl2 => ?_⟩
        have s7 := same_new (o := .lst ((archM es).map V.str)) hl2
        have hl7 : (upd H6 l2 (.lst ((archM es).map V.str))) l2 = some (.lst ((archM es).map V.str)) := upd_same
        have s67 := s6.trans s7
        have ht7 := s7 _ _ ht6
        generalize upd H6 l2 (.lst ((archM es).map V.str)) = H7 at s7 hl7 s67 ht7 ⊢
        have ok7 : ∀ n ∈ en, EnR H7 n := fun n hn => (ok5 n hn).1.same s67
        walk_at "rs"
        refine ⟨t2, _, _, .non, rfl, rfl, SqT.of ht7, rfl, ?_⟩
        walk_at "rs"
        refine ⟨t2, _, _, .int ((posE (es.take i) : Nat) : Int), rfl, rfl, SqT.of ht7, rfl, ?_⟩
        have ah := ahead goods few4 (ws := ws) (ls := archM es) (c := i) (n := (archM es).length) (Nat.le_of_lt (by omega)) (by rw [ee]; exact pos_le _ _) (Nat.le_refl _) (fun _ _ => rfl) done
        have ed : Ends H7 (.non) (.int ((posE (es.take i) : Nat) : Int)) ws (archM es) (es.take (i)) := (ends_no goods (by omega) no (fun z => absurd (by omega) i1) (fun _ => ⟨rfl, rfl⟩))
        refine ⟨pw, l2, _, _, ws, archM es, es.take (i), rfl, SqL.of (s67 _ _ hpw5), gw, hl7, by omega, alim, ah.1, ah.2.1, ah.2.2.1, ah.2.2.2, ed.1, ed.2, fun H8 s8 => ?_⟩
        have s58 := s67.trans s8
        have ht8 := s8 _ _ ht7
        have d8 := dp_eDs (K := K) (fun n hn => (ok7 n hn).same s8)
        rw [hes] at d8
        walk_at "rs"
        refine ⟨t2, _, _, .non, rfl, rfl, SqT.of ht8, rfl, ?_⟩
        walk_at "rs"
        refine ⟨_, _, .non, .lst (SqL.of (s58 _ _ hR5)) d8, rfl, shaped_eDs oke, ?_⟩
        refine ⟨_, rfl, ?_⟩
        walk_at "rs"
        exact k _

end

theorem all_mk {l : PySem.W.OpenLaw} {w : World} {K : PySem.W.Frag} {h : Heap} {mg : Str → Option Value} {fa : Addr} (X : K.In h) (G : h.Ns mainGlobals mg) (hfa : mg "law" = some (.ref fa))
    {t_SIGNS : Tok} {t_DIGITS : Tok} {t_CODE_END : Tok} {t_MOST_DIGITS_wire : Tok} {t_MOST_DIGITS_commands : Tok} {t_MOST_SIGNS : Tok} {t_LETTERS : Tok} {t_BLOCK_SIGNS : Tok} {t_NONE : Tok} {t_HEAD : Tok} {t_KIND : Tok} {t_HEIGHT : Tok} {t_TURN : Tok} {t_BLOCK : Tok} {t_LEAN : Tok} {t_MOST_MEMBERS : Tok} {t_MOST_WEIGHT : Tok} {C_Reader : Addr} {C_Committee : Addr} {C_Ledger : Addr} {C_Chain : Addr} {C_Client : Addr} {f_prevote : Addr} {od_prevote an_prevote : Option Addr} {sl_prevote : Array (Option Value)} {oc_prevote kV_prevote dc_prevote pm_prevote cd_prevote ct_prevote : Value} {f_precommit : Addr} {od_precommit an_precommit : Option Addr} {sl_precommit : Array (Option Value)} {oc_precommit kV_precommit dc_precommit pm_precommit cd_precommit ct_precommit : Value} {f_is_number : Addr} {od_is_number an_is_number : Option Addr} {sl_is_number : Array (Option Value)} {oc_is_number kV_is_number dc_is_number pm_is_number cd_is_number ct_is_number : Value} {f_is_block : Addr} {od_is_block an_is_block : Option Addr} {sl_is_block : Array (Option Value)} {oc_is_block kV_is_block dc_is_block pm_is_block cd_is_block ct_is_block : Value} {f_word_at : Addr} {od_word_at an_word_at : Option Addr} {sl_word_at : Array (Option Value)} {oc_word_at kV_word_at dc_word_at pm_word_at cd_word_at ct_word_at : Value} {f_number_at : Addr} {od_number_at an_number_at : Option Addr} {sl_number_at : Array (Option Value)} {oc_number_at kV_number_at dc_number_at pm_number_at cd_number_at ct_number_at : Value} {f_kind_at : Addr} {od_kind_at an_kind_at : Option Addr} {sl_kind_at : Array (Option Value)} {oc_kind_at kV_kind_at dc_kind_at pm_kind_at cd_kind_at ct_kind_at : Value} {f_block_at : Addr} {od_block_at an_block_at : Option Addr} {sl_block_at : Array (Option Value)} {oc_block_at kV_block_at dc_block_at pm_block_at cd_block_at ct_block_at : Value} {f_lean_at : Addr} {od_lean_at an_lean_at : Option Addr} {sl_lean_at : Array (Option Value)} {oc_lean_at kV_lean_at dc_lean_at pm_lean_at cd_lean_at ct_lean_at : Value} {f_end_at : Addr} {od_end_at an_end_at : Option Addr} {sl_end_at : Array (Option Value)} {oc_end_at kV_end_at dc_end_at pm_end_at cd_end_at ct_end_at : Value} {f_read_letter : Addr} {od_read_letter an_read_letter : Option Addr} {sl_read_letter : Array (Option Value)} {oc_read_letter kV_read_letter dc_read_letter pm_read_letter cd_read_letter ct_read_letter : Value} {f_proposal : Addr} {od_proposal an_proposal : Option Addr} {sl_proposal : Array (Option Value)} {oc_proposal kV_proposal dc_proposal pm_proposal cd_proposal ct_proposal : Value} {f_word : Addr} {od_word an_word : Option Addr} {sl_word : Array (Option Value)} {oc_word kV_word dc_word pm_word cd_word ct_word : Value} {f_letter_line : Addr} {od_letter_line an_letter_line : Option Addr} {sl_letter_line : Array (Option Value)} {oc_letter_line kV_letter_line dc_letter_line pm_letter_line cd_letter_line ct_letter_line : Value} {f_first_wrong : Addr} {od_first_wrong an_first_wrong : Option Addr} {sl_first_wrong : Array (Option Value)} {oc_first_wrong kV_first_wrong dc_first_wrong pm_first_wrong cd_first_wrong ct_first_wrong : Value} {f_Committee_init : Addr} {od_Committee_init an_Committee_init : Option Addr} {sl_Committee_init : Array (Option Value)} {oc_Committee_init kV_Committee_init dc_Committee_init pm_Committee_init cd_Committee_init ct_Committee_init : Value} {f_Committee_weight_of : Addr} {od_Committee_weight_of an_Committee_weight_of : Option Addr} {sl_Committee_weight_of : Array (Option Value)} {oc_Committee_weight_of kV_Committee_weight_of dc_Committee_weight_of pm_Committee_weight_of cd_Committee_weight_of ct_Committee_weight_of : Value} {f_Committee_is_quorum : Addr} {od_Committee_is_quorum an_Committee_is_quorum : Option Addr} {sl_Committee_is_quorum : Array (Option Value)} {oc_Committee_is_quorum kV_Committee_is_quorum dc_Committee_is_quorum pm_Committee_is_quorum cd_Committee_is_quorum ct_Committee_is_quorum : Value} {f_votes_by_turn : Addr} {od_votes_by_turn an_votes_by_turn : Option Addr} {sl_votes_by_turn : Array (Option Value)} {oc_votes_by_turn kV_votes_by_turn dc_votes_by_turn pm_votes_by_turn cd_votes_by_turn ct_votes_by_turn : Value} {f_counts : Addr} {od_counts an_counts : Option Addr} {sl_counts : Array (Option Value)} {oc_counts kV_counts dc_counts pm_counts cd_counts ct_counts : Value} {f_certified_turns : Addr} {od_certified_turns an_certified_turns : Option Addr} {sl_certified_turns : Array (Option Value)} {oc_certified_turns kV_certified_turns dc_certified_turns pm_certified_turns cd_certified_turns ct_certified_turns : Value} {f_committed_turns : Addr} {od_committed_turns an_committed_turns : Option Addr} {sl_committed_turns : Array (Option Value)} {oc_committed_turns kV_committed_turns dc_committed_turns pm_committed_turns cd_committed_turns ct_committed_turns : Value} {f_shown_turn : Addr} {od_shown_turn an_shown_turn : Option Addr} {sl_shown_turn : Array (Option Value)} {oc_shown_turn kV_shown_turn dc_shown_turn pm_shown_turn cd_shown_turn ct_shown_turn : Value} {f_shows : Addr} {od_shows an_shows : Option Addr} {sl_shows : Array (Option Value)} {oc_shows kV_shows dc_shows pm_shows cd_shows ct_shows : Value} {f_law_cell : Addr} {od_law_cell an_law_cell : Option Addr} {sl_law_cell : Array (Option Value)} {oc_law_cell kV_law_cell dc_law_cell pm_law_cell cd_law_cell ct_law_cell : Value} {f_law_row : Addr} {od_law_row an_law_row : Option Addr} {sl_law_row : Array (Option Value)} {oc_law_row kV_law_row dc_law_row pm_law_row cd_law_row ct_law_row : Value} {f_law_weights : Addr} {od_law_weights an_law_weights : Option Addr} {sl_law_weights : Array (Option Value)} {oc_law_weights kV_law_weights dc_law_weights pm_law_weights cd_law_weights ct_law_weights : Value} {f_law_weight : Addr} {od_law_weight an_law_weight : Option Addr} {sl_law_weight : Array (Option Value)} {oc_law_weight kV_law_weight dc_law_weight pm_law_weight cd_law_weight ct_law_weight : Value} {f_law_certified : Addr} {od_law_certified an_law_certified : Option Addr} {sl_law_certified : Array (Option Value)} {oc_law_certified kV_law_certified dc_law_certified pm_law_certified cd_law_certified ct_law_certified : Value} {f_law_committed : Addr} {od_law_committed an_law_committed : Option Addr} {sl_law_committed : Array (Option Value)} {oc_law_committed kV_law_committed dc_law_committed pm_law_committed cd_law_committed ct_law_committed : Value} {f_Reader_init : Addr} {od_Reader_init an_Reader_init : Option Addr} {sl_Reader_init : Array (Option Value)} {oc_Reader_init kV_Reader_init dc_Reader_init pm_Reader_init cd_Reader_init ct_Reader_init : Value} {f_Reader_read_signs : Addr} {od_Reader_read_signs an_Reader_read_signs : Option Addr} {sl_Reader_read_signs : Array (Option Value)} {oc_Reader_read_signs kV_Reader_read_signs dc_Reader_read_signs pm_Reader_read_signs cd_Reader_read_signs ct_Reader_read_signs : Value} {f_Reader_skip : Addr} {od_Reader_skip an_Reader_skip : Option Addr} {sl_Reader_skip : Array (Option Value)} {oc_Reader_skip kV_Reader_skip dc_Reader_skip pm_Reader_skip cd_Reader_skip ct_Reader_skip : Value} {f_Reader_read_number : Addr} {od_Reader_read_number an_Reader_read_number : Option Addr} {sl_Reader_read_number : Array (Option Value)} {oc_Reader_read_number kV_Reader_read_number dc_Reader_read_number pm_Reader_read_number cd_Reader_read_number ct_Reader_read_number : Value} {f_Reader_read_code : Addr} {od_Reader_read_code an_Reader_read_code : Option Addr} {sl_Reader_read_code : Array (Option Value)} {oc_Reader_read_code kV_Reader_read_code dc_Reader_read_code pm_Reader_read_code cd_Reader_read_code ct_Reader_read_code : Value} {f_Reader_read_command : Addr} {od_Reader_read_command an_Reader_read_command : Option Addr} {sl_Reader_read_command : Array (Option Value)} {oc_Reader_read_command kV_Reader_read_command dc_Reader_read_command pm_Reader_read_command cd_Reader_read_command ct_Reader_read_command : Value} {f_commands_of : Addr} {od_commands_of an_commands_of : Option Addr} {sl_commands_of : Array (Option Value)} {oc_commands_of kV_commands_of dc_commands_of pm_commands_of cd_commands_of ct_commands_of : Value} {f_Ledger_init : Addr} {od_Ledger_init an_Ledger_init : Option Addr} {sl_Ledger_init : Array (Option Value)} {oc_Ledger_init kV_Ledger_init dc_Ledger_init pm_Ledger_init cd_Ledger_init ct_Ledger_init : Value} {f_first_ledger : Addr} {od_first_ledger an_first_ledger : Option Addr} {sl_first_ledger : Array (Option Value)} {oc_first_ledger kV_first_ledger dc_first_ledger pm_first_ledger cd_first_ledger ct_first_ledger : Value} {f_Chain_init : Addr} {od_Chain_init an_Chain_init : Option Addr} {sl_Chain_init : Array (Option Value)} {oc_Chain_init kV_Chain_init dc_Chain_init pm_Chain_init cd_Chain_init ct_Chain_init : Value} {f_Chain_height : Addr} {od_Chain_height an_Chain_height : Option Addr} {sl_Chain_height : Array (Option Value)} {oc_Chain_height kV_Chain_height dc_Chain_height pm_Chain_height cd_Chain_height ct_Chain_height : Value} {f_Chain_committee : Addr} {od_Chain_committee an_Chain_committee : Option Addr} {sl_Chain_committee : Array (Option Value)} {oc_Chain_committee kV_Chain_committee dc_Chain_committee pm_Chain_committee cd_Chain_committee ct_Chain_committee : Value} {f_Chain_extend : Addr} {od_Chain_extend an_Chain_extend : Option Addr} {sl_Chain_extend : Array (Option Value)} {oc_Chain_extend kV_Chain_extend dc_Chain_extend pm_Chain_extend cd_Chain_extend ct_Chain_extend : Value} {f_after_weight : Addr} {od_after_weight an_after_weight : Option Addr} {sl_after_weight : Array (Option Value)} {oc_after_weight kV_after_weight dc_after_weight pm_after_weight cd_after_weight ct_after_weight : Value} {f_Client_init : Addr} {od_Client_init an_Client_init : Option Addr} {sl_Client_init : Array (Option Value)} {oc_Client_init kV_Client_init dc_Client_init pm_Client_init cd_Client_init ct_Client_init : Value} {f_Client_follow : Addr} {od_Client_follow an_Client_follow : Option Addr} {sl_Client_follow : Array (Option Value)} {oc_Client_follow kV_Client_follow dc_Client_follow pm_Client_follow cd_Client_follow ct_Client_follow : Value} {f_read_head : Addr} {od_read_head an_read_head : Option Addr} {sl_read_head : Array (Option Value)} {oc_read_head kV_read_head dc_read_head pm_read_head cd_read_head ct_read_head : Value} {f_archive_lines : Addr} {od_archive_lines an_archive_lines : Option Addr} {sl_archive_lines : Array (Option Value)} {oc_archive_lines kV_archive_lines dc_archive_lines pm_archive_lines cd_archive_lines ct_archive_lines : Value} {f_law_shows : Addr} {od_law_shows an_law_shows : Option Addr} {sl_law_shows : Array (Option Value)} {oc_law_shows kV_law_shows dc_law_shows pm_law_shows cd_law_shows ct_law_shows : Value} {f_law_paper : Addr} {od_law_paper an_law_paper : Option Addr} {sl_law_paper : Array (Option Value)} {oc_law_paper kV_law_paper dc_law_paper pm_law_paper cd_law_paper ct_law_paper : Value} {f_law_block : Addr} {od_law_block an_law_block : Option Addr} {sl_law_block : Array (Option Value)} {oc_law_block kV_law_block dc_law_block pm_law_block cd_law_block ct_law_block : Value} {f_law_reweighted : Addr} {od_law_reweighted an_law_reweighted : Option Addr} {sl_law_reweighted : Array (Option Value)} {oc_law_reweighted kV_law_reweighted dc_law_reweighted pm_law_reweighted cd_law_reweighted ct_law_reweighted : Value} {f_law_is_integer : Addr} {od_law_is_integer an_law_is_integer : Option Addr} {sl_law_is_integer : Array (Option Value)} {oc_law_is_integer kV_law_is_integer dc_law_is_integer pm_law_is_integer cd_law_is_integer ct_law_is_integer : Value} {f_law_line : Addr} {od_law_line an_law_line : Option Addr} {sl_law_line : Array (Option Value)} {oc_law_line kV_law_line dc_law_line pm_law_line cd_law_line ct_law_line : Value} {f_refuse_before_end : Addr} {od_refuse_before_end an_refuse_before_end : Option Addr} {sl_refuse_before_end : Array (Option Value)} {oc_refuse_before_end kV_refuse_before_end dc_refuse_before_end pm_refuse_before_end cd_refuse_before_end ct_refuse_before_end : Value} {f_entry_at : Addr} {od_entry_at an_entry_at : Option Addr} {sl_entry_at : Array (Option Value)} {oc_entry_at kV_entry_at dc_entry_at pm_entry_at cd_entry_at ct_entry_at : Value} {f_read_archive : Addr} {od_read_archive an_read_archive : Option Addr} {sl_read_archive : Array (Option Value)} {oc_read_archive kV_read_archive dc_read_archive pm_read_archive cd_read_archive ct_read_archive : Value} {f_law_lines : Addr} {od_law_lines an_law_lines : Option Addr} {sl_law_lines : Array (Option Value)} {oc_law_lines kV_law_lines dc_law_lines pm_law_lines cd_law_lines ct_law_lines : Value} {f_law_due : Addr} {od_law_due an_law_due : Option Addr} {sl_law_due : Array (Option Value)} {oc_law_due kV_law_due dc_law_due pm_law_due cd_law_due ct_law_due : Value} {f_law_read : Addr} {od_law_read an_law_read : Option Addr} {sl_law_read : Array (Option Value)} {oc_law_read kV_law_read dc_law_read pm_law_read cd_law_read ct_law_read : Value} {f_law_spoilt : Addr} {od_law_spoilt an_law_spoilt : Option Addr} {sl_law_spoilt : Array (Option Value)} {oc_law_spoilt kV_law_spoilt dc_law_spoilt pm_law_spoilt cd_law_spoilt ct_law_spoilt : Value} {f_law : Addr} {od_law an_law : Option Addr} {sl_law : Array (Option Value)} {oc_law kV_law dc_law pm_law cd_law ct_law : Value} {P_MARKS M_MARKS_p M_MARKS_w M_MARKS_d M_MARKS_k : Addr} {n_MARKS : Nat} {h_MARKS_p h_MARKS_w h_MARKS_d h_MARKS_k : Int} {t_MARKS_p t_MARKS_w t_MARKS_d t_MARKS_k : Tok} {od_MARKS_p : Option Addr} {sl_MARKS_p : Array (Option Value)} {n_MARKS_p : Nat} {t0_MARKS_p t1_MARKS_p t2_MARKS_p : Tok} {od_MARKS_w : Option Addr} {sl_MARKS_w : Array (Option Value)} {n_MARKS_w : Nat} {t0_MARKS_w t1_MARKS_w : Tok} {od_MARKS_d : Option Addr} {sl_MARKS_d : Array (Option Value)} {n_MARKS_d : Nat} {t0_MARKS_d t1_MARKS_d : Tok} {od_MARKS_k : Option Addr} {sl_MARKS_k : Array (Option Value)} {n_MARKS_k : Nat} {t0_MARKS_k t1_MARKS_k t2_MARKS_k : Tok} {C_BadCommand : Addr} {C_BadPaper : Addr} {C_BadLine f_BadLine_init : Addr} {nm_BadLine q_BadLine : Str} {N_BadLine : Addr} {bs_BadLine bm_BadLine : List Value} {sn_BadLine : List Str} {sub_BadLine : List Value} {ab_BadLine : Bool} {col_BadLine : Option Bool} {dd_BadLine : Option Addr} {k0_BadLine k1_BadLine k2_BadLine k3_BadLine k5_BadLine : Option Value} {od_BadLine_init an_BadLine_init : Option Addr} {sl_BadLine_init : Array (Option Value)} {oc_BadLine_init kV_BadLine_init dc_BadLine_init pm_BadLine_init ct_BadLine_init : Value} {cda_BadLine_init cc_BadLine_init : Addr} {cl_BadLine_init ccl_BadLine_init : Value} {cld_BadLine_init cdd_BadLine_init : Option Addr} {csl_BadLine_init ccs_BadLine_init : Array (Option Value)} {vs_BadLine_init : Array Value} {file_BadLine_init : Str} {tf_BadLine_init : Tok} {C_BadArchive f_BadArchive_init : Addr} {nm_BadArchive q_BadArchive : Str} {N_BadArchive : Addr} {bs_BadArchive bm_BadArchive : List Value} {sn_BadArchive : List Str} {sub_BadArchive : List Value} {ab_BadArchive : Bool} {col_BadArchive : Option Bool} {dd_BadArchive : Option Addr} {k0_BadArchive k1_BadArchive k2_BadArchive k3_BadArchive k5_BadArchive : Option Value} {od_BadArchive_init an_BadArchive_init : Option Addr} {sl_BadArchive_init : Array (Option Value)} {oc_BadArchive_init kV_BadArchive_init dc_BadArchive_init pm_BadArchive_init ct_BadArchive_init : Value} {cda_BadArchive_init cc_BadArchive_init : Addr} {cl_BadArchive_init ccl_BadArchive_init : Value} {cld_BadArchive_init cdd_BadArchive_init : Option Addr} {csl_BadArchive_init ccs_BadArchive_init : Array (Option Value)} {vs_BadArchive_init : Array Value} {file_BadArchive_init : Str} {tf_BadArchive_init : Tok} {P_KINDS : Addr} {od_KINDS : Option Addr} {sl_KINDS : Array (Option Value)} {n_KINDS : Nat} {t0_KINDS : Tok} {t1_KINDS : Tok} {t2_KINDS : Tok} {C_TribunalError : Addr}
    (c_SIGNS : PySem.W.nsIn K mainGlobals "SIGNS" = some (some (.str "0123456789ginasmtcehlujfyo" t_SIGNS)))
    (c_DIGITS : PySem.W.nsIn K mainGlobals "DIGITS" = some (some (.str "0123456789" t_DIGITS)))
    (c_CODE_END : PySem.W.nsIn K mainGlobals "CODE_END" = some (some (.str "z" t_CODE_END)))
    (c_MOST_DIGITS_wire : PySem.W.nsIn K mainGlobals "MOST_DIGITS_wire" = some (some (.int 9 t_MOST_DIGITS_wire)))
    (c_MOST_DIGITS_commands : PySem.W.nsIn K mainGlobals "MOST_DIGITS_commands" = some (some (.int 6 t_MOST_DIGITS_commands)))
    (c_MOST_SIGNS : PySem.W.nsIn K mainGlobals "MOST_SIGNS" = some (some (.int 60 t_MOST_SIGNS)))
    (c_LETTERS : PySem.W.nsIn K mainGlobals "LETTERS" = some (some (.str "abcdefghijklmnopqrstuvwxyz" t_LETTERS)))
    (c_BLOCK_SIGNS : PySem.W.nsIn K mainGlobals "BLOCK_SIGNS" = some (some (.str "abcdefghijklmnopqrstuvwxyz0123456789" t_BLOCK_SIGNS)))
    (c_NONE : PySem.W.nsIn K mainGlobals "NONE" = some (some (.str "-" t_NONE)))
    (c_HEAD : PySem.W.nsIn K mainGlobals "HEAD" = some (some (.str "block" t_HEAD)))
    (c_KIND : PySem.W.nsIn K mainGlobals "KIND" = some (some (.int 0 t_KIND)))
    (c_HEIGHT : PySem.W.nsIn K mainGlobals "HEIGHT" = some (some (.int 1 t_HEIGHT)))
    (c_TURN : PySem.W.nsIn K mainGlobals "TURN" = some (some (.int 2 t_TURN)))
    (c_BLOCK : PySem.W.nsIn K mainGlobals "BLOCK" = some (some (.int 3 t_BLOCK)))
    (c_LEAN : PySem.W.nsIn K mainGlobals "LEAN" = some (some (.int 4 t_LEAN)))
    (c_MOST_MEMBERS : PySem.W.nsIn K mainGlobals "MOST_MEMBERS" = some (some (.int 16 t_MOST_MEMBERS)))
    (c_MOST_WEIGHT : PySem.W.nsIn K mainGlobals "MOST_WEIGHT" = some (some (.int 1000000000000 t_MOST_WEIGHT)))
    (n_len : PySem.W.nsIn K mainGlobals "len" = some none)
    (n_range : PySem.W.nsIn K mainGlobals "range" = some none)
    (n_isinstance : PySem.W.nsIn K mainGlobals "isinstance" = some none)
    (n_int : PySem.W.nsIn K mainGlobals "int" = some none)
    (n_bool : PySem.W.nsIn K mainGlobals "bool" = some none)
    (n_list : PySem.W.nsIn K mainGlobals "list" = some none)
    (n_tuple : PySem.W.nsIn K mainGlobals "tuple" = some none)
    (n_str : PySem.W.nsIn K mainGlobals "str" = some none)
    (n_zip : PySem.W.nsIn K mainGlobals "zip" = some none)
    (n_enumerate : PySem.W.nsIn K mainGlobals "enumerate" = some none)
    (n_max : PySem.W.nsIn K mainGlobals "max" = some none)
    (n_abs : PySem.W.nsIn K mainGlobals "abs" = some none)
    (n_sum : PySem.W.nsIn K mainGlobals "sum" = some none)
    (n_set : PySem.W.nsIn K mainGlobals "set" = some none)
    (n_sorted : PySem.W.nsIn K mainGlobals "sorted" = some none)
    (n_min : PySem.W.nsIn K mainGlobals "min" = some none)
    (n_super : PySem.W.nsIn K mainGlobals "super" = some none)
    (n_ValueError : PySem.W.nsIn K mainGlobals "ValueError" = some none)
    (n_all : PySem.W.nsIn K mainGlobals "all" = some none)
    (g_Reader : PySem.W.nsIn K mainGlobals "Reader" = some (some (.ref C_Reader)))
    (g_Committee : PySem.W.nsIn K mainGlobals "Committee" = some (some (.ref C_Committee)))
    (g_Ledger : PySem.W.nsIn K mainGlobals "Ledger" = some (some (.ref C_Ledger)))
    (g_Chain : PySem.W.nsIn K mainGlobals "Chain" = some (some (.ref C_Chain)))
    (g_Client : PySem.W.nsIn K mainGlobals "Client" = some (some (.ref C_Client)))
    (a_prevote : PySem.W.nsIn K mainGlobals "prevote" = some (some (.ref f_prevote)))
    (l_prevote : K.lookup f_prevote = some ⟨oc_prevote, od_prevote, .func (PySem.W.fnOf "prevote" "prevote" (defArgs s_prevote) (defBody s_prevote) (defScope s_prevote) .none kV_prevote dc_prevote pm_prevote an_prevote cd_prevote ct_prevote), sl_prevote⟩)
    (q_prevote : PySem.W.codeIn K cd_prevote "prevote" = true)
    (k_prevote : PySem.W.keepIn K (.ref f_prevote) = true)
    (a_precommit : PySem.W.nsIn K mainGlobals "precommit" = some (some (.ref f_precommit)))
    (l_precommit : K.lookup f_precommit = some ⟨oc_precommit, od_precommit, .func (PySem.W.fnOf "precommit" "precommit" (defArgs s_precommit) (defBody s_precommit) (defScope s_precommit) .none kV_precommit dc_precommit pm_precommit an_precommit cd_precommit ct_precommit), sl_precommit⟩)
    (q_precommit : PySem.W.codeIn K cd_precommit "precommit" = true)
    (k_precommit : PySem.W.keepIn K (.ref f_precommit) = true)
    (a_is_number : PySem.W.nsIn K mainGlobals "is_number" = some (some (.ref f_is_number)))
    (l_is_number : K.lookup f_is_number = some ⟨oc_is_number, od_is_number, .func (PySem.W.fnOf "is_number" "is_number" (defArgs s_is_number) (defBody s_is_number) (defScope s_is_number) .none kV_is_number dc_is_number pm_is_number an_is_number cd_is_number ct_is_number), sl_is_number⟩)
    (q_is_number : PySem.W.codeIn K cd_is_number "is_number" = true)
    (k_is_number : PySem.W.keepIn K (.ref f_is_number) = true)
    (a_is_block : PySem.W.nsIn K mainGlobals "is_block" = some (some (.ref f_is_block)))
    (l_is_block : K.lookup f_is_block = some ⟨oc_is_block, od_is_block, .func (PySem.W.fnOf "is_block" "is_block" (defArgs s_is_block) (defBody s_is_block) (defScope s_is_block) .none kV_is_block dc_is_block pm_is_block an_is_block cd_is_block ct_is_block), sl_is_block⟩)
    (q_is_block : PySem.W.codeIn K cd_is_block "is_block" = true)
    (k_is_block : PySem.W.keepIn K (.ref f_is_block) = true)
    (a_word_at : PySem.W.nsIn K mainGlobals "_word_at" = some (some (.ref f_word_at)))
    (l_word_at : K.lookup f_word_at = some ⟨oc_word_at, od_word_at, .func (PySem.W.fnOf "_word_at" "_word_at" (defArgs s_word_at) (defBody s_word_at) (defScope s_word_at) .none kV_word_at dc_word_at pm_word_at an_word_at cd_word_at ct_word_at), sl_word_at⟩)
    (q_word_at : PySem.W.codeIn K cd_word_at "_word_at" = true)
    (k_word_at : PySem.W.keepIn K (.ref f_word_at) = true)
    (a_number_at : PySem.W.nsIn K mainGlobals "_number_at" = some (some (.ref f_number_at)))
    (l_number_at : K.lookup f_number_at = some ⟨oc_number_at, od_number_at, .func (PySem.W.fnOf "_number_at" "_number_at" (defArgs s_number_at) (defBody s_number_at) (defScope s_number_at) .none kV_number_at dc_number_at pm_number_at an_number_at cd_number_at ct_number_at), sl_number_at⟩)
    (q_number_at : PySem.W.codeIn K cd_number_at "_number_at" = true)
    (k_number_at : PySem.W.keepIn K (.ref f_number_at) = true)
    (a_kind_at : PySem.W.nsIn K mainGlobals "_kind_at" = some (some (.ref f_kind_at)))
    (l_kind_at : K.lookup f_kind_at = some ⟨oc_kind_at, od_kind_at, .func (PySem.W.fnOf "_kind_at" "_kind_at" (defArgs s_kind_at) (defBody s_kind_at) (defScope s_kind_at) .none kV_kind_at dc_kind_at pm_kind_at an_kind_at cd_kind_at ct_kind_at), sl_kind_at⟩)
    (q_kind_at : PySem.W.codeIn K cd_kind_at "_kind_at" = true)
    (k_kind_at : PySem.W.keepIn K (.ref f_kind_at) = true)
    (a_block_at : PySem.W.nsIn K mainGlobals "_block_at" = some (some (.ref f_block_at)))
    (l_block_at : K.lookup f_block_at = some ⟨oc_block_at, od_block_at, .func (PySem.W.fnOf "_block_at" "_block_at" (defArgs s_block_at) (defBody s_block_at) (defScope s_block_at) .none kV_block_at dc_block_at pm_block_at an_block_at cd_block_at ct_block_at), sl_block_at⟩)
    (q_block_at : PySem.W.codeIn K cd_block_at "_block_at" = true)
    (k_block_at : PySem.W.keepIn K (.ref f_block_at) = true)
    (a_lean_at : PySem.W.nsIn K mainGlobals "_lean_at" = some (some (.ref f_lean_at)))
    (l_lean_at : K.lookup f_lean_at = some ⟨oc_lean_at, od_lean_at, .func (PySem.W.fnOf "_lean_at" "_lean_at" (defArgs s_lean_at) (defBody s_lean_at) (defScope s_lean_at) .none kV_lean_at dc_lean_at pm_lean_at an_lean_at cd_lean_at ct_lean_at), sl_lean_at⟩)
    (q_lean_at : PySem.W.codeIn K cd_lean_at "_lean_at" = true)
    (k_lean_at : PySem.W.keepIn K (.ref f_lean_at) = true)
    (a_end_at : PySem.W.nsIn K mainGlobals "_end_at" = some (some (.ref f_end_at)))
    (l_end_at : K.lookup f_end_at = some ⟨oc_end_at, od_end_at, .func (PySem.W.fnOf "_end_at" "_end_at" (defArgs s_end_at) (defBody s_end_at) (defScope s_end_at) .none kV_end_at dc_end_at pm_end_at an_end_at cd_end_at ct_end_at), sl_end_at⟩)
    (q_end_at : PySem.W.codeIn K cd_end_at "_end_at" = true)
    (k_end_at : PySem.W.keepIn K (.ref f_end_at) = true)
    (a_read_letter : PySem.W.nsIn K mainGlobals "read_letter" = some (some (.ref f_read_letter)))
    (l_read_letter : K.lookup f_read_letter = some ⟨oc_read_letter, od_read_letter, .func (PySem.W.fnOf "read_letter" "read_letter" (defArgs s_read_letter) (defBody s_read_letter) (defScope s_read_letter) .none kV_read_letter dc_read_letter pm_read_letter an_read_letter cd_read_letter ct_read_letter), sl_read_letter⟩)
    (q_read_letter : PySem.W.codeIn K cd_read_letter "read_letter" = true)
    (k_read_letter : PySem.W.keepIn K (.ref f_read_letter) = true)
    (a_proposal : PySem.W.nsIn K mainGlobals "proposal" = some (some (.ref f_proposal)))
    (l_proposal : K.lookup f_proposal = some ⟨oc_proposal, od_proposal, .func (PySem.W.fnOf "proposal" "proposal" (defArgs s_proposal) (defBody s_proposal) (defScope s_proposal) .none kV_proposal dc_proposal pm_proposal an_proposal cd_proposal ct_proposal), sl_proposal⟩)
    (q_proposal : PySem.W.codeIn K cd_proposal "proposal" = true)
    (k_proposal : PySem.W.keepIn K (.ref f_proposal) = true)
    (a_word : PySem.W.nsIn K mainGlobals "_word" = some (some (.ref f_word)))
    (l_word : K.lookup f_word = some ⟨oc_word, od_word, .func (PySem.W.fnOf "_word" "_word" (defArgs s_word) (defBody s_word) (defScope s_word) .none kV_word dc_word pm_word an_word cd_word ct_word), sl_word⟩)
    (q_word : PySem.W.codeIn K cd_word "_word" = true)
    (k_word : PySem.W.keepIn K (.ref f_word) = true)
    (a_letter_line : PySem.W.nsIn K mainGlobals "letter_line" = some (some (.ref f_letter_line)))
    (l_letter_line : K.lookup f_letter_line = some ⟨oc_letter_line, od_letter_line, .func (PySem.W.fnOf "letter_line" "letter_line" (defArgs s_letter_line) (defBody s_letter_line) (defScope s_letter_line) .none kV_letter_line dc_letter_line pm_letter_line an_letter_line cd_letter_line ct_letter_line), sl_letter_line⟩)
    (q_letter_line : PySem.W.codeIn K cd_letter_line "letter_line" = true)
    (k_letter_line : PySem.W.keepIn K (.ref f_letter_line) = true)
    (a_first_wrong : PySem.W.nsIn K mainGlobals "_first_wrong" = some (some (.ref f_first_wrong)))
    (l_first_wrong : K.lookup f_first_wrong = some ⟨oc_first_wrong, od_first_wrong, .func (PySem.W.fnOf "_first_wrong" "_first_wrong" (defArgs s_first_wrong) (defBody s_first_wrong) (defScope s_first_wrong) .none kV_first_wrong dc_first_wrong pm_first_wrong an_first_wrong cd_first_wrong ct_first_wrong), sl_first_wrong⟩)
    (q_first_wrong : PySem.W.codeIn K cd_first_wrong "_first_wrong" = true)
    (k_first_wrong : PySem.W.keepIn K (.ref f_first_wrong) = true)
    (a_Committee_init : PySem.W.findIn K (.ref C_Committee) "__init__" = some (some (.ref f_Committee_init)))
    (i_Committee_init : PySem.W.isFn K (.ref f_Committee_init) = true)
    (l_Committee_init : K.lookup f_Committee_init = some ⟨oc_Committee_init, od_Committee_init, .func (PySem.W.fnOf "__init__" "Committee.__init__" (defArgs s_Committee_init) (defBody s_Committee_init) (defScope s_Committee_init) .none kV_Committee_init dc_Committee_init pm_Committee_init an_Committee_init cd_Committee_init ct_Committee_init), sl_Committee_init⟩)
    (q_Committee_init : PySem.W.codeIn K cd_Committee_init "Committee.__init__" = true)
    (k_Committee_init : PySem.W.keepIn K (.ref f_Committee_init) = true)
    (a_Committee_weight_of : PySem.W.findIn K (.ref C_Committee) "weight_of" = some (some (.ref f_Committee_weight_of)))
    (i_Committee_weight_of : PySem.W.isFn K (.ref f_Committee_weight_of) = true)
    (l_Committee_weight_of : K.lookup f_Committee_weight_of = some ⟨oc_Committee_weight_of, od_Committee_weight_of, .func (PySem.W.fnOf "weight_of" "Committee.weight_of" (defArgs s_Committee_weight_of) (defBody s_Committee_weight_of) (defScope s_Committee_weight_of) .none kV_Committee_weight_of dc_Committee_weight_of pm_Committee_weight_of an_Committee_weight_of cd_Committee_weight_of ct_Committee_weight_of), sl_Committee_weight_of⟩)
    (q_Committee_weight_of : PySem.W.codeIn K cd_Committee_weight_of "Committee.weight_of" = true)
    (k_Committee_weight_of : PySem.W.keepIn K (.ref f_Committee_weight_of) = true)
    (a_Committee_is_quorum : PySem.W.findIn K (.ref C_Committee) "is_quorum" = some (some (.ref f_Committee_is_quorum)))
    (i_Committee_is_quorum : PySem.W.isFn K (.ref f_Committee_is_quorum) = true)
    (l_Committee_is_quorum : K.lookup f_Committee_is_quorum = some ⟨oc_Committee_is_quorum, od_Committee_is_quorum, .func (PySem.W.fnOf "is_quorum" "Committee.is_quorum" (defArgs s_Committee_is_quorum) (defBody s_Committee_is_quorum) (defScope s_Committee_is_quorum) .none kV_Committee_is_quorum dc_Committee_is_quorum pm_Committee_is_quorum an_Committee_is_quorum cd_Committee_is_quorum ct_Committee_is_quorum), sl_Committee_is_quorum⟩)
    (q_Committee_is_quorum : PySem.W.codeIn K cd_Committee_is_quorum "Committee.is_quorum" = true)
    (k_Committee_is_quorum : PySem.W.keepIn K (.ref f_Committee_is_quorum) = true)
    (a_votes_by_turn : PySem.W.nsIn K mainGlobals "votes_by_turn" = some (some (.ref f_votes_by_turn)))
    (l_votes_by_turn : K.lookup f_votes_by_turn = some ⟨oc_votes_by_turn, od_votes_by_turn, .func (PySem.W.fnOf "votes_by_turn" "votes_by_turn" (defArgs s_votes_by_turn) (defBody s_votes_by_turn) (defScope s_votes_by_turn) .none kV_votes_by_turn dc_votes_by_turn pm_votes_by_turn an_votes_by_turn cd_votes_by_turn ct_votes_by_turn), sl_votes_by_turn⟩)
    (q_votes_by_turn : PySem.W.codeIn K cd_votes_by_turn "votes_by_turn" = true)
    (k_votes_by_turn : PySem.W.keepIn K (.ref f_votes_by_turn) = true)
    (a_counts : PySem.W.nsIn K mainGlobals "counts" = some (some (.ref f_counts)))
    (l_counts : K.lookup f_counts = some ⟨oc_counts, od_counts, .func (PySem.W.fnOf "counts" "counts" (defArgs s_counts) (defBody s_counts) (defScope s_counts) .none kV_counts dc_counts pm_counts an_counts cd_counts ct_counts), sl_counts⟩)
    (q_counts : PySem.W.codeIn K cd_counts "counts" = true)
    (k_counts : PySem.W.keepIn K (.ref f_counts) = true)
    (a_certified_turns : PySem.W.nsIn K mainGlobals "certified_turns" = some (some (.ref f_certified_turns)))
    (l_certified_turns : K.lookup f_certified_turns = some ⟨oc_certified_turns, od_certified_turns, .func (PySem.W.fnOf "certified_turns" "certified_turns" (defArgs s_certified_turns) (defBody s_certified_turns) (defScope s_certified_turns) .none kV_certified_turns dc_certified_turns pm_certified_turns an_certified_turns cd_certified_turns ct_certified_turns), sl_certified_turns⟩)
    (q_certified_turns : PySem.W.codeIn K cd_certified_turns "certified_turns" = true)
    (k_certified_turns : PySem.W.keepIn K (.ref f_certified_turns) = true)
    (a_committed_turns : PySem.W.nsIn K mainGlobals "committed_turns" = some (some (.ref f_committed_turns)))
    (l_committed_turns : K.lookup f_committed_turns = some ⟨oc_committed_turns, od_committed_turns, .func (PySem.W.fnOf "committed_turns" "committed_turns" (defArgs s_committed_turns) (defBody s_committed_turns) (defScope s_committed_turns) .none kV_committed_turns dc_committed_turns pm_committed_turns an_committed_turns cd_committed_turns ct_committed_turns), sl_committed_turns⟩)
    (q_committed_turns : PySem.W.codeIn K cd_committed_turns "committed_turns" = true)
    (k_committed_turns : PySem.W.keepIn K (.ref f_committed_turns) = true)
    (a_shown_turn : PySem.W.nsIn K mainGlobals "shown_turn" = some (some (.ref f_shown_turn)))
    (l_shown_turn : K.lookup f_shown_turn = some ⟨oc_shown_turn, od_shown_turn, .func (PySem.W.fnOf "shown_turn" "shown_turn" (defArgs s_shown_turn) (defBody s_shown_turn) (defScope s_shown_turn) .none kV_shown_turn dc_shown_turn pm_shown_turn an_shown_turn cd_shown_turn ct_shown_turn), sl_shown_turn⟩)
    (q_shown_turn : PySem.W.codeIn K cd_shown_turn "shown_turn" = true)
    (k_shown_turn : PySem.W.keepIn K (.ref f_shown_turn) = true)
    (a_shows : PySem.W.nsIn K mainGlobals "shows" = some (some (.ref f_shows)))
    (l_shows : K.lookup f_shows = some ⟨oc_shows, od_shows, .func (PySem.W.fnOf "shows" "shows" (defArgs s_shows) (defBody s_shows) (defScope s_shows) .none kV_shows dc_shows pm_shows an_shows cd_shows ct_shows), sl_shows⟩)
    (q_shows : PySem.W.codeIn K cd_shows "shows" = true)
    (k_shows : PySem.W.keepIn K (.ref f_shows) = true)
    (a_law_cell : PySem.W.nsIn K mainGlobals "_law_cell" = some (some (.ref f_law_cell)))
    (l_law_cell : K.lookup f_law_cell = some ⟨oc_law_cell, od_law_cell, .func (PySem.W.fnOf "_law_cell" "_law_cell" (defArgs s_law_cell) (defBody s_law_cell) (defScope s_law_cell) .none kV_law_cell dc_law_cell pm_law_cell an_law_cell cd_law_cell ct_law_cell), sl_law_cell⟩)
    (q_law_cell : PySem.W.codeIn K cd_law_cell "_law_cell" = true)
    (k_law_cell : PySem.W.keepIn K (.ref f_law_cell) = true)
    (a_law_row : PySem.W.nsIn K mainGlobals "_law_row" = some (some (.ref f_law_row)))
    (l_law_row : K.lookup f_law_row = some ⟨oc_law_row, od_law_row, .func (PySem.W.fnOf "_law_row" "_law_row" (defArgs s_law_row) (defBody s_law_row) (defScope s_law_row) .none kV_law_row dc_law_row pm_law_row an_law_row cd_law_row ct_law_row), sl_law_row⟩)
    (q_law_row : PySem.W.codeIn K cd_law_row "_law_row" = true)
    (k_law_row : PySem.W.keepIn K (.ref f_law_row) = true)
    (a_law_weights : PySem.W.nsIn K mainGlobals "_law_weights" = some (some (.ref f_law_weights)))
    (l_law_weights : K.lookup f_law_weights = some ⟨oc_law_weights, od_law_weights, .func (PySem.W.fnOf "_law_weights" "_law_weights" (defArgs s_law_weights) (defBody s_law_weights) (defScope s_law_weights) .none kV_law_weights dc_law_weights pm_law_weights an_law_weights cd_law_weights ct_law_weights), sl_law_weights⟩)
    (q_law_weights : PySem.W.codeIn K cd_law_weights "_law_weights" = true)
    (k_law_weights : PySem.W.keepIn K (.ref f_law_weights) = true)
    (a_law_weight : PySem.W.nsIn K mainGlobals "_law_weight" = some (some (.ref f_law_weight)))
    (l_law_weight : K.lookup f_law_weight = some ⟨oc_law_weight, od_law_weight, .func (PySem.W.fnOf "_law_weight" "_law_weight" (defArgs s_law_weight) (defBody s_law_weight) (defScope s_law_weight) .none kV_law_weight dc_law_weight pm_law_weight an_law_weight cd_law_weight ct_law_weight), sl_law_weight⟩)
    (q_law_weight : PySem.W.codeIn K cd_law_weight "_law_weight" = true)
    (k_law_weight : PySem.W.keepIn K (.ref f_law_weight) = true)
    (a_law_certified : PySem.W.nsIn K mainGlobals "_law_certified" = some (some (.ref f_law_certified)))
    (l_law_certified : K.lookup f_law_certified = some ⟨oc_law_certified, od_law_certified, .func (PySem.W.fnOf "_law_certified" "_law_certified" (defArgs s_law_certified) (defBody s_law_certified) (defScope s_law_certified) .none kV_law_certified dc_law_certified pm_law_certified an_law_certified cd_law_certified ct_law_certified), sl_law_certified⟩)
    (q_law_certified : PySem.W.codeIn K cd_law_certified "_law_certified" = true)
    (k_law_certified : PySem.W.keepIn K (.ref f_law_certified) = true)
    (a_law_committed : PySem.W.nsIn K mainGlobals "_law_committed" = some (some (.ref f_law_committed)))
    (l_law_committed : K.lookup f_law_committed = some ⟨oc_law_committed, od_law_committed, .func (PySem.W.fnOf "_law_committed" "_law_committed" (defArgs s_law_committed) (defBody s_law_committed) (defScope s_law_committed) .none kV_law_committed dc_law_committed pm_law_committed an_law_committed cd_law_committed ct_law_committed), sl_law_committed⟩)
    (q_law_committed : PySem.W.codeIn K cd_law_committed "_law_committed" = true)
    (k_law_committed : PySem.W.keepIn K (.ref f_law_committed) = true)
    (a_Reader_init : PySem.W.findIn K (.ref C_Reader) "__init__" = some (some (.ref f_Reader_init)))
    (i_Reader_init : PySem.W.isFn K (.ref f_Reader_init) = true)
    (l_Reader_init : K.lookup f_Reader_init = some ⟨oc_Reader_init, od_Reader_init, .func (PySem.W.fnOf "__init__" "Reader.__init__" (defArgs s_Reader_init) (defBody s_Reader_init) (defScope s_Reader_init) .none kV_Reader_init dc_Reader_init pm_Reader_init an_Reader_init cd_Reader_init ct_Reader_init), sl_Reader_init⟩)
    (q_Reader_init : PySem.W.codeIn K cd_Reader_init "Reader.__init__" = true)
    (k_Reader_init : PySem.W.keepIn K (.ref f_Reader_init) = true)
    (a_Reader_read_signs : PySem.W.findIn K (.ref C_Reader) "read_signs" = some (some (.ref f_Reader_read_signs)))
    (i_Reader_read_signs : PySem.W.isFn K (.ref f_Reader_read_signs) = true)
    (l_Reader_read_signs : K.lookup f_Reader_read_signs = some ⟨oc_Reader_read_signs, od_Reader_read_signs, .func (PySem.W.fnOf "read_signs" "Reader.read_signs" (defArgs s_Reader_read_signs) (defBody s_Reader_read_signs) (defScope s_Reader_read_signs) .none kV_Reader_read_signs dc_Reader_read_signs pm_Reader_read_signs an_Reader_read_signs cd_Reader_read_signs ct_Reader_read_signs), sl_Reader_read_signs⟩)
    (q_Reader_read_signs : PySem.W.codeIn K cd_Reader_read_signs "Reader.read_signs" = true)
    (k_Reader_read_signs : PySem.W.keepIn K (.ref f_Reader_read_signs) = true)
    (a_Reader_skip : PySem.W.findIn K (.ref C_Reader) "skip" = some (some (.ref f_Reader_skip)))
    (i_Reader_skip : PySem.W.isFn K (.ref f_Reader_skip) = true)
    (l_Reader_skip : K.lookup f_Reader_skip = some ⟨oc_Reader_skip, od_Reader_skip, .func (PySem.W.fnOf "skip" "Reader.skip" (defArgs s_Reader_skip) (defBody s_Reader_skip) (defScope s_Reader_skip) .none kV_Reader_skip dc_Reader_skip pm_Reader_skip an_Reader_skip cd_Reader_skip ct_Reader_skip), sl_Reader_skip⟩)
    (q_Reader_skip : PySem.W.codeIn K cd_Reader_skip "Reader.skip" = true)
    (k_Reader_skip : PySem.W.keepIn K (.ref f_Reader_skip) = true)
    (a_Reader_read_number : PySem.W.findIn K (.ref C_Reader) "read_number" = some (some (.ref f_Reader_read_number)))
    (i_Reader_read_number : PySem.W.isFn K (.ref f_Reader_read_number) = true)
    (l_Reader_read_number : K.lookup f_Reader_read_number = some ⟨oc_Reader_read_number, od_Reader_read_number, .func (PySem.W.fnOf "read_number" "Reader.read_number" (defArgs s_Reader_read_number) (defBody s_Reader_read_number) (defScope s_Reader_read_number) .none kV_Reader_read_number dc_Reader_read_number pm_Reader_read_number an_Reader_read_number cd_Reader_read_number ct_Reader_read_number), sl_Reader_read_number⟩)
    (q_Reader_read_number : PySem.W.codeIn K cd_Reader_read_number "Reader.read_number" = true)
    (k_Reader_read_number : PySem.W.keepIn K (.ref f_Reader_read_number) = true)
    (a_Reader_read_code : PySem.W.findIn K (.ref C_Reader) "read_code" = some (some (.ref f_Reader_read_code)))
    (i_Reader_read_code : PySem.W.isFn K (.ref f_Reader_read_code) = true)
    (l_Reader_read_code : K.lookup f_Reader_read_code = some ⟨oc_Reader_read_code, od_Reader_read_code, .func (PySem.W.fnOf "read_code" "Reader.read_code" (defArgs s_Reader_read_code) (defBody s_Reader_read_code) (defScope s_Reader_read_code) .none kV_Reader_read_code dc_Reader_read_code pm_Reader_read_code an_Reader_read_code cd_Reader_read_code ct_Reader_read_code), sl_Reader_read_code⟩)
    (q_Reader_read_code : PySem.W.codeIn K cd_Reader_read_code "Reader.read_code" = true)
    (k_Reader_read_code : PySem.W.keepIn K (.ref f_Reader_read_code) = true)
    (a_Reader_read_command : PySem.W.findIn K (.ref C_Reader) "read_command" = some (some (.ref f_Reader_read_command)))
    (i_Reader_read_command : PySem.W.isFn K (.ref f_Reader_read_command) = true)
    (l_Reader_read_command : K.lookup f_Reader_read_command = some ⟨oc_Reader_read_command, od_Reader_read_command, .func (PySem.W.fnOf "read_command" "Reader.read_command" (defArgs s_Reader_read_command) (defBody s_Reader_read_command) (defScope s_Reader_read_command) .none kV_Reader_read_command dc_Reader_read_command pm_Reader_read_command an_Reader_read_command cd_Reader_read_command ct_Reader_read_command), sl_Reader_read_command⟩)
    (q_Reader_read_command : PySem.W.codeIn K cd_Reader_read_command "Reader.read_command" = true)
    (k_Reader_read_command : PySem.W.keepIn K (.ref f_Reader_read_command) = true)
    (a_commands_of : PySem.W.nsIn K mainGlobals "commands_of" = some (some (.ref f_commands_of)))
    (l_commands_of : K.lookup f_commands_of = some ⟨oc_commands_of, od_commands_of, .func (PySem.W.fnOf "commands_of" "commands_of" (defArgs s_commands_of) (defBody s_commands_of) (defScope s_commands_of) .none kV_commands_of dc_commands_of pm_commands_of an_commands_of cd_commands_of ct_commands_of), sl_commands_of⟩)
    (q_commands_of : PySem.W.codeIn K cd_commands_of "commands_of" = true)
    (k_commands_of : PySem.W.keepIn K (.ref f_commands_of) = true)
    (a_Ledger_init : PySem.W.findIn K (.ref C_Ledger) "__init__" = some (some (.ref f_Ledger_init)))
    (i_Ledger_init : PySem.W.isFn K (.ref f_Ledger_init) = true)
    (l_Ledger_init : K.lookup f_Ledger_init = some ⟨oc_Ledger_init, od_Ledger_init, .func (PySem.W.fnOf "__init__" "Ledger.__init__" (defArgs s_Ledger_init) (defBody s_Ledger_init) (defScope s_Ledger_init) .none kV_Ledger_init dc_Ledger_init pm_Ledger_init an_Ledger_init cd_Ledger_init ct_Ledger_init), sl_Ledger_init⟩)
    (q_Ledger_init : PySem.W.codeIn K cd_Ledger_init "Ledger.__init__" = true)
    (k_Ledger_init : PySem.W.keepIn K (.ref f_Ledger_init) = true)
    (a_first_ledger : PySem.W.nsIn K mainGlobals "first_ledger" = some (some (.ref f_first_ledger)))
    (l_first_ledger : K.lookup f_first_ledger = some ⟨oc_first_ledger, od_first_ledger, .func (PySem.W.fnOf "first_ledger" "first_ledger" (defArgs s_first_ledger) (defBody s_first_ledger) (defScope s_first_ledger) .none kV_first_ledger dc_first_ledger pm_first_ledger an_first_ledger cd_first_ledger ct_first_ledger), sl_first_ledger⟩)
    (q_first_ledger : PySem.W.codeIn K cd_first_ledger "first_ledger" = true)
    (k_first_ledger : PySem.W.keepIn K (.ref f_first_ledger) = true)
    (a_Chain_init : PySem.W.findIn K (.ref C_Chain) "__init__" = some (some (.ref f_Chain_init)))
    (i_Chain_init : PySem.W.isFn K (.ref f_Chain_init) = true)
    (l_Chain_init : K.lookup f_Chain_init = some ⟨oc_Chain_init, od_Chain_init, .func (PySem.W.fnOf "__init__" "Chain.__init__" (defArgs s_Chain_init) (defBody s_Chain_init) (defScope s_Chain_init) .none kV_Chain_init dc_Chain_init pm_Chain_init an_Chain_init cd_Chain_init ct_Chain_init), sl_Chain_init⟩)
    (q_Chain_init : PySem.W.codeIn K cd_Chain_init "Chain.__init__" = true)
    (k_Chain_init : PySem.W.keepIn K (.ref f_Chain_init) = true)
    (a_Chain_height : PySem.W.findIn K (.ref C_Chain) "height" = some (some (.ref f_Chain_height)))
    (i_Chain_height : PySem.W.isFn K (.ref f_Chain_height) = true)
    (l_Chain_height : K.lookup f_Chain_height = some ⟨oc_Chain_height, od_Chain_height, .func (PySem.W.fnOf "height" "Chain.height" (defArgs s_Chain_height) (defBody s_Chain_height) (defScope s_Chain_height) .none kV_Chain_height dc_Chain_height pm_Chain_height an_Chain_height cd_Chain_height ct_Chain_height), sl_Chain_height⟩)
    (q_Chain_height : PySem.W.codeIn K cd_Chain_height "Chain.height" = true)
    (k_Chain_height : PySem.W.keepIn K (.ref f_Chain_height) = true)
    (a_Chain_committee : PySem.W.findIn K (.ref C_Chain) "committee" = some (some (.ref f_Chain_committee)))
    (i_Chain_committee : PySem.W.isFn K (.ref f_Chain_committee) = true)
    (l_Chain_committee : K.lookup f_Chain_committee = some ⟨oc_Chain_committee, od_Chain_committee, .func (PySem.W.fnOf "committee" "Chain.committee" (defArgs s_Chain_committee) (defBody s_Chain_committee) (defScope s_Chain_committee) .none kV_Chain_committee dc_Chain_committee pm_Chain_committee an_Chain_committee cd_Chain_committee ct_Chain_committee), sl_Chain_committee⟩)
    (q_Chain_committee : PySem.W.codeIn K cd_Chain_committee "Chain.committee" = true)
    (k_Chain_committee : PySem.W.keepIn K (.ref f_Chain_committee) = true)
    (a_Chain_extend : PySem.W.findIn K (.ref C_Chain) "extend" = some (some (.ref f_Chain_extend)))
    (i_Chain_extend : PySem.W.isFn K (.ref f_Chain_extend) = true)
    (l_Chain_extend : K.lookup f_Chain_extend = some ⟨oc_Chain_extend, od_Chain_extend, .func (PySem.W.fnOf "extend" "Chain.extend" (defArgs s_Chain_extend) (defBody s_Chain_extend) (defScope s_Chain_extend) .none kV_Chain_extend dc_Chain_extend pm_Chain_extend an_Chain_extend cd_Chain_extend ct_Chain_extend), sl_Chain_extend⟩)
    (q_Chain_extend : PySem.W.codeIn K cd_Chain_extend "Chain.extend" = true)
    (k_Chain_extend : PySem.W.keepIn K (.ref f_Chain_extend) = true)
    (a_after_weight : PySem.W.nsIn K mainGlobals "_after_weight" = some (some (.ref f_after_weight)))
    (l_after_weight : K.lookup f_after_weight = some ⟨oc_after_weight, od_after_weight, .func (PySem.W.fnOf "_after_weight" "_after_weight" (defArgs s_after_weight) (defBody s_after_weight) (defScope s_after_weight) .none kV_after_weight dc_after_weight pm_after_weight an_after_weight cd_after_weight ct_after_weight), sl_after_weight⟩)
    (q_after_weight : PySem.W.codeIn K cd_after_weight "_after_weight" = true)
    (k_after_weight : PySem.W.keepIn K (.ref f_after_weight) = true)
    (a_Client_init : PySem.W.findIn K (.ref C_Client) "__init__" = some (some (.ref f_Client_init)))
    (i_Client_init : PySem.W.isFn K (.ref f_Client_init) = true)
    (l_Client_init : K.lookup f_Client_init = some ⟨oc_Client_init, od_Client_init, .func (PySem.W.fnOf "__init__" "Client.__init__" (defArgs s_Client_init) (defBody s_Client_init) (defScope s_Client_init) .none kV_Client_init dc_Client_init pm_Client_init an_Client_init cd_Client_init ct_Client_init), sl_Client_init⟩)
    (q_Client_init : PySem.W.codeIn K cd_Client_init "Client.__init__" = true)
    (k_Client_init : PySem.W.keepIn K (.ref f_Client_init) = true)
    (a_Client_follow : PySem.W.findIn K (.ref C_Client) "follow" = some (some (.ref f_Client_follow)))
    (i_Client_follow : PySem.W.isFn K (.ref f_Client_follow) = true)
    (l_Client_follow : K.lookup f_Client_follow = some ⟨oc_Client_follow, od_Client_follow, .func (PySem.W.fnOf "follow" "Client.follow" (defArgs s_Client_follow) (defBody s_Client_follow) (defScope s_Client_follow) .none kV_Client_follow dc_Client_follow pm_Client_follow an_Client_follow cd_Client_follow ct_Client_follow), sl_Client_follow⟩)
    (q_Client_follow : PySem.W.codeIn K cd_Client_follow "Client.follow" = true)
    (k_Client_follow : PySem.W.keepIn K (.ref f_Client_follow) = true)
    (a_read_head : PySem.W.nsIn K mainGlobals "_read_head" = some (some (.ref f_read_head)))
    (l_read_head : K.lookup f_read_head = some ⟨oc_read_head, od_read_head, .func (PySem.W.fnOf "_read_head" "_read_head" (defArgs s_read_head) (defBody s_read_head) (defScope s_read_head) .none kV_read_head dc_read_head pm_read_head an_read_head cd_read_head ct_read_head), sl_read_head⟩)
    (q_read_head : PySem.W.codeIn K cd_read_head "_read_head" = true)
    (k_read_head : PySem.W.keepIn K (.ref f_read_head) = true)
    (a_archive_lines : PySem.W.nsIn K mainGlobals "archive_lines" = some (some (.ref f_archive_lines)))
    (l_archive_lines : K.lookup f_archive_lines = some ⟨oc_archive_lines, od_archive_lines, .func (PySem.W.fnOf "archive_lines" "archive_lines" (defArgs s_archive_lines) (defBody s_archive_lines) (defScope s_archive_lines) .none kV_archive_lines dc_archive_lines pm_archive_lines an_archive_lines cd_archive_lines ct_archive_lines), sl_archive_lines⟩)
    (q_archive_lines : PySem.W.codeIn K cd_archive_lines "archive_lines" = true)
    (k_archive_lines : PySem.W.keepIn K (.ref f_archive_lines) = true)
    (a_law_shows : PySem.W.nsIn K mainGlobals "_law_shows" = some (some (.ref f_law_shows)))
    (l_law_shows : K.lookup f_law_shows = some ⟨oc_law_shows, od_law_shows, .func (PySem.W.fnOf "_law_shows" "_law_shows" (defArgs s_law_shows) (defBody s_law_shows) (defScope s_law_shows) .none kV_law_shows dc_law_shows pm_law_shows an_law_shows cd_law_shows ct_law_shows), sl_law_shows⟩)
    (q_law_shows : PySem.W.codeIn K cd_law_shows "_law_shows" = true)
    (k_law_shows : PySem.W.keepIn K (.ref f_law_shows) = true)
    (a_law_paper : PySem.W.nsIn K mainGlobals "_law_paper" = some (some (.ref f_law_paper)))
    (l_law_paper : K.lookup f_law_paper = some ⟨oc_law_paper, od_law_paper, .func (PySem.W.fnOf "_law_paper" "_law_paper" (defArgs s_law_paper) (defBody s_law_paper) (defScope s_law_paper) .none kV_law_paper dc_law_paper pm_law_paper an_law_paper cd_law_paper ct_law_paper), sl_law_paper⟩)
    (q_law_paper : PySem.W.codeIn K cd_law_paper "_law_paper" = true)
    (k_law_paper : PySem.W.keepIn K (.ref f_law_paper) = true)
    (a_law_block : PySem.W.nsIn K mainGlobals "_law_block" = some (some (.ref f_law_block)))
    (l_law_block : K.lookup f_law_block = some ⟨oc_law_block, od_law_block, .func (PySem.W.fnOf "_law_block" "_law_block" (defArgs s_law_block) (defBody s_law_block) (defScope s_law_block) .none kV_law_block dc_law_block pm_law_block an_law_block cd_law_block ct_law_block), sl_law_block⟩)
    (q_law_block : PySem.W.codeIn K cd_law_block "_law_block" = true)
    (k_law_block : PySem.W.keepIn K (.ref f_law_block) = true)
    (a_law_reweighted : PySem.W.nsIn K mainGlobals "_law_reweighted" = some (some (.ref f_law_reweighted)))
    (l_law_reweighted : K.lookup f_law_reweighted = some ⟨oc_law_reweighted, od_law_reweighted, .func (PySem.W.fnOf "_law_reweighted" "_law_reweighted" (defArgs s_law_reweighted) (defBody s_law_reweighted) (defScope s_law_reweighted) .none kV_law_reweighted dc_law_reweighted pm_law_reweighted an_law_reweighted cd_law_reweighted ct_law_reweighted), sl_law_reweighted⟩)
    (q_law_reweighted : PySem.W.codeIn K cd_law_reweighted "_law_reweighted" = true)
    (k_law_reweighted : PySem.W.keepIn K (.ref f_law_reweighted) = true)
    (a_law_is_integer : PySem.W.nsIn K mainGlobals "_law_is_integer" = some (some (.ref f_law_is_integer)))
    (l_law_is_integer : K.lookup f_law_is_integer = some ⟨oc_law_is_integer, od_law_is_integer, .func (PySem.W.fnOf "_law_is_integer" "_law_is_integer" (defArgs s_law_is_integer) (defBody s_law_is_integer) (defScope s_law_is_integer) .none kV_law_is_integer dc_law_is_integer pm_law_is_integer an_law_is_integer cd_law_is_integer ct_law_is_integer), sl_law_is_integer⟩)
    (q_law_is_integer : PySem.W.codeIn K cd_law_is_integer "_law_is_integer" = true)
    (k_law_is_integer : PySem.W.keepIn K (.ref f_law_is_integer) = true)
    (a_law_line : PySem.W.nsIn K mainGlobals "_law_line" = some (some (.ref f_law_line)))
    (l_law_line : K.lookup f_law_line = some ⟨oc_law_line, od_law_line, .func (PySem.W.fnOf "_law_line" "_law_line" (defArgs s_law_line) (defBody s_law_line) (defScope s_law_line) .none kV_law_line dc_law_line pm_law_line an_law_line cd_law_line ct_law_line), sl_law_line⟩)
    (q_law_line : PySem.W.codeIn K cd_law_line "_law_line" = true)
    (k_law_line : PySem.W.keepIn K (.ref f_law_line) = true)
    (a_refuse_before_end : PySem.W.nsIn K mainGlobals "_refuse_before_end" = some (some (.ref f_refuse_before_end)))
    (l_refuse_before_end : K.lookup f_refuse_before_end = some ⟨oc_refuse_before_end, od_refuse_before_end, .func (PySem.W.fnOf "_refuse_before_end" "_refuse_before_end" (defArgs s_refuse_before_end) (defBody s_refuse_before_end) (defScope s_refuse_before_end) .none kV_refuse_before_end dc_refuse_before_end pm_refuse_before_end an_refuse_before_end cd_refuse_before_end ct_refuse_before_end), sl_refuse_before_end⟩)
    (q_refuse_before_end : PySem.W.codeIn K cd_refuse_before_end "_refuse_before_end" = true)
    (k_refuse_before_end : PySem.W.keepIn K (.ref f_refuse_before_end) = true)
    (a_entry_at : PySem.W.nsIn K mainGlobals "_entry_at" = some (some (.ref f_entry_at)))
    (l_entry_at : K.lookup f_entry_at = some ⟨oc_entry_at, od_entry_at, .func (PySem.W.fnOf "_entry_at" "_entry_at" (defArgs s_entry_at) (defBody s_entry_at) (defScope s_entry_at) .none kV_entry_at dc_entry_at pm_entry_at an_entry_at cd_entry_at ct_entry_at), sl_entry_at⟩)
    (q_entry_at : PySem.W.codeIn K cd_entry_at "_entry_at" = true)
    (k_entry_at : PySem.W.keepIn K (.ref f_entry_at) = true)
    (a_read_archive : PySem.W.nsIn K mainGlobals "read_archive" = some (some (.ref f_read_archive)))
    (l_read_archive : K.lookup f_read_archive = some ⟨oc_read_archive, od_read_archive, .func (PySem.W.fnOf "read_archive" "read_archive" (defArgs s_read_archive) (defBody s_read_archive) (defScope s_read_archive) .none kV_read_archive dc_read_archive pm_read_archive an_read_archive cd_read_archive ct_read_archive), sl_read_archive⟩)
    (q_read_archive : PySem.W.codeIn K cd_read_archive "read_archive" = true)
    (k_read_archive : PySem.W.keepIn K (.ref f_read_archive) = true)
    (a_law_lines : PySem.W.nsIn K mainGlobals "_law_lines" = some (some (.ref f_law_lines)))
    (l_law_lines : K.lookup f_law_lines = some ⟨oc_law_lines, od_law_lines, .func (PySem.W.fnOf "_law_lines" "_law_lines" (defArgs s_law_lines) (defBody s_law_lines) (defScope s_law_lines) .none kV_law_lines dc_law_lines pm_law_lines an_law_lines cd_law_lines ct_law_lines), sl_law_lines⟩)
    (q_law_lines : PySem.W.codeIn K cd_law_lines "_law_lines" = true)
    (k_law_lines : PySem.W.keepIn K (.ref f_law_lines) = true)
    (a_law_due : PySem.W.nsIn K mainGlobals "_law_due" = some (some (.ref f_law_due)))
    (l_law_due : K.lookup f_law_due = some ⟨oc_law_due, od_law_due, .func (PySem.W.fnOf "_law_due" "_law_due" (defArgs s_law_due) (defBody s_law_due) (defScope s_law_due) .none kV_law_due dc_law_due pm_law_due an_law_due cd_law_due ct_law_due), sl_law_due⟩)
    (q_law_due : PySem.W.codeIn K cd_law_due "_law_due" = true)
    (k_law_due : PySem.W.keepIn K (.ref f_law_due) = true)
    (a_law_read : PySem.W.nsIn K mainGlobals "_law_read" = some (some (.ref f_law_read)))
    (l_law_read : K.lookup f_law_read = some ⟨oc_law_read, od_law_read, .func (PySem.W.fnOf "_law_read" "_law_read" (defArgs s_law_read) (defBody s_law_read) (defScope s_law_read) .none kV_law_read dc_law_read pm_law_read an_law_read cd_law_read ct_law_read), sl_law_read⟩)
    (q_law_read : PySem.W.codeIn K cd_law_read "_law_read" = true)
    (k_law_read : PySem.W.keepIn K (.ref f_law_read) = true)
    (a_law_spoilt : PySem.W.nsIn K mainGlobals "_law_spoilt" = some (some (.ref f_law_spoilt)))
    (l_law_spoilt : K.lookup f_law_spoilt = some ⟨oc_law_spoilt, od_law_spoilt, .func (PySem.W.fnOf "_law_spoilt" "_law_spoilt" (defArgs s_law_spoilt) (defBody s_law_spoilt) (defScope s_law_spoilt) .none kV_law_spoilt dc_law_spoilt pm_law_spoilt an_law_spoilt cd_law_spoilt ct_law_spoilt), sl_law_spoilt⟩)
    (q_law_spoilt : PySem.W.codeIn K cd_law_spoilt "_law_spoilt" = true)
    (k_law_spoilt : PySem.W.keepIn K (.ref f_law_spoilt) = true)
    (a_law : PySem.W.nsIn K mainGlobals "law" = some (some (.ref f_law)))
    (l_law : K.lookup f_law = some ⟨oc_law, od_law, .func (PySem.W.fnOf "law" "law" (defArgs s_law) (defBody s_law) (defScope s_law) .none kV_law dc_law pm_law an_law cd_law ct_law), sl_law⟩)
    (q_law : PySem.W.codeIn K cd_law "law" = true)
    (k_law : PySem.W.keepIn K (.ref f_law) = true)
    (pg_Reader : PySem.W.plainGet K C_Reader Str.empty = true)
    (hd_Reader : PySem.W.hasDictIn K C_Reader = true)
    (po_Reader : PySem.W.plainOver K C_Reader = true)
    (sa_Reader : PySem.W.findIn K (.ref C_Reader) "__setattr__" = some (some (.builtin "object.__setattr__")))
    (mk_Reader : PySem.W.makesIn K C_Reader = true)
    (kc_Reader : PySem.W.keepIn K (.ref C_Reader) = true)
    (no_Reader_text : PySem.W.findIn K (.ref C_Reader) "text" = some none)
    (no_Reader_at : PySem.W.findIn K (.ref C_Reader) "at" = some none)
    (pg_Committee : PySem.W.plainGet K C_Committee Str.empty = true)
    (hd_Committee : PySem.W.hasDictIn K C_Committee = true)
    (po_Committee : PySem.W.plainOver K C_Committee = true)
    (sa_Committee : PySem.W.findIn K (.ref C_Committee) "__setattr__" = some (some (.builtin "object.__setattr__")))
    (mk_Committee : PySem.W.makesIn K C_Committee = true)
    (kc_Committee : PySem.W.keepIn K (.ref C_Committee) = true)
    (no_Committee_weights : PySem.W.findIn K (.ref C_Committee) "weights" = some none)
    (no_Committee_size : PySem.W.findIn K (.ref C_Committee) "size" = some none)
    (no_Committee_total : PySem.W.findIn K (.ref C_Committee) "total" = some none)
    (pg_Ledger : PySem.W.plainGet K C_Ledger Str.empty = true)
    (hd_Ledger : PySem.W.hasDictIn K C_Ledger = true)
    (po_Ledger : PySem.W.plainOver K C_Ledger = true)
    (sa_Ledger : PySem.W.findIn K (.ref C_Ledger) "__setattr__" = some (some (.builtin "object.__setattr__")))
    (mk_Ledger : PySem.W.makesIn K C_Ledger = true)
    (kc_Ledger : PySem.W.keepIn K (.ref C_Ledger) = true)
    (no_Ledger_balances : PySem.W.findIn K (.ref C_Ledger) "balances" = some none)
    (no_Ledger_codes : PySem.W.findIn K (.ref C_Ledger) "codes" = some none)
    (no_Ledger_stores : PySem.W.findIn K (.ref C_Ledger) "stores" = some none)
    (pg_Chain : PySem.W.plainGet K C_Chain Str.empty = true)
    (hd_Chain : PySem.W.hasDictIn K C_Chain = true)
    (po_Chain : PySem.W.plainOver K C_Chain = true)
    (sa_Chain : PySem.W.findIn K (.ref C_Chain) "__setattr__" = some (some (.builtin "object.__setattr__")))
    (mk_Chain : PySem.W.makesIn K C_Chain = true)
    (kc_Chain : PySem.W.keepIn K (.ref C_Chain) = true)
    (no_Chain_blocks : PySem.W.findIn K (.ref C_Chain) "blocks" = some none)
    (no_Chain_receipts : PySem.W.findIn K (.ref C_Chain) "receipts" = some none)
    (no_Chain_committees : PySem.W.findIn K (.ref C_Chain) "committees" = some none)
    (no_Chain_ledgers : PySem.W.findIn K (.ref C_Chain) "ledgers" = some none)
    (pg_Client : PySem.W.plainGet K C_Client Str.empty = true)
    (hd_Client : PySem.W.hasDictIn K C_Client = true)
    (po_Client : PySem.W.plainOver K C_Client = true)
    (sa_Client : PySem.W.findIn K (.ref C_Client) "__setattr__" = some (some (.builtin "object.__setattr__")))
    (mk_Client : PySem.W.makesIn K C_Client = true)
    (kc_Client : PySem.W.keepIn K (.ref C_Client) = true)
    (no_Client_chain : PySem.W.findIn K (.ref C_Client) "chain" = some none)
    (g_MARKS : PySem.W.nsIn K mainGlobals "MARKS" = some (some (.ref P_MARKS)))
    (l_MARKS : K.lookup P_MARKS = some ⟨.type "dict", none, .dict #[⟨h_MARKS_p, .str "p" t_MARKS_p, .ref M_MARKS_p⟩, ⟨h_MARKS_w, .str "w" t_MARKS_w, .ref M_MARKS_w⟩, ⟨h_MARKS_d, .str "d" t_MARKS_d, .ref M_MARKS_d⟩, ⟨h_MARKS_k, .str "k" t_MARKS_k, .ref M_MARKS_k⟩] n_MARKS, #[]⟩)
    (kl_MARKS : PySem.W.KeysLit w.params [⟨h_MARKS_p, .str "p" t_MARKS_p, .ref M_MARKS_p⟩, ⟨h_MARKS_w, .str "w" t_MARKS_w, .ref M_MARKS_w⟩, ⟨h_MARKS_d, .str "d" t_MARKS_d, .ref M_MARKS_d⟩, ⟨h_MARKS_k, .str "k" t_MARKS_k, .ref M_MARKS_k⟩])
    (lo_MARKS : (P_MARKS == sysModules) = false)
    (l_MARKS_p : K.lookup M_MARKS_p = some ⟨.type "tuple", od_MARKS_p, .seq #[.str "p" t0_MARKS_p, .str "q" t1_MARKS_p, .str "r" t2_MARKS_p] n_MARKS_p, sl_MARKS_p⟩)
    (l_MARKS_w : K.lookup M_MARKS_w = some ⟨.type "tuple", od_MARKS_w, .seq #[.str "w" t0_MARKS_w, .str "x" t1_MARKS_w] n_MARKS_w, sl_MARKS_w⟩)
    (l_MARKS_d : K.lookup M_MARKS_d = some ⟨.type "tuple", od_MARKS_d, .seq #[.str "d" t0_MARKS_d, .str "z" t1_MARKS_d] n_MARKS_d, sl_MARKS_d⟩)
    (l_MARKS_k : K.lookup M_MARKS_k = some ⟨.type "tuple", od_MARKS_k, .seq #[.str "k" t0_MARKS_k, .str "b" t1_MARKS_k, .str "v" t2_MARKS_k] n_MARKS_k, sl_MARKS_k⟩)
    (g_BadCommand : PySem.W.nsIn K mainGlobals "BadCommand" = some (some (.ref C_BadCommand)))
    (x_BadCommand : PySem.W.excIn K C_BadCommand [.type "ValueError", .type "Exception", .type "BaseException", .type "object"] "ValueError.__new__" = true)
    (kc_BadCommand : PySem.W.keepIn K (.ref C_BadCommand) = true)
    (b_BadCommand : PySem.W.subIn K (.ref C_BadCommand) (.type "BaseException") = some true)
    (t_BadCommand : PySem.W.typeIn K (.ref C_BadCommand) = some (.type "type"))
    (xga_BadCommand : PySem.W.findIn K (.ref C_BadCommand) "__getattribute__" = some (some (.builtin "BaseException.__getattribute__")))
    (xgt_BadCommand : PySem.W.findIn K (.ref C_BadCommand) "__getattr__" = some none)
    (xhd_BadCommand : PySem.W.hasDictIn K C_BadCommand = true)
    (xcc_BadCommand : PySem.W.findIn K (.ref C_BadCommand) "__class__" = some (some (.builtin "object.__class__")))
    (xsp_BadCommand : PySem.W.specialIn K (.builtin "object.__class__") "__get__" = some (some (.builtin "getset_descriptor.__get__")))
    (xtk_BadCommand : PySem.W.takesIn K (.builtin "object.__class__") = some true)
    (xmo_BadCommand : PySem.W.mroIn K C_BadCommand (.type "object") = some true)
    (te1_BadCommand : PySem.W.subIn K (.ref C_BadCommand) (.type "BaseException") = some true)
    (te2_BadCommand : PySem.W.hasDictIn K C_BadCommand = true)
    (te3_BadCommand : PySem.W.typeIn K (.ref C_BadCommand) = some (.type "type"))
    (te4_BadCommand_BadCommand : PySem.W.subIn K (.ref C_BadCommand) (.ref C_BadCommand) = some true)
    (g_BadPaper : PySem.W.nsIn K mainGlobals "BadPaper" = some (some (.ref C_BadPaper)))
    (x_BadPaper : PySem.W.excIn K C_BadPaper [.type "ValueError", .type "Exception", .type "BaseException", .type "object"] "ValueError.__new__" = true)
    (kc_BadPaper : PySem.W.keepIn K (.ref C_BadPaper) = true)
    (b_BadPaper : PySem.W.subIn K (.ref C_BadPaper) (.type "BaseException") = some true)
    (t_BadPaper : PySem.W.typeIn K (.ref C_BadPaper) = some (.type "type"))
    (xga_BadPaper : PySem.W.findIn K (.ref C_BadPaper) "__getattribute__" = some (some (.builtin "BaseException.__getattribute__")))
    (xgt_BadPaper : PySem.W.findIn K (.ref C_BadPaper) "__getattr__" = some none)
    (xhd_BadPaper : PySem.W.hasDictIn K C_BadPaper = true)
    (xcc_BadPaper : PySem.W.findIn K (.ref C_BadPaper) "__class__" = some (some (.builtin "object.__class__")))
    (xsp_BadPaper : PySem.W.specialIn K (.builtin "object.__class__") "__get__" = some (some (.builtin "getset_descriptor.__get__")))
    (xtk_BadPaper : PySem.W.takesIn K (.builtin "object.__class__") = some true)
    (xmo_BadPaper : PySem.W.mroIn K C_BadPaper (.type "object") = some true)
    (kt_BadPaper_BadPaper : PySem.W.kitOne K (.ref C_BadPaper) (.ref C_BadPaper) = some true)
    (te1_BadPaper : PySem.W.subIn K (.ref C_BadPaper) (.type "BaseException") = some true)
    (te2_BadPaper : PySem.W.hasDictIn K C_BadPaper = true)
    (te3_BadPaper : PySem.W.typeIn K (.ref C_BadPaper) = some (.type "type"))
    (te4_BadPaper_BadPaper : PySem.W.subIn K (.ref C_BadPaper) (.ref C_BadPaper) = some true)
    (g_BadLine : PySem.W.nsIn K mainGlobals "BadLine" = some (some (.ref C_BadLine)))
    (lc_BadLine : K.lookup C_BadLine = some (excClassObj nm_BadLine q_BadLine C_BadLine N_BadLine bs_BadLine bm_BadLine true sn_BadLine sub_BadLine ab_BadLine col_BadLine dd_BadLine k0_BadLine k1_BadLine k2_BadLine k3_BadLine k5_BadLine "ValueError.__new__"))
    (rb_BadLine : PySem.HandSPX.refsVE bm_BadLine = true)
    (sa_BadLine : PySem.W.findIn K (.ref C_BadLine) "__setattr__" = some (some (.builtin "object.__setattr__")))
    (eb_BadLine : PySem.W.subIn K (.ref C_BadLine) (.type "BaseException") = some true)
    (ty_BadLine : PySem.W.typeIn K (.ref C_BadLine) = some (.type "type"))
    (kc_BadLine : PySem.W.keepIn K (.ref C_BadLine) = true)
    (a_BadLine_init : PySem.W.findIn K (.ref C_BadLine) "__init__" = some (some (.ref f_BadLine_init)))
    (tI_BadLine_init : PySem.W.typeIn K (.ref f_BadLine_init) = some (.type "function"))
    (l_BadLine_init : K.lookup f_BadLine_init = some ⟨oc_BadLine_init, od_BadLine_init, .func (PySem.W.ksFn "__init__" "BadLine.__init__" (defArgs s_BadLine_init) (defBody s_BadLine_init) (defScope s_BadLine_init) .none kV_BadLine_init dc_BadLine_init pm_BadLine_init an_BadLine_init (.ref cda_BadLine_init) ct_BadLine_init cc_BadLine_init), sl_BadLine_init⟩)
    (q_BadLine_init : PySem.W.codeIn K (.ref cda_BadLine_init) "BadLine.__init__" = true)
    (ce_BadLine_init : K.lookup cc_BadLine_init = some ⟨cl_BadLine_init, cld_BadLine_init, .cell (some (.ref C_BadLine)), csl_BadLine_init⟩)
    (co_BadLine_init : K.lookup cda_BadLine_init = some ⟨ccl_BadLine_init, cdd_BadLine_init, .fields vs_BadLine_init, ccs_BadLine_init⟩)
    (v2_BadLine_init : vs_BadLine_init[2]? = some (.str file_BadLine_init tf_BadLine_init))
    (fi_BadLine_init : ((l.prog.main.file : Str) == file_BadLine_init) = true)
    (su_BadLine : PySem.W.ks_superIn K C_BadLine C_BadLine "__init__" = some (some (.builtin "ValueError.__init__")))
    (op_BadLine : PySem.W.nsIn K cStatics "thirdparty.any" = some none)
    (sv_BadLine : PySem.W.subIn K (.ref C_BadLine) (.type "ValueError") = some true)
    (mc_BadLine : PySem.W.mroIn K C_BadLine (.ref C_BadLine) = some true)
    (nf_BadLine : PySem.W.findIn K (.ref C_BadLine) "at" = some none)
    (ts_BadLine : (l.prog.main.scope.names.lookup ("super" : Str)).isSome = false)
    (xga_BadLine : PySem.W.findIn K (.ref C_BadLine) "__getattribute__" = some (some (.builtin "BaseException.__getattribute__")))
    (xgt_BadLine : PySem.W.findIn K (.ref C_BadLine) "__getattr__" = some none)
    (xhd_BadLine : PySem.W.hasDictIn K C_BadLine = true)
    (xcc_BadLine : PySem.W.findIn K (.ref C_BadLine) "__class__" = some (some (.builtin "object.__class__")))
    (xsp_BadLine : PySem.W.specialIn K (.builtin "object.__class__") "__get__" = some (some (.builtin "getset_descriptor.__get__")))
    (xtk_BadLine : PySem.W.takesIn K (.builtin "object.__class__") = some true)
    (xmo_BadLine : PySem.W.mroIn K C_BadLine (.type "object") = some true)
    (g_BadArchive : PySem.W.nsIn K mainGlobals "BadArchive" = some (some (.ref C_BadArchive)))
    (lc_BadArchive : K.lookup C_BadArchive = some (excClassObj nm_BadArchive q_BadArchive C_BadArchive N_BadArchive bs_BadArchive bm_BadArchive true sn_BadArchive sub_BadArchive ab_BadArchive col_BadArchive dd_BadArchive k0_BadArchive k1_BadArchive k2_BadArchive k3_BadArchive k5_BadArchive "ValueError.__new__"))
    (rb_BadArchive : PySem.HandSPX.refsVE bm_BadArchive = true)
    (sa_BadArchive : PySem.W.findIn K (.ref C_BadArchive) "__setattr__" = some (some (.builtin "object.__setattr__")))
    (eb_BadArchive : PySem.W.subIn K (.ref C_BadArchive) (.type "BaseException") = some true)
    (ty_BadArchive : PySem.W.typeIn K (.ref C_BadArchive) = some (.type "type"))
    (kc_BadArchive : PySem.W.keepIn K (.ref C_BadArchive) = true)
    (a_BadArchive_init : PySem.W.findIn K (.ref C_BadArchive) "__init__" = some (some (.ref f_BadArchive_init)))
    (tI_BadArchive_init : PySem.W.typeIn K (.ref f_BadArchive_init) = some (.type "function"))
    (l_BadArchive_init : K.lookup f_BadArchive_init = some ⟨oc_BadArchive_init, od_BadArchive_init, .func (PySem.W.ksFn "__init__" "BadArchive.__init__" (defArgs s_BadArchive_init) (defBody s_BadArchive_init) (defScope s_BadArchive_init) .none kV_BadArchive_init dc_BadArchive_init pm_BadArchive_init an_BadArchive_init (.ref cda_BadArchive_init) ct_BadArchive_init cc_BadArchive_init), sl_BadArchive_init⟩)
    (q_BadArchive_init : PySem.W.codeIn K (.ref cda_BadArchive_init) "BadArchive.__init__" = true)
    (ce_BadArchive_init : K.lookup cc_BadArchive_init = some ⟨cl_BadArchive_init, cld_BadArchive_init, .cell (some (.ref C_BadArchive)), csl_BadArchive_init⟩)
    (co_BadArchive_init : K.lookup cda_BadArchive_init = some ⟨ccl_BadArchive_init, cdd_BadArchive_init, .fields vs_BadArchive_init, ccs_BadArchive_init⟩)
    (v2_BadArchive_init : vs_BadArchive_init[2]? = some (.str file_BadArchive_init tf_BadArchive_init))
    (fi_BadArchive_init : ((l.prog.main.file : Str) == file_BadArchive_init) = true)
    (su_BadArchive : PySem.W.ks_superIn K C_BadArchive C_BadArchive "__init__" = some (some (.builtin "ValueError.__init__")))
    (op_BadArchive : PySem.W.nsIn K cStatics "thirdparty.any" = some none)
    (sv_BadArchive : PySem.W.subIn K (.ref C_BadArchive) (.type "ValueError") = some true)
    (mc_BadArchive : PySem.W.mroIn K C_BadArchive (.ref C_BadArchive) = some true)
    (nf_BadArchive : PySem.W.findIn K (.ref C_BadArchive) "at" = some none)
    (ts_BadArchive : (l.prog.main.scope.names.lookup ("super" : Str)).isSome = false)
    (xga_BadArchive : PySem.W.findIn K (.ref C_BadArchive) "__getattribute__" = some (some (.builtin "BaseException.__getattribute__")))
    (xgt_BadArchive : PySem.W.findIn K (.ref C_BadArchive) "__getattr__" = some none)
    (xhd_BadArchive : PySem.W.hasDictIn K C_BadArchive = true)
    (xcc_BadArchive : PySem.W.findIn K (.ref C_BadArchive) "__class__" = some (some (.builtin "object.__class__")))
    (xsp_BadArchive : PySem.W.specialIn K (.builtin "object.__class__") "__get__" = some (some (.builtin "getset_descriptor.__get__")))
    (xtk_BadArchive : PySem.W.takesIn K (.builtin "object.__class__") = some true)
    (xmo_BadArchive : PySem.W.mroIn K C_BadArchive (.type "object") = some true)
    (g_KINDS : PySem.W.nsIn K mainGlobals "KINDS" = some (some (.ref P_KINDS)))
    (l_KINDS : K.lookup P_KINDS = some ⟨.type "tuple", od_KINDS, .seq #[.str "proposal" t0_KINDS, .str "prevote" t1_KINDS, .str "precommit" t2_KINDS] n_KINDS, sl_KINDS⟩)
    (te1_BadLine : PySem.W.subIn K (.ref C_BadLine) (.type "BaseException") = some true)
    (te2_BadLine : PySem.W.hasDictIn K C_BadLine = true)
    (te3_BadLine : PySem.W.typeIn K (.ref C_BadLine) = some (.type "type"))
    (te4_BadLine_BadLine : PySem.W.subIn K (.ref C_BadLine) (.ref C_BadLine) = some true)
    (g_TribunalError : PySem.W.nsIn K mainGlobals "TribunalError" = some (some (.ref C_TribunalError)))
    (te1_TribunalError : PySem.W.subIn K (.ref C_TribunalError) (.type "BaseException") = some true)
    (te2_TribunalError : PySem.W.hasDictIn K C_TribunalError = true)
    (te3_TribunalError : PySem.W.typeIn K (.ref C_TribunalError) = some (.type "type"))
    (te4_TribunalError_BadArchive : PySem.W.subIn K (.ref C_BadArchive) (.ref C_TribunalError) = some true)
    (kta_BadArchive_BadLine_BadPaper : PySem.W.kitAny K (.ref C_BadArchive) [.ref C_BadLine, .ref C_BadPaper] = some false)
    (kt_BadArchive_BadArchive : PySem.W.kitOne K (.ref C_BadArchive) (.ref C_BadArchive) = some true) :
    ∃ fd : FuncData, (∀ (s : Shared) (v : Value), BindsTo s fd ⟨[v], []⟩ [("script", v)]) ∧ ∀ base : Heap, K.In base → base.Ns mainGlobals mg → FnOk l.prog w K mg base CX0 10 fa fd ["script"] (spLaw K) := by
  have e := hfa.symm.trans (PySem.W.mg_of X G a_law)
  cases e
  have T : Txt K mg ⟨C_Reader, C_Committee, C_Ledger, C_Chain, C_Client, f_prevote, f_precommit, f_is_number, f_is_block, f_word_at, f_number_at, f_kind_at, f_block_at, f_lean_at, f_end_at, f_read_letter, f_proposal, f_word, f_letter_line, f_first_wrong, f_Committee_init, f_Committee_weight_of, f_Committee_is_quorum, f_votes_by_turn, f_counts, f_certified_turns, f_committed_turns, f_shown_turn, f_shows, f_law_cell, f_law_row, f_law_weights, f_law_weight, f_law_certified, f_law_committed, f_Reader_init, f_Reader_read_signs, f_Reader_skip, f_Reader_read_number, f_Reader_read_code, f_Reader_read_command, f_commands_of, f_Ledger_init, f_first_ledger, f_Chain_init, f_Chain_height, f_Chain_committee, f_Chain_extend, f_after_weight, f_Client_init, f_Client_follow, f_read_head, f_archive_lines, f_law_shows, f_law_paper, f_law_block, f_law_reweighted, f_law_is_integer, f_law_line, f_refuse_before_end, f_entry_at, f_read_archive, f_law_lines, f_law_due, f_law_read, f_law_spoilt, P_MARKS, M_MARKS_p, M_MARKS_w, M_MARKS_d, M_MARKS_k, C_BadCommand, C_BadPaper, C_TribunalError, C_BadLine, f_BadLine_init, C_BadArchive, f_BadArchive_init, P_KINDS⟩ := {
    n_len := mg_no X G n_len
    n_range := mg_no X G n_range
    n_isinstance := mg_no X G n_isinstance
    n_int := mg_no X G n_int
    n_bool := mg_no X G n_bool
    n_list := mg_no X G n_list
    n_tuple := mg_no X G n_tuple
    n_str := mg_no X G n_str
    n_zip := mg_no X G n_zip
    n_enumerate := mg_no X G n_enumerate
    n_max := mg_no X G n_max
    n_abs := mg_no X G n_abs
    n_sum := mg_no X G n_sum
    n_set := mg_no X G n_set
    n_sorted := mg_no X G n_sorted
    n_min := mg_no X G n_min
    n_super := mg_no X G n_super
    n_ValueError := mg_no X G n_ValueError
    n_all := mg_no X G n_all
    c_SIGNS := ⟨_, PySem.W.mg_of X G c_SIGNS⟩
    c_DIGITS := ⟨_, PySem.W.mg_of X G c_DIGITS⟩
    c_CODE_END := ⟨_, PySem.W.mg_of X G c_CODE_END⟩
    c_MOST_DIGITS_wire := ⟨_, PySem.W.mg_of X G c_MOST_DIGITS_wire⟩
    c_MOST_DIGITS_commands := ⟨_, PySem.W.mg_of X G c_MOST_DIGITS_commands⟩
    c_MOST_SIGNS := ⟨_, PySem.W.mg_of X G c_MOST_SIGNS⟩
    c_LETTERS := ⟨_, PySem.W.mg_of X G c_LETTERS⟩
    c_BLOCK_SIGNS := ⟨_, PySem.W.mg_of X G c_BLOCK_SIGNS⟩
    c_NONE := ⟨_, PySem.W.mg_of X G c_NONE⟩
    c_HEAD := ⟨_, PySem.W.mg_of X G c_HEAD⟩
    c_KIND := ⟨_, PySem.W.mg_of X G c_KIND⟩
    c_HEIGHT := ⟨_, PySem.W.mg_of X G c_HEIGHT⟩
    c_TURN := ⟨_, PySem.W.mg_of X G c_TURN⟩
    c_BLOCK := ⟨_, PySem.W.mg_of X G c_BLOCK⟩
    c_LEAN := ⟨_, PySem.W.mg_of X G c_LEAN⟩
    c_MOST_MEMBERS := ⟨_, PySem.W.mg_of X G c_MOST_MEMBERS⟩
    c_MOST_WEIGHT := ⟨_, PySem.W.mg_of X G c_MOST_WEIGHT⟩
    g_Reader := PySem.W.mg_of X G g_Reader
    cl_Reader := ⟨pg_Reader, hd_Reader, po_Reader, sa_Reader⟩
    kc_Reader := kc_Reader
    mk_Reader := mk_Reader
    a_Reader_text := no_Reader_text
    a_Reader_at := no_Reader_at
    g_Committee := PySem.W.mg_of X G g_Committee
    cl_Committee := ⟨pg_Committee, hd_Committee, po_Committee, sa_Committee⟩
    kc_Committee := kc_Committee
    mk_Committee := mk_Committee
    a_Committee_weights := no_Committee_weights
    a_Committee_size := no_Committee_size
    a_Committee_total := no_Committee_total
    g_Ledger := PySem.W.mg_of X G g_Ledger
    cl_Ledger := ⟨pg_Ledger, hd_Ledger, po_Ledger, sa_Ledger⟩
    kc_Ledger := kc_Ledger
    mk_Ledger := mk_Ledger
    a_Ledger_balances := no_Ledger_balances
    a_Ledger_codes := no_Ledger_codes
    a_Ledger_stores := no_Ledger_stores
    g_Chain := PySem.W.mg_of X G g_Chain
    cl_Chain := ⟨pg_Chain, hd_Chain, po_Chain, sa_Chain⟩
    kc_Chain := kc_Chain
    mk_Chain := mk_Chain
    a_Chain_blocks := no_Chain_blocks
    a_Chain_receipts := no_Chain_receipts
    a_Chain_committees := no_Chain_committees
    a_Chain_ledgers := no_Chain_ledgers
    g_Client := PySem.W.mg_of X G g_Client
    cl_Client := ⟨pg_Client, hd_Client, po_Client, sa_Client⟩
    kc_Client := kc_Client
    mk_Client := mk_Client
    a_Client_chain := no_Client_chain
    d_prevote := ⟨def_mk l_prevote q_prevote k_prevote (fun _ _ _ _ _ _ us hl => match us, hl with | [_, _, _, _], _ => rfl), PySem.W.mg_of X G a_prevote, k_prevote⟩
    d_precommit := ⟨def_mk l_precommit q_precommit k_precommit (fun _ _ _ _ _ _ us hl => match us, hl with | [_, _, _], _ => rfl), PySem.W.mg_of X G a_precommit, k_precommit⟩
    d_is_number := ⟨def_mk l_is_number q_is_number k_is_number (fun _ _ _ _ _ _ us hl => match us, hl with | [_], _ => rfl), PySem.W.mg_of X G a_is_number, k_is_number⟩
    d_is_block := ⟨def_mk l_is_block q_is_block k_is_block (fun _ _ _ _ _ _ us hl => match us, hl with | [_], _ => rfl), PySem.W.mg_of X G a_is_block, k_is_block⟩
    d_word_at := ⟨def_mk l_word_at q_word_at k_word_at (fun _ _ _ _ _ _ us hl => match us, hl with | [_, _], _ => rfl), PySem.W.mg_of X G a_word_at, k_word_at⟩
    d_number_at := ⟨def_mk l_number_at q_number_at k_number_at (fun _ _ _ _ _ _ us hl => match us, hl with | [_, _], _ => rfl), PySem.W.mg_of X G a_number_at, k_number_at⟩
    d_kind_at := ⟨def_mk l_kind_at q_kind_at k_kind_at (fun _ _ _ _ _ _ us hl => match us, hl with | [_, _], _ => rfl), PySem.W.mg_of X G a_kind_at, k_kind_at⟩
    d_block_at := ⟨def_mk l_block_at q_block_at k_block_at (fun _ _ _ _ _ _ us hl => match us, hl with | [_, _, _], _ => rfl), PySem.W.mg_of X G a_block_at, k_block_at⟩
    d_lean_at := ⟨def_mk l_lean_at q_lean_at k_lean_at (fun _ _ _ _ _ _ us hl => match us, hl with | [_, _, _], _ => rfl), PySem.W.mg_of X G a_lean_at, k_lean_at⟩
    d_end_at := ⟨def_mk l_end_at q_end_at k_end_at (fun _ _ _ _ _ _ us hl => match us, hl with | [_, _], _ => rfl), PySem.W.mg_of X G a_end_at, k_end_at⟩
    d_read_letter := ⟨def_mk l_read_letter q_read_letter k_read_letter (fun _ _ _ _ _ _ us hl => match us, hl with | [_], _ => rfl), PySem.W.mg_of X G a_read_letter, k_read_letter⟩
    d_proposal := ⟨def_mk l_proposal q_proposal k_proposal (fun _ _ _ _ _ _ us hl => match us, hl with | [_, _, _], _ => rfl), PySem.W.mg_of X G a_proposal, k_proposal⟩
    d_word := ⟨def_mk l_word q_word k_word (fun _ _ _ _ _ _ us hl => match us, hl with | [_], _ => rfl), PySem.W.mg_of X G a_word, k_word⟩
    d_letter_line := ⟨def_mk l_letter_line q_letter_line k_letter_line (fun _ _ _ _ _ _ us hl => match us, hl with | [_], _ => rfl), PySem.W.mg_of X G a_letter_line, k_letter_line⟩
    d_first_wrong := ⟨def_mk l_first_wrong q_first_wrong k_first_wrong (fun _ _ _ _ _ _ us hl => match us, hl with | [_], _ => rfl), PySem.W.mg_of X G a_first_wrong, k_first_wrong⟩
    d_Committee_init := ⟨def_mk l_Committee_init q_Committee_init k_Committee_init (fun _ _ _ _ _ _ us hl => match us, hl with | [_, _], _ => rfl), a_Committee_init, i_Committee_init, k_Committee_init⟩
    d_Committee_weight_of := ⟨def_mk l_Committee_weight_of q_Committee_weight_of k_Committee_weight_of (fun _ _ _ _ _ _ us hl => match us, hl with | [_, _], _ => rfl), a_Committee_weight_of, i_Committee_weight_of, k_Committee_weight_of⟩
    d_Committee_is_quorum := ⟨def_mk l_Committee_is_quorum q_Committee_is_quorum k_Committee_is_quorum (fun _ _ _ _ _ _ us hl => match us, hl with | [_, _], _ => rfl), a_Committee_is_quorum, i_Committee_is_quorum, k_Committee_is_quorum⟩
    d_votes_by_turn := ⟨def_mk l_votes_by_turn q_votes_by_turn k_votes_by_turn (fun _ _ _ _ _ _ us hl => match us, hl with | [_, _, _, _], _ => rfl), PySem.W.mg_of X G a_votes_by_turn, k_votes_by_turn⟩
    d_counts := ⟨def_mk l_counts q_counts k_counts (fun _ _ _ _ _ _ us hl => match us, hl with | [_, _], _ => rfl), PySem.W.mg_of X G a_counts, k_counts⟩
    d_certified_turns := ⟨def_mk l_certified_turns q_certified_turns k_certified_turns (fun _ _ _ _ _ _ us hl => match us, hl with | [_, _, _, _], _ => rfl), PySem.W.mg_of X G a_certified_turns, k_certified_turns⟩
    d_committed_turns := ⟨def_mk l_committed_turns q_committed_turns k_committed_turns (fun _ _ _ _ _ _ us hl => match us, hl with | [_, _, _, _], _ => rfl), PySem.W.mg_of X G a_committed_turns, k_committed_turns⟩
    d_shown_turn := ⟨def_mk l_shown_turn q_shown_turn k_shown_turn (fun _ _ _ _ _ _ us hl => match us, hl with | [_, _, _, _], _ => rfl), PySem.W.mg_of X G a_shown_turn, k_shown_turn⟩
    d_shows := ⟨def_mk l_shows q_shows k_shows (fun _ _ _ _ _ _ us hl => match us, hl with | [_, _, _, _], _ => rfl), PySem.W.mg_of X G a_shows, k_shows⟩
    d_law_cell := ⟨def_mk l_law_cell q_law_cell k_law_cell (fun _ _ _ _ _ _ us hl => match us, hl with | [_, _], _ => rfl), PySem.W.mg_of X G a_law_cell, k_law_cell⟩
    d_law_row := ⟨def_mk l_law_row q_law_row k_law_row (fun _ _ _ _ _ _ us hl => match us, hl with | [_, _, _], _ => rfl), PySem.W.mg_of X G a_law_row, k_law_row⟩
    d_law_weights := ⟨def_mk l_law_weights q_law_weights k_law_weights (fun _ _ _ _ _ _ us hl => match us, hl with | [_, _], _ => rfl), PySem.W.mg_of X G a_law_weights, k_law_weights⟩
    d_law_weight := ⟨def_mk l_law_weight q_law_weight k_law_weight (fun _ _ _ _ _ _ us hl => match us, hl with | [_, _], _ => rfl), PySem.W.mg_of X G a_law_weight, k_law_weight⟩
    d_law_certified := ⟨def_mk l_law_certified q_law_certified k_law_certified (fun _ _ _ _ _ _ us hl => match us, hl with | [_, _, _, _, _], _ => rfl), PySem.W.mg_of X G a_law_certified, k_law_certified⟩
    d_law_committed := ⟨def_mk l_law_committed q_law_committed k_law_committed (fun _ _ _ _ _ _ us hl => match us, hl with | [_, _, _, _, _], _ => rfl), PySem.W.mg_of X G a_law_committed, k_law_committed⟩
    d_Reader_init := ⟨def_mk l_Reader_init q_Reader_init k_Reader_init (fun _ _ _ _ _ _ us hl => match us, hl with | [_, _], _ => rfl), a_Reader_init, i_Reader_init, k_Reader_init⟩
    d_Reader_read_signs := ⟨def_mk l_Reader_read_signs q_Reader_read_signs k_Reader_read_signs (fun _ _ _ _ _ _ us hl => match us, hl with | [_, _], _ => rfl), a_Reader_read_signs, i_Reader_read_signs, k_Reader_read_signs⟩
    d_Reader_skip := ⟨def_mk l_Reader_skip q_Reader_skip k_Reader_skip (fun _ _ _ _ _ _ us hl => match us, hl with | [_, _], _ => rfl), a_Reader_skip, i_Reader_skip, k_Reader_skip⟩
    d_Reader_read_number := ⟨def_mk l_Reader_read_number q_Reader_read_number k_Reader_read_number (fun _ _ _ _ _ _ us hl => match us, hl with | [_], _ => rfl), a_Reader_read_number, i_Reader_read_number, k_Reader_read_number⟩
    d_Reader_read_code := ⟨def_mk l_Reader_read_code q_Reader_read_code k_Reader_read_code (fun _ _ _ _ _ _ us hl => match us, hl with | [_], _ => rfl), a_Reader_read_code, i_Reader_read_code, k_Reader_read_code⟩
    d_Reader_read_command := ⟨def_mk l_Reader_read_command q_Reader_read_command k_Reader_read_command (fun _ _ _ _ _ _ us hl => match us, hl with | [_], _ => rfl), a_Reader_read_command, i_Reader_read_command, k_Reader_read_command⟩
    d_commands_of := ⟨def_mk l_commands_of q_commands_of k_commands_of (fun _ _ _ _ _ _ us hl => match us, hl with | [_], _ => rfl), PySem.W.mg_of X G a_commands_of, k_commands_of⟩
    d_Ledger_init := ⟨def_mk l_Ledger_init q_Ledger_init k_Ledger_init (fun _ _ _ _ _ _ us hl => match us, hl with | [_, _, _, _], _ => rfl), a_Ledger_init, i_Ledger_init, k_Ledger_init⟩
    d_first_ledger := ⟨def_mk l_first_ledger q_first_ledger k_first_ledger (fun _ _ _ _ _ _ us hl => match us, hl with | [_], _ => rfl), PySem.W.mg_of X G a_first_ledger, k_first_ledger⟩
    d_Chain_init := ⟨def_mk l_Chain_init q_Chain_init k_Chain_init (fun _ _ _ _ _ _ us hl => match us, hl with | [_, _, _], _ => rfl), a_Chain_init, i_Chain_init, k_Chain_init⟩
    d_Chain_height := ⟨def_mk l_Chain_height q_Chain_height k_Chain_height (fun _ _ _ _ _ _ us hl => match us, hl with | [_], _ => rfl), a_Chain_height, i_Chain_height, k_Chain_height⟩
    d_Chain_committee := ⟨def_mk l_Chain_committee q_Chain_committee k_Chain_committee (fun _ _ _ _ _ _ us hl => match us, hl with | [_], _ => rfl), a_Chain_committee, i_Chain_committee, k_Chain_committee⟩
    d_Chain_extend := ⟨def_mk l_Chain_extend q_Chain_extend k_Chain_extend (fun _ _ _ _ _ _ us hl => match us, hl with | [_, _], _ => rfl), a_Chain_extend, i_Chain_extend, k_Chain_extend⟩
    d_after_weight := ⟨def_mk l_after_weight q_after_weight k_after_weight (fun _ _ _ _ _ _ us hl => match us, hl with | [_, _], _ => rfl), PySem.W.mg_of X G a_after_weight, k_after_weight⟩
    d_Client_init := ⟨def_mk l_Client_init q_Client_init k_Client_init (fun _ _ _ _ _ _ us hl => match us, hl with | [_, _, _], _ => rfl), a_Client_init, i_Client_init, k_Client_init⟩
    d_Client_follow := ⟨def_mk l_Client_follow q_Client_follow k_Client_follow (fun _ _ _ _ _ _ us hl => match us, hl with | [_, _, _], _ => rfl), a_Client_follow, i_Client_follow, k_Client_follow⟩
    d_read_head := ⟨def_mk l_read_head q_read_head k_read_head (fun _ _ _ _ _ _ us hl => match us, hl with | [_], _ => rfl), PySem.W.mg_of X G a_read_head, k_read_head⟩
    d_archive_lines := ⟨def_mk l_archive_lines q_archive_lines k_archive_lines (fun _ _ _ _ _ _ us hl => match us, hl with | [_, _], _ => rfl), PySem.W.mg_of X G a_archive_lines, k_archive_lines⟩
    d_law_shows := ⟨def_mk l_law_shows q_law_shows k_law_shows (fun _ _ _ _ _ _ us hl => match us, hl with | [_, _, _, _], _ => rfl), PySem.W.mg_of X G a_law_shows, k_law_shows⟩
    d_law_paper := ⟨def_mk l_law_paper q_law_paper k_law_paper (fun _ _ _ _ _ _ us hl => match us, hl with | [_, _, _, _], _ => rfl), PySem.W.mg_of X G a_law_paper, k_law_paper⟩
    d_law_block := ⟨def_mk l_law_block q_law_block k_law_block (fun _ _ _ _ _ _ us hl => match us, hl with | [_, _], _ => rfl), PySem.W.mg_of X G a_law_block, k_law_block⟩
    d_law_reweighted := ⟨def_mk l_law_reweighted q_law_reweighted k_law_reweighted (fun _ _ _ _ _ _ us hl => match us, hl with | [_, _], _ => rfl), PySem.W.mg_of X G a_law_reweighted, k_law_reweighted⟩
    d_law_is_integer := ⟨def_mk l_law_is_integer q_law_is_integer k_law_is_integer (fun _ _ _ _ _ _ us hl => match us, hl with | [_], _ => rfl), PySem.W.mg_of X G a_law_is_integer, k_law_is_integer⟩
    d_law_line := ⟨def_mk l_law_line q_law_line k_law_line (fun _ _ _ _ _ _ us hl => match us, hl with | [_], _ => rfl), PySem.W.mg_of X G a_law_line, k_law_line⟩
    d_refuse_before_end := ⟨def_mk l_refuse_before_end q_refuse_before_end k_refuse_before_end (fun _ _ _ _ _ _ us hl => match us, hl with | [_, _], _ => rfl), PySem.W.mg_of X G a_refuse_before_end, k_refuse_before_end⟩
    d_entry_at := ⟨def_mk l_entry_at q_entry_at k_entry_at (fun _ _ _ _ _ _ us hl => match us, hl with | [_, _], _ => rfl), PySem.W.mg_of X G a_entry_at, k_entry_at⟩
    d_read_archive := ⟨def_mk l_read_archive q_read_archive k_read_archive (fun _ _ _ _ _ _ us hl => match us, hl with | [_, _, _], _ => rfl), PySem.W.mg_of X G a_read_archive, k_read_archive⟩
    d_law_lines := ⟨def_mk l_law_lines q_law_lines k_law_lines (fun _ _ _ _ _ _ us hl => match us, hl with | [_], _ => rfl), PySem.W.mg_of X G a_law_lines, k_law_lines⟩
    d_law_due := ⟨def_mk l_law_due q_law_due k_law_due (fun _ _ _ _ _ _ us hl => match us, hl with | [_, _, _], _ => rfl), PySem.W.mg_of X G a_law_due, k_law_due⟩
    d_law_read := ⟨def_mk l_law_read q_law_read k_law_read (fun _ _ _ _ _ _ us hl => match us, hl with | [_, _, _, _], _ => rfl), PySem.W.mg_of X G a_law_read, k_law_read⟩
    d_law_spoilt := ⟨def_mk l_law_spoilt q_law_spoilt k_law_spoilt (fun _ _ _ _ _ _ us hl => match us, hl with | [_, _, _], _ => rfl), PySem.W.mg_of X G a_law_spoilt, k_law_spoilt⟩ }
  have TE : TxtE l.prog w K mg ⟨C_Reader, C_Committee, C_Ledger, C_Chain, C_Client, f_prevote, f_precommit, f_is_number, f_is_block, f_word_at, f_number_at, f_kind_at, f_block_at, f_lean_at, f_end_at, f_read_letter, f_proposal, f_word, f_letter_line, f_first_wrong, f_Committee_init, f_Committee_weight_of, f_Committee_is_quorum, f_votes_by_turn, f_counts, f_certified_turns, f_committed_turns, f_shown_turn, f_shows, f_law_cell, f_law_row, f_law_weights, f_law_weight, f_law_certified, f_law_committed, f_Reader_init, f_Reader_read_signs, f_Reader_skip, f_Reader_read_number, f_Reader_read_code, f_Reader_read_command, f_commands_of, f_Ledger_init, f_first_ledger, f_Chain_init, f_Chain_height, f_Chain_committee, f_Chain_extend, f_after_weight, f_Client_init, f_Client_follow, f_read_head, f_archive_lines, f_law_shows, f_law_paper, f_law_block, f_law_reweighted, f_law_is_integer, f_law_line, f_refuse_before_end, f_entry_at, f_read_archive, f_law_lines, f_law_due, f_law_read, f_law_spoilt, P_MARKS, M_MARKS_p, M_MARKS_w, M_MARKS_d, M_MARKS_k, C_BadCommand, C_BadPaper, C_TribunalError, C_BadLine, f_BadLine_init, C_BadArchive, f_BadArchive_init, P_KINDS⟩ := {
    g_MARKS := PySem.W.mg_of X G g_MARKS
    tab_MARKS := ktab_mk l_MARKS kl_MARKS lo_MARKS ⟨⟨_, rfl, rfl⟩, ⟨_, rfl, rfl⟩, ⟨_, rfl, rfl⟩, ⟨_, rfl, rfl⟩, trivial⟩
    s_MARKS_p := fun H => .inr ⟨_, _, _, l_MARKS_p, rfl, rfl, (by show 3 ≤ sizeLine; decide), (.cons ⟨_, rfl⟩ (.cons ⟨_, rfl⟩ (.cons ⟨_, rfl⟩ .nil)))⟩
    s_MARKS_w := fun H => .inr ⟨_, _, _, l_MARKS_w, rfl, rfl, (by show 2 ≤ sizeLine; decide), (.cons ⟨_, rfl⟩ (.cons ⟨_, rfl⟩ .nil))⟩
    s_MARKS_d := fun H => .inr ⟨_, _, _, l_MARKS_d, rfl, rfl, (by show 2 ≤ sizeLine; decide), (.cons ⟨_, rfl⟩ (.cons ⟨_, rfl⟩ .nil))⟩
    s_MARKS_k := fun H => .inr ⟨_, _, _, l_MARKS_k, rfl, rfl, (by show 3 ≤ sizeLine; decide), (.cons ⟨_, rfl⟩ (.cons ⟨_, rfl⟩ (.cons ⟨_, rfl⟩ .nil)))⟩
    g_BadCommand := PySem.W.mg_of X G g_BadCommand
    x_BadCommand := x_BadCommand
    kc_BadCommand := kc_BadCommand
    b_BadCommand := b_BadCommand
    t_BadCommand := t_BadCommand
    xc_BadCommand := ⟨(PySem.W.any_some xhd_BadCommand).elim fun cd h => by rw [h.1]; rfl, xga_BadCommand, xgt_BadCommand, b_BadCommand, xhd_BadCommand, xcc_BadCommand, xsp_BadCommand, xtk_BadCommand, xmo_BadCommand⟩
    exm_BadCommand_BadCommand := PySem.W.exm_ref te1_BadCommand te2_BadCommand te3_BadCommand te4_BadCommand_BadCommand
    g_BadPaper := PySem.W.mg_of X G g_BadPaper
    x_BadPaper := x_BadPaper
    kc_BadPaper := kc_BadPaper
    b_BadPaper := b_BadPaper
    t_BadPaper := t_BadPaper
    xc_BadPaper := ⟨(PySem.W.any_some xhd_BadPaper).elim fun cd h => by rw [h.1]; rfl, xga_BadPaper, xgt_BadPaper, b_BadPaper, xhd_BadPaper, xcc_BadPaper, xsp_BadPaper, xtk_BadPaper, xmo_BadPaper⟩
    kt_BadPaper_BadPaper := kt_BadPaper_BadPaper
    exm_BadPaper_BadPaper := PySem.W.exm_ref te1_BadPaper te2_BadPaper te3_BadPaper te4_BadPaper_BadPaper
    g_BadLine := PySem.W.mg_of X G g_BadLine
    sup_BadLine := ⟨_, { fn := ⟨_, _, _, _, _, _, _, _, _, _, _, _, _, _, _, _, _, _, _, rfl, l_BadLine_init, q_BadLine_init, ce_BadLine_init, co_BadLine_init, v2_BadLine_init, fi_BadLine_init⟩, oex := ⟨⟨_, _, _, _, _, _, _, _, _, _, _, _, _, _, _, lc_BadLine, rb_BadLine⟩, sa_BadLine, eb_BadLine, ty_BadLine, kc_BadLine⟩, sup := su_BadLine, opq := op_BadLine, subV := sv_BadLine, mroC := mc_BadLine, nof := nf_BadLine, topS := ts_BadLine }, .all fun us hl => match us, hl with | [_, _], _ => rfl⟩
    iC_BadLine := a_BadLine_init
    tI_BadLine := tI_BadLine_init
    oex_BadLine := ⟨⟨_, _, _, _, _, _, _, _, _, _, _, _, _, _, _, lc_BadLine, rb_BadLine⟩, sa_BadLine, eb_BadLine, ty_BadLine, kc_BadLine⟩
    xc_BadLine := ⟨by unfold PySem.W.clsIn; rw [lc_BadLine]; rfl, xga_BadLine, xgt_BadLine, eb_BadLine, xhd_BadLine, xcc_BadLine, xsp_BadLine, xtk_BadLine, xmo_BadLine⟩
    g_BadArchive := PySem.W.mg_of X G g_BadArchive
    sup_BadArchive := ⟨_, { fn := ⟨_, _, _, _, _, _, _, _, _, _, _, _, _, _, _, _, _, _, _, rfl, l_BadArchive_init, q_BadArchive_init, ce_BadArchive_init, co_BadArchive_init, v2_BadArchive_init, fi_BadArchive_init⟩, oex := ⟨⟨_, _, _, _, _, _, _, _, _, _, _, _, _, _, _, lc_BadArchive, rb_BadArchive⟩, sa_BadArchive, eb_BadArchive, ty_BadArchive, kc_BadArchive⟩, sup := su_BadArchive, opq := op_BadArchive, subV := sv_BadArchive, mroC := mc_BadArchive, nof := nf_BadArchive, topS := ts_BadArchive }, .all fun us hl => match us, hl with | [_, _], _ => rfl⟩
    iC_BadArchive := a_BadArchive_init
    tI_BadArchive := tI_BadArchive_init
    oex_BadArchive := ⟨⟨_, _, _, _, _, _, _, _, _, _, _, _, _, _, _, lc_BadArchive, rb_BadArchive⟩, sa_BadArchive, eb_BadArchive, ty_BadArchive, kc_BadArchive⟩
    xc_BadArchive := ⟨by unfold PySem.W.clsIn; rw [lc_BadArchive]; rfl, xga_BadArchive, xgt_BadArchive, eb_BadArchive, xhd_BadArchive, xcc_BadArchive, xsp_BadArchive, xtk_BadArchive, xmo_BadArchive⟩
    g_KINDS := PySem.W.mg_of X G g_KINDS
    s_KINDS := fun H => .inr ⟨_, _, _, l_KINDS, rfl, rfl, (by show 3 ≤ sizeLine; decide), (.cons ⟨_, rfl⟩ (.cons ⟨_, rfl⟩ (.cons ⟨_, rfl⟩ .nil)))⟩
    exm_BadLine_BadLine := PySem.W.exm_ref te1_BadLine te2_BadLine te3_BadLine te4_BadLine_BadLine
    g_TribunalError := PySem.W.mg_of X G g_TribunalError
    exm_TribunalError_BadArchive := PySem.W.exm_ref te1_TribunalError te2_TribunalError te3_TribunalError te4_TribunalError_BadArchive
    kta_BadArchive_BadLine_BadPaper := kta_BadArchive_BadLine_BadPaper
    kt_BadArchive_BadArchive := kt_BadArchive_BadArchive }
  have F5 := fun_mk (st := s_law) l_law q_law k_law
  exact ⟨PySem.W.fnOf "law" "law" (defArgs s_law) (defBody s_law) (defScope s_law) .none kV_law dc_law pm_law an_law cd_law ct_law, fun s v => .of_eq rfl, fun base _ _ => ok_law F5 TE T⟩
theorem walk {l : PySem.W.OpenLaw} {q : Program} {loose : List Str} {XP : (Str → Option Value) → Heap → Prop} {YP : World → Heap → Prop} {d : DefRec} {K : Params → PySem.W.Frag} (hn : l.most = some 63) (hdf : d.params.defaults = [])
    (hY : ∀ (w : World) (h : Heap), YP w h → (K w.params).In h)
    (F : ∀ (w : World) (mg : Str → Option Value) (fa : Addr) (h : Heap), (K w.params).In h → h.Ns mainGlobals mg → mg d.name = some (.ref fa) →
      ∃ fd : FuncData, (∀ (s : Shared) (u : Value), BindsTo s fd ⟨[u], []⟩ [("script", u)]) ∧ ∀ base : Heap, (K w.params).In base → base.Ns mainGlobals mg → FnOk l.prog w (K w.params) mg base CX0 10 fa fd ["script"] (spLaw (K w.params))) :
    PySem.W.WalkO q loose XP YP l.row.toRowW d [] (fun f vs => PySem.call f vs) :=
  L2.walk_of (n := 63) (k := 10) (x := "script") (CX := fun _ => CX0) (sp := fun w => spLaw (K w.params)) hn (by decide) hdf ⟨rfl, by decide, by decide⟩ hY F (fun _ _ a ns hl _ hS => ⟨a, ns, rfl, hS, hl, fun _ => rfl⟩) fun _ _ _ _ _ z => z
end Toy
namespace PySem.W.Fast
theorem tw5354436004914805022 : True := trivial
theorem tw4229913565977342652 : True := trivial
theorem tw11132991258782571399 : True := trivial
theorem tw17289212613094597266 : True := trivial
theorem tw15720338520874356938 : True := trivial
theorem tw11723263522694931385 : True := trivial
theorem tw13823342298765845774 : True := trivial
theorem tw3980603185939743509 : True := trivial
theorem tw6026416325617448632 : True := trivial
theorem tw16710023476832417051 : True := trivial
theorem tw4344172452783894979 : True := trivial
theorem tw13151703683717520907 : True := trivial
theorem tw17597633094918493186 : True := trivial
theorem tw3225841777155495951 : True := trivial
theorem tw6440185255416487962 : True := trivial
theorem tw12653860686962575476 : True := trivial
theorem tw949846292986479827 : True := trivial
theorem tw6282680871968927774 : True := trivial
theorem tw9685137168344468226 : True := trivial
theorem tw17728705122454028691 : True := trivial
theorem tw14317107748695482134 : True := trivial
theorem tw6845128312582791311 : True := trivial
theorem tw6229800950124681682 : True := trivial
theorem tw8466612410630869216 : True := trivial
theorem tw7371260678322988213 : True := trivial
theorem tw7405291047186892308 : True := trivial
theorem tw4912149327781987452 : True := trivial
theorem tw3142888566764744076 : True := trivial
theorem tw13358990906258295622 : True := trivial
theorem tw15224638393835571370 : True := trivial
theorem tw14741730758608991647 : True := trivial
theorem tw13157221825895477722 : True := trivial
theorem tw7070639615524763228 : True := trivial
theorem tw2573556519077974277 : True := trivial
theorem tw15794357710594177107 : True := trivial
theorem tw14042890837356599645 : True := trivial
theorem tw3190732204985299843 : True := trivial
theorem tw2096005078399313908 : True := trivial
theorem tw13464900130941656148 : True := trivial
theorem tw19428923370020759 : True := trivial
theorem tw12642815969436827922 : True := trivial
theorem tw10783909144537874924 : True := trivial
theorem tw11900243293495947578 : True := trivial
theorem tw1226852763868194241 : True := trivial
theorem tw7584509087970069356 : True := trivial
theorem tw18223743335462195949 : True := trivial
theorem tw16458607718693642737 : True := trivial
theorem tw13363065494670058398 : True := trivial
theorem tw18073886205756625160 : True := trivial
theorem tw2203645921370402470 : True := trivial
theorem tw11637748273702997154 : True := trivial
theorem tw17172825936275267644 : True := trivial
theorem tw12067992373998809473 : True := trivial
theorem tw2613232025255775681 : True := trivial
theorem tw15897348382106043208 : True := trivial
theorem tw8713041184603360057 : True := trivial
theorem tw13192884484398108656 : True := trivial
theorem tw2563215310518642728 : True := trivial
theorem tw759573794641568535 : True := trivial
theorem tw13277538799756140194 : True := trivial
theorem tw5874126003595210407 : True := trivial
theorem tw4207091371494617179 : True := trivial
theorem tw1385126252226590577 : True := trivial
theorem tw2048684037955416286 : True := trivial
theorem tw2019435663621813748 : True := trivial
theorem tw9959783655208384535 : True := trivial
theorem tw11350407848966911582 : True := trivial
theorem tw15089538813126596575 : True := trivial
theorem tw9330416334638535242 : True := trivial
theorem tw15791086685401134045 : True := trivial
theorem tw1847032999983522810 : True := trivial
theorem tw13567775626986098734 : True := trivial
theorem tw13699622690028240484 : True := trivial
theorem tw9583132052576098877 : True := trivial
theorem tw2660314602090158591 : True := trivial
theorem tw2932283687234316950 : True := trivial
theorem tw8184377978433105242 : True := trivial
theorem tw15510460550251818481 : True := trivial
theorem tw9304726251636530372 : True := trivial
theorem tw14635719041656058378 : True := trivial
theorem tw10763979922467228508 : True := trivial
theorem tw1520444254868112075 : True := trivial
theorem tw11021108862587100073 : True := trivial
theorem tw17059080962307172066 : True := trivial
theorem tw7225052000138411380 : True := trivial
theorem tw13826565004188518066 : True := trivial
theorem tw909959839677666132 : True := trivial
theorem tw2142172414206513897 : True := trivial
theorem tw678982192625966622 : True := trivial
theorem tw13265092152020423335 : True := trivial
theorem tw14640271185700074096 : True := trivial
theorem tw13000498800862318784 : True := trivial
theorem tw6403496789843027176 : True := trivial
theorem tw14910493582630022721 : True := trivial
theorem tw13105885858356052119 : True := trivial
theorem tw11228295636906182303 : True := trivial
theorem tw6185352040747752220 : True := trivial
theorem tw5031631925505244880 : True := trivial
theorem tw10430475296205435354 : True := trivial
theorem tw11600556791246264056 : True := trivial
theorem tw2830802825584017094 : True := trivial
theorem tw16442245075603175839 : True := trivial
theorem tw18384701628931068067 : True := trivial
theorem tw14438415242425127466 : True := trivial
theorem tw17589566558991210113 : True := trivial
theorem tw7171190502687406848 : True := trivial
theorem tw4671743087652742916 : True := trivial
theorem tw11221884541048375041 : True := trivial
theorem tw3690117389915171068 : True := trivial
theorem tw1328006437314843725 : True := trivial
theorem tw9641553144129150854 : True := trivial
theorem tw11110795573285432983 : True := trivial
theorem tw7026406541526486590 : True := trivial
theorem tw13270517758358420463 : True := trivial
theorem tw11641978707662051995 : True := trivial
theorem tw17291628802229614335 : True := trivial
theorem tw8858126417654070479 : True := trivial
theorem tw10115428135444538998 : True := trivial
theorem tw5727161178661496680 : True := trivial
theorem tw9011746036301148317 : True := trivial
theorem tw229911928084922490 : True := trivial
theorem tw5118498689632397978 : True := trivial
theorem tw10875774218388274788 : True := trivial
theorem tw12033820653323655100 : True := trivial
theorem tw12269199056275983189 : True := trivial
theorem tw11171843365444752747 : True := trivial
theorem tw3759169674350885122 : True := trivial
theorem tw1709710893091283773 : True := trivial
theorem tw13118634683553010945 : True := trivial
theorem tw10598222334316280472 : True := trivial
theorem tw3533136730420891798 : True := trivial
theorem tw36517096410259049 : True := trivial
theorem tw6795230375024270435 : True := trivial
theorem tw18114013904227394488 : True := trivial
theorem tw2213810298737591141 : True := trivial
theorem tw10143527438002889254 : True := trivial
theorem tw18426565979127799795 : True := trivial
theorem tw8698591151573250256 : True := trivial
theorem tw12048658506559803962 : True := trivial
theorem tw1056106532721335022 : True := trivial
theorem tw16077603621076326023 : True := trivial
theorem tw9444721442505985823 : True := trivial
theorem tw6689831400948283991 : True := trivial
theorem tw13346480685235597465 : True := trivial
theorem tw14374258933068724693 : True := trivial
theorem tw14401639712950673184 : True := trivial
theorem tw3250697209192031694 : True := trivial
theorem tw1293217555802380580 : True := trivial
theorem tw7181220680359927276 : True := trivial
theorem tw264956574950376633 : True := trivial
theorem tw15035439631974958510 : True := trivial
theorem tw12378611495804160113 : True := trivial
theorem tw17154301509432869793 : True := trivial
theorem tw7163602985312331543 : True := trivial
theorem tw7189804367499214664 : True := trivial
theorem tw12107796543691615376 : True := trivial
theorem tw2467254617087880425 : True := trivial
theorem tw12060192858481659786 : True := trivial
theorem tw14148449829912758877 : True := trivial
theorem tw9268649252963264227 : True := trivial
theorem tw11857972767828650672 : True := trivial
theorem tw1898608577629616300 : True := trivial
theorem tw3617936842688514091 : True := trivial
theorem tw13207097675024613349 : True := trivial
theorem tw9060071628180121041 : True := trivial
theorem tw937558342458265034 : True := trivial
theorem tw2562114034804263081 : True := trivial
theorem tw12976735286440379226 : True := trivial
theorem tw9907758955505101084 : True := trivial
theorem tw15410063133049626885 : True := trivial
theorem tw1587912576159112010 : True := trivial
theorem tw17495148943216917243 : True := trivial
theorem tw1309627312366468688 : True := trivial
theorem tw13051798573129546728 : True := trivial
theorem tw811531724620071876 : True := trivial
theorem tw8608340565994574505 : True := trivial
theorem tw12361574603747284166 : True := trivial
theorem tw14758084884942437314 : True := trivial
theorem tw16673922316580117276 : True := trivial
theorem tw14863139888260131512 : True := trivial
theorem tw17122013527389752500 : True := trivial
theorem tw5133329983087317188 : True := trivial
theorem tw10558383581596250752 : True := trivial
theorem tw15098408411087852647 : True := trivial
theorem tw1347946301811920403 : True := trivial
theorem tw17454976263845880882 : True := trivial
theorem tw11542104217168604017 : True := trivial
theorem tw6277548106385174560 : True := trivial
theorem tw13151806051899633196 : True := trivial
theorem tw9572618804544357701 : True := trivial
theorem tw5563850644966102066 : True := trivial
theorem tw7998463391485530633 : True := trivial
theorem tw9911325772276962744 : True := trivial
theorem tw2193730728462165254 : True := trivial
theorem tw11564813120979828573 : True := trivial
theorem tw9139970213054098524 : True := trivial
theorem tw4315898356230426336 : True := trivial
theorem tw5749787543361029009 : True := trivial
theorem tw1228335962717010795 : True := trivial
theorem tw12659720725562618468 : True := trivial
theorem tw15769484238894608726 : True := trivial
theorem tw7450694570250810110 : True := trivial
theorem tw11694602764479137974 : True := trivial
theorem tw18376514538169331030 : True := trivial
theorem tw5980972385444766069 : True := trivial
theorem tw4500022339119168023 : True := trivial
theorem tw6413241075074324633 : True := trivial
theorem tw12634165624229940718 : True := trivial
theorem tw1272768697542295684 : True := trivial
theorem tw7921855035104276479 : True := trivial
theorem tw14704600730821921309 : True := trivial
theorem tw18385540580589725605 : True := trivial
theorem tw1341995630047764676 : True := trivial
theorem tw20148755829131119 : True := trivial
theorem tw9271688344215096567 : True := trivial
theorem tw496407662909089703 : True := trivial
theorem tw10993310045706147664 : True := trivial
theorem tw6851465213114279709 : True := trivial
theorem tw12400497355051449253 : True := trivial
theorem tw1680556441192170903 : True := trivial
theorem tw9585177234389347499 : True := trivial
theorem tw1240076786936390961 : True := trivial
theorem tw7125453017614147606 : True := trivial
theorem tw15665903774735166241 : True := trivial
theorem tw15132678072643217594 : True := trivial
theorem tw13510718307849736762 : True := trivial
theorem tw17332896206005202230 : True := trivial
theorem tw6998498130196930593 : True := trivial
theorem tw6015043414808946191 : True := trivial
theorem tw17937434157375761787 : True := trivial
theorem tw14596592572323207957 : True := trivial
theorem tw9760089366575159273 : True := trivial
theorem tw11482076598792527742 : True := trivial
theorem tw7681645374255007476 : True := trivial
theorem tw1083125190387545300 : True := trivial
theorem tw14443849479058614690 : True := trivial
theorem tw14693476123466409452 : True := trivial
theorem tw10567965649026548712 : True := trivial
theorem tw16760138549133715747 : True := trivial
theorem tw9502580849873353356 : True := trivial
theorem tw11224922532336139381 : True := trivial
theorem tw1341704420933638973 : True := trivial
theorem tw1862520013227666473 : True := trivial
theorem tw8680323687456162316 : True := trivial
theorem tw14595105430388147797 : True := trivial
theorem tw5901517828477449749 : True := trivial
theorem tw17401383084584771097 : True := trivial
theorem tw15840536924594402541 : True := trivial
theorem tw2930501115430791627 : True := trivial
theorem tw4092882743977289861 : True := trivial
theorem tw9980923378361111975 : True := trivial
theorem tw15777765593098038776 : True := trivial
theorem tw2385096100137830042 : True := trivial
theorem tw17788427635614020910 : True := trivial
theorem tw16893341847687962805 : True := trivial
theorem tw11440010011374047777 : True := trivial
theorem tw16300186390753930633 : True := trivial
theorem tw17970463767902747144 : True := trivial
theorem tw9176266839555328971 : True := trivial
theorem tw13367040995411271669 : True := trivial
theorem tw8252350772068583389 : True := trivial
theorem tw11027834706264800532 : True := trivial
theorem tw8583792653771359007 : True := trivial
theorem tw3490971479867176207 : True := trivial
theorem tw15069861968392825764 : True := trivial
theorem tw1342595017628967181 : True := trivial
theorem tw10222474905745110095 : True := trivial
theorem tw17665547565777245284 : True := trivial
theorem tw13555536419558255043 : True := trivial
theorem tw3984902832286451623 : True := trivial
theorem tw17100386199006916736 : True := trivial
theorem tw17933230329399288142 : True := trivial
theorem tw5871276504721445116 : True := trivial
theorem tw12165230707312161620 : True := trivial
theorem tw17515974154255596177 : True := trivial
theorem tw8761738594079587283 : True := trivial
theorem tw10822366901435302305 : True := trivial
theorem tw16339265923614363930 : True := trivial
theorem tw344939728659147210 : True := trivial
theorem tw3340462413868894364 : True := trivial
theorem tw7368321180670767242 : True := trivial
theorem tw7529405733752327411 : True := trivial
theorem tw6755623007420102191 : True := trivial
theorem tw16777956187692199625 : True := trivial
theorem tw12804059878967613730 : True := trivial
theorem tw10143000582836788714 : True := trivial
theorem tw3086771246822957947 : True := trivial
theorem tw16453143629875573476 : True := trivial
theorem tw3737419176047470520 : True := trivial
theorem tw10954314568386457454 : True := trivial
theorem tw6175479116228174810 : True := trivial
theorem tw8236442020034217573 : True := trivial
theorem tw9985082122795654957 : True := trivial
theorem tw7331970246899385432 : True := trivial
theorem tw316208305105946173 : True := trivial
theorem tw270974505968756479 : True := trivial
theorem tw1503884739605815722 : True := trivial
theorem tw2829348096865339542 : True := trivial
theorem tw9787505466528462903 : True := trivial
theorem tw15248260716153940223 : True := trivial
theorem tw7013735013091646114 : True := trivial
theorem tw9739753199470516387 : True := trivial
theorem tw11815805948336058004 : True := trivial
theorem tw857277110153408414 : True := trivial
theorem tw16135451420707953975 : True := trivial
theorem tw9498907889184374929 : True := trivial
theorem tw9205055253828397690 : True := trivial
theorem tw11118473404136024366 : True := trivial
theorem tw10516156145659273081 : True := trivial
theorem tw8045415191898320927 : True := trivial
theorem tw5796306172857608252 : True := trivial
theorem tw13378037664326303836 : True := trivial
theorem tw6560167243009700586 : True := trivial
theorem tw2453805902483696673 : True := trivial
theorem tw8267456002874558052 : True := trivial
theorem tw4759007451014830400 : True := trivial
theorem tw17086849021196877914 : True := trivial
theorem tw16041551815568543396 : True := trivial
theorem tw3667710289337753423 : True := trivial
theorem tw7848692842349050189 : True := trivial
theorem tw17336849017894033261 : True := trivial
theorem tw13371901937568943026 : True := trivial
theorem tw14523630888366183407 : True := trivial
theorem tw9512354488273055275 : True := trivial
theorem tw3097546246055752218 : True := trivial
theorem tw406813159006980140 : True := trivial
theorem tw8303481559687997196 : True := trivial
theorem tw13159233973219180414 : True := trivial
theorem tw1908334282528811260 : True := trivial
theorem tw16066375484317376201 : True := trivial
theorem tw11794096701006647086 : True := trivial
theorem tw16277148460553882851 : True := trivial
theorem tw11558255866031641807 : True := trivial
theorem tw10936995884516996347 : True := trivial
theorem tw2362930555564179297 : True := trivial
theorem tw6208905850495814394 : True := trivial
theorem tw6685227051968395893 : True := trivial
theorem tw635604008728790669 : True := trivial
theorem tw7387556499289222176 : True := trivial
theorem tw1616234256428121934 : True := trivial
theorem tw3544381392762605766 : True := trivial
theorem tw3568726885670445745 : True := trivial
theorem tw16045122247299260403 : True := trivial
theorem tw4068424197532167890 : True := trivial
theorem tw15189218006951818969 : True := trivial
theorem tw3477527560902083417 : True := trivial
theorem tw2478839473732544478 : True := trivial
theorem tw6567351368466516393 : True := trivial
theorem tw6229702963230873539 : True := trivial
theorem tw5899741994730823306 : True := trivial
theorem tw16267205161816510981 : True := trivial
theorem tw1907424608147097454 : True := trivial
theorem tw9179290047440653670 : True := trivial
theorem tw8032424355735284678 : True := trivial
theorem tw2811539696621592914 : True := trivial
theorem tw9262717623599627565 : True := trivial
theorem tw11928181808976560011 : True := trivial
theorem tw11990408156879706967 : True := trivial
theorem tw9957087231530227850 : True := trivial
theorem tw18376639062943379942 : True := trivial
theorem tw16072239306150136562 : True := trivial
theorem tw15063124365016409746 : True := trivial
theorem tw1715610027376345435 : True := trivial
theorem tw10450896799798889783 : True := trivial
theorem tw1580136727336238315 : True := trivial
theorem tw11242438194157655961 : True := trivial
theorem tw13960208552794518159 : True := trivial
theorem tw3343923348833167842 : True := trivial
theorem tw17683685656337326181 : True := trivial
theorem tw10630878971920641584 : True := trivial
theorem tw14615569955941022437 : True := trivial
theorem tw5216543324424309372 : True := trivial
theorem tw10554236020764541643 : True := trivial
theorem tw13359933789734082527 : True := trivial
theorem tw15412197074238813425 : True := trivial
theorem tw4161283315429762682 : True := trivial
theorem tw4239835931954782511 : True := trivial
theorem tw11083812792852913282 : True := trivial
theorem tw17261476478932030297 : True := trivial
theorem tw140376550216427250 : True := trivial
theorem tw16724224588173914563 : True := trivial
theorem tw3457292399532755474 : True := trivial
theorem tw14544360658973005513 : True := trivial
theorem tw17266997993904754696 : True := trivial
theorem tw9860839585237699703 : True := trivial
theorem tw12370108743216259178 : True := trivial
theorem tw11170222455787236317 : True := trivial
theorem tw9871486248578986459 : True := trivial
theorem tw9281779223606630135 : True := trivial
theorem tw17704078902594126187 : True := trivial
theorem tw5833856384659439179 : True := trivial
theorem tw12648497383308771458 : True := trivial
theorem tw5479069038234093376 : True := trivial
theorem tw2635254405008185693 : True := trivial
theorem tw12391166238755960034 : True := trivial
theorem tw11076901135428887881 : True := trivial
theorem tw10636997930448892216 : True := trivial
theorem tw4894543583344962757 : True := trivial
theorem tw11210397582194269851 : True := trivial
theorem tw2770116278007858467 : True := trivial
theorem tw16175568179851311941 : True := trivial
theorem tw5791882901447272651 : True := trivial
theorem tw11607238769208265466 : True := trivial
theorem tw14070812136778042474 : True := trivial
theorem tw1764042607305080199 : True := trivial
theorem tw4990295362076666808 : True := trivial
theorem tw4105177717616399169 : True := trivial
theorem tw9596083800966231186 : True := trivial
theorem tw16673939481023482543 : True := trivial
theorem tw7351198992446099325 : True := trivial
theorem tw8221855234104932698 : True := trivial
theorem tw12624321611050467512 : True := trivial
theorem tw9134161691007429212 : True := trivial
theorem tw16434387996845353460 : True := trivial
theorem tw13926502105407774881 : True := trivial
theorem tw8608680435956984817 : True := trivial
theorem tw8711009981421126590 : True := trivial
theorem tw5969846482068065368 : True := trivial
theorem tw5031517378081316042 : True := trivial
theorem tw11342307533372863664 : True := trivial
theorem tw9357641182777553792 : True := trivial
theorem tw12732773670146485049 : True := trivial
theorem tw3231761954235709644 : True := trivial
theorem tw7952402822425230691 : True := trivial
theorem tw14652419558459059453 : True := trivial
theorem tw17913227562581090292 : True := trivial
theorem tw3515515913203284310 : True := trivial
theorem tw7228317534410922199 : True := trivial
theorem tw17289136668208609581 : True := trivial
theorem tw2000111419211735786 : True := trivial
theorem tw10645855380231552636 : True := trivial
theorem tw10991577673842084055 : True := trivial
theorem tw16572364610580971008 : True := trivial
theorem tw7325995949693705259 : True := trivial
theorem tw11484328004494305695 : True := trivial
theorem tw1668556651498158017 : True := trivial
theorem tw14732380755903222780 : True := trivial
theorem tw2577829514880921883 : True := trivial
theorem tw11385210571715800418 : True := trivial
theorem tw4522998099474383922 : True := trivial
theorem tw503607004830991448 : True := trivial
theorem tw14982274708850245250 : True := trivial
theorem tw11457481844707267048 : True := trivial
theorem tw12530601994880410200 : True := trivial
theorem tw8820137581823397143 : True := trivial
theorem tw13677882055234304714 : True := trivial
theorem tw12748393438204433362 : True := trivial
theorem tw10125719368069269412 : True := trivial
theorem tw10447827894535487453 : True := trivial
theorem tw16039497278345916209 : True := trivial
theorem tw9505854413121332176 : True := trivial
theorem tw3541210640263950033 : True := trivial
theorem tw10966558510705509041 : True := trivial
theorem tw15914728121971355307 : True := trivial
theorem tw8435119938858283249 : True := trivial
theorem tw10350836873555142591 : True := trivial
theorem tw1005080814329843119 : True := trivial
theorem tw8790064819999965534 : True := trivial
theorem tw14900789803887973084 : True := trivial
theorem tw7865077369263617795 : True := trivial
theorem tw14799780609024973677 : True := trivial
theorem tw9412092794802302856 : True := trivial
theorem tw10154350791203670210 : True := trivial
theorem tw6979703024444010852 : True := trivial
theorem tw9152738787427157331 : True := trivial
theorem tw10181246347153834512 : True := trivial
theorem tw11115792486134906678 : True := trivial
theorem tw766068789416036631 : True := trivial
theorem tw6616293197166887687 : True := trivial
theorem tw18356309094493363723 : True := trivial
theorem tw6219851200097907946 : True := trivial
theorem tw14335732094569656403 : True := trivial
theorem tw5701627688205449438 : True := trivial
theorem tw5712748590706586142 : True := trivial
theorem tw12720134109772518380 : True := trivial
theorem tw7100121972853981279 : True := trivial
theorem tw15415905396713907489 : True := trivial
theorem tw15607694215220736401 : True := trivial
theorem tw3291055936132210646 : True := trivial
theorem tw17099360268416044488 : True := trivial
theorem tw14833251364944128622 : True := trivial
theorem tw13018415870044982977 : True := trivial
theorem tw8321475347823471180 : True := trivial
theorem tw8614997664484576781 : True := trivial
theorem tw7568621339156530638 : True := trivial
theorem tw7589624294712169818 : True := trivial
theorem tw877606056307083240 : True := trivial
theorem tw10065471362687198087 : True := trivial
theorem tw2117402290038253414 : True := trivial
theorem tw5511467719002327032 : True := trivial
theorem tw5549634721180719371 : True := trivial
theorem tw17337969782407712242 : True := trivial
theorem tw15838342818389086254 : True := trivial
theorem tw7540177170015636154 : True := trivial
theorem tw5683785349369468787 : True := trivial
theorem tw12887417648582452555 : True := trivial
theorem tw16481462202288866056 : True := trivial
theorem tw5295036842377304045 : True := trivial
theorem tw11696677332570258819 : True := trivial
theorem tw14516841161979268338 : True := trivial
theorem tw9258747709345199916 : True := trivial
theorem tw7200343756338615242 : True := trivial
theorem tw2977911573403967638 : True := trivial
theorem tw5515293705400314903 : True := trivial
theorem tw13175625802754588446 : True := trivial
theorem tw3226897588716530655 : True := trivial
theorem tw8480743269362712545 : True := trivial
theorem tw6314718206260040416 : True := trivial
theorem tw11532130979318485243 : True := trivial
theorem tw599392504134615970 : True := trivial
theorem tw3836106232976373489 : True := trivial
theorem tw12673270539547835400 : True := trivial
theorem tw1670821481116863759 : True := trivial
theorem tw4216493591899389528 : True := trivial
theorem tw2374981966966459063 : True := trivial
theorem tw5718511101103099903 : True := trivial
theorem tw5381661981122190143 : True := trivial
theorem tw6763382744022600909 : True := trivial
theorem tw4385835739160389699 : True := trivial
theorem tw501568081400552440 : True := trivial
theorem tw10821822412194922507 : True := trivial
theorem tw17773042809212983736 : True := trivial
theorem tw4899136438027490963 : True := trivial
theorem tw14189224589271726261 : True := trivial
theorem tw3697611273533577736 : True := trivial
theorem tw1431236176910164010 : True := trivial
theorem tw13954913136989441856 : True := trivial
theorem tw15304961753686620770 : True := trivial
theorem tw3357229639281963217 : True := trivial
theorem tw3547238198366886554 : True := trivial
theorem tw9032709849442913756 : True := trivial
theorem tw7135974086572622043 : True := trivial
theorem tw12058750093268235061 : True := trivial
theorem tw16517590131701816618 : True := trivial
theorem tw13690564957206173813 : True := trivial
theorem tw4440006574842920608 : True := trivial
theorem tw7731706193523651875 : True := trivial
theorem tw14227666526577207161 : True := trivial
theorem tw8371400214730929816 : True := trivial
theorem tw10815622983294612783 : True := trivial
theorem tw11697925351867199225 : True := trivial
theorem tw2797090994771637738 : True := trivial
theorem tw12611169708970462826 : True := trivial
theorem tw17570146971414452596 : True := trivial
theorem tw5681991719887085519 : True := trivial
theorem tw9154216069875243027 : True := trivial
theorem tw18231546995385983411 : True := trivial
theorem tw11025635808055830530 : True := trivial
theorem tw15926662103239608043 : True := trivial
theorem tw1785061610578574627 : True := trivial
theorem tw4646099920735274258 : True := trivial
theorem tw14870863702418104230 : True := trivial
theorem tw12256595824914980997 : True := trivial
theorem tw10047602383297378657 : True := trivial
theorem tw8273978724673662512 : True := trivial
theorem tw8361898929147337530 : True := trivial
theorem tw11530812710287091809 : True := trivial
theorem tw2379594404695402934 : True := trivial
theorem tw4044015410748058149 : True := trivial
theorem tw10831869707069317261 : True := trivial
theorem tw10462047942319523259 : True := trivial
theorem tw3274731704726780068 : True := trivial
theorem tw13269970946666120354 : True := trivial
theorem tw12694652000292749021 : True := trivial
theorem tw15517826096515973569 : True := trivial
theorem tw16417901146747967976 : True := trivial
theorem tw3665792645717631150 : True := trivial
theorem tw15547550314981338395 : True := trivial
theorem tw5918709196448225149 : True := trivial
theorem tw16136823732261885769 : True := trivial
theorem tw2748328870437614840 : True := trivial
theorem tw5369198353537587264 : True := trivial
theorem tw15365697357337267865 : True := trivial
theorem tw6459399291137819559 : True := trivial
theorem tw4489694278582833312 : True := trivial
theorem tw9758021245260577950 : True := trivial
theorem tw1215903972123314501 : True := trivial
theorem tw1259251669046645620 : True := trivial
theorem tw13223072498485991973 : True := trivial
theorem tw6005823644667871208 : True := trivial
theorem tw1070344188879679609 : True := trivial
theorem tw8289417757758871265 : True := trivial
theorem tw10310673766763745316 : True := trivial
theorem tw15411388397763474253 : True := trivial
theorem tw16689547723139059706 : True := trivial
theorem tw17164433095580442985 : True := trivial
theorem tw12041240374899795709 : True := trivial
theorem tw1393425011426278404 : True := trivial
theorem tw5548632134604442114 : True := trivial
theorem tw7582082960410003634 : True := trivial
theorem tw11562114693288343196 : True := trivial
theorem tw3191907421046654041 : True := trivial
theorem tw11615637056471984877 : True := trivial
theorem tw13766690749241005606 : True := trivial
theorem tw10090622992804868754 : True := trivial
theorem tw15343076650493399072 : True := trivial
theorem tw9159414710777567003 : True := trivial
theorem tw3735977854463852183 : True := trivial
theorem tw13266497350966798703 : True := trivial
theorem tw618870914414086853 : True := trivial
theorem tw5101377002435071844 : True := trivial
theorem tw18126360832511118764 : True := trivial
theorem tw5852787865830340834 : True := trivial
theorem tw2920923219104820844 : True := trivial
theorem tw3367537021298693512 : True := trivial
theorem tw17270774566578510294 : True := trivial
theorem tw8828006541073034183 : True := trivial
theorem tw1929654625659936816 : True := trivial
theorem tw10390446997271695866 : True := trivial
theorem tw17847802524353141137 : True := trivial
theorem tw5100651750397439410 : True := trivial
theorem tw8778339478120648487 : True := trivial
theorem tw4310454104024570565 : True := trivial
theorem tw1932800549482017107 : True := trivial
theorem tw4116850913670976015 : True := trivial
theorem tw11378043564918849358 : True := trivial
theorem tw8718342087346670327 : True := trivial
theorem tw5652845003050578089 : True := trivial
theorem tw5933297185208228500 : True := trivial
theorem tw2157908692821611381 : True := trivial
theorem tw16712587345491288457 : True := trivial
theorem tw17300397448194195766 : True := trivial
theorem tw7578161278314354520 : True := trivial
theorem tw17270203771059865867 : True := trivial
theorem tw2965768011456647691 : True := trivial
theorem tw5018396102282717637 : True := trivial
theorem tw17563713253449328684 : True := trivial
theorem tw7364494324340183381 : True := trivial
theorem tw640333657924063977 : True := trivial
theorem tw12608751832365695504 : True := trivial
theorem tw1848117866600586394 : True := trivial
theorem tw16949074574797908237 : True := trivial
theorem tw5969859699185552085 : True := trivial
theorem tw4668909094320875623 : True := trivial
theorem tw7479621527714639463 : True := trivial
theorem tw9768700272635617093 : True := trivial
theorem tw10289813713457519063 : True := trivial
theorem tw18334903169916941414 : True := trivial
theorem tw12856543818288668385 : True := trivial
theorem tw611741523279175266 : True := trivial
theorem tw3599631563744236894 : True := trivial
theorem tw3728597770859032450 : True := trivial
theorem tw2496197233511799281 : True := trivial
theorem tw3084577098681180590 : True := trivial
theorem tw13957787108637805101 : True := trivial
theorem tw1114251748258594646 : True := trivial
theorem tw13046539552117830520 : True := trivial
theorem tw17634666763839281793 : True := trivial
theorem tw16715380271233180363 : True := trivial
theorem tw17366449508825266248 : True := trivial
theorem tw208038001024014933 : True := trivial
theorem tw3825154755141896593 : True := trivial
theorem tw13825619594887469477 : True := trivial
theorem tw15562943442208135966 : True := trivial
theorem tw12417730826369722948 : True := trivial
theorem tw3742375046439348689 : True := trivial
theorem tw5202843427239241632 : True := trivial
theorem tw1881754509933644330 : True := trivial
theorem tw3644401242405233628 : True := trivial
theorem tw14583544188308831845 : True := trivial
theorem tw12333528730760984573 : True := trivial
theorem tw7757928137764320147 : True := trivial
theorem tw2656916011654756584 : True := trivial
theorem tw8997468392271307937 : True := trivial
theorem tw2895390554575676646 : True := trivial
theorem tw16156439357623106117 : True := trivial
theorem tw9956864805735815814 : True := trivial
theorem tw16555261315930427481 : True := trivial
theorem tw4616343946836933008 : True := trivial
theorem tw2312676801921081654 : True := trivial
theorem tw13107633854616640795 : True := trivial
theorem tw17216339554511499038 : True := trivial
theorem tw6330485973535786411 : True := trivial
theorem tw15898442623786386559 : True := trivial
theorem tw1049051942083713011 : True := trivial
theorem tw17494753023294365162 : True := trivial
theorem tw6917084935803153997 : True := trivial
theorem tw12286438475960043359 : True := trivial
theorem tw2954664658469557590 : True := trivial
theorem tw1368982707308584195 : True := trivial
theorem tw4179674376361537789 : True := trivial
theorem tw12668461737655533894 : True := trivial
theorem tw11949045688021488204 : True := trivial
theorem tw14910283122363186507 : True := trivial
theorem tw2350271329959659054 : True := trivial
theorem tw6347186633847389008 : True := trivial
theorem tw8552485087098192345 : True := trivial
theorem tw5606669038681647213 : True := trivial
theorem tw6495705368072361364 : True := trivial
theorem tw8504682446331323549 : True := trivial
theorem tw8354140481386837407 : True := trivial
theorem tw12809954904159158834 : True := trivial
theorem tw7263211204654650729 : True := trivial
theorem tw7691831002958144772 : True := trivial
theorem tw235989722707961938 : True := trivial
theorem tw17325139443872135593 : True := trivial
theorem tw1781328261451035619 : True := trivial
theorem tw1958018171668410547 : True := trivial
theorem tw5822635006276830773 : True := trivial
theorem tw16442826077805017030 : True := trivial
theorem tw5183253367667675498 : True := trivial
theorem tw17534036247916761287 : True := trivial
theorem tw17880475218784304310 : True := trivial
theorem tw14845173036323895574 : True := trivial
theorem tw1140550977844452002 : True := trivial
theorem tw15904798575565389288 : True := trivial
theorem tw7929177272469878050 : True := trivial
theorem tw13462065487984472744 : True := trivial
theorem tw16934232958171127058 : True := trivial
theorem tw15410557859388870103 : True := trivial
theorem tw2973439226099111346 : True := trivial
theorem tw3545526495505912257 : True := trivial
theorem tw8912136854076388154 : True := trivial
theorem tw10188270658626287731 : True := trivial
theorem tw7153546241714217748 : True := trivial
theorem tw11385226657638595213 : True := trivial
theorem tw16904154446768234746 : True := trivial
theorem tw10845102732512206610 : True := trivial
theorem tw16548010494511288671 : True := trivial
theorem tw16160805776608476908 : True := trivial
theorem tw9500095957343566437 : True := trivial
theorem tw9058655829837216029 : True := trivial
theorem tw4566095779616859202 : True := trivial
theorem tw9547680712243920203 : True := trivial
theorem tw2330908083973186861 : True := trivial
theorem tw16947074545282219524 : True := trivial
theorem tw13860826795516344166 : True := trivial
theorem tw6678499899114521138 : True := trivial
theorem tw9955848688475049080 : True := trivial
theorem tw10660715598582164011 : True := trivial
theorem tw8325120639767078428 : True := trivial
theorem tw5717706843243107846 : True := trivial
theorem tw15447305721482392617 : True := trivial
theorem tw4479993755208217524 : True := trivial
theorem tw17609607288699456374 : True := trivial
theorem tw12911903724803161763 : True := trivial
theorem tw8649803804369738765 : True := trivial
theorem tw1076610585821640955 : True := trivial
theorem tw16204036134772811974 : True := trivial
theorem tw1228181825083748949 : True := trivial
theorem tw12534732014154776929 : True := trivial
theorem tw8521372817525343049 : True := trivial
theorem tw13255417992227424565 : True := trivial
theorem tw13500948904404364200 : True := trivial
theorem tw11134360075019707404 : True := trivial
theorem tw3381748337595867576 : True := trivial
theorem tw2695682746328151960 : True := trivial
theorem tw9665278820990856487 : True := trivial
theorem tw3521196160907365238 : True := trivial
theorem tw15140424751666761905 : True := trivial
theorem tw15103232624399810077 : True := trivial
theorem tw15909367193966332529 : True := trivial
theorem tw202684060232249099 : True := trivial
theorem tw9164949414438679225 : True := trivial
theorem tw2640646894659931992 : True := trivial
theorem tw16285181475367519696 : True := trivial
theorem tw4867080204044568871 : True := trivial
theorem tw5982569457313986370 : True := trivial
theorem tw1290683203286352532 : True := trivial
theorem tw4426549383107284481 : True := trivial
theorem tw1726952153276332184 : True := trivial
theorem tw9882638233451661503 : True := trivial
theorem tw10472347990316350178 : True := trivial
theorem tw18350571799235954974 : True := trivial
theorem tw4784533926345397612 : True := trivial
theorem tw1418007646977675748 : True := trivial
theorem tw11342081656369784424 : True := trivial
theorem tw1945799030690862262 : True := trivial
theorem tw8253847373963197546 : True := trivial
theorem tw18065057192573470728 : True := trivial
theorem tw17367451261359401603 : True := trivial
theorem tw7948020791138752339 : True := trivial
theorem tw10026319889671657577 : True := trivial
theorem tw4037862645447045863 : True := trivial
theorem tw13255941017144723790 : True := trivial
theorem tw9176490411980155893 : True := trivial
theorem tw1550443099964990484 : True := trivial
theorem tw10957475103847533617 : True := trivial
theorem tw2840534871564881494 : True := trivial
theorem tw534427703477181654 : True := trivial
theorem tw8694784740816691050 : True := trivial
theorem tw1397731128045634859 : True := trivial
theorem tw8672046265541621434 : True := trivial
theorem tw8272426620850494129 : True := trivial
theorem tw4519709604879210837 : True := trivial
theorem tw12201515578942297511 : True := trivial
theorem tw16516462053527803902 : True := trivial
theorem tw1391367469301977790 : True := trivial
theorem tw5037382898535624340 : True := trivial
theorem tw1203259355140020551 : True := trivial
theorem tw13866475918017218989 : True := trivial
theorem tw7207060564609233921 : True := trivial
theorem tw5806675814064888963 : True := trivial
theorem tw14640195742096995758 : True := trivial
theorem tw1924381667658812174 : True := trivial
theorem tw8641552777381009844 : True := trivial
theorem tw16057525893585463535 : True := trivial
theorem tw7684199841367706222 : True := trivial
theorem tw13037842693146553192 : True := trivial
theorem tw10287120231249208186 : True := trivial
theorem tw18223559372362690003 : True := trivial
theorem tw13450340476979967676 : True := trivial
theorem tw14884799386508286546 : True := trivial
theorem tw3559618386140824212 : True := trivial
theorem tw7480584019342229994 : True := trivial
theorem tw16738376873666195261 : True := trivial
theorem tw11407769611003792719 : True := trivial
theorem tw2093496087958107645 : True := trivial
theorem tw10054730936103780430 : True := trivial
theorem tw16629313584511416176 : True := trivial
theorem tw14677345990487546797 : True := trivial
theorem tw8896118993823282639 : True := trivial
theorem tw11746653494991301626 : True := trivial
theorem tw18313859943233611810 : True := trivial
theorem tw9958860559253365787 : True := trivial
theorem tw7097174230244763885 : True := trivial
theorem tw10435885229434477514 : True := trivial
theorem tw6013702217734702202 : True := trivial
theorem tw9094447147171357445 : True := trivial
theorem tw11376667728807537607 : True := trivial
theorem tw459476584897170133 : True := trivial
theorem tw3246020467530039821 : True := trivial
theorem tw17051103801899512175 : True := trivial
theorem tw154896769034359814 : True := trivial
theorem tw14022522287812394954 : True := trivial
theorem tw17005548211605002733 : True := trivial
theorem tw10888994318560837174 : True := trivial
theorem tw8097648686419330894 : True := trivial
theorem tw10899040711015520857 : True := trivial
theorem tw16747879592907407127 : True := trivial
theorem tw9929367478638870983 : True := trivial
theorem tw1311445535514136535 : True := trivial
theorem tw12056364431180491413 : True := trivial
theorem tw8695037217921427746 : True := trivial
theorem tw9922919338666290167 : True := trivial
theorem tw4040675020483520233 : True := trivial
theorem tw5213234007306965493 : True := trivial
theorem tw12129172502357952238 : True := trivial
theorem tw16672288477627150919 : True := trivial
theorem tw18372353893169303729 : True := trivial
theorem tw2348059650163173868 : True := trivial
theorem tw8798026022393404878 : True := trivial
theorem tw7401335128669290031 : True := trivial
theorem tw14326571514295181014 : True := trivial
theorem tw11534994300522567141 : True := trivial
theorem tw7756098359330805510 : True := trivial
theorem tw2958786110168618165 : True := trivial
theorem tw10879502266718230994 : True := trivial
theorem tw17005688860116728207 : True := trivial
theorem tw1453316327999755980 : True := trivial
theorem tw7509496547693935326 : True := trivial
theorem tw828832934290236150 : True := trivial
theorem tw17852681229361874411 : True := trivial
theorem tw8268825061103804455 : True := trivial
theorem tw13726863555940884329 : True := trivial
theorem tw12642809978200816013 : True := trivial
theorem tw842915370936984349 : True := trivial
theorem tw15424749592552892252 : True := trivial
theorem tw1212118712179705218 : True := trivial
theorem tw13757755115052173295 : True := trivial
theorem tw14957088641458157909 : True := trivial
theorem tw11376688125056114149 : True := trivial
theorem tw8168539167174997898 : True := trivial
theorem tw4225613096415612919 : True := trivial
theorem tw17116086092554289101 : True := trivial
theorem tw16138149626517892377 : True := trivial
theorem tw1793205163928476301 : True := trivial
theorem tw11579247849378830947 : True := trivial
theorem tw5799078512723271892 : True := trivial
theorem tw17069037751228948155 : True := trivial
theorem tw6920437990388643185 : True := trivial
theorem tw1226957565695859896 : True := trivial
theorem tw6581650045677302675 : True := trivial
theorem tw13454437766753830613 : True := trivial
theorem tw11193120309654227615 : True := trivial
theorem tw15998411545260611653 : True := trivial
theorem tw14598015954487824803 : True := trivial
theorem tw15368814164344089420 : True := trivial
theorem tw3728092816865316483 : True := trivial
theorem tw1290369921118139308 : True := trivial
theorem tw4363657471089530561 : True := trivial
theorem tw10303888519309975996 : True := trivial
theorem tw11474264911397706899 : True := trivial
theorem tw16288257313435640744 : True := trivial
theorem tw2833216494586150978 : True := trivial
theorem tw5667965980107519180 : True := trivial
theorem tw7532827026887096948 : True := trivial
theorem tw1088776612278706508 : True := trivial
theorem tw10554199196049123447 : True := trivial
theorem tw12716036914268317829 : True := trivial
theorem tw17881346573107762863 : True := trivial
theorem tw16480926633102338678 : True := trivial
theorem tw7690458564015706637 : True := trivial
theorem tw15892891859335371928 : True := trivial
theorem tw3215648533378633392 : True := trivial
theorem tw18157712640307588278 : True := trivial
theorem tw14053089691818406409 : True := trivial
theorem tw3313629277002219178 : True := trivial
theorem tw18338527592075597761 : True := trivial
theorem tw2152759707879563778 : True := trivial
theorem tw6650765263677711632 : True := trivial
theorem tw12285405008036525925 : True := trivial
theorem tw1985763879440436629 : True := trivial
theorem tw11104118210846576318 : True := trivial
theorem tw7246072482651864555 : True := trivial
theorem tw16663578578948193757 : True := trivial
theorem tw8864768960309904777 : True := trivial
theorem tw16879091070152814522 : True := trivial
theorem tw12272614817501692817 : True := trivial
theorem tw9823279540418871368 : True := trivial
theorem tw4314802066374545887 : True := trivial
theorem tw1908233346431290388 : True := trivial
theorem tw16333848182117311827 : True := trivial
theorem tw1611194140158903412 : True := trivial
theorem tw3868636583412314748 : True := trivial
theorem tw17228295997846187148 : True := trivial
theorem tw3298708994632573887 : True := trivial
theorem tw12717659739223184645 : True := trivial
theorem tw8361128622599338787 : True := trivial
theorem tw8720645274310771216 : True := trivial
theorem tw15895886095071052182 : True := trivial
theorem tw11070405971863875443 : True := trivial
theorem tw12827589799748320494 : True := trivial
theorem tw2900312085959762215 : True := trivial
theorem tw2637179271761616164 : True := trivial
theorem tw12045214691638749832 : True := trivial
theorem tw5795963589206621445 : True := trivial
theorem tw3086397141181100001 : True := trivial
theorem tw4294519702814134046 : True := trivial
theorem tw9260257569937324971 : True := trivial
theorem tw16592771213133945289 : True := trivial
theorem tw2265763775696687136 : True := trivial
theorem tw315265600156914118 : True := trivial
theorem tw13512482454768033899 : True := trivial
theorem tw5231087599687165990 : True := trivial
theorem tw4442344596923637227 : True := trivial
theorem tw14436836405594532744 : True := trivial
theorem tw9421449502576151803 : True := trivial
theorem tw4202175887867737152 : True := trivial
theorem tw15446571622365132435 : True := trivial
theorem tw11483090612031499261 : True := trivial
theorem tw11192460496635691612 : True := trivial
theorem tw7224810789050490349 : True := trivial
theorem tw11025997136752157526 : True := trivial
theorem tw17848529038837920785 : True := trivial
theorem tw9735605311380222034 : True := trivial
theorem tw14940008291024449343 : True := trivial
theorem tw4145403165938524174 : True := trivial
theorem tw4536907740451585372 : True := trivial
theorem tw8073733798594008771 : True := trivial
theorem tw5327449864492435095 : True := trivial
theorem tw7258173304387539372 : True := trivial
theorem tw2387988237462231179 : True := trivial
theorem tw4916395912551521945 : True := trivial
theorem tw11286287149971533907 : True := trivial
theorem tw12110330344433245220 : True := trivial
theorem tw4448924837175201256 : True := trivial
theorem tw4201878768159994419 : True := trivial
theorem tw58055221324378768 : True := trivial
theorem tw7454152589752151030 : True := trivial
theorem tw10932916917048793540 : True := trivial
theorem tw9347955533576143951 : True := trivial
theorem tw8557373811299317161 : True := trivial
theorem tw17781709043417409129 : True := trivial
theorem tw15911194169764982319 : True := trivial
theorem tw12234516896288134472 : True := trivial
theorem tw5394844047088181241 : True := trivial
theorem tw1209232802341008829 : True := trivial
theorem tw17480562270957169122 : True := trivial
theorem tw18143847313996967072 : True := trivial
theorem tw1082641753308960562 : True := trivial
theorem tw3651270655054985472 : True := trivial
theorem tw16185994948791305443 : True := trivial
theorem tw18413756996078051288 : True := trivial
theorem tw10667031140713025735 : True := trivial
theorem tw3025812206747871232 : True := trivial
theorem tw5684941063547866108 : True := trivial
theorem tw11999626850876972965 : True := trivial
theorem tw11531642255010611972 : True := trivial
theorem tw17342583917716430431 : True := trivial
theorem tw10454147521531622879 : True := trivial
theorem tw3360863377255442812 : True := trivial
theorem tw17179576777087764651 : True := trivial
theorem tw8253078069198279422 : True := trivial
theorem tw10717821225796229700 : True := trivial
theorem tw6773026033367312292 : True := trivial
theorem tw1112933672828794599 : True := trivial
theorem tw876247459673301381 : True := trivial
theorem tw2589496008040384972 : True := trivial
theorem tw3054351746768902552 : True := trivial
theorem tw609974800743294665 : True := trivial
theorem tw17899783812727491233 : True := trivial
theorem tw346025444437188302 : True := trivial
theorem tw1336573890486831878 : True := trivial
theorem tw520264989620592337 : True := trivial
theorem tw6383285526238774804 : True := trivial
theorem tw15008746190420268055 : True := trivial
theorem tw12856399474480247386 : True := trivial
theorem tw2825059708295403389 : True := trivial
theorem tw5872020263497772993 : True := trivial
theorem tw13393242369252281393 : True := trivial
theorem tw759834903191202399 : True := trivial
theorem tw620166157848857295 : True := trivial
theorem tw9174384060189054180 : True := trivial
theorem tw12047252563803555315 : True := trivial
theorem tw1992144857354154163 : True := trivial
theorem tw8233490222847967391 : True := trivial
theorem tw2765985963680044174 : True := trivial
theorem tw17834639191729023298 : True := trivial
theorem tw3567320153236922872 : True := trivial
theorem tw9211738175449663493 : True := trivial
theorem tw8222154703680189959 : True := trivial
theorem tw11878479142871215685 : True := trivial
theorem tw10778125187185183113 : True := trivial
theorem tw12325342726794666328 : True := trivial
theorem tw17997768948522000759 : True := trivial
theorem tw11935854126699101438 : True := trivial
theorem tw12498267823073301154 : True := trivial
theorem tw17340767496292083643 : True := trivial
theorem tw12633356172666652683 : True := trivial
theorem tw3040172741212930377 : True := trivial
theorem tw846327966468610658 : True := trivial
theorem tw7196638103424763502 : True := trivial
theorem tw12739728885024038209 : True := trivial
theorem tw7551120018471870098 : True := trivial
theorem tw6769394199969608895 : True := trivial
theorem tw11138589028477827336 : True := trivial
theorem tw15809290560958338078 : True := trivial
theorem tw6559530517898271440 : True := trivial
theorem tw3349256684317909955 : True := trivial
theorem tw11666286626561564347 : True := trivial
theorem tw2186674893273534078 : True := trivial
theorem tw3734365253890783885 : True := trivial
theorem tw7671730202283421106 : True := trivial
theorem tw3161195787752686233 : True := trivial
theorem tw9979728512782619252 : True := trivial
theorem tw18305690698249810536 : True := trivial
theorem tw10168664160545597561 : True := trivial
theorem tw1639998197584714010 : True := trivial
theorem tw17840752285011603859 : True := trivial
theorem tw8457564149566758274 : True := trivial
theorem tw11689439877464908889 : True := trivial
theorem tw9737171393313989753 : True := trivial
theorem tw12329655333467337891 : True := trivial
theorem tw16554146919037764349 : True := trivial
theorem tw7251170115740164043 : True := trivial
theorem tw10857109378978311458 : True := trivial
theorem tw17661902581750022212 : True := trivial
theorem tw7696154384593677769 : True := trivial
theorem tw5429138326236042069 : True := trivial
theorem tw12385739594654630473 : True := trivial
theorem tw13380189694752872727 : True := trivial
theorem tw11340971040275883425 : True := trivial
theorem tw3543720782603471977 : True := trivial
theorem tw722459270461265645 : True := trivial
theorem tw16488442902263650783 : True := trivial
theorem tw10957613534666987375 : True := trivial
theorem tw11340969665587965381 : True := trivial
theorem tw7615885196731809389 : True := trivial
theorem tw4896033564910997307 : True := trivial
theorem tw10494100462062073982 : True := trivial
theorem tw359946286255752395 : True := trivial
theorem tw5504477659299310612 : True := trivial
theorem tw2756863076689072258 : True := trivial
theorem tw12670971244733448419 : True := trivial
theorem tw14826001048171461274 : True := trivial
theorem tw9252868048783116406 : True := trivial
theorem tw6755713582325482496 : True := trivial
theorem tw18222641016487918292 : True := trivial
theorem tw6843715342209963284 : True := trivial
theorem tw9491601025283800627 : True := trivial
theorem tw17004372089486598363 : True := trivial
theorem tw5101792576122170219 : True := trivial
theorem tw15496839304386502148 : True := trivial
theorem tw6305814549035505749 : True := trivial
theorem tw7369759767497613874 : True := trivial
theorem tw8113087721496170612 : True := trivial
theorem tw7274836603960751428 : True := trivial
theorem tw3389181933293052245 : True := trivial
theorem tw379280946076607637 : True := trivial
theorem tw7960544867233266280 : True := trivial
theorem tw11465422617344163090 : True := trivial
theorem tw7712437920076955444 : True := trivial
theorem tw10398520869169861696 : True := trivial
theorem tw9251848193894351137 : True := trivial
theorem tw16493496266816128725 : True := trivial
theorem tw8241783009657370409 : True := trivial
theorem tw537034951101748146 : True := trivial
theorem tw7716177747536181060 : True := trivial
theorem tw27175320458451658 : True := trivial
theorem tw576924243164398823 : True := trivial
theorem tw10448860096907044688 : True := trivial
theorem tw14133021221582516520 : True := trivial
theorem tw12769795665619025260 : True := trivial
theorem tw14004515285668922315 : True := trivial
theorem tw14922955982922430140 : True := trivial
theorem tw2432119409479518931 : True := trivial
theorem tw2222420745238256630 : True := trivial
theorem tw13271654805837144246 : True := trivial
theorem tw18347557147619233729 : True := trivial
theorem tw3348762921717984758 : True := trivial
theorem tw5843633631938431346 : True := trivial
theorem tw14285953963312483284 : True := trivial
theorem tw14641627164422419988 : True := trivial
theorem tw5412783663954375923 : True := trivial
theorem tw10159893024255140451 : True := trivial
theorem tw14346224722740222219 : True := trivial
theorem tw1877750333602170379 : True := trivial
theorem tw298524709017118436 : True := trivial
theorem tw11207467985328964246 : True := trivial
theorem tw11511296429193231468 : True := trivial
theorem tw1490139817193406846 : True := trivial
theorem tw10180994978215232587 : True := trivial
theorem tw6323769849517620243 : True := trivial
theorem tw2617701467972672196 : True := trivial
theorem tw3538721977464444004 : True := trivial
theorem tw17720706325094389598 : True := trivial
theorem tw13156464523463162611 : True := trivial
theorem tw13141599042906762689 : True := trivial
theorem tw17416167508881512661 : True := trivial
theorem tw2444952584185848927 : True := trivial
theorem tw1517461086945662225 : True := trivial
theorem tw14869545242673949440 : True := trivial
theorem tw17001503446393062140 : True := trivial
theorem tw13910285667719604142 : True := trivial
theorem tw9229834255300847837 : True := trivial
theorem tw5075869421301813328 : True := trivial
theorem tw12881282478067273529 : True := trivial
theorem tw2021566994128854007 : True := trivial
theorem tw4745692016941912371 : True := trivial
theorem tw11668317713623941026 : True := trivial
theorem tw15826848106681243323 : True := trivial
theorem tw18347067038206000891 : True := trivial
theorem tw5475892401813963208 : True := trivial
theorem tw10790956829608469139 : True := trivial
theorem tw3801345002464037442 : True := trivial
theorem tw9865385277033290537 : True := trivial
theorem tw10341982123194654954 : True := trivial
theorem tw6777196910681745849 : True := trivial
theorem tw13142740020963392194 : True := trivial
theorem tw18137501832411700157 : True := trivial
theorem tw12834203239039760826 : True := trivial
theorem tw9209706730427125208 : True := trivial
theorem tw1277509326610344421 : True := trivial
theorem tw4436092133707968118 : True := trivial
theorem tw5535396412927144345 : True := trivial
theorem tw8549572160811805456 : True := trivial
theorem tw11456225825241190847 : True := trivial
theorem tw12163736938429849839 : True := trivial
theorem tw2201052431702527480 : True := trivial
theorem tw1007096829886014843 : True := trivial
theorem tw13981067970434360053 : True := trivial
theorem tw4540960814193729231 : True := trivial
theorem tw17651266591064724915 : True := trivial
theorem tw1390709515959720443 : True := trivial
theorem tw5195419076822322243 : True := trivial
theorem tw1051917473091074881 : True := trivial
theorem tw14026977230167665272 : True := trivial
theorem tw2875126426845894247 : True := trivial
theorem tw14722619797839496911 : True := trivial
theorem tw4993933592560351922 : True := trivial
theorem tw17148878143047608276 : True := trivial
theorem tw48533625961909563 : True := trivial
theorem tw9232786897027488419 : True := trivial
theorem tw11054555596423347918 : True := trivial
theorem tw9741609806056655398 : True := trivial
theorem tw5388659156417492084 : True := trivial
theorem tw1147349301328168851 : True := trivial
theorem tw1631532683975021125 : True := trivial
theorem tw14951520738633732856 : True := trivial
theorem tw4262178968769078011 : True := trivial
theorem tw5721602628271524911 : True := trivial
theorem tw12298754607774748570 : True := trivial
theorem tw12678524442228663754 : True := trivial
theorem tw15142583718311345510 : True := trivial
theorem tw10100350991741877616 : True := trivial
theorem tw9156027218110349998 : True := trivial
theorem tw3142326856383048059 : True := trivial
theorem tw12052016488188754988 : True := trivial
theorem tw11144988455887583619 : True := trivial
theorem tw14302307092795830226 : True := trivial
theorem tw16835002514902250358 : True := trivial
theorem tw7605491788276104855 : True := trivial
theorem tw14616978957695496894 : True := trivial
theorem tw16979885946315002227 : True := trivial
theorem tw9155637122629499201 : True := trivial
theorem tw12572519036855474945 : True := trivial
theorem tw12439965932639820402 : True := trivial
theorem tw9740769015774353423 : True := trivial
theorem tw1350616734123135928 : True := trivial
theorem tw8703073508483680768 : True := trivial
theorem tw7109808284360216308 : True := trivial
theorem tw12269541930317134958 : True := trivial
theorem tw1825937092265656296 : True := trivial
theorem tw3116056330659266987 : True := trivial
theorem tw619230334592689354 : True := trivial
theorem tw3001572834543349237 : True := trivial
theorem tw8830511045833792520 : True := trivial
theorem tw16371480486724122597 : True := trivial
theorem tw2861771316170080735 : True := trivial
theorem tw16647362490614141413 : True := trivial
theorem tw12150543668082952740 : True := trivial
theorem tw10169099462540222612 : True := trivial
theorem tw321421666940621699 : True := trivial
theorem tw4367229410396028652 : True := trivial
theorem tw15843623029853209634 : True := trivial
theorem tw4644551706231525363 : True := trivial
theorem tw6993719756307644570 : True := trivial
theorem tw14714056093748184446 : True := trivial
theorem tw12083126495581042596 : True := trivial
theorem tw12846653692051604158 : True := trivial
theorem tw7032187376431964161 : True := trivial
theorem tw8249570150292396963 : True := trivial
theorem tw3803488693693940354 : True := trivial
theorem tw13211123585423436167 : True := trivial
theorem tw9925932782714530424 : True := trivial
theorem tw7439401043337973689 : True := trivial
theorem tw18116514992051340777 : True := trivial
theorem tw7776085069217112051 : True := trivial
theorem tw12225596449106420599 : True := trivial
theorem tw3602165375321989979 : True := trivial
theorem tw2845673023292181972 : True := trivial
theorem tw18172998775614748834 : True := trivial
theorem tw8393721022822296571 : True := trivial
theorem tw14856878183692179517 : True := trivial
theorem tw16974370619647823195 : True := trivial
theorem tw12365516111565969330 : True := trivial
theorem tw12466435263242119667 : True := trivial
theorem tw3485276487872888119 : True := trivial
theorem tw423869149308213633 : True := trivial
theorem tw6975200148003617425 : True := trivial
theorem tw272928481550536320 : True := trivial
theorem tw2996187273086913122 : True := trivial
theorem tw8290895942232828979 : True := trivial
theorem tw3721216143119446733 : True := trivial
theorem tw17198586279621427720 : True := trivial
theorem tw4522130049571067216 : True := trivial
theorem tw404878946819630728 : True := trivial
theorem tw17740337947091004886 : True := trivial
theorem tw11312125478421219465 : True := trivial
theorem tw15354972338028357596 : True := trivial
theorem tw17310450080053347190 : True := trivial
theorem tw8370452686418779197 : True := trivial
theorem tw4200066383268861679 : True := trivial
theorem tw16719110593557763614 : True := trivial
theorem tw4171668128500965217 : True := trivial
theorem tw3202774009717283502 : True := trivial
theorem tw14993425919129375280 : True := trivial
theorem tw11911537206014636683 : True := trivial
theorem tw17896668159444383534 : True := trivial
theorem tw12235844267212996810 : True := trivial
theorem tw17900702796818750423 : True := trivial
theorem tw14164321953834784964 : True := trivial
theorem tw11612775578598065680 : True := trivial
theorem tw7470175539092317573 : True := trivial
theorem tw2647424047170616213 : True := trivial
theorem tw14442020631771404138 : True := trivial
theorem tw640861018311821696 : True := trivial
theorem tw15511471159346270221 : True := trivial
theorem tw17906819374118900166 : True := trivial
theorem tw3760037256100791540 : True := trivial
theorem tw13308740109755701868 : True := trivial
theorem tw15920935799269827899 : True := trivial
theorem tw6042974544456226408 : True := trivial
theorem tw9214940317593634490 : True := trivial
theorem tw13544527956543363100 : True := trivial
theorem tw17934218337701679397 : True := trivial
theorem tw15451089998749340874 : True := trivial
theorem tw1856567764869079477 : True := trivial
theorem tw4881738419322584505 : True := trivial
theorem tw5777865172698841037 : True := trivial
theorem tw6832001112800094966 : True := trivial
theorem tw13841338233911732381 : True := trivial
theorem tw15944393660354941916 : True := trivial
theorem tw17885153688036295588 : True := trivial
theorem tw5932567063699145655 : True := trivial
theorem tw7272381836635437002 : True := trivial
theorem tw1731814536196118422 : True := trivial
theorem tw8970950444592414754 : True := trivial
theorem tw15103184673055728348 : True := trivial
theorem tw6189939013972369742 : True := trivial
theorem tw9685451377051558062 : True := trivial
theorem tw17917788582541744627 : True := trivial
theorem tw3031177244997401207 : True := trivial
theorem tw12015052886049352534 : True := trivial
theorem tw13626545082902072136 : True := trivial
theorem tw6839601889605332615 : True := trivial
theorem tw9924753729755865822 : True := trivial
theorem tw6426234722381397860 : True := trivial
theorem tw11519099516559109933 : True := trivial
theorem tw4106979340086301530 : True := trivial
theorem tw9283156411348628124 : True := trivial
theorem tw7006101715066604680 : True := trivial
theorem tw1820591191736885533 : True := trivial
theorem tw14382053056593677524 : True := trivial
theorem tw10762137839960897987 : True := trivial
theorem tw11242545539346851186 : True := trivial
theorem tw8960328962599146527 : True := trivial
theorem tw7576570501952044091 : True := trivial
theorem tw10758556444933902120 : True := trivial
theorem tw11490965041100377807 : True := trivial
theorem tw10624535953755200131 : True := trivial
theorem tw2587330128754010751 : True := trivial
theorem tw1173954453009306054 : True := trivial
theorem tw9480897036614850564 : True := trivial
theorem tw35895296283567137 : True := trivial
theorem tw5965916141680662789 : True := trivial
theorem tw5330371690861478246 : True := trivial
theorem tw10818670377653012695 : True := trivial
theorem tw10203610357693183525 : True := trivial
theorem tw10512702753440115490 : True := trivial
theorem tw15971411003926639005 : True := trivial
theorem tw11829716986474653905 : True := trivial
theorem tw1092624738573656063 : True := trivial
theorem tw7369319793228924934 : True := trivial
theorem tw15602078189950998921 : True := trivial
theorem tw17096142026737964757 : True := trivial
theorem tw17906055349373874344 : True := trivial
theorem tw3973679946262904083 : True := trivial
theorem tw1985712265443843075 : True := trivial
theorem tw10592865211726668650 : True := trivial
theorem tw1583708524316552379 : True := trivial
theorem tw4867613770850092889 : True := trivial
theorem tw4538446195150104912 : True := trivial
theorem tw10521356029227260054 : True := trivial
theorem tw15137997948323614017 : True := trivial
theorem tw8570180083825232654 : True := trivial
theorem tw182316066271783435 : True := trivial
theorem tw16659901911927036530 : True := trivial
theorem tw13199162881020218386 : True := trivial
theorem tw12556957125518578040 : True := trivial
theorem tw2005404837221313970 : True := trivial
theorem tw5718344124698378886 : True := trivial
theorem tw16728896821866432148 : True := trivial
theorem tw863887868174358710 : True := trivial
theorem tw4446872580822328437 : True := trivial
theorem tw1467651549685881239 : True := trivial
theorem tw8921887424148751475 : True := trivial
theorem tw15177838028572623805 : True := trivial
theorem tw7897300982142540314 : True := trivial
theorem tw16530380548771100345 : True := trivial
theorem tw7194609505669672724 : True := trivial
theorem tw6510207383220332123 : True := trivial
theorem tw8541652130874917724 : True := trivial
theorem tw11561536999244493155 : True := trivial
theorem tw7410767747154743343 : True := trivial
theorem tw6811770198532303851 : True := trivial
theorem tw6254618208634390498 : True := trivial
theorem tw14300350662342635112 : True := trivial
theorem tw912340440560734486 : True := trivial
theorem tw10402330404231956743 : True := trivial
theorem tw5884934101239205653 : True := trivial
theorem tw9035785039509684831 : True := trivial
theorem tw7456339229228463629 : True := trivial
theorem tw12643956769927520454 : True := trivial
theorem tw16751763918245799768 : True := trivial
theorem tw13685956838983021686 : True := trivial
theorem tw10631996882802940630 : True := trivial
theorem tw15721496388736642449 : True := trivial
theorem tw14522035895530859490 : True := trivial
theorem tw898664943108113121 : True := trivial
theorem tw12870577199641252416 : True := trivial
theorem tw17862029671626560483 : True := trivial
theorem tw16884279837950941899 : True := trivial
theorem tw8947796760468345119 : True := trivial
theorem tw16781497580185295565 : True := trivial
theorem tw1828547399746770849 : True := trivial
theorem tw16861614444896483401 : True := trivial
theorem tw1984972925303768818 : True := trivial
theorem tw11800984382812756111 : True := trivial
theorem tw3846788148514114943 : True := trivial
theorem tw11439457233997422445 : True := trivial
theorem tw17333279680838014173 : True := trivial
theorem tw15151871591723927997 : True := trivial
theorem tw17610612401651753832 : True := trivial
theorem tw1104145247158687806 : True := trivial
theorem tw4128797282286850045 : True := trivial
theorem tw821688971260005993 : True := trivial
theorem tw5341306063268148278 : True := trivial
theorem tw15859516201571701674 : True := trivial
theorem tw264119449466262855 : True := trivial
theorem tw152021356565035082 : True := trivial
theorem tw10621101788636892560 : True := trivial
theorem tw1602614203177380809 : True := trivial
theorem tw12879047916089088892 : True := trivial
theorem tw17130318007009062063 : True := trivial
theorem tw9161976165286897054 : True := trivial
theorem tw7943798949667687341 : True := trivial
theorem tw11556187439155777870 : True := trivial
theorem tw5217407107888374822 : True := trivial
theorem tw789656700436726875 : True := trivial
theorem tw4065277475424288385 : True := trivial
theorem tw16808521157132433480 : True := trivial
theorem tw10355058485146258699 : True := trivial
theorem tw9122485683368112303 : True := trivial
theorem tw5118552076156028952 : True := trivial
theorem tw11036488820076949365 : True := trivial
theorem tw12759530371857042001 : True := trivial
theorem tw8097431030428676265 : True := trivial
theorem tw5703963191911061758 : True := trivial
theorem tw13594639553239115464 : True := trivial
theorem tw14311548441814129779 : True := trivial
theorem tw5250453229460102474 : True := trivial
theorem tw5394082427245919484 : True := trivial
theorem tw5148165623131603231 : True := trivial
theorem tw1761394292850304100 : True := trivial
theorem tw14645074533437802236 : True := trivial
theorem tw347547793553082268 : True := trivial
theorem tw11628598512956440021 : True := trivial
theorem tw13682730037568092665 : True := trivial
theorem tw5913087184535790135 : True := trivial
theorem tw6359005153547711824 : True := trivial
theorem tw1371375638693036935 : True := trivial
theorem tw6929020878186075749 : True := trivial
theorem tw17749816036165387538 : True := trivial
theorem tw14529855937316229254 : True := trivial
theorem tw17610706059702510893 : True := trivial
theorem tw13938621793506057442 : True := trivial
theorem tw5890086173286873797 : True := trivial
theorem tw2792186239336846852 : True := trivial
theorem tw2733774131830896010 : True := trivial
theorem tw8912619593796376095 : True := trivial
theorem tw1645908031091425725 : True := trivial
theorem tw16683735117469441160 : True := trivial
theorem tw9570267452120563356 : True := trivial
theorem tw9249126509212354373 : True := trivial
theorem tw10519768363147234862 : True := trivial
theorem tw14353771542009975172 : True := trivial
theorem tw17587306294315362794 : True := trivial
theorem tw17896995670997012186 : True := trivial
theorem tw11721067200579662385 : True := trivial
theorem tw6891804738640992360 : True := trivial
theorem tw10530021399189015440 : True := trivial
theorem tw4313429665691099369 : True := trivial
theorem tw11233997094211845489 : True := trivial
theorem tw7972934570415586212 : True := trivial
theorem tw4691056954493399595 : True := trivial
theorem tw17421780310494920337 : True := trivial
theorem tw9146162225482786423 : True := trivial
theorem tw1088806352842348979 : True := trivial
theorem tw4181385508722917642 : True := trivial
theorem tw9320573824431675990 : True := trivial
theorem tw11799781351212030715 : True := trivial
theorem tw8585465995485333955 : True := trivial
theorem tw6369564972629938018 : True := trivial
theorem tw10829402090737628644 : True := trivial
theorem tw9396086266631496236 : True := trivial
theorem tw6691558352039701545 : True := trivial
theorem tw10504156940944088635 : True := trivial
theorem tw9979757203719314502 : True := trivial
theorem tw1156905729007139254 : True := trivial
theorem tw2200295018719818933 : True := trivial
theorem tw4676779059278190493 : True := trivial
theorem tw7060191439362069175 : True := trivial
theorem tw4674809782916679634 : True := trivial
theorem tw16399664493757972824 : True := trivial
theorem tw1718163990130664914 : True := trivial
theorem tw3594766299716829716 : True := trivial
theorem tw1637436389631893996 : True := trivial
theorem tw8204537639047358716 : True := trivial
theorem tw16385230147522528821 : True := trivial
theorem tw13481843620828325720 : True := trivial
theorem tw8654828776037907262 : True := trivial
theorem tw689984793026433050 : True := trivial
theorem tw6400553237728538170 : True := trivial
theorem tw16369339798606182362 : True := trivial
theorem tw7603822789344261692 : True := trivial
theorem tw7482036057691434929 : True := trivial
theorem tw11178531284149607734 : True := trivial
theorem tw13841852713556389088 : True := trivial
theorem tw15501071852418259458 : True := trivial
theorem tw15593544863622113684 : True := trivial
theorem tw12222361525097921765 : True := trivial
theorem tw3801043721906064301 : True := trivial
theorem tw12966190862231014847 : True := trivial
theorem tw2683574402284856384 : True := trivial
theorem tw5844726462222243511 : True := trivial
theorem tw4120254295179469043 : True := trivial
theorem tw9922067484880193181 : True := trivial
theorem tw11283878463836254869 : True := trivial
theorem tw11825463471397269113 : True := trivial
theorem tw7762527360097958346 : True := trivial
theorem tw17747883505157311314 : True := trivial
theorem tw12630230874399156597 : True := trivial
theorem tw11634841996676957873 : True := trivial
theorem tw16103807632245939626 : True := trivial
theorem tw13502705270653838229 : True := trivial
theorem tw15116399956557915088 : True := trivial
theorem tw1488392075294552040 : True := trivial
theorem tw1209632401059791352 : True := trivial
theorem tw3058799131940543727 : True := trivial
theorem tw2238963534052585763 : True := trivial
theorem tw1300794426119152551 : True := trivial
theorem tw296854436551211907 : True := trivial
theorem tw6429747992342000075 : True := trivial
theorem tw14628696914954431685 : True := trivial
theorem tw177495844935499547 : True := trivial
theorem tw14324121057759882279 : True := trivial
theorem tw17403968347969676501 : True := trivial
theorem tw14744290820457376317 : True := trivial
theorem tw15892711075698153547 : True := trivial
theorem tw480982075144838633 : True := trivial
theorem tw11318521543952164626 : True := trivial
theorem tw17086938584834772839 : True := trivial
theorem tw2085046281121937523 : True := trivial
theorem tw17615635330192534748 : True := trivial
theorem tw9787032535559994565 : True := trivial
theorem tw4151225476386591088 : True := trivial
theorem tw7991327718119706587 : True := trivial
theorem tw13411957607697490675 : True := trivial
theorem tw4839801599019218217 : True := trivial
theorem tw16603722212440934412 : True := trivial
theorem tw4833773954042894987 : True := trivial
theorem tw8352424885397448238 : True := trivial
theorem tw16845820001332701284 : True := trivial
theorem tw15561578485817063096 : True := trivial
theorem tw590606256104468715 : True := trivial
theorem tw3007760865394881503 : True := trivial
theorem tw17063492820790514131 : True := trivial
theorem tw4481887922275545303 : True := trivial
theorem tw17179181807511526086 : True := trivial
theorem tw13624037610584850346 : True := trivial
theorem tw7493649152303758438 : True := trivial
theorem tw6666039860502130000 : True := trivial
theorem tw5553707838236086181 : True := trivial
theorem tw2459787473597739926 : True := trivial
theorem tw9157944505663272939 : True := trivial
theorem tw13134243391097331889 : True := trivial
theorem tw12393356670958526659 : True := trivial
theorem tw17119187373627034181 : True := trivial
theorem tw5767402367379252759 : True := trivial
theorem tw4475808383828889327 : True := trivial
theorem tw18175888864934464392 : True := trivial
theorem tw5713878913804413164 : True := trivial
theorem tw1672930282704760238 : True := trivial
theorem tw3093990655238662403 : True := trivial
theorem tw2422539277834168657 : True := trivial
theorem tw16915864548387971501 : True := trivial
theorem tw6807513475036005859 : True := trivial
theorem tw10943045344451453681 : True := trivial
theorem tw7319132616762347124 : True := trivial
theorem tw3250990246699352399 : True := trivial
theorem tw5420542702998629814 : True := trivial
theorem tw458893488378802768 : True := trivial
theorem tw81480637002855797 : True := trivial
theorem tw18292963132465165053 : True := trivial
theorem tw3420486835262878609 : True := trivial
theorem tw11613653867192530386 : True := trivial
theorem tw13061571652705124919 : True := trivial
theorem tw16925229224612358436 : True := trivial
theorem tw2412849463125311200 : True := trivial
theorem tw16953128572424876731 : True := trivial
theorem tw14648704633889858324 : True := trivial
theorem tw1504758027899247183 : True := trivial
theorem tw15588386045595675478 : True := trivial
theorem tw7031428338356958506 : True := trivial
theorem tw974914871848141400 : True := trivial
theorem tw7995444567412302374 : True := trivial
theorem tw1396332057131250762 : True := trivial
theorem tw17849580342891830314 : True := trivial
theorem tw3533150311357601229 : True := trivial
theorem tw16816509704441242837 : True := trivial
theorem tw8815593879414730717 : True := trivial
theorem tw6807036860411264503 : True := trivial
theorem tw5471548715768625401 : True := trivial
theorem tw5466962567134217253 : True := trivial
theorem tw12771815352460811770 : True := trivial
theorem tw10853818798980765000 : True := trivial
theorem tw11867400156304182152 : True := trivial
theorem tw3421897297061798172 : True := trivial
theorem tw7653633187496919198 : True := trivial
theorem tw4286676957942949627 : True := trivial
theorem tw793065926796944210 : True := trivial
theorem tw9205157576910445093 : True := trivial
theorem tw1333700472752654907 : True := trivial
theorem tw14792871980876029984 : True := trivial
theorem tw3981351495608571285 : True := trivial
theorem tw13318492482367747688 : True := trivial
theorem tw13180344946944656869 : True := trivial
theorem tw17585723890116965113 : True := trivial
theorem tw2582679620649342331 : True := trivial
theorem tw14648631865166781955 : True := trivial
theorem tw10282623766511510244 : True := trivial
theorem tw4713698256388070554 : True := trivial
theorem tw6574218822349989721 : True := trivial
theorem tw399067999658406234 : True := trivial
theorem tw14315810443753606305 : True := trivial
theorem tw13133558101374338594 : True := trivial
theorem tw18333176053193003053 : True := trivial
theorem tw16090202235965598828 : True := trivial
theorem tw17123326047431658930 : True := trivial
theorem tw6622158941665633540 : True := trivial
theorem tw6005038371503653350 : True := trivial
theorem tw16156176003465478268 : True := trivial
theorem tw5386106475384530991 : True := trivial
theorem tw7676073004971110936 : True := trivial
theorem tw7984739313350966342 : True := trivial
theorem tw9340165064320047887 : True := trivial
theorem tw7208412750134215925 : True := trivial
theorem tw9508175246800043225 : True := trivial
theorem tw12167459646279633491 : True := trivial
theorem tw3123771151754626895 : True := trivial
theorem tw13238869834443767944 : True := trivial
theorem tw14213786046123417118 : True := trivial
theorem tw9394923262471090626 : True := trivial
theorem tw1052396769441326836 : True := trivial
theorem tw16766575658918662111 : True := trivial
theorem tw11909899784826721127 : True := trivial
theorem tw14402138714817113676 : True := trivial
theorem tw15487342423831945647 : True := trivial
theorem tw8117791915862502475 : True := trivial
theorem tw13371817867925430236 : True := trivial
theorem tw1036116401761532532 : True := trivial
theorem tw7706523762452398662 : True := trivial
theorem tw2798646573822847377 : True := trivial
theorem tw12107768482454062873 : True := trivial
theorem tw17127376248594906835 : True := trivial
theorem tw7645895287104391591 : True := trivial
theorem tw2069572506298148809 : True := trivial
theorem tw17060305027387109779 : True := trivial
theorem tw9145793939632581804 : True := trivial
theorem tw265721579809881804 : True := trivial
theorem tw11523632088615433742 : True := trivial
theorem tw11552765958984017366 : True := trivial
theorem tw4770489105604672700 : True := trivial
theorem tw6800601491402430647 : True := trivial
theorem tw15757600941254568112 : True := trivial
theorem tw9432210313782303183 : True := trivial
theorem tw15011471705172948187 : True := trivial
theorem tw10817261554690394319 : True := trivial
theorem tw8289285037663013945 : True := trivial
theorem tw6383856374944748013 : True := trivial
theorem tw7995658488157615810 : True := trivial
theorem tw4143986166172315191 : True := trivial
theorem tw15053093924993476069 : True := trivial
theorem tw5976274872593586557 : True := trivial
theorem tw10218259482357348296 : True := trivial
theorem tw2842973987534816878 : True := trivial
theorem tw16005412029115334024 : True := trivial
theorem tw7962775983511187156 : True := trivial
theorem tw12626922545153676533 : True := trivial
theorem tw11109869798615447471 : True := trivial
theorem tw11789251175323443321 : True := trivial
theorem tw3382022446921921567 : True := trivial
theorem tw17860054593736549916 : True := trivial
theorem tw16530972017435642208 : True := trivial
theorem tw15848538370019933719 : True := trivial
theorem tw1819101999935242701 : True := trivial
theorem tw1133294319767531800 : True := trivial
theorem tw8390435788280783247 : True := trivial
theorem tw14722765189065153904 : True := trivial
theorem tw8843717348314452809 : True := trivial
theorem tw17458171075641349869 : True := trivial
theorem tw196293959397913090 : True := trivial
theorem tw11897839829518771992 : True := trivial
theorem tw14799570738780238140 : True := trivial
theorem tw8725908845461961885 : True := trivial
theorem tw6199007632709152446 : True := trivial
theorem tw6981657891020309566 : True := trivial
theorem tw2389692842436865720 : True := trivial
theorem tw4673261905144428175 : True := trivial
theorem tw13067905847691524267 : True := trivial
theorem tw8070796585955295586 : True := trivial
theorem tw9222413322380336706 : True := trivial
theorem tw7809350291306837550 : True := trivial
theorem tw2350412155123149821 : True := trivial
theorem tw3525346050966935137 : True := trivial
theorem tw2562299792688423418 : True := trivial
theorem tw7194484312350156606 : True := trivial
theorem tw308798226874059942 : True := trivial
theorem tw12542964445395597703 : True := trivial
theorem tw2757647357622186182 : True := trivial
theorem tw4813340327577225518 : True := trivial
theorem tw8661055786112120039 : True := trivial
theorem tw3870106235840464604 : True := trivial
theorem tw10932138363537842113 : True := trivial
theorem tw2376571050155329349 : True := trivial
theorem tw4465421867039362184 : True := trivial
theorem tw14442493551524503081 : True := trivial
theorem tw13332281142212155224 : True := trivial
theorem tw13123135421452487764 : True := trivial
theorem tw8697356238539329805 : True := trivial
theorem tw17352467537010976349 : True := trivial
theorem tw15534072206893694336 : True := trivial
theorem tw12717581632555049492 : True := trivial
theorem tw3820806513240704764 : True := trivial
theorem tw538296206617645819 : True := trivial
theorem tw1271057013574121748 : True := trivial
theorem tw3802558379092306038 : True := trivial
theorem tw6207326422808744418 : True := trivial
theorem tw3217020442876258996 : True := trivial
theorem tw14404800950473391400 : True := trivial
theorem tw2971866903963812904 : True := trivial
theorem tw7570460059195494549 : True := trivial
theorem tw2982630020077821242 : True := trivial
theorem tw12042883729890617714 : True := trivial
theorem tw3712948970381747542 : True := trivial
theorem tw14612629255153302923 : True := trivial
theorem tw8157513780611009694 : True := trivial
theorem tw15641327530332894509 : True := trivial
theorem tw8394294127079593674 : True := trivial
theorem tw7609338050165239440 : True := trivial
theorem tw17046366646026612535 : True := trivial
theorem tw6210680365946614172 : True := trivial
theorem tw4094852326971612991 : True := trivial
theorem tw11279401579182760317 : True := trivial
theorem tw337395340594432279 : True := trivial
theorem tw3892076007994690430 : True := trivial
theorem tw18192494000966982240 : True := trivial
theorem tw16212736271603802405 : True := trivial
theorem tw14409129098560741168 : True := trivial
theorem tw10786284515137262908 : True := trivial
theorem tw12638038216285917854 : True := trivial
theorem tw13343588097526015471 : True := trivial
theorem tw16562045259259293314 : True := trivial
theorem tw11207507087859408314 : True := trivial
theorem tw10469788639218622703 : True := trivial
theorem tw9275911616360558224 : True := trivial
theorem tw1285243021365348955 : True := trivial
theorem tw8784163555145870562 : True := trivial
theorem tw2538371409700157162 : True := trivial
theorem tw13060535667507583828 : True := trivial
theorem tw8584442302306552799 : True := trivial
theorem tw16361629863675716570 : True := trivial
theorem tw1019792218448995409 : True := trivial
theorem tw499641764594194137 : True := trivial
theorem tw13642962041677641811 : True := trivial
theorem tw16492864279026598505 : True := trivial
theorem tw10855901078009236912 : True := trivial
theorem tw14197713857416687063 : True := trivial
theorem tw1884043469416028548 : True := trivial
theorem tw9574609663349491432 : True := trivial
theorem tw3870924165216934825 : True := trivial
theorem tw8001489977401408523 : True := trivial
theorem tw7745472057845729233 : True := trivial
theorem tw18300186966923331425 : True := trivial
theorem tw1292853746012112159 : True := trivial
theorem tw5069917913569500173 : True := trivial
theorem tw10003280443282334817 : True := trivial
theorem tw13378255998535184838 : True := trivial
theorem tw380382295272330513 : True := trivial
theorem tw14570711294251851310 : True := trivial
theorem tw5163340716101548503 : True := trivial
theorem tw12361175013197817059 : True := trivial
theorem tw8157097622033890742 : True := trivial
theorem tw3279313075459264466 : True := trivial
theorem tw6499798889792373676 : True := trivial
theorem tw4962448010203677081 : True := trivial
theorem tw6937359915574273782 : True := trivial
theorem tw7768255381285453828 : True := trivial
theorem tw13487106733788770744 : True := trivial
theorem tw2039148488035679699 : True := trivial
theorem tw17925425477756981262 : True := trivial
theorem tw12073652632564843740 : True := trivial
theorem tw3758734122044131098 : True := trivial
theorem tw12731055447231489546 : True := trivial
theorem tw5253417978508669367 : True := trivial
theorem tw13034443615343142215 : True := trivial
theorem tw7335002030713183179 : True := trivial
theorem tw17163966604732738282 : True := trivial
theorem tw7470250414383731388 : True := trivial
theorem tw13683980036887103189 : True := trivial
theorem tw1825590789993700037 : True := trivial
theorem tw2649901992013147715 : True := trivial
theorem tw1741377283918112457 : True := trivial
theorem tw11183757976978564347 : True := trivial
theorem tw3963626210192394469 : True := trivial
theorem tw16086257189190604047 : True := trivial
theorem tw508069523310800427 : True := trivial
theorem tw6482820403874091057 : True := trivial
theorem tw2301571692374282982 : True := trivial
theorem tw3079300708396257290 : True := trivial
theorem tw1857335036580639319 : True := trivial
theorem tw1472435936713028071 : True := trivial
theorem tw16138371469478212030 : True := trivial
theorem tw9278161688027567681 : True := trivial
theorem tw485215944314777680 : True := trivial
theorem tw16781760689667737013 : True := trivial
theorem tw811637915792351406 : True := trivial
theorem tw2444149488874612810 : True := trivial
theorem tw16226858592394723070 : True := trivial
theorem tw11931127337094248302 : True := trivial
theorem tw11349904565556924921 : True := trivial
theorem tw11964936358185216247 : True := trivial
theorem tw7572981652490615293 : True := trivial
theorem tw16510843871949952120 : True := trivial
theorem tw10353245608060042390 : True := trivial
theorem tw2349255755161365859 : True := trivial
theorem tw7524139565075946774 : True := trivial
theorem tw9733209050109968640 : True := trivial
theorem tw13477510600134357331 : True := trivial
theorem tw13986993506495641473 : True := trivial
theorem tw2506212509327593213 : True := trivial
theorem tw2884997165373158721 : True := trivial
theorem tw5802308098644085334 : True := trivial
theorem tw16223342066545836159 : True := trivial
theorem tw16303211608218110034 : True := trivial
theorem tw276780629929954320 : True := trivial
theorem tw3582305290831845376 : True := trivial
theorem tw17469153906320946768 : True := trivial
theorem tw8624905929391551055 : True := trivial
theorem tw15118314445199868489 : True := trivial
theorem tw7893064961032733272 : True := trivial
theorem tw14790371047727152685 : True := trivial
theorem tw16993393417279251083 : True := trivial
theorem tw5763181710087989322 : True := trivial
theorem tw2276803924210886768 : True := trivial
theorem tw18239689908401552710 : True := trivial
theorem tw3132549562214316785 : True := trivial
theorem tw2550509415621899251 : True := trivial
theorem tw875660917122076649 : True := trivial
theorem tw18282956830072923049 : True := trivial
theorem tw1611601620336404017 : True := trivial
theorem tw1459819637865897115 : True := trivial
theorem tw8883528992665224436 : True := trivial
theorem tw8661317616817483962 : True := trivial
theorem tw16681520403657228500 : True := trivial
theorem tw16499275388189600934 : True := trivial
theorem tw3744737680848588988 : True := trivial
theorem tw8371216491379086931 : True := trivial
theorem tw13525433134336826877 : True := trivial
theorem tw6787561037119982068 : True := trivial
theorem tw18218038905908945599 : True := trivial
theorem tw7318569100656654971 : True := trivial
theorem tw5179485976870090772 : True := trivial
theorem tw2344851317670998453 : True := trivial
theorem tw13867322714621857315 : True := trivial
theorem tw2415863010099459517 : True := trivial
theorem tw3865084590392570294 : True := trivial
theorem tw15297042699968364567 : True := trivial
theorem tw11371088787533985969 : True := trivial
theorem tw16087634354056554608 : True := trivial
theorem tw15814370918766684743 : True := trivial
theorem tw16883309756975932153 : True := trivial
theorem tw11773648236824115098 : True := trivial
theorem tw8217994916069322058 : True := trivial
theorem tw15741780118227981860 : True := trivial
theorem tw10075149970405418912 : True := trivial
theorem tw6105560511862602078 : True := trivial
theorem tw4345266103717800861 : True := trivial
theorem tw14295217228773911792 : True := trivial
theorem tw14536862329070883432 : True := trivial
theorem tw12634302967646854893 : True := trivial
theorem tw489490724925135186 : True := trivial
theorem tw6485843891441747924 : True := trivial
theorem tw1104354540871986199 : True := trivial
theorem tw2093897406505368234 : True := trivial
theorem tw5848427438737124099 : True := trivial
theorem tw10109118062854049146 : True := trivial
theorem tw17598642776720403046 : True := trivial
theorem tw3073934658191352424 : True := trivial
theorem tw14514367564749472012 : True := trivial
theorem tw2939987364054769850 : True := trivial
theorem tw11603854770821352545 : True := trivial
theorem tw11261879276280703553 : True := trivial
theorem tw13970616924289922863 : True := trivial
theorem tw6535152282199206346 : True := trivial
theorem tw6945478313870315262 : True := trivial
theorem tw14924644845465564891 : True := trivial
theorem tw2517055073050938990 : True := trivial
theorem tw17771336284554345260 : True := trivial
theorem tw662442343830774262 : True := trivial
theorem tw4836360109723509282 : True := trivial
theorem tw3341873226616769594 : True := trivial
theorem tw17837910876117798379 : True := trivial
theorem tw6950241258276941492 : True := trivial
theorem tw12898278512742460983 : True := trivial
theorem tw13595575177431098478 : True := trivial
theorem tw5610988926823968596 : True := trivial
theorem tw14241304463656224058 : True := trivial
theorem tw16540902906764788542 : True := trivial
theorem tw5637508280561425389 : True := trivial
theorem tw2753604641231934112 : True := trivial
theorem tw14546032501404615453 : True := trivial
theorem tw17977424424062527133 : True := trivial
theorem tw2624623126072904036 : True := trivial
theorem tw11269993187440101448 : True := trivial
theorem tw7999525400794955306 : True := trivial
theorem tw4419733981706776519 : True := trivial
theorem tw18368911733061197010 : True := trivial
theorem tw12337031060759995008 : True := trivial
theorem tw5698037226290973036 : True := trivial
theorem tw13481007279751950567 : True := trivial
theorem tw16076731935468591837 : True := trivial
theorem tw2263649041739160988 : True := trivial
theorem tw5072754580627805298 : True := trivial
theorem tw12151581577003752284 : True := trivial
theorem tw6178677796604923407 : True := trivial
theorem tw5467665778744246004 : True := trivial
theorem tw10117830229704246935 : True := trivial
theorem tw17257760807293973842 : True := trivial
theorem tw5005748122261961255 : True := trivial
theorem tw10831045561112565527 : True := trivial
theorem tw16115844974076763587 : True := trivial
theorem tw8895905024574042783 : True := trivial
theorem tw1151256472448040887 : True := trivial
theorem tw6667481334808614096 : True := trivial
theorem tw1685221807024032535 : True := trivial
theorem tw18070617115859892083 : True := trivial
theorem tw10684450568613945731 : True := trivial
theorem tw10416709363602910019 : True := trivial
theorem tw8144439489094003095 : True := trivial
theorem tw14314415084252488256 : True := trivial
theorem tw3556549266200016155 : True := trivial
theorem tw14174764727296827438 : True := trivial
theorem tw9471016497093716740 : True := trivial
theorem tw4575062638677616651 : True := trivial
theorem tw18321651944977904840 : True := trivial
theorem tw14853335212871179035 : True := trivial
theorem tw10889117420581651865 : True := trivial
theorem tw4456018146906464470 : True := trivial
theorem tw12879289218372342296 : True := trivial
theorem tw5116102279110999073 : True := trivial
theorem tw12327624403555065096 : True := trivial
theorem tw12769576371390894024 : True := trivial
theorem tw3260998104883027881 : True := trivial
theorem tw18368583450888322364 : True := trivial
theorem tw12318952411439669289 : True := trivial
theorem tw65948887972236960 : True := trivial
theorem tw17370570055107567666 : True := trivial
theorem tw11254193581061313685 : True := trivial
theorem tw11628719404805568981 : True := trivial
theorem tw4970482925038716602 : True := trivial
theorem tw9008723964596214984 : True := trivial
theorem tw17986047898168044627 : True := trivial
theorem tw5043933902058098225 : True := trivial
theorem tw3005232685013914424 : True := trivial
theorem tw3460645270139813024 : True := trivial
theorem tw8592498460692654326 : True := trivial
theorem tw15578855194250965783 : True := trivial
theorem tw14777658021076160840 : True := trivial
theorem tw10528621420693536324 : True := trivial
theorem tw7937689211552192780 : True := trivial
theorem tw6992359292691387496 : True := trivial
theorem tw3871453171397567226 : True := trivial
theorem tw12207856826810920387 : True := trivial
theorem tw6032081453426009883 : True := trivial
theorem tw5335307286881018118 : True := trivial
theorem tw15670967030949475305 : True := trivial
theorem tw17391128863242922911 : True := trivial
theorem tw1780079181558488526 : True := trivial
theorem tw1792542306408303070 : True := trivial
theorem tw10777396552254852924 : True := trivial
theorem tw14177872160523699587 : True := trivial
theorem tw5368118660551847716 : True := trivial
theorem tw1809728664656620534 : True := trivial
theorem tw2581169656134891472 : True := trivial
theorem tw16221221758027247592 : True := trivial
theorem tw16103474141706171858 : True := trivial
theorem tw14791202718430362363 : True := trivial
theorem tw12692830808457491026 : True := trivial
theorem tw1129733211865904103 : True := trivial
theorem tw1858243473000315051 : True := trivial
theorem tw3776973801038732443 : True := trivial
theorem tw2581699489202425102 : True := trivial
theorem tw13815310118192576012 : True := trivial
theorem tw2521013166574895030 : True := trivial
theorem tw17611978542450396857 : True := trivial
theorem tw14386168760657680831 : True := trivial
theorem tw10831985162405384875 : True := trivial
theorem tw14557170829265841417 : True := trivial
theorem tw3304220450713180873 : True := trivial
theorem tw10453347034944607405 : True := trivial
theorem tw3425617640490149241 : True := trivial
theorem tw13039151766826808165 : True := trivial
theorem tw17787307500521448487 : True := trivial
theorem tw14552533041404075292 : True := trivial
theorem tw7431464497581579732 : True := trivial
theorem tw10802239420226829583 : True := trivial
theorem tw838457296186559567 : True := trivial
theorem tw13769134517510935547 : True := trivial
theorem tw10271766853667304499 : True := trivial
theorem tw13256283551642168831 : True := trivial
theorem tw5794748771556021904 : True := trivial
theorem tw15791525297920834383 : True := trivial
theorem tw14075434251378066562 : True := trivial
theorem tw5467532316065653906 : True := trivial
theorem tw168128082364376640 : True := trivial
theorem tw6152034601403557825 : True := trivial
theorem tw7351847480792417600 : True := trivial
theorem tw12083840544010022208 : True := trivial
theorem tw14699269544899620629 : True := trivial
theorem tw190289260209305487 : True := trivial
theorem tw16472721992084242852 : True := trivial
theorem tw15618734081283171603 : True := trivial
theorem tw3847697733881047034 : True := trivial
theorem tw9327103615574234365 : True := trivial
theorem tw4425531473883878414 : True := trivial
theorem tw9297162972948945620 : True := trivial
theorem tw10813379782963380592 : True := trivial
theorem tw11247211124982160437 : True := trivial
theorem tw16670888100122475295 : True := trivial
theorem tw10817871994191032366 : True := trivial
theorem tw4437789396278316223 : True := trivial
theorem tw17869866861305509398 : True := trivial
theorem tw13061369736459105390 : True := trivial
theorem tw7758805384220428140 : True := trivial
theorem tw993979214686000702 : True := trivial
theorem tw8811713556291981669 : True := trivial
theorem tw7167711768884540566 : True := trivial
theorem tw11619520285754309772 : True := trivial
theorem tw199957093907056959 : True := trivial
theorem tw3124597663290842773 : True := trivial
theorem tw8376224423653656419 : True := trivial
theorem tw8314181658144120449 : True := trivial
theorem tw17030261425366892286 : True := trivial
theorem tw7623866135953115614 : True := trivial
theorem tw14015410905251889493 : True := trivial
theorem tw2594604143830527326 : True := trivial
theorem tw16262171547984766952 : True := trivial
theorem tw10719783755375534923 : True := trivial
theorem tw15495346781558514561 : True := trivial
theorem tw9998389835332304307 : True := trivial
theorem tw13766013377548689741 : True := trivial
theorem tw17152398637447767457 : True := trivial
theorem tw14128860357570325297 : True := trivial
theorem tw18170184848584975284 : True := trivial
theorem tw6792820233116300560 : True := trivial
theorem tw200896855122650711 : True := trivial
theorem tw6176801647622394509 : True := trivial
theorem tw16055727420964060609 : True := trivial
theorem tw2551177964604120225 : True := trivial
theorem tw12579243824150675478 : True := trivial
theorem tw3321825368845495421 : True := trivial
theorem tw11523892610045492051 : True := trivial
theorem tw1934721374223315389 : True := trivial
theorem tw1183581182326645407 : True := trivial
theorem tw7863807486801679164 : True := trivial
theorem tw3731001328883972502 : True := trivial
theorem tw16834485436828368359 : True := trivial
theorem tw1518237800548942815 : True := trivial
theorem tw11865440790671551789 : True := trivial
theorem tw13839818159548103021 : True := trivial
theorem tw6461966979371589831 : True := trivial
theorem tw13097041588679979218 : True := trivial
theorem tw14744535183731054318 : True := trivial
theorem tw1970306194144685170 : True := trivial
theorem tw326651562549919903 : True := trivial
theorem tw4023850894282042469 : True := trivial
theorem tw5627308210746759745 : True := trivial
theorem tw7786336034638513687 : True := trivial
theorem tw7277903439604395465 : True := trivial
theorem tw4130689078625875958 : True := trivial
theorem tw13595317820165985496 : True := trivial
theorem tw8852650017511117227 : True := trivial
theorem tw643114166426007024 : True := trivial
theorem tw12099424947054622670 : True := trivial
theorem tw10534171657554139661 : True := trivial
theorem tw3198589221505667575 : True := trivial
theorem tw4819885550234575703 : True := trivial
theorem tw8361897727726207442 : True := trivial
theorem tw7997520005955264047 : True := trivial
theorem tw3096442672242984776 : True := trivial
theorem tw13645413741957679203 : True := trivial
theorem tw18412098662775707222 : True := trivial
theorem tw9795653064136654068 : True := trivial
theorem tw13212715940880676900 : True := trivial
theorem tw13311912458619421671 : True := trivial
theorem tw10205464528271225309 : True := trivial
theorem tw13638890853640157339 : True := trivial
theorem tw8896677041872280765 : True := trivial
theorem tw14409394470663110105 : True := trivial
theorem tw14438557023740903087 : True := trivial
theorem tw11049182976761186213 : True := trivial
theorem tw89612683217977713 : True := trivial
theorem tw3093354956692289981 : True := trivial
theorem tw1242012688848122628 : True := trivial
theorem tw8289319587975067888 : True := trivial
theorem tw5132222757155452332 : True := trivial
theorem tw6217632624966472060 : True := trivial
theorem tw17645211319617883213 : True := trivial
theorem tw14124710617509081272 : True := trivial
theorem tw11162591404908796940 : True := trivial
theorem tw12731412543001830924 : True := trivial
theorem tw1245873310919697875 : True := trivial
theorem tw7393900195346425461 : True := trivial
theorem tw7392031892502903284 : True := trivial
theorem tw17342279267380494500 : True := trivial
theorem tw11139307490510040262 : True := trivial
theorem tw3524242978888855280 : True := trivial
theorem tw11952704504680119487 : True := trivial
theorem tw13605610261504706055 : True := trivial
theorem tw11254446740004540764 : True := trivial
theorem tw4204679397697268683 : True := trivial
theorem tw2951586714801936493 : True := trivial
theorem tw12172137500738810849 : True := trivial
theorem tw2693382398206651561 : True := trivial
theorem tw2913928081667067951 : True := trivial
theorem tw2631203404909367343 : True := trivial
theorem tw13144992158990342736 : True := trivial
theorem tw7299608671181714618 : True := trivial
theorem tw6520464547658083998 : True := trivial
theorem tw5092242790030328667 : True := trivial
theorem tw12121445651746027306 : True := trivial
theorem tw11518517576955601703 : True := trivial
theorem tw5388406994769805296 : True := trivial
theorem tw7954970510492155063 : True := trivial
theorem tw14701463393445338131 : True := trivial
theorem tw2988697318149931324 : True := trivial
theorem tw7872291148440974970 : True := trivial
theorem tw1909657887678327909 : True := trivial
theorem tw9454457320383441673 : True := trivial
theorem tw14703303460761134549 : True := trivial
theorem tw6515619805793379767 : True := trivial
theorem tw6568078131974105063 : True := trivial
theorem tw17273227487046100143 : True := trivial
theorem tw18320671130041067807 : True := trivial
theorem tw53626912084316298 : True := trivial
theorem tw15246082265818876407 : True := trivial
theorem tw7767477943505008192 : True := trivial
theorem tw9603702802190950901 : True := trivial
theorem tw17291241308044631124 : True := trivial
theorem tw8503937675263645706 : True := trivial
theorem tw14493869528469884377 : True := trivial
theorem tw15899387776955665234 : True := trivial
theorem tw10005229635707073651 : True := trivial
theorem tw14503139782372980645 : True := trivial
theorem tw5340497191943017934 : True := trivial
theorem tw13990741101859807932 : True := trivial
theorem tw9869394411762145552 : True := trivial
theorem tw15270584853752944299 : True := trivial
theorem tw5970955585271050556 : True := trivial
theorem tw12710229836536276681 : True := trivial
theorem tw692585503754973044 : True := trivial
theorem tw16018587201676049819 : True := trivial
theorem tw14806766851699521338 : True := trivial
theorem tw1452896216118420398 : True := trivial
theorem tw13764937453536313270 : True := trivial
theorem tw13582566937731624145 : True := trivial
theorem tw7481696129639555104 : True := trivial
theorem tw5048966285198354346 : True := trivial
theorem tw1965913384650299153 : True := trivial
theorem tw5862424536597831841 : True := trivial
theorem tw9195139087998315997 : True := trivial
theorem tw5234156972854053417 : True := trivial
theorem tw6150701476418949443 : True := trivial
theorem tw11638017104964532996 : True := trivial
theorem tw8215798960869732520 : True := trivial
theorem tw15855060909119855697 : True := trivial
theorem tw4730112364837262484 : True := trivial
theorem tw17547650211780948717 : True := trivial
theorem tw3721522840159930362 : True := trivial
theorem tw12574111838371733837 : True := trivial
theorem tw4632059636664594029 : True := trivial
theorem tw5953877363410090723 : True := trivial
theorem tw4892410173871710104 : True := trivial
theorem tw11409588864641310528 : True := trivial
theorem tw9589288708792499517 : True := trivial
theorem tw4966933806028360235 : True := trivial
theorem tw16470804143398223974 : True := trivial
theorem tw3017920877257070008 : True := trivial
theorem tw3735903061897405386 : True := trivial
theorem tw15365497824392733941 : True := trivial
theorem tw13868096386806218372 : True := trivial
theorem tw16179995538761952880 : True := trivial
theorem tw4081806808818767163 : True := trivial
theorem tw6489297799319152698 : True := trivial
theorem tw8628091294492736771 : True := trivial
theorem tw4152238866469699371 : True := trivial
theorem tw12771080859292197675 : True := trivial
theorem tw18142123065386756326 : True := trivial
theorem tw9376589262331783326 : True := trivial
theorem tw10829186419405433762 : True := trivial
theorem tw14300871398682462605 : True := trivial
theorem tw16110789113569478802 : True := trivial
theorem tw15492937393353698230 : True := trivial
theorem tw9973686890851028152 : True := trivial
theorem tw3815227037504517921 : True := trivial
theorem tw18263416588091899471 : True := trivial
theorem tw12013420941566218462 : True := trivial
theorem tw3951988009961700921 : True := trivial
theorem tw11329860834905360619 : True := trivial
theorem tw14287939494704038071 : True := trivial
theorem tw6402986589482636109 : True := trivial
theorem tw11540623282055541124 : True := trivial
theorem tw2930180729161737932 : True := trivial
theorem tw2739229174870492148 : True := trivial
theorem tw12384373016510260154 : True := trivial
theorem tw7231778186403293326 : True := trivial
theorem tw11601451661712112734 : True := trivial
theorem tw5638391011361491959 : True := trivial
theorem tw5054648322147536259 : True := trivial
theorem tw6685372399944547669 : True := trivial
theorem tw1565378935832396873 : True := trivial
theorem tw9373991932492340112 : True := trivial
theorem tw12158768058238712685 : True := trivial
theorem tw9132212022559216707 : True := trivial
theorem tw3183808344492104923 : True := trivial
theorem tw5146863235013153977 : True := trivial
theorem tw6352749690922941781 : True := trivial
theorem tw6607201656781712581 : True := trivial
theorem tw17091140203972087624 : True := trivial
theorem tw4565909290830328137 : True := trivial
theorem tw3924473878075039286 : True := trivial
theorem tw17730655765882205284 : True := trivial
theorem tw15745597410691805769 : True := trivial
theorem tw10186363780460971899 : True := trivial
theorem tw9844284536953047898 : True := trivial
theorem tw4921018053239134008 : True := trivial
theorem tw18192316776744071899 : True := trivial
theorem tw792366795214888241 : True := trivial
theorem tw2080813544254540122 : True := trivial
theorem tw6461658324983148042 : True := trivial
theorem tw18155495601110290564 : True := trivial
theorem tw11038191565868942816 : True := trivial
theorem tw4405301199119213318 : True := trivial
theorem tw11596833844421985448 : True := trivial
theorem tw3968985713557948312 : True := trivial
theorem tw5825840513524155400 : True := trivial
theorem tw3652574448385739516 : True := trivial
theorem tw10640986851768829408 : True := trivial
theorem tw18315225875361519710 : True := trivial
theorem tw16366123285942055671 : True := trivial
theorem tw10511737670222801568 : True := trivial
theorem tw9613620761686861550 : True := trivial
theorem tw9162750871310185849 : True := trivial
theorem tw101900348505609690 : True := trivial
theorem tw6270570480492921410 : True := trivial
theorem tw3175074126740171026 : True := trivial
theorem tw9973319359514833982 : True := trivial
theorem tw6928609962897055689 : True := trivial
theorem tw1766683256211138875 : True := trivial
theorem tw10399519584436758985 : True := trivial
theorem tw4193316416700675349 : True := trivial
theorem tw10893107247105142739 : True := trivial
theorem tw4334577553197001442 : True := trivial
theorem tw10081479778767260612 : True := trivial
theorem tw10265278123735422616 : True := trivial
theorem tw16194871578366853219 : True := trivial
theorem tw13628074927576858348 : True := trivial
theorem tw3766341430221704794 : True := trivial
theorem tw2838825894243556197 : True := trivial
theorem tw4578064514073427837 : True := trivial
theorem tw7617417504852230437 : True := trivial
theorem tw4669082078777526922 : True := trivial
theorem tw16581192228802403300 : True := trivial
theorem tw17195572788528972091 : True := trivial
theorem tw17888681342292350204 : True := trivial
theorem tw3281160173256545042 : True := trivial
theorem tw15326671748885225899 : True := trivial
theorem tw4472204512795318708 : True := trivial
theorem tw6155741906767031658 : True := trivial
theorem tw7941463138347089537 : True := trivial
theorem tw471998153384145873 : True := trivial
theorem tw11667619633675529767 : True := trivial
theorem tw7349606340616397584 : True := trivial
theorem tw6791014726798124882 : True := trivial
theorem tw6824630426141889665 : True := trivial
theorem tw885463487107826706 : True := trivial
theorem tw2441196400315124975 : True := trivial
theorem tw8693463387239685245 : True := trivial
theorem tw4286914724530103769 : True := trivial
theorem tw8320422621378927921 : True := trivial
theorem tw16810930354308929435 : True := trivial
theorem tw17676186637882812710 : True := trivial
theorem tw11039914136244992664 : True := trivial
theorem tw10937534766450687888 : True := trivial
theorem tw1803076927958410824 : True := trivial
theorem tw17352815312803941103 : True := trivial
theorem tw11409049945199368586 : True := trivial
theorem tw13934377657765003179 : True := trivial
theorem tw9783545418100540890 : True := trivial
theorem tw7377097617421370337 : True := trivial
theorem tw16894337892819611456 : True := trivial
theorem tw5185825287413013697 : True := trivial
theorem tw10567799632222737291 : True := trivial
theorem tw13299957134071617963 : True := trivial
theorem tw5934786111733112438 : True := trivial
theorem tw16208221319554813736 : True := trivial
theorem tw3616034786527023012 : True := trivial
theorem tw12174873028751430186 : True := trivial
theorem tw16819511993815290607 : True := trivial
theorem tw17418452795565541154 : True := trivial
theorem tw4857848804194275376 : True := trivial
theorem tw10896379380934780371 : True := trivial
theorem tw9438098439966340989 : True := trivial
theorem tw9268555016040710420 : True := trivial
theorem tw13270978124662658854 : True := trivial
theorem tw6963653022333038246 : True := trivial
theorem tw14045681493170061939 : True := trivial
theorem tw14157889119835141664 : True := trivial
theorem tw17762081845471048958 : True := trivial
theorem tw18025930530037003670 : True := trivial
theorem tw16116901283177784720 : True := trivial
theorem tw7380994490907019283 : True := trivial
theorem tw16139848560828630360 : True := trivial
theorem tw15997961139064268570 : True := trivial
theorem tw1942214311664744328 : True := trivial
theorem tw16841676610124406917 : True := trivial
theorem tw14924796017042513522 : True := trivial
theorem tw17175684524694886700 : True := trivial
theorem tw8670521690926108976 : True := trivial
theorem tw3180376892851003432 : True := trivial
theorem tw14858798326927022476 : True := trivial
theorem tw17237976750438932753 : True := trivial
theorem tw5186245127978806901 : True := trivial
theorem tw1496629671028747943 : True := trivial
theorem tw10824535485771314225 : True := trivial
theorem tw7814465234829207239 : True := trivial
theorem tw2909761505100204399 : True := trivial
theorem tw54470937905820133 : True := trivial
theorem tw16682446054545766825 : True := trivial
theorem tw17539904781882020494 : True := trivial
theorem tw6581074939596706671 : True := trivial
theorem tw10571043493195168709 : True := trivial
theorem tw3275839632093982304 : True := trivial
theorem tw8380655187855803692 : True := trivial
theorem tw1816789968368471562 : True := trivial
theorem tw489744636430547752 : True := trivial
theorem tw2644917876041399897 : True := trivial
theorem tw17950244741913535364 : True := trivial
theorem tw12504076990070673873 : True := trivial
theorem tw18177837657270788089 : True := trivial
theorem tw2368490627587534580 : True := trivial
theorem tw16057090806245788814 : True := trivial
theorem tw10827306210601930279 : True := trivial
theorem tw586067867178521616 : True := trivial
theorem tw14278314009555878269 : True := trivial
theorem tw17388080435802931521 : True := trivial
theorem tw2187631791349339127 : True := trivial
theorem tw190488235301175638 : True := trivial
theorem tw11782044045478285567 : True := trivial
theorem tw3750377596305863109 : True := trivial
theorem tw18161251364524462007 : True := trivial
theorem tw13793760146634612210 : True := trivial
theorem tw10633911501258802411 : True := trivial
theorem tw71213638029759220 : True := trivial
theorem tw14764463205422782480 : True := trivial
theorem tw1150158996263253468 : True := trivial
theorem tw11700968106161633368 : True := trivial
theorem tw3226051673257850535 : True := trivial
theorem tw1172316188171932022 : True := trivial
theorem tw8347721051666334674 : True := trivial
theorem tw12918048948257147568 : True := trivial
theorem tw2132256133844690410 : True := trivial
theorem tw12638372841542328369 : True := trivial
theorem tw10753982425902037322 : True := trivial
theorem tw6712445600564215860 : True := trivial
theorem tw17839034538187349973 : True := trivial
theorem tw6542185729706577487 : True := trivial
theorem tw10154935002402207935 : True := trivial
theorem tw16727844131467501191 : True := trivial
theorem tw17303382729110431296 : True := trivial
theorem tw6459761029148055199 : True := trivial
theorem tw10480907206911564526 : True := trivial
theorem tw16004416051028483944 : True := trivial
theorem tw4971901493189376834 : True := trivial
theorem tw10787332093485297678 : True := trivial
theorem tw13565415408895102150 : True := trivial
theorem tw1600673701061821918 : True := trivial
theorem tw18279467782869840287 : True := trivial
theorem tw7814303252517532128 : True := trivial
theorem tw2875299143060737625 : True := trivial
theorem tw18016047429942765130 : True := trivial
theorem tw2101658022467888865 : True := trivial
theorem tw6495919768125744446 : True := trivial
theorem tw16934095575160977349 : True := trivial
theorem tw2983611078856484421 : True := trivial
theorem tw9382895021649887131 : True := trivial
theorem tw2860132627001357233 : True := trivial
theorem tw10371622871055953416 : True := trivial
theorem tw13629868533672528552 : True := trivial
theorem tw14312626206005488850 : True := trivial
theorem tw17642235860914025296 : True := trivial
theorem tw17401408496432743294 : True := trivial
theorem tw16887672639144814818 : True := trivial
theorem tw5231912340621052866 : True := trivial
theorem tw13248337691643481266 : True := trivial
theorem tw18164914453511146528 : True := trivial
theorem tw13123767738854965137 : True := trivial
theorem tw14736007163236654960 : True := trivial
theorem tw14883059026937725774 : True := trivial
theorem tw17309958544244609687 : True := trivial
theorem tw13953042353128882495 : True := trivial
theorem tw18244301644224865118 : True := trivial
theorem tw7119355047476557238 : True := trivial
theorem tw14759700533207458053 : True := trivial
theorem tw15854963840809514194 : True := trivial
theorem tw15087673201462351205 : True := trivial
theorem tw8634667690176403568 : True := trivial
theorem tw169771824695400330 : True := trivial
theorem tw7542620147349141278 : True := trivial
theorem tw8764386696469331166 : True := trivial
theorem tw5647278624178269073 : True := trivial
theorem tw5843306850652145016 : True := trivial
theorem tw6599934497552402597 : True := trivial
theorem tw11819405993551365590 : True := trivial
theorem tw7665219309462117639 : True := trivial
theorem tw11602809859687261320 : True := trivial
theorem tw7978742447333668501 : True := trivial
theorem tw16085316190763123801 : True := trivial
theorem tw15173103582869144664 : True := trivial
theorem tw3341141350856446701 : True := trivial
theorem tw12816058393492910772 : True := trivial
theorem tw12965185324903176865 : True := trivial
theorem tw12792044429941114630 : True := trivial
theorem tw16765810937819932525 : True := trivial
theorem tw3215253751983444034 : True := trivial
theorem tw12449381550172482175 : True := trivial
theorem tw17110680898810914833 : True := trivial
theorem tw1817357169675010072 : True := trivial
theorem tw12755099261361950928 : True := trivial
theorem tw694446753172974958 : True := trivial
theorem tw14958311237497938411 : True := trivial
theorem tw13661356257508881026 : True := trivial
theorem tw7047066061729228556 : True := trivial
theorem tw17315973968169185565 : True := trivial
theorem tw2576785441913273649 : True := trivial
theorem tw2940227994853631019 : True := trivial
theorem tw13908618210606307454 : True := trivial
theorem tw106589590126810198 : True := trivial
theorem tw14504422308350280573 : True := trivial
theorem tw10272295043308081322 : True := trivial
theorem tw3898719586967114217 : True := trivial
theorem tw11299922635622761238 : True := trivial
theorem tw7039368446349084313 : True := trivial
theorem tw6595232753016260687 : True := trivial
theorem tw3896788158517223616 : True := trivial
theorem tw5810578301558855924 : True := trivial
theorem tw12550955151733748289 : True := trivial
theorem tw17810768778652822176 : True := trivial
theorem tw17390737626881735723 : True := trivial
theorem tw11896049584045423849 : True := trivial
theorem tw7675764707157380875 : True := trivial
theorem tw4450536411319358471 : True := trivial
theorem tw2990948072719263201 : True := trivial
theorem tw870116435844826379 : True := trivial
theorem tw2911896518551955585 : True := trivial
theorem tw15323327518526068467 : True := trivial
theorem tw4282915611388930962 : True := trivial
theorem tw16100817724499961905 : True := trivial
theorem tw16967547303579628402 : True := trivial
theorem tw7427390815309926174 : True := trivial
theorem tw9813024314651110535 : True := trivial
theorem tw16253623561045796889 : True := trivial
theorem tw13040031194503687903 : True := trivial
theorem tw9608190648854929444 : True := trivial
theorem tw15093139788220106764 : True := trivial
theorem tw3208032954387742586 : True := trivial
theorem tw8891076688930808773 : True := trivial
theorem tw8550599215735594739 : True := trivial
theorem tw8380674755913637866 : True := trivial
theorem tw10907279532365457171 : True := trivial
theorem tw1033330779217063773 : True := trivial
theorem tw16692300008516103991 : True := trivial
theorem tw3430567880068389865 : True := trivial
theorem tw13017743822543770705 : True := trivial
theorem tw11517394744805250068 : True := trivial
theorem tw810212985732704984 : True := trivial
theorem tw10410732365235686135 : True := trivial
theorem tw8369333555556731968 : True := trivial
theorem tw3924665311779315358 : True := trivial
theorem tw6543428454554047140 : True := trivial
theorem tw6515256035939344666 : True := trivial
theorem tw11580170829065795552 : True := trivial
theorem tw5586321575015284250 : True := trivial
theorem tw9591868446257705509 : True := trivial
theorem tw14711882225644344105 : True := trivial
theorem tw4640302082491927263 : True := trivial
theorem tw4547935310497274938 : True := trivial
theorem tw1403587884967172805 : True := trivial
theorem tw16418081103882324663 : True := trivial
theorem tw3998582512851442721 : True := trivial
theorem tw3503112629254912957 : True := trivial
theorem tw4407868860728178646 : True := trivial
theorem tw9867031868929193992 : True := trivial
theorem tw7295604877701545096 : True := trivial
theorem tw3362088228548960564 : True := trivial
theorem tw9447342145492957254 : True := trivial
theorem tw1059582285593284744 : True := trivial
theorem tw2733634052933083231 : True := trivial
theorem tw6372259647152109809 : True := trivial
theorem tw16434354990665341090 : True := trivial
theorem tw10591569913268368689 : True := trivial
theorem tw11393419204704839679 : True := trivial
theorem tw7941866552110745758 : True := trivial
theorem tw9072793902954199154 : True := trivial
theorem tw12288827689930691452 : True := trivial
theorem tw16852702177539627181 : True := trivial
theorem tw6982773576168776148 : True := trivial
theorem tw6214303768971928341 : True := trivial
theorem tw15590478455652496458 : True := trivial
theorem tw11935561384268928622 : True := trivial
theorem tw4897645070403357668 : True := trivial
theorem tw14235007127197514449 : True := trivial
theorem tw5892495031962109467 : True := trivial
theorem tw13487940387624710566 : True := trivial
theorem tw8992900477521805028 : True := trivial
theorem tw17838470734261624239 : True := trivial
theorem tw390177441308544983 : True := trivial
theorem tw8708899021983850159 : True := trivial
theorem tw11389897707252206658 : True := trivial
theorem tw7169968347970726707 : True := trivial
theorem tw2458251379795461603 : True := trivial
theorem tw15018513513272131899 : True := trivial
theorem tw13689562469980934205 : True := trivial
theorem tw1661617309654276197 : True := trivial
theorem tw15462716357916405684 : True := trivial
theorem tw13261351827495364457 : True := trivial
theorem tw9157677316615973700 : True := trivial
theorem tw1038519787346011067 : True := trivial
theorem tw11823381499880205250 : True := trivial
theorem tw10858143381658476780 : True := trivial
theorem tw10058255321876967106 : True := trivial
theorem tw139866176377314749 : True := trivial
theorem tw11761212087146093805 : True := trivial
theorem tw4309300458212057302 : True := trivial
theorem tw15067140396625410563 : True := trivial
theorem tw9943557869295215710 : True := trivial
theorem tw15938310977375150412 : True := trivial
theorem tw12350060738225542145 : True := trivial
theorem tw7406696718678508625 : True := trivial
theorem tw5442604650265450129 : True := trivial
theorem tw7018117061830017997 : True := trivial
theorem tw13773901006280264319 : True := trivial
theorem tw8465455227919211741 : True := trivial
theorem tw3895937146366424210 : True := trivial
theorem tw5305825190504513940 : True := trivial
theorem tw17332088304490899164 : True := trivial
theorem tw509386302612937588 : True := trivial
theorem tw15967364938606832349 : True := trivial
theorem tw2527015661990020486 : True := trivial
theorem tw13710746033735815655 : True := trivial
theorem tw8801654395391170249 : True := trivial
theorem tw3885192930490191994 : True := trivial
theorem tw7281725871594075731 : True := trivial
theorem tw15582676214052711745 : True := trivial
theorem tw2191289538115917940 : True := trivial
theorem tw14772574442336808459 : True := trivial
theorem tw1871068161660584396 : True := trivial
theorem tw6938024669683370167 : True := trivial
theorem tw17600844914966089589 : True := trivial
theorem tw1091920672432391066 : True := trivial
theorem tw15399799033509809448 : True := trivial
theorem tw17209316443575367348 : True := trivial
theorem tw12431325075069775685 : True := trivial
theorem tw13853306466561621083 : True := trivial
theorem tw5357483451914048290 : True := trivial
theorem tw16546123104132695702 : True := trivial
theorem tw17987117540331421858 : True := trivial
theorem tw12640846240486089889 : True := trivial
theorem tw14769293371795488403 : True := trivial
theorem tw8077240262991321620 : True := trivial
theorem tw8847619881728929666 : True := trivial
theorem tw9532079417465414978 : True := trivial
theorem tw9459691198974634812 : True := trivial
theorem tw17374350084639105377 : True := trivial
theorem tw5734849829303935656 : True := trivial
theorem tw14094872398332682271 : True := trivial
theorem tw14938391765799589894 : True := trivial
theorem tw7998672053186734255 : True := trivial
theorem tw2719030614442102211 : True := trivial
theorem tw10364513788428566024 : True := trivial
theorem tw47026817581844673 : True := trivial
theorem tw17333472418975848737 : True := trivial
theorem tw8934952583739259828 : True := trivial
theorem tw11888452044259973485 : True := trivial
theorem tw13932248211737230201 : True := trivial
theorem tw10764037548066247693 : True := trivial
theorem tw1473593751551017605 : True := trivial
theorem tw15139626140574036488 : True := trivial
theorem tw16210489270334682261 : True := trivial
theorem tw5581982617760610941 : True := trivial
theorem tw13625532604319748219 : True := trivial
theorem tw379941347285135847 : True := trivial
theorem tw9914867756653267451 : True := trivial
theorem tw17727918760665876346 : True := trivial
theorem tw13581678258847610710 : True := trivial
theorem tw8624464250139416143 : True := trivial
theorem tw16078471956641077688 : True := trivial
theorem tw8066856179320578640 : True := trivial
theorem tw11885788663856340081 : True := trivial
theorem tw9765193462628038223 : True := trivial
theorem tw2157697765219894873 : True := trivial
theorem tw16142813254333354175 : True := trivial
theorem tw6578020118678048702 : True := trivial
theorem tw12284744738033273787 : True := trivial
theorem tw2751966425335530563 : True := trivial
theorem tw9530432193521291992 : True := trivial
theorem tw11689020189522883253 : True := trivial
theorem tw17428383575528520204 : True := trivial
theorem tw15948565018506351092 : True := trivial
theorem tw563775877681923943 : True := trivial
theorem tw16609893954584512670 : True := trivial
theorem tw16649546379758831066 : True := trivial
theorem tw3772548497416086843 : True := trivial
theorem tw717101086104219375 : True := trivial
theorem tw9748752317681696904 : True := trivial
theorem tw7030880758516395453 : True := trivial
theorem tw114286222372606227 : True := trivial
theorem tw10894222563127495795 : True := trivial
theorem tw9240728760940026237 : True := trivial
theorem tw5649273690240098684 : True := trivial
theorem tw16235197400862921648 : True := trivial
theorem tw6111768179495054938 : True := trivial
theorem tw17080893678192652066 : True := trivial
theorem tw2403441633598662935 : True := trivial
theorem tw9194056126767930546 : True := trivial
theorem tw11879463712774369411 : True := trivial
theorem tw15724081924566529097 : True := trivial
theorem tw13835105521839331674 : True := trivial
theorem tw11931666533984077050 : True := trivial
theorem tw3802867841362786240 : True := trivial
theorem tw4087986917226692792 : True := trivial
theorem tw14237426562527454907 : True := trivial
theorem tw5958575496474059199 : True := trivial
theorem tw5039430993461155390 : True := trivial
theorem tw699949737568430734 : True := trivial
theorem tw313455950466005181 : True := trivial
theorem tw1153839116239419474 : True := trivial
theorem tw10323141867324525916 : True := trivial
theorem tw7297941006064042370 : True := trivial
theorem tw17132052418604217160 : True := trivial
theorem tw8326456816935198903 : True := trivial
theorem tw945449549062687533 : True := trivial
theorem tw13480634726139264981 : True := trivial
theorem tw2191910424543899977 : True := trivial
theorem tw8235378495004326188 : True := trivial
theorem tw5201545136491956169 : True := trivial
theorem tw14182588193087052994 : True := trivial
theorem tw5008300353036383180 : True := trivial
theorem tw10790069439328853194 : True := trivial
theorem tw2609219356819937217 : True := trivial
theorem tw9703926760213717523 : True := trivial
theorem tw12234173736455727060 : True := trivial
theorem tw16901967051752630811 : True := trivial
theorem tw9165685030509627494 : True := trivial
theorem tw10225688692788080543 : True := trivial
theorem tw4995885843110285842 : True := trivial
theorem tw5745289998811095567 : True := trivial
theorem tw5149066114699874810 : True := trivial
theorem tw12507089761522522530 : True := trivial
theorem tw1587898169379483399 : True := trivial
theorem tw2427742403227610994 : True := trivial
theorem tw15417069331291487693 : True := trivial
theorem tw1880080271195887463 : True := trivial
theorem tw5041904704996877235 : True := trivial
theorem tw10254028302601061431 : True := trivial
theorem tw17803952011395093208 : True := trivial
theorem tw15559970379531915412 : True := trivial
theorem tw14931644872076669021 : True := trivial
theorem tw8940174198566709388 : True := trivial
theorem tw9926125121347017545 : True := trivial
theorem tw17814436163886817083 : True := trivial
theorem tw7763788145630101498 : True := trivial
theorem tw15257785272754929955 : True := trivial
theorem tw2106185125363370749 : True := trivial
theorem tw16787460430598886394 : True := trivial
theorem tw1900764467784658012 : True := trivial
theorem tw14324397302738909683 : True := trivial
theorem tw2087933291058540522 : True := trivial
theorem tw5649583078945546962 : True := trivial
theorem tw17453765311079348741 : True := trivial
theorem tw11327160010372889492 : True := trivial
theorem tw7324163940303850506 : True := trivial
theorem tw16130366978624822776 : True := trivial
theorem tw10990984476379041863 : True := trivial
theorem tw3829166124685546907 : True := trivial
theorem tw3930618088182161724 : True := trivial
theorem tw16261936099702477054 : True := trivial
theorem tw5781856776930600107 : True := trivial
theorem tw17084425081564311309 : True := trivial
theorem tw984797513599530544 : True := trivial
theorem tw17566807571429247089 : True := trivial
theorem tw1691783757699673779 : True := trivial
theorem tw11156940208710140259 : True := trivial
theorem tw14698052443832941 : True := trivial
theorem tw3876357391106048779 : True := trivial
theorem tw16480264822446889051 : True := trivial
theorem tw6049251523432169827 : True := trivial
theorem tw12830148288362489931 : True := trivial
theorem tw13100817499193616079 : True := trivial
theorem tw17160796181292151043 : True := trivial
theorem tw11827172723382418766 : True := trivial
theorem tw174025259716398873 : True := trivial
theorem tw10397081151122080628 : True := trivial
theorem tw8716276890019399925 : True := trivial
theorem tw11624596143543756218 : True := trivial
theorem tw3221020129219015024 : True := trivial
theorem tw13861555389025303069 : True := trivial
theorem tw7442650352878304713 : True := trivial
theorem tw18222531529968844904 : True := trivial
theorem tw7793576803360319318 : True := trivial
theorem tw6653183380889741374 : True := trivial
theorem tw4227810929071454121 : True := trivial
theorem tw16585887940015622625 : True := trivial
theorem tw9781593402041117505 : True := trivial
theorem tw13311123754464164445 : True := trivial
theorem tw16397162170190766957 : True := trivial
theorem tw4160170402432756890 : True := trivial
theorem tw15823635798154301953 : True := trivial
theorem tw3836101588249725619 : True := trivial
theorem tw14216806985245447663 : True := trivial
theorem tw17260035234977726295 : True := trivial
theorem tw1232324336730839231 : True := trivial
theorem tw18203575293246948529 : True := trivial
theorem tw2481727074839902144 : True := trivial
theorem tw14981907251610011183 : True := trivial
theorem tw12634993642567422352 : True := trivial
theorem tw17827789224288472209 : True := trivial
theorem tw17983769271137553227 : True := trivial
theorem tw5174460395511588008 : True := trivial
theorem tw17674452576679557691 : True := trivial
theorem tw15321818150121866394 : True := trivial
theorem tw13186017866920539680 : True := trivial
theorem tw7346389998131043452 : True := trivial
theorem tw2968853878552468312 : True := trivial
theorem tw1144227490669840223 : True := trivial
theorem tw16507560958081777662 : True := trivial
theorem tw7540146361886279531 : True := trivial
theorem tw9368432220454581177 : True := trivial
theorem tw12293253680003281506 : True := trivial
theorem tw2143944689066788182 : True := trivial
theorem tw74060731597020436 : True := trivial
theorem tw10946922875104932592 : True := trivial
theorem tw5128395319737756384 : True := trivial
theorem tw11258733748669903216 : True := trivial
theorem tw1906491965942903833 : True := trivial
theorem tw5054186537171272726 : True := trivial
theorem tw12745086677009633353 : True := trivial
theorem tw17599404394602537379 : True := trivial
theorem tw12605440483551254692 : True := trivial
theorem tw4423686469333720759 : True := trivial
theorem tw2530189272778915800 : True := trivial
theorem tw8877959918586268104 : True := trivial
theorem tw16000805357635499927 : True := trivial
theorem tw10791388775933196902 : True := trivial
theorem tw6101773920577894530 : True := trivial
theorem tw1757941710807231155 : True := trivial
theorem tw16529199656115374293 : True := trivial
theorem tw16511891815215657212 : True := trivial
theorem tw1776969870186908287 : True := trivial
theorem tw2682975965746762025 : True := trivial
theorem tw11148401789548124015 : True := trivial
theorem tw135965931233137594 : True := trivial
theorem tw8613307529994003717 : True := trivial
theorem tw1226455306650181298 : True := trivial
theorem tw6484344715653749083 : True := trivial
theorem tw2244708518777790295 : True := trivial
theorem tw1271190111157395424 : True := trivial
theorem tw5932547760359897335 : True := trivial
theorem tw15591564867840851982 : True := trivial
theorem tw11628780254353936985 : True := trivial
theorem tw6165570673410424071 : True := trivial
theorem tw2302918814534384233 : True := trivial
theorem tw16896019615404208470 : True := trivial
theorem tw620726990717495733 : True := trivial
theorem tw17813560246045487877 : True := trivial
theorem tw16524378288550831631 : True := trivial
theorem tw2014191505765216070 : True := trivial
theorem tw9569205013672006314 : True := trivial
theorem tw11565430160104643295 : True := trivial
theorem tw14011705286968347312 : True := trivial
theorem tw7069095132711565931 : True := trivial
theorem tw16796087375111955068 : True := trivial
theorem tw15923249151250758944 : True := trivial
theorem tw13003302713387040689 : True := trivial
theorem tw11520782101185112493 : True := trivial
theorem tw10408701389672323801 : True := trivial
theorem tw7337594680791779392 : True := trivial
theorem tw12004841259223215459 : True := trivial
theorem tw11131862174153098521 : True := trivial
theorem tw4145412576629339564 : True := trivial
theorem tw14807248177343576756 : True := trivial
theorem tw17744973689304853979 : True := trivial
theorem tw12851939375751294685 : True := trivial
theorem tw17483087640848899417 : True := trivial
theorem tw10092624047557123412 : True := trivial
theorem tw3976158141055556282 : True := trivial
theorem tw13642576785305408266 : True := trivial
theorem tw11360079251558389980 : True := trivial
theorem tw2121915990052741709 : True := trivial
theorem tw1388176556017302381 : True := trivial
theorem tw14942037928979002630 : True := trivial
theorem tw13356914967783853440 : True := trivial
theorem tw10866778522075514297 : True := trivial
theorem tw14711028191391956521 : True := trivial
theorem tw498911136204645891 : True := trivial
theorem tw8295038571087247427 : True := trivial
theorem tw17998873247291409802 : True := trivial
theorem tw1027411617103254971 : True := trivial
theorem tw15640518185070060954 : True := trivial
theorem tw16066734756536074519 : True := trivial
theorem tw15630856515020054550 : True := trivial
theorem tw7733993011260727071 : True := trivial
theorem tw971398278510533057 : True := trivial
theorem tw8928463526974421878 : True := trivial
theorem tw14829567104440513311 : True := trivial
theorem tw10321973946666891111 : True := trivial
theorem tw14459710068318155432 : True := trivial
theorem tw10015596806004679644 : True := trivial
theorem tw14632036663214170476 : True := trivial
theorem tw2073704274154075860 : True := trivial
theorem tw9151942787844467753 : True := trivial
theorem tw3516730532956599794 : True := trivial
theorem tw14510084900033987756 : True := trivial
theorem tw1570441558628665032 : True := trivial
theorem tw15111499634297423008 : True := trivial
theorem tw17188282276186693313 : True := trivial
theorem tw7124738858593400114 : True := trivial
theorem tw245130333298416675 : True := trivial
theorem tw9358386654807884150 : True := trivial
theorem tw16747202564019810441 : True := trivial
theorem tw2397575144558103157 : True := trivial
theorem tw18419134874362904534 : True := trivial
theorem tw3892085455758585028 : True := trivial
theorem tw9862888148854606329 : True := trivial
theorem tw3041956426532901615 : True := trivial
theorem tw8283654682322956882 : True := trivial
theorem tw17253192264653655866 : True := trivial
theorem tw5367945654125418868 : True := trivial
theorem tw2457265997459777758 : True := trivial
theorem tw17892403845876983891 : True := trivial
theorem tw17666639190025503516 : True := trivial
theorem tw15114212677847516144 : True := trivial
theorem tw10887592748272686599 : True := trivial
theorem tw16145583958214252061 : True := trivial
theorem tw10873083462757631560 : True := trivial
theorem tw14200292487125393209 : True := trivial
theorem tw9712638736664732426 : True := trivial
theorem tw3838595974471405748 : True := trivial
theorem tw17613639227617823513 : True := trivial
theorem tw1214810784619969461 : True := trivial
theorem tw13325422087858995069 : True := trivial
theorem tw17139888350051960503 : True := trivial
theorem tw11356721301333730708 : True := trivial
theorem tw10675620641553193139 : True := trivial
theorem tw10419031359754201714 : True := trivial
theorem tw11683116826951336513 : True := trivial
theorem tw16569570544788427070 : True := trivial
theorem tw2162209815711239546 : True := trivial
theorem tw4510591532679753633 : True := trivial
theorem tw1837587455992937336 : True := trivial
theorem tw9240231070513636949 : True := trivial
theorem tw3452053840058207544 : True := trivial
theorem tw1936364767817928189 : True := trivial
theorem tw12365819843767501789 : True := trivial
theorem tw14471328074538856385 : True := trivial
theorem tw8571950609431974846 : True := trivial
theorem tw5596274718794379219 : True := trivial
theorem tw9063406899838704000 : True := trivial
theorem tw6048849971686384124 : True := trivial
theorem tw17555943892918772496 : True := trivial
theorem tw5554496264788693600 : True := trivial
theorem tw454747291120706261 : True := trivial
theorem tw17456594041518798651 : True := trivial
theorem tw8946269278923747763 : True := trivial
theorem tw5223259255706845212 : True := trivial
theorem tw12512443528051031739 : True := trivial
theorem tw5286623931183324247 : True := trivial
theorem tw10165846059074760089 : True := trivial
theorem tw1256018186984442841 : True := trivial
theorem tw1758363148503633305 : True := trivial
theorem tw13632398597695404098 : True := trivial
theorem tw16199997225845421485 : True := trivial
theorem tw929508797081254727 : True := trivial
theorem tw15731129658619731496 : True := trivial
theorem tw11453652263730461089 : True := trivial
theorem tw17487886954764775735 : True := trivial
theorem tw15420820859939358474 : True := trivial
theorem tw4267669339421522535 : True := trivial
theorem tw2260264052360736799 : True := trivial
theorem tw16635113955734971619 : True := trivial
theorem tw6857627282979509148 : True := trivial
theorem tw4249049693464848479 : True := trivial
theorem tw6134406996694024833 : True := trivial
theorem tw17477882366557019975 : True := trivial
theorem tw11133713529935244163 : True := trivial
theorem tw625259612634944924 : True := trivial
theorem tw7592477456157277772 : True := trivial
theorem tw2396820317359214345 : True := trivial
theorem tw5646782645100693757 : True := trivial
theorem tw9904491374031066654 : True := trivial
theorem tw16283336848486306211 : True := trivial
theorem tw13831736492481419319 : True := trivial
theorem tw5395855421289887915 : True := trivial
theorem tw5440015295995928668 : True := trivial
theorem tw6546016366598989630 : True := trivial
theorem tw13154275964071497276 : True := trivial
theorem tw4342301604395870756 : True := trivial
theorem tw6873470661198048267 : True := trivial
theorem tw7945228493092830452 : True := trivial
theorem tw15581892652894844963 : True := trivial
theorem tw10786632179708894224 : True := trivial
theorem tw13784744223415517250 : True := trivial
theorem tw16810297803431234624 : True := trivial
theorem tw4405221383507798625 : True := trivial
theorem tw12516936796777206982 : True := trivial
theorem tw14013253640361263943 : True := trivial
theorem tw8865505403074396805 : True := trivial
theorem tw9385513216541146137 : True := trivial
theorem tw7789063160108111893 : True := trivial
theorem tw1045507085010728487 : True := trivial
theorem tw9525785548520016113 : True := trivial
theorem tw9164950409279421479 : True := trivial
theorem tw17883246080692422563 : True := trivial
theorem tw13295659398563711622 : True := trivial
theorem tw14163823997130118003 : True := trivial
theorem tw6926350631824798626 : True := trivial
theorem tw8287967125419043752 : True := trivial
theorem tw7410234954669320993 : True := trivial
theorem tw197956437164572827 : True := trivial
theorem tw4037716637805759798 : True := trivial
theorem tw10942899299126284955 : True := trivial
theorem tw6259154424833721530 : True := trivial
theorem tw8394028391199259694 : True := trivial
theorem tw12307132995049922612 : True := trivial
theorem tw9904660807898392422 : True := trivial
theorem tw7748453343550493081 : True := trivial
theorem tw17166103065804688819 : True := trivial
theorem tw17487075009490936355 : True := trivial
theorem tw1029058062122977473 : True := trivial
theorem tw11462283549145620497 : True := trivial
theorem tw7952197221308681505 : True := trivial
theorem tw16812767679211418033 : True := trivial
theorem tw1130116123511546804 : True := trivial
theorem tw10534180085250358490 : True := trivial
theorem tw10977641517714206934 : True := trivial
theorem tw16405438871639885685 : True := trivial
theorem tw10141710540730031672 : True := trivial
theorem tw1690054349195646694 : True := trivial
theorem tw8544097303024125145 : True := trivial
theorem tw17223381853438628127 : True := trivial
theorem tw4724031251344442293 : True := trivial
theorem tw12045727958057591345 : True := trivial
theorem tw12617915108689571563 : True := trivial
theorem tw5127955980320794740 : True := trivial
theorem tw1710473783317066269 : True := trivial
theorem tw7307032261202425194 : True := trivial
theorem tw17985114351792088206 : True := trivial
theorem tw15909427529704050733 : True := trivial
theorem tw1279383990931474429 : True := trivial
theorem tw16270185864040346330 : True := trivial
theorem tw12790383440004245076 : True := trivial
theorem tw16160631481048095812 : True := trivial
theorem tw9548107148716735256 : True := trivial
theorem tw13611775375522678216 : True := trivial
theorem tw14302986564386682197 : True := trivial
theorem tw16071926097505283256 : True := trivial
theorem tw8182941232334234517 : True := trivial
theorem tw18399729710561664985 : True := trivial
theorem tw13479544821868458042 : True := trivial
theorem tw15713233482050063787 : True := trivial
theorem tw15126949281273031859 : True := trivial
theorem tw14846818021972584818 : True := trivial
theorem tw14022496223710107067 : True := trivial
theorem tw14177395684189516516 : True := trivial
theorem tw10129007201375577477 : True := trivial
theorem tw9890059601393804465 : True := trivial
theorem tw13534996075285999639 : True := trivial
theorem tw2611745710329916847 : True := trivial
theorem tw2410112014349075668 : True := trivial
theorem tw15802902787303666168 : True := trivial
theorem tw5327604733178211362 : True := trivial
theorem tw9250403749636161763 : True := trivial
theorem tw11228594716088922839 : True := trivial
theorem tw9849144733108944873 : True := trivial
theorem tw13562861641055825163 : True := trivial
theorem tw1779843875292887356 : True := trivial
theorem tw4915934111096698992 : True := trivial
theorem tw13751394321419094459 : True := trivial
theorem tw9515261181666934133 : True := trivial
theorem tw13722169230257285030 : True := trivial
theorem tw2967562382067265692 : True := trivial
theorem tw4554340304992931335 : True := trivial
theorem tw14460748612786943594 : True := trivial
theorem tw12275390398546903646 : True := trivial
theorem tw11538541979049565647 : True := trivial
theorem tw12523923297177341131 : True := trivial
theorem tw10467877402037652119 : True := trivial
theorem tw14432375971693674986 : True := trivial
theorem tw13703245180757844045 : True := trivial
theorem tw18353545145513133395 : True := trivial
theorem tw6629080614171060468 : True := trivial
theorem tw10444442710984306238 : True := trivial
theorem tw12983267075758807379 : True := trivial
theorem tw12335775903379350168 : True := trivial
theorem tw16086081407223722753 : True := trivial
theorem tw2590462166222700169 : True := trivial
theorem tw11117967027446636269 : True := trivial
theorem tw8096773286625459478 : True := trivial
theorem tw18351768718029357492 : True := trivial
theorem tw16199457149455054905 : True := trivial
theorem tw3241265897597865173 : True := trivial
theorem tw1776587706202855687 : True := trivial
theorem tw5516434418368818283 : True := trivial
theorem tw9508594351784555331 : True := trivial
theorem tw18264961766972048889 : True := trivial
theorem tw12394459495329716497 : True := trivial
theorem tw13798782957973606165 : True := trivial
theorem tw7389965526305050831 : True := trivial
theorem tw16944505817651138191 : True := trivial
theorem tw3050638369814857260 : True := trivial
theorem tw6948472809108378122 : True := trivial
theorem tw15242448706805186352 : True := trivial
theorem tw14997976702004620785 : True := trivial
theorem tw11851642982969304780 : True := trivial
theorem tw2298077758148519003 : True := trivial
theorem tw12691746543372223505 : True := trivial
theorem tw4773490464400246043 : True := trivial
theorem tw17412089862109288045 : True := trivial
theorem tw2678266272935414253 : True := trivial
theorem tw2256219600560660077 : True := trivial
theorem tw16589107651113014464 : True := trivial
theorem tw3647671403489721265 : True := trivial
theorem tw13152315002111546844 : True := trivial
theorem tw13303062243489498990 : True := trivial
theorem tw926837445787689500 : True := trivial
theorem tw11054501299709935894 : True := trivial
theorem tw7920151627621296902 : True := trivial
theorem tw7272204981763481562 : True := trivial
theorem tw6974477600154754559 : True := trivial
theorem tw17463647042854674282 : True := trivial
theorem tw2066152888657146471 : True := trivial
theorem tw3744631568235927398 : True := trivial
theorem tw13831515819942442370 : True := trivial
theorem tw17625607799767390443 : True := trivial
theorem tw12562276300555940517 : True := trivial
theorem tw13238586524148007118 : True := trivial
theorem tw7912141273309783626 : True := trivial
theorem tw2447464692493369732 : True := trivial
theorem tw2185592977993891469 : True := trivial
theorem tw18061871678277119892 : True := trivial
theorem tw7280918862373102997 : True := trivial
theorem tw5726106033667079472 : True := trivial
theorem tw4661423498101631872 : True := trivial
theorem tw12895000164461277298 : True := trivial
theorem tw6037259521809461674 : True := trivial
theorem tw15153444356802199479 : True := trivial
theorem tw2289597057397796552 : True := trivial
theorem tw17135181129420629981 : True := trivial
theorem tw16982934392844731337 : True := trivial
theorem tw10930313849026497041 : True := trivial
theorem tw14633996705721670282 : True := trivial
theorem tw16168328929866233547 : True := trivial
theorem tw16445899352044104984 : True := trivial
theorem tw13692918115560467887 : True := trivial
theorem tw17022158423299030602 : True := trivial
theorem tw1940122206744201225 : True := trivial
theorem tw17862157795127437340 : True := trivial
theorem tw7394938383846541879 : True := trivial
theorem tw6315573307329542584 : True := trivial
theorem tw6125923069089575143 : True := trivial
theorem tw5213662757720597910 : True := trivial
theorem tw7624490887050216163 : True := trivial
theorem tw13440401804443911275 : True := trivial
theorem tw2441702492641279961 : True := trivial
theorem tw3644948024596765585 : True := trivial
theorem tw10657330501080464845 : True := trivial
theorem tw6655387825444667189 : True := trivial
theorem tw9266737465209153790 : True := trivial
theorem tw4892749295875187933 : True := trivial
theorem tw12674927859852069508 : True := trivial
theorem tw13540590040671983509 : True := trivial
theorem tw14619430767524141262 : True := trivial
theorem tw15682708188593344328 : True := trivial
theorem tw3995206725810700997 : True := trivial
theorem tw8022263036856634504 : True := trivial
theorem tw2549485831941670987 : True := trivial
theorem tw8065292056689773054 : True := trivial
theorem tw4385263414636604951 : True := trivial
theorem tw11657886324504990639 : True := trivial
theorem tw8091742569313734122 : True := trivial
theorem tw13301755761872869298 : True := trivial
theorem tw13267928295771860561 : True := trivial
theorem tw2882758477159457393 : True := trivial
theorem tw671943494736594298 : True := trivial
theorem tw16079574234146897059 : True := trivial
theorem tw15970211598082664509 : True := trivial
theorem tw1671614654634298305 : True := trivial
theorem tw3109810985876899003 : True := trivial
theorem tw6354681863451813723 : True := trivial
theorem tw73274582499962707 : True := trivial
theorem tw10252797038272190703 : True := trivial
theorem tw731312899323123470 : True := trivial
theorem tw11783407718419335473 : True := trivial
theorem tw6429686748044511385 : True := trivial
theorem tw15291010131571518040 : True := trivial
theorem tw17741661967299450571 : True := trivial
theorem tw8970870561462439000 : True := trivial
theorem tw1055147505759479578 : True := trivial
theorem tw5473781940331935723 : True := trivial
theorem tw1678961667031781402 : True := trivial
theorem tw10093070916779455788 : True := trivial
theorem tw16241139262341579680 : True := trivial
theorem tw11569430496130145823 : True := trivial
theorem tw14089045466587626751 : True := trivial
theorem tw8061912455847303153 : True := trivial
theorem tw1980324453715755205 : True := trivial
theorem tw11342806780397658496 : True := trivial
theorem tw877994207391233184 : True := trivial
theorem tw16384974119197756342 : True := trivial
theorem tw15559576638994793552 : True := trivial
theorem tw4866089487126333568 : True := trivial
theorem tw1049899217450350879 : True := trivial
theorem tw11492711872443371425 : True := trivial
theorem tw13085377917154108232 : True := trivial
theorem tw8063602405475269630 : True := trivial
theorem tw10363167799164775034 : True := trivial
theorem tw2636323095650954053 : True := trivial
theorem tw7779665315802185036 : True := trivial
theorem tw324151252566392158 : True := trivial
theorem tw2102478101381119796 : True := trivial
theorem tw16812647400896982431 : True := trivial
theorem tw3956916706317163360 : True := trivial
theorem tw4810809355007054893 : True := trivial
theorem tw1150539712209681996 : True := trivial
theorem tw6110851582769591146 : True := trivial
theorem tw7884935156532684898 : True := trivial
theorem tw14955247270792486677 : True := trivial
theorem tw10487116444729948080 : True := trivial
theorem tw8331625346854271327 : True := trivial
theorem tw14674544008407138875 : True := trivial
theorem tw4602751323970363920 : True := trivial
theorem tw10983741748911337467 : True := trivial
theorem tw7271325153387141854 : True := trivial
theorem tw8159228616354639143 : True := trivial
theorem tw3396175264573288297 : True := trivial
theorem tw11410596235785283968 : True := trivial
theorem tw1066741725941797313 : True := trivial
theorem tw2688731084777640710 : True := trivial
theorem tw1903182498039620259 : True := trivial
theorem tw11319422243322977553 : True := trivial
theorem tw5565807442254444014 : True := trivial
theorem tw693910072435627134 : True := trivial
theorem tw12555585980004076177 : True := trivial
theorem tw17513786269492639247 : True := trivial
theorem tw6706531255810628441 : True := trivial
theorem tw12039976321356930610 : True := trivial
theorem tw2311118036346340410 : True := trivial
theorem tw15679675167760601397 : True := trivial
theorem tw17156570524071377655 : True := trivial
theorem tw8697401416624490493 : True := trivial
theorem tw16185842518845806779 : True := trivial
theorem tw2323621306855926263 : True := trivial
theorem tw18306095115732077605 : True := trivial
theorem tw17184030324101118972 : True := trivial
theorem tw14769514215246262569 : True := trivial
theorem tw6855939174239105298 : True := trivial
theorem tw4672554950487092643 : True := trivial
theorem tw18280923453769059045 : True := trivial
theorem tw10417431920475641211 : True := trivial
theorem tw6456125266366624060 : True := trivial
theorem tw5905542941102291992 : True := trivial
theorem tw7487353815855368392 : True := trivial
theorem tw1348179624938729615 : True := trivial
theorem tw2840905857896246219 : True := trivial
theorem tw4684748660543676610 : True := trivial
theorem tw8547041960420825132 : True := trivial
theorem tw11753875736750815705 : True := trivial
theorem tw7588966524330616942 : True := trivial
theorem tw11778793883783535554 : True := trivial
theorem tw4614316524022898971 : True := trivial
theorem tw4521784308906594879 : True := trivial
theorem tw2080787462700438059 : True := trivial
theorem tw3465896023040179129 : True := trivial
theorem tw12490492627396538412 : True := trivial
theorem tw3136618147148578352 : True := trivial
theorem tw8464773361317397701 : True := trivial
theorem tw11660364743280541358 : True := trivial
theorem tw15164906499588794132 : True := trivial
theorem tw789551159446988060 : True := trivial
theorem tw7401754241457422324 : True := trivial
theorem tw6157291363577272410 : True := trivial
theorem tw18182688847336702173 : True := trivial
theorem tw16612319205667947593 : True := trivial
theorem tw15051723048304017000 : True := trivial
theorem tw11742918176424660944 : True := trivial
theorem tw6038270052357229931 : True := trivial
theorem tw5457648088965285714 : True := trivial
theorem tw6145451337911937742 : True := trivial
theorem tw8914552381965507074 : True := trivial
theorem tw11497135997070235465 : True := trivial
theorem tw6018861462143495293 : True := trivial
theorem tw18111198316595366916 : True := trivial
theorem tw13311292755173075719 : True := trivial
theorem tw1384840108591010054 : True := trivial
theorem tw13767423977734728089 : True := trivial
theorem tw12009376406181996926 : True := trivial
theorem tw9481224876993795579 : True := trivial
theorem tw9144195694290524395 : True := trivial
theorem tw4165265771054709211 : True := trivial
theorem tw14972355661409950364 : True := trivial
theorem tw10068684161349315949 : True := trivial
theorem tw15816294331365784206 : True := trivial
theorem tw10020544135373275916 : True := trivial
theorem tw14847810856615060717 : True := trivial
theorem tw395913750303042706 : True := trivial
theorem tw8154943376075793519 : True := trivial
theorem tw4733818925609459708 : True := trivial
theorem tw14035768028038857606 : True := trivial
theorem tw17122703520257394798 : True := trivial
theorem tw6922730528221279798 : True := trivial
theorem tw16473177236369874476 : True := trivial
theorem tw4695158129245671165 : True := trivial
theorem tw14672713067125562151 : True := trivial
theorem tw11860042506100442409 : True := trivial
theorem tw9307350753597333059 : True := trivial
theorem tw10187738230504990318 : True := trivial
theorem tw1874883603733498547 : True := trivial
theorem tw1505542562882811886 : True := trivial
theorem tw15912733769662279730 : True := trivial
theorem tw8241355912956407064 : True := trivial
theorem tw15024053617288258207 : True := trivial
theorem tw15499477974459431860 : True := trivial
theorem tw9347976094002760547 : True := trivial
theorem tw12823048719838791608 : True := trivial
theorem tw16594497597464156335 : True := trivial
theorem tw13099233850628286638 : True := trivial
theorem tw9106588826794172517 : True := trivial
theorem tw1222693701648447260 : True := trivial
theorem tw14056448595774610560 : True := trivial
theorem tw16201277095283665181 : True := trivial
theorem tw8874370679759632398 : True := trivial
theorem tw17951591077630208215 : True := trivial
theorem tw8436889587535745532 : True := trivial
theorem tw17631911174877143887 : True := trivial
theorem tw15970660889262951631 : True := trivial
theorem tw12633492490565438568 : True := trivial
theorem tw8070400341508298020 : True := trivial
theorem tw13657287294646908577 : True := trivial
theorem tw10009025200326797083 : True := trivial
theorem tw9031011713620864549 : True := trivial
theorem tw9013577599112853380 : True := trivial
theorem tw15984028036547673728 : True := trivial
theorem tw2109640171695423912 : True := trivial
theorem tw11223719581691736936 : True := trivial
theorem tw16861667722138816061 : True := trivial
theorem tw16902500313546025712 : True := trivial
theorem tw532674111954647270 : True := trivial
theorem tw6405867501609874079 : True := trivial
theorem tw10443714775029814350 : True := trivial
theorem tw8972880784623260970 : True := trivial
theorem tw17550097853870016016 : True := trivial
theorem tw7955270244970504377 : True := trivial
theorem tw15678130535540407521 : True := trivial
theorem tw13906100035492664483 : True := trivial
theorem tw1090708299990327871 : True := trivial
theorem tw14527258255592140044 : True := trivial
theorem tw445558162474722616 : True := trivial
theorem tw9666452327410706409 : True := trivial
theorem tw13048972974258776781 : True := trivial
theorem tw13376003757725150066 : True := trivial
theorem tw1584679592681914283 : True := trivial
theorem tw3797935539795518490 : True := trivial
theorem tw13850817973696754296 : True := trivial
theorem tw4755757613196602669 : True := trivial
theorem tw3009440932460302500 : True := trivial
theorem tw14191954734436823214 : True := trivial
theorem tw6985589877390949713 : True := trivial
theorem tw16420503936685503397 : True := trivial
theorem tw13636224106916867866 : True := trivial
theorem tw672672453621999895 : True := trivial
theorem tw3856061673592710861 : True := trivial
theorem tw13415047793732805184 : True := trivial
theorem tw1978670357368739915 : True := trivial
theorem tw10042581525254327773 : True := trivial
theorem tw17565153284221514744 : True := trivial
theorem tw337964602846639394 : True := trivial
theorem tw17756681703642200804 : True := trivial
theorem tw15330229299641256875 : True := trivial
theorem tw10365987135333838656 : True := trivial
theorem tw5476866380579848233 : True := trivial
theorem tw4803887893358184688 : True := trivial
theorem tw17251833362288884509 : True := trivial
theorem tw16600800704093728522 : True := trivial
theorem tw758239249329437784 : True := trivial
theorem tw17667809130815354009 : True := trivial
theorem tw3192854115121750463 : True := trivial
theorem tw7392425634108501557 : True := trivial
theorem tw4796363360193564321 : True := trivial
theorem tw5141489369900408271 : True := trivial
theorem tw9591437855194676421 : True := trivial
theorem tw2476030103966614758 : True := trivial
theorem tw3788039557526266212 : True := trivial
theorem tw1549989647116578063 : True := trivial
theorem tw5966990634897539225 : True := trivial
theorem tw4851625382885864981 : True := trivial
theorem tw12348981468425260230 : True := trivial
theorem tw6164749939411450245 : True := trivial
theorem tw3974650269820051293 : True := trivial
theorem tw14813497781637716618 : True := trivial
theorem tw532848165792698031 : True := trivial
theorem tw10468778475319751571 : True := trivial
theorem tw4651904783804580052 : True := trivial
theorem tw204473354913458046 : True := trivial
theorem tw2203301862120707242 : True := trivial
theorem tw8229024182338690572 : True := trivial
theorem tw8588591073539242053 : True := trivial
theorem tw12850815833726453252 : True := trivial
theorem tw6813515260879429034 : True := trivial
theorem tw14981302881844646296 : True := trivial
theorem tw443440314722897961 : True := trivial
theorem tw15441957825488037774 : True := trivial
theorem tw15308668810608138301 : True := trivial
theorem tw8375569300955467522 : True := trivial
theorem tw17409968347647154698 : True := trivial
theorem tw16705276327991817168 : True := trivial
theorem tw10697279173405275236 : True := trivial
theorem tw10786572739346816169 : True := trivial
theorem tw1791750178968349882 : True := trivial
theorem tw5872520717333990741 : True := trivial
theorem tw11652662103733144370 : True := trivial
theorem tw5039058785652564738 : True := trivial
theorem tw7531069452204522715 : True := trivial
theorem tw6013214907031207021 : True := trivial
theorem tw11505617881642214507 : True := trivial
theorem tw5592217373162153322 : True := trivial
theorem tw8342753466896422629 : True := trivial
theorem tw574495906138538532 : True := trivial
theorem tw7391764632657854863 : True := trivial
theorem tw7166548386321296839 : True := trivial
theorem tw8595967951301152612 : True := trivial
theorem tw7322824823928323999 : True := trivial
theorem tw2591397420949301171 : True := trivial
theorem tw10460180742454920805 : True := trivial
theorem tw15972998273507583461 : True := trivial
theorem tw13380220553440660157 : True := trivial
theorem tw7079292699598208211 : True := trivial
theorem tw5295585435331116841 : True := trivial
theorem tw5039796373494533351 : True := trivial
theorem tw8794166375102770025 : True := trivial
theorem tw12323656833197144322 : True := trivial
theorem tw12680889976460605299 : True := trivial
theorem tw1722523142903983681 : True := trivial
theorem tw8463969946141034536 : True := trivial
theorem tw13919185469655433602 : True := trivial
theorem tw12889155669522774430 : True := trivial
theorem tw4287737563275937627 : True := trivial
theorem tw12979884748148996106 : True := trivial
theorem tw7782569192925550248 : True := trivial
theorem tw10903893911794897197 : True := trivial
theorem tw540426638584437487 : True := trivial
theorem tw1173045388899769230 : True := trivial
theorem tw16090210712073938837 : True := trivial
theorem tw4028729560203906110 : True := trivial
theorem tw3473705685208688202 : True := trivial
theorem tw9980662093809703477 : True := trivial
theorem tw15047448927976048383 : True := trivial
theorem tw14456420286700948658 : True := trivial
theorem tw16234726278667651998 : True := trivial
theorem tw15623053002063621130 : True := trivial
theorem tw5812376982387144457 : True := trivial
theorem tw6615567073506593165 : True := trivial
theorem tw16616198222825170972 : True := trivial
theorem tw8889873235532488706 : True := trivial
theorem tw17806542176603685640 : True := trivial
theorem tw9636555702840232292 : True := trivial
theorem tw14714629835165035445 : True := trivial
theorem tw9061038458715975820 : True := trivial
theorem tw6220853344855845124 : True := trivial
theorem tw4794808062303069527 : True := trivial
theorem tw11902833900396324710 : True := trivial
theorem tw11282038651526064741 : True := trivial
theorem tw10340302178573732569 : True := trivial
theorem tw13167485332652059554 : True := trivial
theorem tw17238245165044971985 : True := trivial
theorem tw9032296260716907583 : True := trivial
theorem tw9110408926648760092 : True := trivial
theorem tw7818869560777219117 : True := trivial
theorem tw16497805546416153226 : True := trivial
theorem tw8021126316856653056 : True := trivial
theorem tw4618327562595244134 : True := trivial
theorem tw940315555737394904 : True := trivial
theorem tw8109270918889859623 : True := trivial
theorem tw17142018034697630831 : True := trivial
theorem tw16511102391172210708 : True := trivial
theorem tw2042416523968253771 : True := trivial
theorem tw8667373555894891926 : True := trivial
theorem tw9005934718450937859 : True := trivial
theorem tw484370243599372705 : True := trivial
theorem tw2781283426017152320 : True := trivial
theorem tw4729256500906082374 : True := trivial
theorem tw14261356207619922589 : True := trivial
theorem tw11626860744571883040 : True := trivial
theorem tw5111749788533183957 : True := trivial
theorem tw8101043769827097420 : True := trivial
theorem tw13180522581382332277 : True := trivial
theorem tw3635604232467615770 : True := trivial
theorem tw17616656673711642135 : True := trivial
theorem tw5979944277510038272 : True := trivial
theorem tw5294065529848399717 : True := trivial
theorem tw18225961633229849074 : True := trivial
theorem tw10783535072436552115 : True := trivial
theorem tw4342913218794015387 : True := trivial
theorem tw15886976408300306109 : True := trivial
theorem tw11445013660352262306 : True := trivial
theorem tw17625440519929224466 : True := trivial
theorem tw17004140742814324612 : True := trivial
theorem tw223371718957529945 : True := trivial
theorem tw10851352199716152729 : True := trivial
theorem tw13837003021274699990 : True := trivial
theorem tw11508286547598120395 : True := trivial
theorem tw13856588145208266051 : True := trivial
theorem tw4450407122672166834 : True := trivial
theorem tw6763171538626378081 : True := trivial
theorem tw17908152075043273276 : True := trivial
theorem tw15405309456738380115 : True := trivial
theorem tw9493330692343311858 : True := trivial
theorem tw5245038140630584937 : True := trivial
theorem tw8537382428758777818 : True := trivial
theorem tw12484282816584375299 : True := trivial
theorem tw14476884362417833569 : True := trivial
theorem tw4646679835632933257 : True := trivial
theorem tw7818079016459921394 : True := trivial
theorem tw16602949917863887504 : True := trivial
theorem tw1494105406487526143 : True := trivial
theorem tw9477202068384176814 : True := trivial
theorem tw7932564504283055917 : True := trivial
theorem tw1708758732615884527 : True := trivial
theorem tw18374643831567954995 : True := trivial
theorem tw1748705341467688930 : True := trivial
theorem tw3108569169935185235 : True := trivial
theorem tw10020092369150766420 : True := trivial
theorem tw16247403007027264165 : True := trivial
theorem tw6156710839544564902 : True := trivial
theorem tw15553908147976190630 : True := trivial
theorem tw566100891702938631 : True := trivial
theorem tw9874632446592027660 : True := trivial
theorem tw12142895808334994766 : True := trivial
theorem tw18161035954848198785 : True := trivial
theorem tw1887900776492085938 : True := trivial
theorem tw2796001902226825965 : True := trivial
theorem tw10744144741967754484 : True := trivial
theorem tw11789409143523373355 : True := trivial
theorem tw15301405536652409904 : True := trivial
theorem tw17301754821008402888 : True := trivial
theorem tw7627864307633910329 : True := trivial
theorem tw12153557416832157883 : True := trivial
theorem tw11462971884299572768 : True := trivial
theorem tw7689388793987663200 : True := trivial
theorem tw18272280947155115746 : True := trivial
theorem tw14702297339536812105 : True := trivial
theorem tw13659434920720390567 : True := trivial
theorem tw3989717604653529864 : True := trivial
theorem tw2831975485569463073 : True := trivial
theorem tw15050912645961264595 : True := trivial
theorem tw2100419606621451701 : True := trivial
theorem tw12398182241679948449 : True := trivial
theorem tw5782046368332720546 : True := trivial
theorem tw16256219622001558548 : True := trivial
theorem tw14142306075381553282 : True := trivial
theorem tw15572368958394438897 : True := trivial
theorem tw10559226163612418407 : True := trivial
theorem tw16823837641575068970 : True := trivial
theorem tw9227785270530042509 : True := trivial
theorem tw3710264412831546003 : True := trivial
theorem tw1026934363417394158 : True := trivial
theorem tw2076529882240000553 : True := trivial
theorem tw9478865869006439448 : True := trivial
theorem tw10549211233708372076 : True := trivial
theorem tw7204094529532632318 : True := trivial
theorem tw16101137481704367166 : True := trivial
theorem tw1349857419587098365 : True := trivial
theorem tw1734884088197915831 : True := trivial
theorem tw7841601868172201090 : True := trivial
theorem tw15063433776323826671 : True := trivial
theorem tw3054474773323192986 : True := trivial
theorem tw3418560630876642906 : True := trivial
theorem tw16968387363406526593 : True := trivial
theorem tw7209356837516537129 : True := trivial
theorem tw6982151929605145608 : True := trivial
theorem tw7440792935728352973 : True := trivial
theorem tw7879147407724525077 : True := trivial
theorem tw9383263476258329321 : True := trivial
theorem tw15373144106536990147 : True := trivial
theorem tw3771349346882829238 : True := trivial
theorem tw1742465617073505065 : True := trivial
theorem tw9288268297725462883 : True := trivial
theorem tw10887053123914726261 : True := trivial
theorem tw11902204749495871199 : True := trivial
theorem tw18137217818129719291 : True := trivial
theorem tw7477585265526589090 : True := trivial
theorem tw17771474140520716792 : True := trivial
theorem tw5337489298146229387 : True := trivial
theorem tw12532844307018211972 : True := trivial
theorem tw5059875704722652117 : True := trivial
theorem tw15201450642118500013 : True := trivial
theorem tw16566262374398886297 : True := trivial
theorem tw11942096399582923156 : True := trivial
theorem tw6257789899216751419 : True := trivial
theorem tw2910777612261401379 : True := trivial
theorem tw3564202624437910619 : True := trivial
theorem tw5462186090473659080 : True := trivial
theorem tw5623180777451011648 : True := trivial
theorem tw6086330830816871026 : True := trivial
theorem tw11819903774861088493 : True := trivial
theorem tw3188879596480114427 : True := trivial
theorem tw8615169603290917847 : True := trivial
theorem tw14669090232276339929 : True := trivial
theorem tw1656579087932958257 : True := trivial
theorem tw6603505976602115358 : True := trivial
theorem tw13757575665516589939 : True := trivial
theorem tw4259171741864223752 : True := trivial
theorem tw10954136150011570570 : True := trivial
theorem tw18206624849119676871 : True := trivial
theorem tw2413081843117830328 : True := trivial
theorem tw2619523080819466705 : True := trivial
theorem tw18121291548119200688 : True := trivial
theorem tw6650172532717503966 : True := trivial
theorem tw15295988664134957155 : True := trivial
theorem tw18242096408913329167 : True := trivial
theorem tw2756682175794950106 : True := trivial
theorem tw8996473201857613211 : True := trivial
theorem tw10234696492652911780 : True := trivial
theorem tw7621965870347304173 : True := trivial
theorem tw9050584545895361100 : True := trivial
theorem tw17415889738345755190 : True := trivial
theorem tw11380150692113426853 : True := trivial
theorem tw5384418944901659946 : True := trivial
theorem tw4835161882781309298 : True := trivial
theorem tw12113915792105439496 : True := trivial
theorem tw11375757246309608645 : True := trivial
theorem tw13842108110416751368 : True := trivial
theorem tw1988660543481631136 : True := trivial
theorem tw4972154905172090295 : True := trivial
theorem tw4144968269671007578 : True := trivial
theorem tw14032697477529798241 : True := trivial
theorem tw18142287338530262409 : True := trivial
theorem tw3466506259707239924 : True := trivial
theorem tw11396252672998079342 : True := trivial
theorem tw528054239168140275 : True := trivial
theorem tw457429975400078334 : True := trivial
theorem tw5917958712653342344 : True := trivial
theorem tw8128801721208467091 : True := trivial
theorem tw2938820718197863002 : True := trivial
theorem tw10840217364241367629 : True := trivial
theorem tw9881268017632369297 : True := trivial
theorem tw13036163089882338020 : True := trivial
theorem tw13245072441600107393 : True := trivial
theorem tw16278582750919085763 : True := trivial
theorem tw5917888980301571167 : True := trivial
theorem tw9505336122733149973 : True := trivial
theorem tw7638770427421363436 : True := trivial
theorem tw18294870938268194733 : True := trivial
theorem tw9807353006546872690 : True := trivial
theorem tw16453639176001375757 : True := trivial
theorem tw13365439062629038571 : True := trivial
theorem tw5181727942690334024 : True := trivial
theorem tw10211161668615792198 : True := trivial
theorem tw3448081516485626599 : True := trivial
theorem tw3688652243735562244 : True := trivial
theorem tw13377958019924923519 : True := trivial
theorem tw12277150217155734176 : True := trivial
theorem tw11579214235886624452 : True := trivial
theorem tw2634413960365045962 : True := trivial
theorem tw10258792821802809020 : True := trivial
theorem tw13642895242940894871 : True := trivial
theorem tw16160247691863163014 : True := trivial
theorem tw2520130796043469256 : True := trivial
theorem tw6246915668761378955 : True := trivial
theorem tw17785535971944946754 : True := trivial
theorem tw16876698117851295243 : True := trivial
theorem tw6941895051967509240 : True := trivial
theorem tw15161690675300459925 : True := trivial
theorem tw9122298854546221304 : True := trivial
theorem tw17901788408152454575 : True := trivial
theorem tw11359011154205274884 : True := trivial
theorem tw10955091125862329047 : True := trivial
theorem tw4457649800145609832 : True := trivial
theorem tw3814160741945828794 : True := trivial
theorem tw14875150721132884654 : True := trivial
theorem tw15864594396201324073 : True := trivial
theorem tw14253173386677217812 : True := trivial
theorem tw8700913827526520027 : True := trivial
theorem tw14834448439532763999 : True := trivial
theorem tw12719490574794154475 : True := trivial
theorem tw11782547110253673001 : True := trivial
theorem tw2285246137560398284 : True := trivial
theorem tw9255567986189662761 : True := trivial
theorem tw15803552107898214234 : True := trivial
theorem tw12023968401043332109 : True := trivial
theorem tw7064311965832063368 : True := trivial
theorem tw15110428197082634239 : True := trivial
theorem tw5839161833703512523 : True := trivial
theorem tw5659407150626263311 : True := trivial
theorem tw1333512806133103670 : True := trivial
theorem tw10603961179691812536 : True := trivial
theorem tw1926701576216075013 : True := trivial
theorem tw8954267424402023413 : True := trivial
theorem tw12948694196712789943 : True := trivial
theorem tw14386063427624517956 : True := trivial
theorem tw13649746397577000454 : True := trivial
theorem tw15795126295524776918 : True := trivial
theorem tw8530563775782741176 : True := trivial
theorem tw18429260121025863189 : True := trivial
theorem tw15537852524349956581 : True := trivial
theorem tw18409888678188565301 : True := trivial
theorem tw1928767533227769798 : True := trivial
theorem tw13056244032133478525 : True := trivial
theorem tw13590380630946075921 : True := trivial
theorem tw12855256703931742594 : True := trivial
theorem tw6725700191635445456 : True := trivial
theorem tw5486239000129064182 : True := trivial
theorem tw8767699688972079067 : True := trivial
theorem tw618599345578270424 : True := trivial
theorem tw14259115767460602989 : True := trivial
theorem tw8691760169464583328 : True := trivial
theorem tw3494915572880247714 : True := trivial
theorem tw1061497777724104533 : True := trivial
theorem tw4609161619271291781 : True := trivial
theorem tw9598935917500224648 : True := trivial
theorem tw4936719870946916451 : True := trivial
theorem tw1268055877134324470 : True := trivial
theorem tw6995620192770915440 : True := trivial
theorem tw3975964537268256772 : True := trivial
theorem tw9798884764828093469 : True := trivial
theorem tw5527172158501205085 : True := trivial
theorem tw13526253370805423136 : True := trivial
theorem tw18048692199625008774 : True := trivial
theorem tw1962597990160727919 : True := trivial
theorem tw7693468424426963631 : True := trivial
theorem tw11754607497762276485 : True := trivial
theorem tw1798466210728927890 : True := trivial
theorem tw16188476389648908619 : True := trivial
theorem tw5489186577238493745 : True := trivial
theorem tw7813573176325951899 : True := trivial
theorem tw3734805339921552642 : True := trivial
theorem tw10145236438721994055 : True := trivial
theorem tw4703789907290771152 : True := trivial
theorem tw16348842202886354270 : True := trivial
theorem tw9377860313546742215 : True := trivial
theorem tw7572182703078774540 : True := trivial
theorem tw13316345237900084474 : True := trivial
theorem tw3812095298828413242 : True := trivial
theorem tw7222020662796426894 : True := trivial
theorem tw415324826141975333 : True := trivial
theorem tw1386160480560423005 : True := trivial
theorem tw10028603932467486098 : True := trivial
theorem tw10661162132609499642 : True := trivial
theorem tw8774663067270646035 : True := trivial
theorem tw2494326513037482939 : True := trivial
theorem tw1456540606840299449 : True := trivial
theorem tw10179457208299624215 : True := trivial
theorem tw126486815337979747 : True := trivial
theorem tw15927192732598116287 : True := trivial
theorem tw6705468619027425663 : True := trivial
theorem tw10914766383854984883 : True := trivial
theorem tw5493167889531139522 : True := trivial
theorem tw9028956070981528220 : True := trivial
theorem tw15912959925104062981 : True := trivial
theorem tw14354584456588821478 : True := trivial
theorem tw1199012874551086877 : True := trivial
theorem tw10513685489803562647 : True := trivial
theorem tw5792606326097365854 : True := trivial
theorem tw12608200604365068858 : True := trivial
theorem tw13804919942837755545 : True := trivial
theorem tw12509439121123197233 : True := trivial
theorem tw4923106919947771497 : True := trivial
theorem tw14297188888141574343 : True := trivial
theorem tw15386521934448620898 : True := trivial
theorem tw11712560070815124201 : True := trivial
theorem tw3074526417445609751 : True := trivial
theorem tw3988763465565277923 : True := trivial
theorem tw9256044076828482347 : True := trivial
theorem tw9075429767162091391 : True := trivial
theorem tw14547897828026929446 : True := trivial
theorem tw5732266352756053965 : True := trivial
theorem tw13143352788861832479 : True := trivial
theorem tw4296071194659360651 : True := trivial
theorem tw15202134045474253230 : True := trivial
theorem tw10604473873854974863 : True := trivial
theorem tw12039079071949724761 : True := trivial
theorem tw481247164547451988 : True := trivial
theorem tw5329338855822724039 : True := trivial
theorem tw12286323136234570089 : True := trivial
theorem tw10425810238382869684 : True := trivial
theorem tw4823531548081359331 : True := trivial
theorem tw13910649289457731684 : True := trivial
theorem tw1954443820457368003 : True := trivial
theorem tw2663165006437063296 : True := trivial
theorem tw17605596799419950647 : True := trivial
theorem tw4056509929318961522 : True := trivial
theorem tw16000472620200107739 : True := trivial
theorem tw11664852532298160416 : True := trivial
theorem tw17985748847619566383 : True := trivial
theorem tw1797225854738095614 : True := trivial
theorem tw3337965351572660456 : True := trivial
theorem tw6052442639333187998 : True := trivial
theorem tw16684609030535219873 : True := trivial
theorem tw6935419420246140253 : True := trivial
theorem tw13623067517283265178 : True := trivial
theorem tw12088442528457235290 : True := trivial
theorem tw10938034700611696629 : True := trivial
theorem tw1655690096481001364 : True := trivial
theorem tw3852993493305024010 : True := trivial
theorem tw438481055757544931 : True := trivial
theorem tw2199885053386464328 : True := trivial
theorem tw642278578400315837 : True := trivial
theorem tw8473423939536405670 : True := trivial
theorem tw15168568525654223523 : True := trivial
theorem tw6277059238273950385 : True := trivial
theorem tw2575248312293240329 : True := trivial
theorem tw17180887874658233754 : True := trivial
theorem tw575854407789436212 : True := trivial
theorem tw7506346477959086021 : True := trivial
theorem tw4300618968101761679 : True := trivial
theorem tw3870634357468810034 : True := trivial
theorem tw6486625271550538320 : True := trivial
theorem tw8893880900187553491 : True := trivial
theorem tw7299995536992994231 : True := trivial
theorem tw14843073288271224674 : True := trivial
theorem tw9668379677431194535 : True := trivial
theorem tw11594883762903389566 : True := trivial
theorem tw13709516896650876484 : True := trivial
theorem tw5309724420569452189 : True := trivial
theorem tw16525962804520760353 : True := trivial
theorem tw10867060542860052747 : True := trivial
theorem tw4795252066903269919 : True := trivial
theorem tw14797160050602538503 : True := trivial
theorem tw7314042161647902708 : True := trivial
theorem tw15817091834995583877 : True := trivial
theorem tw16506062532261994212 : True := trivial
theorem tw5257715678250378389 : True := trivial
theorem tw3895805548532411643 : True := trivial
theorem tw249377957182431373 : True := trivial
theorem tw9567542955684147706 : True := trivial
theorem tw11353074774937812043 : True := trivial
theorem tw13074066110911752001 : True := trivial
theorem tw12477567267703807319 : True := trivial
theorem tw13472926742063876514 : True := trivial
theorem tw6493824805610911008 : True := trivial
theorem tw1540374523991979127 : True := trivial
theorem tw1984869409445434072 : True := trivial
theorem tw8969734666567384894 : True := trivial
theorem tw11349601496741590138 : True := trivial
theorem tw11910532405654401789 : True := trivial
theorem tw7130025039552784965 : True := trivial
theorem tw3924963162766399090 : True := trivial
theorem tw16268471079440967337 : True := trivial
theorem tw14234067759680699997 : True := trivial
theorem tw7694359997035207432 : True := trivial
theorem tw4520960073279734394 : True := trivial
theorem tw1988864433673409014 : True := trivial
theorem tw12330242975177675514 : True := trivial
theorem tw10787923066204738550 : True := trivial
theorem tw2620483686142869778 : True := trivial
theorem tw17092191980298838325 : True := trivial
theorem tw7536824852938926401 : True := trivial
theorem tw17163202605063515993 : True := trivial
theorem tw7229155612174929890 : True := trivial
theorem tw6542140936091567634 : True := trivial
theorem tw8289426015008012178 : True := trivial
theorem tw798535932004701029 : True := trivial
theorem tw11819649089436371440 : True := trivial
theorem tw10748259046109205265 : True := trivial
theorem tw11586983925038013400 : True := trivial
theorem tw16335976746693466349 : True := trivial
theorem tw5302004463764645103 : True := trivial
theorem tw1282196622872603713 : True := trivial
theorem tw7324748062032780817 : True := trivial
theorem tw16841621209188412502 : True := trivial
theorem tw665657236074190049 : True := trivial
theorem tw13420369050425398018 : True := trivial
theorem tw6855971125703883225 : True := trivial
theorem tw15076095756086234148 : True := trivial
theorem tw4175847884714002204 : True := trivial
theorem tw15332504836050077491 : True := trivial
theorem tw470169466230255253 : True := trivial
theorem tw910278144865158557 : True := trivial
theorem tw16242372758815393633 : True := trivial
theorem tw1916556574003425298 : True := trivial
theorem tw2272036601762280859 : True := trivial
theorem tw1203982657390331101 : True := trivial
theorem tw5469348823402127439 : True := trivial
theorem tw18075242912891165644 : True := trivial
theorem tw6910395801321205214 : True := trivial
theorem tw10985959107194006700 : True := trivial
theorem tw13579855789830007308 : True := trivial
theorem tw7133982161187263413 : True := trivial
theorem tw14460009519831128719 : True := trivial
theorem tw17774889258843353760 : True := trivial
theorem tw9303375972986190902 : True := trivial
theorem tw15618783132458746492 : True := trivial
theorem tw14910798607954400845 : True := trivial
theorem tw4207834585684506499 : True := trivial
theorem tw7234405180856750938 : True := trivial
theorem tw7837257632361827320 : True := trivial
theorem tw18055056231081573830 : True := trivial
theorem tw12313745663927744936 : True := trivial
theorem tw6566809179416981505 : True := trivial
theorem tw18012755172658552204 : True := trivial
theorem tw12455598487864917136 : True := trivial
theorem tw982615443780890180 : True := trivial
theorem tw11376569652985443207 : True := trivial
theorem tw10158587629321865023 : True := trivial
theorem tw14899939002725761085 : True := trivial
theorem tw13599788043739203125 : True := trivial
theorem tw472026751205209548 : True := trivial
theorem tw8036425739017526536 : True := trivial
theorem tw17059086641130527679 : True := trivial
theorem tw6929340278704495202 : True := trivial
theorem tw8593444107795950926 : True := trivial
theorem tw3552528476801650326 : True := trivial
theorem tw14538508196092352940 : True := trivial
theorem tw1745752689722190228 : True := trivial
theorem tw3082231665445174573 : True := trivial
theorem tw3413176478461971279 : True := trivial
theorem tw1175454468602053699 : True := trivial
theorem tw14122626458526046228 : True := trivial
theorem tw16344079168440864611 : True := trivial
theorem tw2047330969594422377 : True := trivial
theorem tw15345322110962576899 : True := trivial
theorem tw5344126822704597355 : True := trivial
theorem tw12483556183434338221 : True := trivial
theorem tw509712586281094953 : True := trivial
theorem tw2084594848865672224 : True := trivial
theorem tw18332471890721594922 : True := trivial
theorem tw16042164396643246655 : True := trivial
theorem tw5885233106095693928 : True := trivial
theorem tw4261479853911516915 : True := trivial
theorem tw10270056696183203211 : True := trivial
theorem tw17748130866296264900 : True := trivial
theorem tw4949709706585073543 : True := trivial
theorem tw15746603158619178041 : True := trivial
theorem tw1496627879476848928 : True := trivial
theorem tw3411935384875269961 : True := trivial
theorem tw5112775702715179801 : True := trivial
theorem tw2879193908080923197 : True := trivial
theorem tw6303089613446122115 : True := trivial
theorem tw3054169692851717266 : True := trivial
theorem tw100778885785957349 : True := trivial
theorem tw17242354933584035194 : True := trivial
theorem tw17532345739972671557 : True := trivial
theorem tw6289982828332613716 : True := trivial
theorem tw1836691557174158319 : True := trivial
theorem tw9902537856573115492 : True := trivial
theorem tw12791966474785070360 : True := trivial
theorem tw8239241607828208810 : True := trivial
theorem tw10548006607761963427 : True := trivial
theorem tw5651283664448917 : True := trivial
theorem tw1354504032716420533 : True := trivial
theorem tw15045458564563096668 : True := trivial
theorem tw5730079708862038542 : True := trivial
theorem tw7461094843924703146 : True := trivial
theorem tw13311731468121507499 : True := trivial
theorem tw17800409589594364596 : True := trivial
theorem tw9013594965443849102 : True := trivial
theorem tw11595011763576194323 : True := trivial
theorem tw2568563310429257297 : True := trivial
theorem tw13675036538076964764 : True := trivial
theorem tw68443940459588384 : True := trivial
theorem tw10694497202834853612 : True := trivial
theorem tw4311507952450726302 : True := trivial
theorem tw7358238616797488322 : True := trivial
theorem tw6401136074834785910 : True := trivial
theorem tw5948159497583847245 : True := trivial
theorem tw2528819482326744814 : True := trivial
theorem tw18077209678520168003 : True := trivial
theorem tw1321215912499289814 : True := trivial
theorem tw15905675487098687194 : True := trivial
theorem tw10862174586589716651 : True := trivial
theorem tw17209166883592213748 : True := trivial
theorem tw11838851474926706205 : True := trivial
theorem tw16487344594537763522 : True := trivial
theorem tw2659117752346391612 : True := trivial
theorem tw5257918248398782160 : True := trivial
theorem tw2471980618213619943 : True := trivial
theorem tw3702224427365079360 : True := trivial
theorem tw16937740521940714441 : True := trivial
theorem tw10724330140025698874 : True := trivial
theorem tw14943597651205790335 : True := trivial
theorem tw1119789562236670551 : True := trivial
theorem tw341470591677454077 : True := trivial
theorem tw7077330415895618929 : True := trivial
theorem tw17037473953394302266 : True := trivial
theorem tw17302424126263046864 : True := trivial
theorem tw6724696768103777989 : True := trivial
theorem tw6019019230396709250 : True := trivial
theorem tw14026516834018305057 : True := trivial
theorem tw13410842713067679317 : True := trivial
theorem tw9834097780957724866 : True := trivial
theorem tw5560154308954703887 : True := trivial
theorem tw5797339815444390152 : True := trivial
theorem tw3197147920380608500 : True := trivial
theorem tw4941761191809669726 : True := trivial
theorem tw16759863745539149051 : True := trivial
theorem tw18350322822204660154 : True := trivial
theorem tw4311810635447639621 : True := trivial
theorem tw7905606786390802741 : True := trivial
theorem tw18151087209218785474 : True := trivial
theorem tw13656355217552733920 : True := trivial
theorem tw11980152675502020996 : True := trivial
theorem tw13471745288277267801 : True := trivial
theorem tw2371061510776459568 : True := trivial
theorem tw13548117637790165948 : True := trivial
theorem tw16647840365124553003 : True := trivial
theorem tw2479191254066482914 : True := trivial
theorem tw13611445317871194048 : True := trivial
theorem tw14939501912267657768 : True := trivial
theorem tw8680054646732451936 : True := trivial
theorem tw8594015196378047947 : True := trivial
theorem tw16804704512107423607 : True := trivial
theorem tw13643384187432325949 : True := trivial
theorem tw10559372983467744943 : True := trivial
theorem tw15793215873646484953 : True := trivial
theorem tw2721566630205260644 : True := trivial
theorem tw12489471705614946104 : True := trivial
theorem tw2588724225439664919 : True := trivial
theorem tw5961274684847002176 : True := trivial
theorem tw3513024259470512257 : True := trivial
theorem tw15950672196977009168 : True := trivial
theorem tw6630993432691653718 : True := trivial
theorem tw15206783219263028840 : True := trivial
theorem tw4949695307699390712 : True := trivial
theorem tw18426566569620295123 : True := trivial
theorem tw14432350418683315421 : True := trivial
theorem tw15147514595348893155 : True := trivial
theorem tw18154763884297939066 : True := trivial
theorem tw6448626391033788652 : True := trivial
theorem tw3820041939517214165 : True := trivial
theorem tw4497817804080623897 : True := trivial
theorem tw12151271812537970116 : True := trivial
theorem tw14310034639756560098 : True := trivial
theorem tw10556276325554891015 : True := trivial
theorem tw10909666143915433886 : True := trivial
theorem tw376057299635302740 : True := trivial
theorem tw15683330044798892211 : True := trivial
theorem tw8770831491600594518 : True := trivial
theorem tw10046067650017833242 : True := trivial
theorem tw17052315045106190420 : True := trivial
theorem tw2077229475313924459 : True := trivial
theorem tw4417389986857232047 : True := trivial
theorem tw6907462846927620553 : True := trivial
theorem tw579441091315044344 : True := trivial
theorem tw231450748819360203 : True := trivial
theorem tw6727701280581634170 : True := trivial
theorem tw13106310757975368277 : True := trivial
theorem tw5037386440314370657 : True := trivial
theorem tw8689401837156477098 : True := trivial
theorem tw12070569285201343686 : True := trivial
theorem tw10028176758522461451 : True := trivial
theorem tw6662014615620886386 : True := trivial
theorem tw17510964526507875823 : True := trivial
theorem tw10961776641358343551 : True := trivial
theorem tw16448269439682890484 : True := trivial
theorem tw9796442779431758838 : True := trivial
theorem tw5318657112148771022 : True := trivial
theorem tw14625231706064997047 : True := trivial
theorem tw18158946060453703301 : True := trivial
theorem tw15762770332868250708 : True := trivial
theorem tw10002284881450284782 : True := trivial
theorem tw12936238471880533075 : True := trivial
theorem tw12003387874070329078 : True := trivial
theorem tw14033744748613916952 : True := trivial
theorem tw7288014831002888272 : True := trivial
theorem tw13346855642853801790 : True := trivial
theorem tw14991870392659363637 : True := trivial
theorem tw361848138088515159 : True := trivial
theorem tw11874551666666885244 : True := trivial
theorem tw8275213274095377279 : True := trivial
theorem tw2080258358976636288 : True := trivial
theorem tw2918953121961289850 : True := trivial
theorem tw3540158027384623632 : True := trivial
theorem tw10385869433517414497 : True := trivial
theorem tw14368664623137058673 : True := trivial
theorem tw15048435562515961230 : True := trivial
theorem tw16577716644130955614 : True := trivial
theorem tw210046623091123474 : True := trivial
theorem tw13612701638141076906 : True := trivial
end PySem.W.Fast
open PySem PySem.W PyProof.Rows
set_option maxRecDepth 100000 in
set_option maxHeartbeats 0 in
theorem PySem.Challenge.cw_tribunal_k29_archives_written_and_read_holds : PySem.Challenge.rw_tribunal_k29_archives_written_and_read.Holds := by
  w_on; o_law; k_head; (case hw => w_witness2)
  k_fill
  refine Toy.walk (l := PySem.Challenge.rw_tribunal_k29_archives_written_and_read) rfl rfl (fun w h Y => PySem.W.kIn_of Y) ?F
  case F =>
    intro w mg fa h KX G hmg
    refine' Toy.all_mk KX G hmg ?c_SIGNS ?c_DIGITS ?c_CODE_END ?c_MOST_DIGITS_wire ?c_MOST_DIGITS_commands ?c_MOST_SIGNS ?c_LETTERS ?c_BLOCK_SIGNS ?c_NONE ?c_HEAD ?c_KIND ?c_HEIGHT ?c_TURN ?c_BLOCK ?c_LEAN ?c_MOST_MEMBERS ?c_MOST_WEIGHT ?n_len ?n_range ?n_isinstance ?n_int ?n_bool ?n_list ?n_tuple ?n_str ?n_zip ?n_enumerate ?n_max ?n_abs ?n_sum ?n_set ?n_sorted ?n_min ?n_super ?n_ValueError ?n_all ?g_Reader ?g_Committee ?g_Ledger ?g_Chain ?g_Client ?a_prevote ?l_prevote ?q_prevote ?k_prevote ?a_precommit ?l_precommit ?q_precommit ?k_precommit ?a_is_number ?l_is_number ?q_is_number ?k_is_number ?a_is_block ?l_is_block ?q_is_block ?k_is_block ?a_word_at ?l_word_at ?q_word_at ?k_word_at ?a_number_at ?l_number_at ?q_number_at ?k_number_at ?a_kind_at ?l_kind_at ?q_kind_at ?k_kind_at ?a_block_at ?l_block_at ?q_block_at ?k_block_at ?a_lean_at ?l_lean_at ?q_lean_at ?k_lean_at ?a_end_at ?l_end_at ?q_end_at ?k_end_at ?a_read_letter ?l_read_letter ?q_read_letter ?k_read_letter ?a_proposal ?l_proposal ?q_proposal ?k_proposal ?a_word ?l_word ?q_word ?k_word ?a_letter_line ?l_letter_line ?q_letter_line ?k_letter_line ?a_first_wrong ?l_first_wrong ?q_first_wrong ?k_first_wrong ?a_Committee_init ?i_Committee_init ?l_Committee_init ?q_Committee_init ?k_Committee_init ?a_Committee_weight_of ?i_Committee_weight_of ?l_Committee_weight_of ?q_Committee_weight_of ?k_Committee_weight_of ?a_Committee_is_quorum ?i_Committee_is_quorum ?l_Committee_is_quorum ?q_Committee_is_quorum ?k_Committee_is_quorum ?a_votes_by_turn ?l_votes_by_turn ?q_votes_by_turn ?k_votes_by_turn ?a_counts ?l_counts ?q_counts ?k_counts ?a_certified_turns ?l_certified_turns ?q_certified_turns ?k_certified_turns ?a_committed_turns ?l_committed_turns ?q_committed_turns ?k_committed_turns ?a_shown_turn ?l_shown_turn ?q_shown_turn ?k_shown_turn ?a_shows ?l_shows ?q_shows ?k_shows ?a_law_cell ?l_law_cell ?q_law_cell ?k_law_cell ?a_law_row ?l_law_row ?q_law_row ?k_law_row ?a_law_weights ?l_law_weights ?q_law_weights ?k_law_weights ?a_law_weight ?l_law_weight ?q_law_weight ?k_law_weight ?a_law_certified ?l_law_certified ?q_law_certified ?k_law_certified ?a_law_committed ?l_law_committed ?q_law_committed ?k_law_committed ?a_Reader_init ?i_Reader_init ?l_Reader_init ?q_Reader_init ?k_Reader_init ?a_Reader_read_signs ?i_Reader_read_signs ?l_Reader_read_signs ?q_Reader_read_signs ?k_Reader_read_signs ?a_Reader_skip ?i_Reader_skip ?l_Reader_skip ?q_Reader_skip ?k_Reader_skip ?a_Reader_read_number ?i_Reader_read_number ?l_Reader_read_number ?q_Reader_read_number ?k_Reader_read_number ?a_Reader_read_code ?i_Reader_read_code ?l_Reader_read_code ?q_Reader_read_code ?k_Reader_read_code ?a_Reader_read_command ?i_Reader_read_command ?l_Reader_read_command ?q_Reader_read_command ?k_Reader_read_command ?a_commands_of ?l_commands_of ?q_commands_of ?k_commands_of ?a_Ledger_init ?i_Ledger_init ?l_Ledger_init ?q_Ledger_init ?k_Ledger_init ?a_first_ledger ?l_first_ledger ?q_first_ledger ?k_first_ledger ?a_Chain_init ?i_Chain_init ?l_Chain_init ?q_Chain_init ?k_Chain_init ?a_Chain_height ?i_Chain_height ?l_Chain_height ?q_Chain_height ?k_Chain_height ?a_Chain_committee ?i_Chain_committee ?l_Chain_committee ?q_Chain_committee ?k_Chain_committee ?a_Chain_extend ?i_Chain_extend ?l_Chain_extend ?q_Chain_extend ?k_Chain_extend ?a_after_weight ?l_after_weight ?q_after_weight ?k_after_weight ?a_Client_init ?i_Client_init ?l_Client_init ?q_Client_init ?k_Client_init ?a_Client_follow ?i_Client_follow ?l_Client_follow ?q_Client_follow ?k_Client_follow ?a_read_head ?l_read_head ?q_read_head ?k_read_head ?a_archive_lines ?l_archive_lines ?q_archive_lines ?k_archive_lines ?a_law_shows ?l_law_shows ?q_law_shows ?k_law_shows ?a_law_paper ?l_law_paper ?q_law_paper ?k_law_paper ?a_law_block ?l_law_block ?q_law_block ?k_law_block ?a_law_reweighted ?l_law_reweighted ?q_law_reweighted ?k_law_reweighted ?a_law_is_integer ?l_law_is_integer ?q_law_is_integer ?k_law_is_integer ?a_law_line ?l_law_line ?q_law_line ?k_law_line ?a_refuse_before_end ?l_refuse_before_end ?q_refuse_before_end ?k_refuse_before_end ?a_entry_at ?l_entry_at ?q_entry_at ?k_entry_at ?a_read_archive ?l_read_archive ?q_read_archive ?k_read_archive ?a_law_lines ?l_law_lines ?q_law_lines ?k_law_lines ?a_law_due ?l_law_due ?q_law_due ?k_law_due ?a_law_read ?l_law_read ?q_law_read ?k_law_read ?a_law_spoilt ?l_law_spoilt ?q_law_spoilt ?k_law_spoilt ?a_law ?l_law ?q_law ?k_law ?pg_Reader ?hd_Reader ?po_Reader ?sa_Reader ?mk_Reader ?kc_Reader ?no_Reader_text ?no_Reader_at ?pg_Committee ?hd_Committee ?po_Committee ?sa_Committee ?mk_Committee ?kc_Committee ?no_Committee_weights ?no_Committee_size ?no_Committee_total ?pg_Ledger ?hd_Ledger ?po_Ledger ?sa_Ledger ?mk_Ledger ?kc_Ledger ?no_Ledger_balances ?no_Ledger_codes ?no_Ledger_stores ?pg_Chain ?hd_Chain ?po_Chain ?sa_Chain ?mk_Chain ?kc_Chain ?no_Chain_blocks ?no_Chain_receipts ?no_Chain_committees ?no_Chain_ledgers ?pg_Client ?hd_Client ?po_Client ?sa_Client ?mk_Client ?kc_Client ?no_Client_chain ?g_MARKS ?l_MARKS ?kl_MARKS ?lo_MARKS ?l_MARKS_p ?l_MARKS_w ?l_MARKS_d ?l_MARKS_k ?g_BadCommand ?x_BadCommand ?kc_BadCommand ?b_BadCommand ?t_BadCommand ?xga_BadCommand ?xgt_BadCommand ?xhd_BadCommand ?xcc_BadCommand ?xsp_BadCommand ?xtk_BadCommand ?xmo_BadCommand ?te1_BadCommand ?te2_BadCommand ?te3_BadCommand ?te4_BadCommand_BadCommand ?g_BadPaper ?x_BadPaper ?kc_BadPaper ?b_BadPaper ?t_BadPaper ?xga_BadPaper ?xgt_BadPaper ?xhd_BadPaper ?xcc_BadPaper ?xsp_BadPaper ?xtk_BadPaper ?xmo_BadPaper ?kt_BadPaper_BadPaper ?te1_BadPaper ?te2_BadPaper ?te3_BadPaper ?te4_BadPaper_BadPaper ?g_BadLine ?lc_BadLine ?rb_BadLine ?sa_BadLine ?eb_BadLine ?ty_BadLine ?kc_BadLine ?a_BadLine_init ?tI_BadLine_init ?l_BadLine_init ?q_BadLine_init ?ce_BadLine_init ?co_BadLine_init ?v2_BadLine_init ?fi_BadLine_init ?su_BadLine ?op_BadLine ?sv_BadLine ?mc_BadLine ?nf_BadLine ?ts_BadLine ?xga_BadLine ?xgt_BadLine ?xhd_BadLine ?xcc_BadLine ?xsp_BadLine ?xtk_BadLine ?xmo_BadLine ?g_BadArchive ?lc_BadArchive ?rb_BadArchive ?sa_BadArchive ?eb_BadArchive ?ty_BadArchive ?kc_BadArchive ?a_BadArchive_init ?tI_BadArchive_init ?l_BadArchive_init ?q_BadArchive_init ?ce_BadArchive_init ?co_BadArchive_init ?v2_BadArchive_init ?fi_BadArchive_init ?su_BadArchive ?op_BadArchive ?sv_BadArchive ?mc_BadArchive ?nf_BadArchive ?ts_BadArchive ?xga_BadArchive ?xgt_BadArchive ?xhd_BadArchive ?xcc_BadArchive ?xsp_BadArchive ?xtk_BadArchive ?xmo_BadArchive ?g_KINDS ?l_KINDS ?te1_BadLine ?te2_BadLine ?te3_BadLine ?te4_BadLine_BadLine ?g_TribunalError ?te1_TribunalError ?te2_TribunalError ?te3_TribunalError ?te4_TribunalError_BadArchive ?kta_BadArchive_BadLine_BadPaper ?kt_BadArchive_BadArchive
    (case c_SIGNS => k_is)
    (case c_DIGITS => k_is)
    (case c_CODE_END => k_is)
    (case c_MOST_DIGITS_wire => k_is)
    (case c_MOST_DIGITS_commands => k_is)
    (case c_MOST_SIGNS => k_is)
    (case c_LETTERS => k_is)
    (case c_BLOCK_SIGNS => k_is)
    (case c_NONE => k_is)
    (case c_HEAD => k_is)
    (case c_KIND => k_is)
    (case c_HEIGHT => k_is)
    (case c_TURN => k_is)
    (case c_BLOCK => k_is)
    (case c_LEAN => k_is)
    (case c_MOST_MEMBERS => k_is)
    (case c_MOST_WEIGHT => k_is)
    (case n_len => k_is)
    (case n_range => k_is)
    (case n_isinstance => k_is)
    (case n_int => k_is)
    (case n_bool => k_is)
    (case n_list => k_is)
    (case n_tuple => k_is)
    (case n_str => k_is)
    (case n_zip => k_is)
    (case n_enumerate => k_is)
    (case n_max => k_is)
    (case n_abs => k_is)
    (case n_sum => k_is)
    (case n_set => k_is)
    (case n_sorted => k_is)
    (case n_min => k_is)
    (case n_super => k_is)
    (case n_ValueError => k_is)
    (case n_all => k_is)
    (case g_Reader => k_is)
    (case g_Committee => k_is)
    (case g_Ledger => k_is)
    (case g_Chain => k_is)
    (case g_Client => k_is)
    (case a_prevote => k_is)
    (case l_prevote => k_is)
    (case q_prevote => k_is)
    (case k_prevote => k_is)
    (case a_precommit => k_is)
    (case l_precommit => k_is)
    (case q_precommit => k_is)
    (case k_precommit => k_is)
    (case a_is_number => k_is)
    (case l_is_number => k_is)
    (case q_is_number => k_is)
    (case k_is_number => k_is)
    (case a_is_block => k_is)
    (case l_is_block => k_is)
    (case q_is_block => k_is)
    (case k_is_block => k_is)
    (case a_word_at => k_is)
    (case l_word_at => k_is)
    (case q_word_at => k_is)
    (case k_word_at => k_is)
    (case a_number_at => k_is)
    (case l_number_at => k_is)
    (case q_number_at => k_is)
    (case k_number_at => k_is)
    (case a_kind_at => k_is)
    (case l_kind_at => k_is)
    (case q_kind_at => k_is)
    (case k_kind_at => k_is)
    (case a_block_at => k_is)
    (case l_block_at => k_is)
    (case q_block_at => k_is)
    (case k_block_at => k_is)
    (case a_lean_at => k_is)
    (case l_lean_at => k_is)
    (case q_lean_at => k_is)
    (case k_lean_at => k_is)
    (case a_end_at => k_is)
    (case l_end_at => k_is)
    (case q_end_at => k_is)
    (case k_end_at => k_is)
    (case a_read_letter => k_is)
    (case l_read_letter => k_is)
    (case q_read_letter => k_is)
    (case k_read_letter => k_is)
    (case a_proposal => k_is)
    (case l_proposal => k_is)
    (case q_proposal => k_is)
    (case k_proposal => k_is)
    (case a_word => k_is)
    (case l_word => k_is)
    (case q_word => k_is)
    (case k_word => k_is)
    (case a_letter_line => k_is)
    (case l_letter_line => k_is)
    (case q_letter_line => k_is)
    (case k_letter_line => k_is)
    (case a_first_wrong => k_is)
    (case l_first_wrong => k_is)
    (case q_first_wrong => k_is)
    (case k_first_wrong => k_is)
    (case a_Committee_init => k_is)
    (case i_Committee_init => k_is)
    (case l_Committee_init => k_is)
    (case q_Committee_init => k_is)
    (case k_Committee_init => k_is)
    (case a_Committee_weight_of => k_is)
    (case i_Committee_weight_of => k_is)
    (case l_Committee_weight_of => k_is)
    (case q_Committee_weight_of => k_is)
    (case k_Committee_weight_of => k_is)
    (case a_Committee_is_quorum => k_is)
    (case i_Committee_is_quorum => k_is)
    (case l_Committee_is_quorum => k_is)
    (case q_Committee_is_quorum => k_is)
    (case k_Committee_is_quorum => k_is)
    (case a_votes_by_turn => k_is)
    (case l_votes_by_turn => k_is)
    (case q_votes_by_turn => k_is)
    (case k_votes_by_turn => k_is)
    (case a_counts => k_is)
    (case l_counts => k_is)
    (case q_counts => k_is)
    (case k_counts => k_is)
    (case a_certified_turns => k_is)
    (case l_certified_turns => k_is)
    (case q_certified_turns => k_is)
    (case k_certified_turns => k_is)
    (case a_committed_turns => k_is)
    (case l_committed_turns => k_is)
    (case q_committed_turns => k_is)
    (case k_committed_turns => k_is)
    (case a_shown_turn => k_is)
    (case l_shown_turn => k_is)
    (case q_shown_turn => k_is)
    (case k_shown_turn => k_is)
    (case a_shows => k_is)
    (case l_shows => k_is)
    (case q_shows => k_is)
    (case k_shows => k_is)
    (case a_law_cell => k_is)
    (case l_law_cell => k_is)
    (case q_law_cell => k_is)
    (case k_law_cell => k_is)
    (case a_law_row => k_is)
    (case l_law_row => k_is)
    (case q_law_row => k_is)
    (case k_law_row => k_is)
    (case a_law_weights => k_is)
    (case l_law_weights => k_is)
    (case q_law_weights => k_is)
    (case k_law_weights => k_is)
    (case a_law_weight => k_is)
    (case l_law_weight => k_is)
    (case q_law_weight => k_is)
    (case k_law_weight => k_is)
    (case a_law_certified => k_is)
    (case l_law_certified => k_is)
    (case q_law_certified => k_is)
    (case k_law_certified => k_is)
    (case a_law_committed => k_is)
    (case l_law_committed => k_is)
    (case q_law_committed => k_is)
    (case k_law_committed => k_is)
    (case a_Reader_init => k_is)
    (case i_Reader_init => k_is)
    (case l_Reader_init => k_is)
    (case q_Reader_init => k_is)
    (case k_Reader_init => k_is)
    (case a_Reader_read_signs => k_is)
    (case i_Reader_read_signs => k_is)
    (case l_Reader_read_signs => k_is)
    (case q_Reader_read_signs => k_is)
    (case k_Reader_read_signs => k_is)
    (case a_Reader_skip => k_is)
    (case i_Reader_skip => k_is)
    (case l_Reader_skip => k_is)
    (case q_Reader_skip => k_is)
    (case k_Reader_skip => k_is)
    (case a_Reader_read_number => k_is)
    (case i_Reader_read_number => k_is)
    (case l_Reader_read_number => k_is)
    (case q_Reader_read_number => k_is)
    (case k_Reader_read_number => k_is)
    (case a_Reader_read_code => k_is)
    (case i_Reader_read_code => k_is)
    (case l_Reader_read_code => k_is)
    (case q_Reader_read_code => k_is)
    (case k_Reader_read_code => k_is)
    (case a_Reader_read_command => k_is)
    (case i_Reader_read_command => k_is)
    (case l_Reader_read_command => k_is)
    (case q_Reader_read_command => k_is)
    (case k_Reader_read_command => k_is)
    (case a_commands_of => k_is)
    (case l_commands_of => k_is)
    (case q_commands_of => k_is)
    (case k_commands_of => k_is)
    (case a_Ledger_init => k_is)
    (case i_Ledger_init => k_is)
    (case l_Ledger_init => k_is)
    (case q_Ledger_init => k_is)
    (case k_Ledger_init => k_is)
    (case a_first_ledger => k_is)
    (case l_first_ledger => k_is)
    (case q_first_ledger => k_is)
    (case k_first_ledger => k_is)
    (case a_Chain_init => k_is)
    (case i_Chain_init => k_is)
    (case l_Chain_init => k_is)
    (case q_Chain_init => k_is)
    (case k_Chain_init => k_is)
    (case a_Chain_height => k_is)
    (case i_Chain_height => k_is)
    (case l_Chain_height => k_is)
    (case q_Chain_height => k_is)
    (case k_Chain_height => k_is)
    (case a_Chain_committee => k_is)
    (case i_Chain_committee => k_is)
    (case l_Chain_committee => k_is)
    (case q_Chain_committee => k_is)
    (case k_Chain_committee => k_is)
    (case a_Chain_extend => k_is)
    (case i_Chain_extend => k_is)
    (case l_Chain_extend => k_is)
    (case q_Chain_extend => k_is)
    (case k_Chain_extend => k_is)
    (case a_after_weight => k_is)
    (case l_after_weight => k_is)
    (case q_after_weight => k_is)
    (case k_after_weight => k_is)
    (case a_Client_init => k_is)
    (case i_Client_init => k_is)
    (case l_Client_init => k_is)
    (case q_Client_init => k_is)
    (case k_Client_init => k_is)
    (case a_Client_follow => k_is)
    (case i_Client_follow => k_is)
    (case l_Client_follow => k_is)
    (case q_Client_follow => k_is)
    (case k_Client_follow => k_is)
    (case a_read_head => k_is)
    (case l_read_head => k_is)
    (case q_read_head => k_is)
    (case k_read_head => k_is)
    (case a_archive_lines => k_is)
    (case l_archive_lines => k_is)
    (case q_archive_lines => k_is)
    (case k_archive_lines => k_is)
    (case a_law_shows => k_is)
    (case l_law_shows => k_is)
    (case q_law_shows => k_is)
    (case k_law_shows => k_is)
    (case a_law_paper => k_is)
    (case l_law_paper => k_is)
    (case q_law_paper => k_is)
    (case k_law_paper => k_is)
    (case a_law_block => k_is)
    (case l_law_block => k_is)
    (case q_law_block => k_is)
    (case k_law_block => k_is)
    (case a_law_reweighted => k_is)
    (case l_law_reweighted => k_is)
    (case q_law_reweighted => k_is)
    (case k_law_reweighted => k_is)
    (case a_law_is_integer => k_is)
    (case l_law_is_integer => k_is)
    (case q_law_is_integer => k_is)
    (case k_law_is_integer => k_is)
    (case a_law_line => k_is)
    (case l_law_line => k_is)
    (case q_law_line => k_is)
    (case k_law_line => k_is)
    (case a_refuse_before_end => k_is)
    (case l_refuse_before_end => k_is)
    (case q_refuse_before_end => k_is)
    (case k_refuse_before_end => k_is)
    (case a_entry_at => k_is)
    (case l_entry_at => k_is)
    (case q_entry_at => k_is)
    (case k_entry_at => k_is)
    (case a_read_archive => k_is)
    (case l_read_archive => k_is)
    (case q_read_archive => k_is)
    (case k_read_archive => k_is)
    (case a_law_lines => k_is)
    (case l_law_lines => k_is)
    (case q_law_lines => k_is)
    (case k_law_lines => k_is)
    (case a_law_due => k_is)
    (case l_law_due => k_is)
    (case q_law_due => k_is)
    (case k_law_due => k_is)
    (case a_law_read => k_is)
    (case l_law_read => k_is)
    (case q_law_read => k_is)
    (case k_law_read => k_is)
    (case a_law_spoilt => k_is)
    (case l_law_spoilt => k_is)
    (case q_law_spoilt => k_is)
    (case k_law_spoilt => k_is)
    (case a_law => k_is)
    (case l_law => k_is)
    (case q_law => k_is)
    (case k_law => k_is)
    (case pg_Reader => k_is)
    (case hd_Reader => k_is)
    (case po_Reader => k_is)
    (case sa_Reader => k_is)
    (case mk_Reader => k_is)
    (case kc_Reader => k_is)
    (case no_Reader_text => k_is)
    (case no_Reader_at => k_is)
    (case pg_Committee => k_is)
    (case hd_Committee => k_is)
    (case po_Committee => k_is)
    (case sa_Committee => k_is)
    (case mk_Committee => k_is)
    (case kc_Committee => k_is)
    (case no_Committee_weights => k_is)
    (case no_Committee_size => k_is)
    (case no_Committee_total => k_is)
    (case pg_Ledger => k_is)
    (case hd_Ledger => k_is)
    (case po_Ledger => k_is)
    (case sa_Ledger => k_is)
    (case mk_Ledger => k_is)
    (case kc_Ledger => k_is)
    (case no_Ledger_balances => k_is)
    (case no_Ledger_codes => k_is)
    (case no_Ledger_stores => k_is)
    (case pg_Chain => k_is)
    (case hd_Chain => k_is)
    (case po_Chain => k_is)
    (case sa_Chain => k_is)
    (case mk_Chain => k_is)
    (case kc_Chain => k_is)
    (case no_Chain_blocks => k_is)
    (case no_Chain_receipts => k_is)
    (case no_Chain_committees => k_is)
    (case no_Chain_ledgers => k_is)
    (case pg_Client => k_is)
    (case hd_Client => k_is)
    (case po_Client => k_is)
    (case sa_Client => k_is)
    (case mk_Client => k_is)
    (case kc_Client => k_is)
    (case no_Client_chain => k_is)
    (case g_MARKS => k_is)
    (case l_MARKS => k_is)
    (case kl_MARKS => exact ⟨⟨_, _, rfl, rfl⟩, ⟨_, _, rfl, rfl⟩, ⟨_, _, rfl, rfl⟩, ⟨_, _, rfl, rfl⟩, trivial⟩)
    (case lo_MARKS => exact rfl)
    (case l_MARKS_p => k_is)
    (case l_MARKS_w => k_is)
    (case l_MARKS_d => k_is)
    (case l_MARKS_k => k_is)
    (case g_BadCommand => k_is)
    (case x_BadCommand => k_exc)
    (case kc_BadCommand => k_is)
    (case b_BadCommand => k_is)
    (case t_BadCommand => k_is)
    (case xga_BadCommand => k_is)
    (case xgt_BadCommand => k_is)
    (case xhd_BadCommand => k_is)
    (case xcc_BadCommand => k_is)
    (case xsp_BadCommand => k_is)
    (case xtk_BadCommand => k_is)
    (case xmo_BadCommand => k_is)
    (case te1_BadCommand => k_is)
    (case te2_BadCommand => k_is)
    (case te3_BadCommand => k_is)
    (case te4_BadCommand_BadCommand => k_is)
    (case g_BadPaper => k_is)
    (case x_BadPaper => k_exc)
    (case kc_BadPaper => k_is)
    (case b_BadPaper => k_is)
    (case t_BadPaper => k_is)
    (case xga_BadPaper => k_is)
    (case xgt_BadPaper => k_is)
    (case xhd_BadPaper => k_is)
    (case xcc_BadPaper => k_is)
    (case xsp_BadPaper => k_is)
    (case xtk_BadPaper => k_is)
    (case xmo_BadPaper => k_is)
    (case kt_BadPaper_BadPaper => kit_is)
    (case te1_BadPaper => k_is)
    (case te2_BadPaper => k_is)
    (case te3_BadPaper => k_is)
    (case te4_BadPaper_BadPaper => k_is)
    (case g_BadLine => k_is)
    (case lc_BadLine => k_is)
    (case rb_BadLine => decide +kernel)
    (case sa_BadLine => k_is)
    (case eb_BadLine => k_is)
    (case ty_BadLine => k_is)
    (case kc_BadLine => k_is)
    (case a_BadLine_init => k_is)
    (case tI_BadLine_init => k_is)
    (case l_BadLine_init => k_is)
    (case q_BadLine_init => k_is)
    (case ce_BadLine_init => k_is)
    (case co_BadLine_init => k_is)
    (case v2_BadLine_init => rfl)
    (case fi_BadLine_init => decide +kernel)
    (case su_BadLine => ks_is)
    (case op_BadLine => k_is)
    (case sv_BadLine => k_is)
    (case mc_BadLine => k_is)
    (case nf_BadLine => k_is)
    (case ts_BadLine => decide +kernel)
    (case xga_BadLine => k_is)
    (case xgt_BadLine => k_is)
    (case xhd_BadLine => k_is)
    (case xcc_BadLine => k_is)
    (case xsp_BadLine => k_is)
    (case xtk_BadLine => k_is)
    (case xmo_BadLine => k_is)
    (case g_BadArchive => k_is)
    (case lc_BadArchive => k_is)
    (case rb_BadArchive => decide +kernel)
    (case sa_BadArchive => k_is)
    (case eb_BadArchive => k_is)
    (case ty_BadArchive => k_is)
    (case kc_BadArchive => k_is)
    (case a_BadArchive_init => k_is)
    (case tI_BadArchive_init => k_is)
    (case l_BadArchive_init => k_is)
    (case q_BadArchive_init => k_is)
    (case ce_BadArchive_init => k_is)
    (case co_BadArchive_init => k_is)
    (case v2_BadArchive_init => rfl)
    (case fi_BadArchive_init => decide +kernel)
    (case su_BadArchive => ks_is)
    (case op_BadArchive => k_is)
    (case sv_BadArchive => k_is)
    (case mc_BadArchive => k_is)
    (case nf_BadArchive => k_is)
    (case ts_BadArchive => decide +kernel)
    (case xga_BadArchive => k_is)
    (case xgt_BadArchive => k_is)
    (case xhd_BadArchive => k_is)
    (case xcc_BadArchive => k_is)
    (case xsp_BadArchive => k_is)
    (case xtk_BadArchive => k_is)
    (case xmo_BadArchive => k_is)
    (case g_KINDS => k_is)
    (case l_KINDS => k_is)
    (case te1_BadLine => k_is)
    (case te2_BadLine => k_is)
    (case te3_BadLine => k_is)
    (case te4_BadLine_BadLine => k_is)
    (case g_TribunalError => k_is)
    (case te1_TribunalError => k_is)
    (case te2_TribunalError => k_is)
    (case te3_TribunalError => k_is)
    (case te4_TribunalError_BadArchive => k_is)
    (case kta_BadArchive_BadLine_BadPaper => kit_is)
    (case kt_BadArchive_BadArchive => kit_is)
