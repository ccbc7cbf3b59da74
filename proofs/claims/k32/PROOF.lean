import PyProof.Rows.All
import Wide.All
import OpenK.AllK
import Wide.FinOn
import HandS.ForMost
import HandS.IsInst
import HandS.TupLe
import HandS.Codes
import HandS.More
import HandS.Exc
import HandS.ExcOwn
import HandS.WordsExc
import HandS.ExcIs
import KE.KExcIs
import HandS.FStr
import HandS.Zip
import HandS.Star
import HandS.StrMore
import HandS.Text
import HandS.Walk
import HandS.Deep
import HandS.TryOnly
import KE.IntTextText
import KE.KUnpackStar
import KE.IntTextLaws
import KE.GoesMore
import KE.GoesEnum
import HandS.ExcInit
import HandS.ExcSuper
import HandS.ExcCtx
import HandS.HotCalls
import HandS.ExcInitHot
import HandS.ExcField
import HandS.RaiseMore
import HandS.RaiseFrom
import HandS.SuiteRaise
import KE.KExcSuper
import HandS.TupAny
import PySem.Challenge.RW_tribunal_k32_lines_of_events
set_option Elab.async false
set_option pp.maxSteps 300
set_option pp.deepTerms.threshold 6
set_option linter.all false
set_option maxRecDepth 100000
set_option maxHeartbeats 4000000
namespace Toy
open PySem L2
def top (i : Nat) : Stmt := PySem.Challenge.pw_tribunal_k32_lines_of_events.main.body.getD i (.Pass ⟨0, 0, 0, 0⟩)
abbrev s_proposal : Stmt := (top 8)
abbrev s_prevote : Stmt := (top 9)
abbrev s_precommit : Stmt := (top 10)
abbrev s_is_number : Stmt := (top 20)
abbrev s_is_block : Stmt := (top 21)
abbrev s_word_at : Stmt := (top 23)
abbrev s_number_at : Stmt := (top 24)
abbrev s_kind_at : Stmt := (top 25)
abbrev s_block_at : Stmt := (top 26)
abbrev s_lean_at : Stmt := (top 27)
abbrev s_end_at : Stmt := (top 28)
abbrev s_read_letter : Stmt := (top 19)
abbrev s_word : Stmt := (top 22)
abbrev s_letter_line : Stmt := (top 18)
abbrev s_command_text : Stmt := (top 33)
abbrev s_Reader_init : Stmt := (inClass (top 35) 0)
abbrev s_Reader_read_signs : Stmt := (inClass (top 35) 5)
abbrev s_Reader_skip : Stmt := (inClass (top 35) 2)
abbrev s_Reader_read_number : Stmt := (inClass (top 35) 3)
abbrev s_Reader_read_code : Stmt := (inClass (top 35) 4)
abbrev s_Reader_read_command : Stmt := (inClass (top 35) 1)
abbrev s_commands_of : Stmt := (top 34)
abbrev s_law_cell : Stmt := (top 44)
abbrev s_law_row : Stmt := (top 46)
abbrev s_law_number : Stmt := (top 47)
abbrev s_law_code : Stmt := (top 48)
abbrev s_law_place : Stmt := (top 49)
abbrev s_law_command : Stmt := (top 50)
abbrev s_law_text : Stmt := (top 51)
abbrev s_read_number : Stmt := (top 40)
abbrev s_u_read_letter : Stmt := (top 41)
abbrev s_read_command : Stmt := (top 42)
abbrev s_event_line : Stmt := (top 38)
abbrev s_read_event : Stmt := (top 39)
abbrev s_law_is_integer : Stmt := (top 45)
abbrev s_law_statement : Stmt := (top 53)
abbrev s_law_event : Stmt := (top 56)
abbrev s_law_line : Stmt := (top 57)
abbrev s_law_changed : Stmt := (top 58)
abbrev s_law_reads : Stmt := (top 59)
abbrev s_law_long : Stmt := (top 60)
abbrev s_law : Stmt := (top 61)
abbrev s_BadLine_init : Stmt := (inClass (top 2) 0)
abbrev s_BadScript_init : Stmt := (inClass (top 3) 0)
abbrev sc_proposal_N : List Str := ["height", "turn", "block"]
theorem sc_proposal : FnScope sc_proposal_N ["height", "turn", "block"] (defScope s_proposal) := ⟨rfl, rfl, rfl, by decide +kernel, rfl, by decide +kernel, by decide +kernel⟩
abbrev sc_prevote_N : List Str := ["height", "turn", "block", "lean"]
theorem sc_prevote : FnScope sc_prevote_N ["height", "turn", "block", "lean"] (defScope s_prevote) := ⟨rfl, rfl, rfl, by decide +kernel, rfl, by decide +kernel, by decide +kernel⟩
abbrev sc_precommit_N : List Str := ["height", "turn", "block"]
theorem sc_precommit : FnScope sc_precommit_N ["height", "turn", "block"] (defScope s_precommit) := ⟨rfl, rfl, rfl, by decide +kernel, rfl, by decide +kernel, by decide +kernel⟩
abbrev sc_is_number_N : List Str := ["word"]
theorem sc_is_number : FnScope sc_is_number_N ["word"] (defScope s_is_number) := ⟨rfl, rfl, rfl, by decide +kernel, rfl, by decide +kernel, by decide +kernel⟩
abbrev sc_is_block_N : List Str := ["word", "sign"]
theorem sc_is_block : FnScope sc_is_block_N ["word"] (defScope s_is_block) := ⟨rfl, rfl, rfl, by decide +kernel, rfl, by decide +kernel, by decide +kernel⟩
abbrev sc_word_at_N : List Str := ["words", "at"]
theorem sc_word_at : FnScope sc_word_at_N ["words", "at"] (defScope s_word_at) := ⟨rfl, rfl, rfl, by decide +kernel, rfl, by decide +kernel, by decide +kernel⟩
abbrev sc_number_at_N : List Str := ["words", "at", "word"]
theorem sc_number_at : FnScope sc_number_at_N ["words", "at"] (defScope s_number_at) := ⟨rfl, rfl, rfl, by decide +kernel, rfl, by decide +kernel, by decide +kernel⟩
abbrev sc_kind_at_N : List Str := ["words", "at", "word"]
theorem sc_kind_at : FnScope sc_kind_at_N ["words", "at"] (defScope s_kind_at) := ⟨rfl, rfl, rfl, by decide +kernel, rfl, by decide +kernel, by decide +kernel⟩
abbrev sc_block_at_N : List Str := ["words", "at", "kind", "word"]
theorem sc_block_at : FnScope sc_block_at_N ["words", "at", "kind"] (defScope s_block_at) := ⟨rfl, rfl, rfl, by decide +kernel, rfl, by decide +kernel, by decide +kernel⟩
abbrev sc_lean_at_N : List Str := ["words", "at", "turn", "word", "lean"]
theorem sc_lean_at : FnScope sc_lean_at_N ["words", "at", "turn"] (defScope s_lean_at) := ⟨rfl, rfl, rfl, by decide +kernel, rfl, by decide +kernel, by decide +kernel⟩
abbrev sc_end_at_N : List Str := ["words", "at"]
theorem sc_end_at : FnScope sc_end_at_N ["words", "at"] (defScope s_end_at) := ⟨rfl, rfl, rfl, by decide +kernel, rfl, by decide +kernel, by decide +kernel⟩
abbrev sc_read_letter_N : List Str := ["line", "words", "sender", "kind", "height", "turn", "block", "lean"]
theorem sc_read_letter : FnScope sc_read_letter_N ["line"] (defScope s_read_letter) := ⟨rfl, rfl, rfl, by decide +kernel, rfl, by decide +kernel, by decide +kernel⟩
abbrev sc_word_N : List Str := ["part"]
theorem sc_word : FnScope sc_word_N ["part"] (defScope s_word) := ⟨rfl, rfl, rfl, by decide +kernel, rfl, by decide +kernel, by decide +kernel⟩
abbrev sc_letter_line_N : List Str := ["letter", "sender", "statement", "part"]
theorem sc_letter_line : FnScope sc_letter_line_N ["letter"] (defScope s_letter_line) := ⟨rfl, rfl, rfl, by decide +kernel, rfl, by decide +kernel, by decide +kernel⟩
abbrev sc_command_text_N : List Str := ["command", "kind", "parts", "text", "mark", "part"]
theorem sc_command_text : FnScope sc_command_text_N ["command"] (defScope s_command_text) := ⟨rfl, rfl, rfl, by decide +kernel, rfl, by decide +kernel, by decide +kernel⟩
abbrev sc_Reader_init_N : List Str := ["self", "text"]
theorem sc_Reader_init : FnScope sc_Reader_init_N ["self", "text"] (defScope s_Reader_init) := ⟨rfl, rfl, rfl, by decide +kernel, rfl, by decide +kernel, by decide +kernel⟩
abbrev sc_Reader_read_signs_N : List Str := ["self", "allowed", "begin"]
theorem sc_Reader_read_signs : FnScope sc_Reader_read_signs_N ["self", "allowed"] (defScope s_Reader_read_signs) := ⟨rfl, rfl, rfl, by decide +kernel, rfl, by decide +kernel, by decide +kernel⟩
abbrev sc_Reader_skip_N : List Str := ["self", "mark"]
theorem sc_Reader_skip : FnScope sc_Reader_skip_N ["self", "mark"] (defScope s_Reader_skip) := ⟨rfl, rfl, rfl, by decide +kernel, rfl, by decide +kernel, by decide +kernel⟩
abbrev sc_Reader_read_number_N : List Str := ["self", "digits"]
theorem sc_Reader_read_number : FnScope sc_Reader_read_number_N ["self"] (defScope s_Reader_read_number) := ⟨rfl, rfl, rfl, by decide +kernel, rfl, by decide +kernel, by decide +kernel⟩
abbrev sc_Reader_read_code_N : List Str := ["self", "code"]
theorem sc_Reader_read_code : FnScope sc_Reader_read_code_N ["self"] (defScope s_Reader_read_code) := ⟨rfl, rfl, rfl, by decide +kernel, rfl, by decide +kernel, by decide +kernel⟩
abbrev sc_Reader_read_command_N : List Str := ["self", "kind", "parts", "mark", "part"]
theorem sc_Reader_read_command : FnScope sc_Reader_read_command_N ["self"] (defScope s_Reader_read_command) := ⟨rfl, rfl, rfl, by decide +kernel, rfl, by decide +kernel, by decide +kernel⟩
abbrev sc_commands_of_N : List Str := ["block", "reader", "found"]
theorem sc_commands_of : FnScope sc_commands_of_N ["block"] (defScope s_commands_of) := ⟨rfl, rfl, rfl, by decide +kernel, rfl, by decide +kernel, by decide +kernel⟩
abbrev sc_law_cell_N : List Str := ["script", "k"]
theorem sc_law_cell : FnScope sc_law_cell_N ["script", "k"] (defScope s_law_cell) := ⟨rfl, rfl, rfl, by decide +kernel, rfl, by decide +kernel, by decide +kernel⟩
abbrev sc_law_row_N : List Str := ["cell", "count", "size", "state", "row", "k"]
theorem sc_law_row : FnScope sc_law_row_N ["cell", "count", "size"] (defScope s_law_row) := ⟨rfl, rfl, rfl, by decide +kernel, rfl, by decide +kernel, by decide +kernel⟩
abbrev sc_law_number_N : List Str := ["cell"]
theorem sc_law_number : FnScope sc_law_number_N ["cell"] (defScope s_law_number) := ⟨rfl, rfl, rfl, by decide +kernel, rfl, by decide +kernel, by decide +kernel⟩
abbrev sc_law_code_N : List Str := ["cell", "signs", "digits", "digit"]
theorem sc_law_code : FnScope sc_law_code_N ["cell"] (defScope s_law_code) := ⟨rfl, rfl, rfl, by decide +kernel, rfl, by decide +kernel, by decide +kernel⟩
abbrev sc_law_place_N : List Str := ["cell"]
theorem sc_law_place : FnScope sc_law_place_N ["cell"] (defScope s_law_place) := ⟨rfl, rfl, rfl, by decide +kernel, rfl, by decide +kernel, by decide +kernel⟩
abbrev sc_law_command_N : List Str := ["cell", "more", "one"]
theorem sc_law_command : FnScope sc_law_command_N ["cell", "more"] (defScope s_law_command) := ⟨rfl, rfl, rfl, by decide +kernel, rfl, by decide +kernel, by decide +kernel⟩
abbrev sc_law_text_N : List Str := ["command"]
theorem sc_law_text : FnScope sc_law_text_N ["command"] (defScope s_law_text) := ⟨rfl, rfl, rfl, by decide +kernel, rfl, by decide +kernel, by decide +kernel⟩
abbrev sc_read_number_N : List Str := ["word", "at"]
theorem sc_read_number : FnScope sc_read_number_N ["word", "at"] (defScope s_read_number) := ⟨rfl, rfl, rfl, by decide +kernel, rfl, by decide +kernel, by decide +kernel⟩
abbrev sc_u_read_letter_N : List Str := ["line", "at"]
theorem sc_u_read_letter : FnScope sc_u_read_letter_N ["line", "at"] (defScope s_u_read_letter) := ⟨rfl, rfl, rfl, by decide +kernel, rfl, by decide +kernel, by decide +kernel⟩
abbrev sc_read_command_N : List Str := ["text", "at", "found"]
theorem sc_read_command : FnScope sc_read_command_N ["text", "at"] (defScope s_read_command) := ⟨rfl, rfl, rfl, by decide +kernel, rfl, by decide +kernel, by decide +kernel⟩
abbrev sc_event_line_N : List Str := ["event", "kind", "parts", "part"]
theorem sc_event_line : FnScope sc_event_line_N ["event"] (defScope s_event_line) := ⟨rfl, rfl, rfl, by decide +kernel, rfl, by decide +kernel, by decide +kernel⟩
abbrev sc_read_event_N : List Str := ["line", "at", "kind", "_", "rest", "words", "numbers", "word"]
theorem sc_read_event : FnScope sc_read_event_N ["line", "at"] (defScope s_read_event) := ⟨rfl, rfl, rfl, by decide +kernel, rfl, by decide +kernel, by decide +kernel⟩
abbrev sc_law_is_integer_N : List Str := ["actual"]
theorem sc_law_is_integer : FnScope sc_law_is_integer_N ["actual"] (defScope s_law_is_integer) := ⟨rfl, rfl, rfl, by decide +kernel, rfl, by decide +kernel, by decide +kernel⟩
abbrev sc_law_statement_N : List Str := ["digit", "height", "block", "turn", "lean"]
theorem sc_law_statement : FnScope sc_law_statement_N ["digit", "height"] (defScope s_law_statement) := ⟨rfl, rfl, rfl, by decide +kernel, rfl, by decide +kernel, by decide +kernel⟩
abbrev sc_law_event_N : List Str := ["cell", "more", "last", "big"]
theorem sc_law_event : FnScope sc_law_event_N ["cell", "more", "last"] (defScope s_law_event) := ⟨rfl, rfl, rfl, by decide +kernel, rfl, by decide +kernel, by decide +kernel⟩
abbrev sc_law_line_N : List Str := ["event", "words", "parts", "part"]
theorem sc_law_line : FnScope sc_law_line_N ["event"] (defScope s_law_line) := ⟨rfl, rfl, rfl, by decide +kernel, rfl, by decide +kernel, by decide +kernel⟩
abbrev sc_law_changed_N : List Str := ["line", "way", "words", "at"]
theorem sc_law_changed : FnScope sc_law_changed_N ["line", "way"] (defScope s_law_changed) := ⟨rfl, rfl, rfl, by decide +kernel, rfl, by decide +kernel, by decide +kernel⟩
abbrev sc_law_reads_N : List Str := ["line", "at", "event", "e"]
theorem sc_law_reads : FnScope sc_law_reads_N ["line", "at"] (defScope s_law_reads) := ⟨rfl, rfl, rfl, by decide +kernel, rfl, by decide +kernel, by decide +kernel⟩
abbrev sc_law_long_N : List Str := ["size", "at", "line", "event"]
theorem sc_law_long : FnScope sc_law_long_N ["size", "at"] (defScope s_law_long) := ⟨rfl, rfl, rfl, by decide +kernel, rfl, by decide +kernel, by decide +kernel⟩
abbrev sc_law_N : List Str := ["script", "k", "cells", "event", "line", "changed", "at"]
theorem sc_law : FnScope sc_law_N ["script"] (defScope s_law) := ⟨rfl, rfl, rfl, by decide +kernel, rfl, by decide +kernel, by decide +kernel⟩
/-! ### what stands where -/
structure DefAt (K : PySem.W.Frag) (mg : Str → Option Value) (x : Str) (st : Stmt) (ps : List Str) (f : Addr) : Prop where
  F : ∃ fd, Fun K x x st f fd ∧ Binds K fd ps []
  g : mg x = some (.ref f)
  kp : PySem.W.keepIn K (.ref f) = true
structure MethAt (K : PySem.W.Frag) (C : Addr) (x qual : Str) (st : Stmt) (ps : List Str) (f : Addr) : Prop where
  F : ∃ fd, Fun K x qual st f fd ∧ Binds K fd ps []
  fi : PySem.W.findIn K (.ref C) x = some (some (.ref f))
  isf : PySem.W.isFn K (.ref f) = true
  kp : PySem.W.keepIn K (.ref f) = true
theorem def_mk {K : PySem.W.Frag} {x qual : Str} {st : Stmt} {f : Addr} {ps : List Str} {oc : Value} {od an : Option Addr} {osl : Array (Option Value)} {kV doc pm cdv ct : Value}
    (l : K.lookup f = some ⟨oc, od, .func (PySem.W.fnOf x qual (defArgs st) (defBody st) (defScope st) .none kV doc pm an cdv ct), osl⟩)
    (c : PySem.W.codeIn K cdv qual = true) (k : PySem.W.keepIn K (.ref f) = true)
    (h : ∀ (kV doc pm : Value) (an : Option Addr) (cdv ct : Value) (us : List Value), us.length = ps.length → bindArgs (PySem.W.fnOf x qual (defArgs st) (defBody st) (defScope st) .none kV doc pm an cdv ct) ⟨us, []⟩ = pure (ps.zip us)) :
    ∃ fd, Fun K x qual st f fd ∧ Binds K fd ps [] := by
  have F := fun_mk (st := st) l c k
  exact ⟨_, F, F.binds h⟩
theorem mg_no {K : PySem.W.Frag} {h : Heap} {mg : Str → Option Value} {n : Str} (X : K.In h) (G : h.Ns mainGlobals mg) (e : PySem.W.nsIn K mainGlobals n = some none) : mg n = none := PySem.W.mg_none_of X G e
theorem same_new {H : Hp} {p : Addr} {o : HO} (n : H p = Option.none) : Same H (upd H p o) := fun b u e => by
  rw [upd_ne (ne_of_none e n)]
  exact e
theorem same_upd {H H2 : Hp} {p : Addr} {o : HO} (s : Same H H2) (n : H p = Option.none) : Same H (upd H2 p o) := fun b u e => by
  rw [upd_ne (ne_of_none e n)]
  exact s b u e
structure Ads where
  C_Reader : Addr
  d_proposal : Addr
  d_prevote : Addr
  d_precommit : Addr
  d_is_number : Addr
  d_is_block : Addr
  d_word_at : Addr
  d_number_at : Addr
  d_kind_at : Addr
  d_block_at : Addr
  d_lean_at : Addr
  d_end_at : Addr
  d_read_letter : Addr
  d_word : Addr
  d_letter_line : Addr
  d_command_text : Addr
  d_Reader_init : Addr
  d_Reader_read_signs : Addr
  d_Reader_skip : Addr
  d_Reader_read_number : Addr
  d_Reader_read_code : Addr
  d_Reader_read_command : Addr
  d_commands_of : Addr
  d_law_cell : Addr
  d_law_row : Addr
  d_law_number : Addr
  d_law_code : Addr
  d_law_place : Addr
  d_law_command : Addr
  d_law_text : Addr
  d_read_number : Addr
  d_u_read_letter : Addr
  d_read_command : Addr
  d_event_line : Addr
  d_read_event : Addr
  d_law_is_integer : Addr
  d_law_statement : Addr
  d_law_event : Addr
  d_law_line : Addr
  d_law_changed : Addr
  d_law_reads : Addr
  d_law_long : Addr
  P_MARKS : Addr
  M_MARKS_p : Addr
  M_MARKS_w : Addr
  M_MARKS_d : Addr
  M_MARKS_k : Addr
  C_BadCommand : Addr
  C_BadLine : Addr
  d_BadLine_init : Addr
  C_BadScript : Addr
  d_BadScript_init : Addr
  P_KINDS : Addr
  P_NUMBERED : Addr
  C_TribunalError : Addr
structure Txt (K : PySem.W.Frag) (mg : Str → Option Value) (a : Ads) : Prop where
  n_len : mg "len" = none
  n_range : mg "range" = none
  n_isinstance : mg "isinstance" = none
  n_int : mg "int" = none
  n_bool : mg "bool" = none
  n_list : mg "list" = none
  n_tuple : mg "tuple" = none
  n_str : mg "str" = none
  n_zip : mg "zip" = none
  n_enumerate : mg "enumerate" = none
  n_max : mg "max" = none
  n_abs : mg "abs" = none
  n_super : mg "super" = none
  n_ValueError : mg "ValueError" = none
  n_all : mg "all" = none
  c_SIGNS : ∃ t, mg "SIGNS" = some (.str "0123456789ginasmtcehlujfyo" t)
  c_DIGITS : ∃ t, mg "DIGITS" = some (.str "0123456789" t)
  c_LETTERS : ∃ t, mg "LETTERS" = some (.str "abcdefghijklmnopqrstuvwxyz" t)
  c_BLOCK_SIGNS : ∃ t, mg "BLOCK_SIGNS" = some (.str "abcdefghijklmnopqrstuvwxyz0123456789" t)
  c_NONE : ∃ t, mg "NONE" = some (.str "-" t)
  c_MOST_DIGITS_wire : ∃ t, mg "MOST_DIGITS_wire" = some (.int 9 t)
  c_MOST_SIGNS : ∃ t, mg "MOST_SIGNS" = some (.int 60 t)
  c_MOST_DIGITS_commands : ∃ t, mg "MOST_DIGITS_commands" = some (.int 6 t)
  c_CODE_END : ∃ t, mg "CODE_END" = some (.str "z" t)
  g_Reader : mg "Reader" = some (.ref a.C_Reader)
  cl_Reader : Cls K a.C_Reader
  kc_Reader : PySem.W.keepIn K (.ref a.C_Reader) = true
  mk_Reader : PySem.W.makesIn K a.C_Reader = true
  a_Reader_text : NoAttr K a.C_Reader "text"
  a_Reader_at : NoAttr K a.C_Reader "at"
  d_proposal : DefAt K mg "proposal" s_proposal ["height", "turn", "block"] a.d_proposal
  d_prevote : DefAt K mg "prevote" s_prevote ["height", "turn", "block", "lean"] a.d_prevote
  d_precommit : DefAt K mg "precommit" s_precommit ["height", "turn", "block"] a.d_precommit
  d_is_number : DefAt K mg "is_number" s_is_number ["word"] a.d_is_number
  d_is_block : DefAt K mg "is_block" s_is_block ["word"] a.d_is_block
  d_word_at : DefAt K mg "_word_at" s_word_at ["words", "at"] a.d_word_at
  d_number_at : DefAt K mg "_number_at" s_number_at ["words", "at"] a.d_number_at
  d_kind_at : DefAt K mg "_kind_at" s_kind_at ["words", "at"] a.d_kind_at
  d_block_at : DefAt K mg "_block_at" s_block_at ["words", "at", "kind"] a.d_block_at
  d_lean_at : DefAt K mg "_lean_at" s_lean_at ["words", "at", "turn"] a.d_lean_at
  d_end_at : DefAt K mg "_end_at" s_end_at ["words", "at"] a.d_end_at
  d_read_letter : DefAt K mg "read_letter" s_read_letter ["line"] a.d_read_letter
  d_word : DefAt K mg "_word" s_word ["part"] a.d_word
  d_letter_line : DefAt K mg "letter_line" s_letter_line ["letter"] a.d_letter_line
  d_command_text : DefAt K mg "command_text" s_command_text ["command"] a.d_command_text
  d_Reader_init : MethAt K a.C_Reader "__init__" "Reader.__init__" s_Reader_init ["self", "text"] a.d_Reader_init
  d_Reader_read_signs : MethAt K a.C_Reader "read_signs" "Reader.read_signs" s_Reader_read_signs ["self", "allowed"] a.d_Reader_read_signs
  d_Reader_skip : MethAt K a.C_Reader "skip" "Reader.skip" s_Reader_skip ["self", "mark"] a.d_Reader_skip
  d_Reader_read_number : MethAt K a.C_Reader "read_number" "Reader.read_number" s_Reader_read_number ["self"] a.d_Reader_read_number
  d_Reader_read_code : MethAt K a.C_Reader "read_code" "Reader.read_code" s_Reader_read_code ["self"] a.d_Reader_read_code
  d_Reader_read_command : MethAt K a.C_Reader "read_command" "Reader.read_command" s_Reader_read_command ["self"] a.d_Reader_read_command
  d_commands_of : DefAt K mg "commands_of" s_commands_of ["block"] a.d_commands_of
  d_law_cell : DefAt K mg "_law_cell" s_law_cell ["script", "k"] a.d_law_cell
  d_law_row : DefAt K mg "_law_row" s_law_row ["cell", "count", "size"] a.d_law_row
  d_law_number : DefAt K mg "_law_number" s_law_number ["cell"] a.d_law_number
  d_law_code : DefAt K mg "_law_code" s_law_code ["cell"] a.d_law_code
  d_law_place : DefAt K mg "_law_place" s_law_place ["cell"] a.d_law_place
  d_law_command : DefAt K mg "_law_command" s_law_command ["cell", "more"] a.d_law_command
  d_law_text : DefAt K mg "_law_text" s_law_text ["command"] a.d_law_text
  d_read_number : DefAt K mg "_read_number" s_read_number ["word", "at"] a.d_read_number
  d_u_read_letter : DefAt K mg "_read_letter" s_u_read_letter ["line", "at"] a.d_u_read_letter
  d_read_command : DefAt K mg "_read_command" s_read_command ["text", "at"] a.d_read_command
  d_event_line : DefAt K mg "event_line" s_event_line ["event"] a.d_event_line
  d_read_event : DefAt K mg "read_event" s_read_event ["line", "at"] a.d_read_event
  d_law_is_integer : DefAt K mg "_law_is_integer" s_law_is_integer ["actual"] a.d_law_is_integer
  d_law_statement : DefAt K mg "_law_statement" s_law_statement ["digit", "height"] a.d_law_statement
  d_law_event : DefAt K mg "_law_event" s_law_event ["cell", "more", "last"] a.d_law_event
  d_law_line : DefAt K mg "_law_line" s_law_line ["event"] a.d_law_line
  d_law_changed : DefAt K mg "_law_changed" s_law_changed ["line", "way"] a.d_law_changed
  d_law_reads : DefAt K mg "_law_reads" s_law_reads ["line", "at"] a.d_law_reads
  d_law_long : DefAt K mg "_law_long" s_law_long ["size", "at"] a.d_law_long
theorem Txt.m_Reader {K : PySem.W.Frag} {mg : Str → Option Value} {a : Ads} (T : Txt K mg a) : Mk K a.C_Reader a.d_Reader_init := ⟨T.mk_Reader, T.d_Reader_init.fi, T.d_Reader_init.isf, T.kc_Reader⟩
theorem Txt.me_Reader_read_signs {K : PySem.W.Frag} {mg : Str → Option Value} {a : Ads} (T : Txt K mg a) : Meth K a.C_Reader "read_signs" a.d_Reader_read_signs := ⟨T.d_Reader_read_signs.fi, T.d_Reader_read_signs.isf, T.d_Reader_read_signs.kp⟩
theorem Txt.me_Reader_skip {K : PySem.W.Frag} {mg : Str → Option Value} {a : Ads} (T : Txt K mg a) : Meth K a.C_Reader "skip" a.d_Reader_skip := ⟨T.d_Reader_skip.fi, T.d_Reader_skip.isf, T.d_Reader_skip.kp⟩
theorem Txt.me_Reader_read_number {K : PySem.W.Frag} {mg : Str → Option Value} {a : Ads} (T : Txt K mg a) : Meth K a.C_Reader "read_number" a.d_Reader_read_number := ⟨T.d_Reader_read_number.fi, T.d_Reader_read_number.isf, T.d_Reader_read_number.kp⟩
theorem Txt.me_Reader_read_code {K : PySem.W.Frag} {mg : Str → Option Value} {a : Ads} (T : Txt K mg a) : Meth K a.C_Reader "read_code" a.d_Reader_read_code := ⟨T.d_Reader_read_code.fi, T.d_Reader_read_code.isf, T.d_Reader_read_code.kp⟩
theorem Txt.me_Reader_read_command {K : PySem.W.Frag} {mg : Str → Option Value} {a : Ads} (T : Txt K mg a) : Meth K a.C_Reader "read_command" a.d_Reader_read_command := ⟨T.d_Reader_read_command.fi, T.d_Reader_read_command.isf, T.d_Reader_read_command.kp⟩
section
open PyProof.Rows
/-! ### own rules: set(list of ints), k in that set; enumerate(a tuple) -/
theorem any_firstMet (zs : List Int) (k : Int) : (PyProof.Rows.firstMet (fun i => zs.getD i 0) zs.length).any (· == k) = decide (k ∈ zs) := by
  rw [PyProof.Rows.firstMet_any, Bool.eq_iff_iff, List.any_eq_true, decide_eq_true_iff]
  constructor
  · rintro ⟨y, hy, e⟩
    obtain ⟨i, hi, rfl⟩ := List.mem_map.mp hy
    have hi' : i < zs.length := List.mem_range.mp hi
    have e' : zs.getD i 0 = k := by simpa using e
    rw [← e', List.getD_eq_getElem?_getD, List.getElem?_eq_getElem hi']
    exact List.getElem_mem hi'
  · intro hk
    obtain ⟨i, hi, e⟩ := List.getElem_of_mem hk
    refine ⟨k, List.mem_map.mpr ⟨i, List.mem_range.mpr hi, ?_⟩, by simp⟩
    show zs.getD i 0 = k
    rw [List.getD_eq_getElem?_getD, List.getElem?_eq_getElem hi]
    exact e
/-- set(xs), xs a list of ints -/
def rSetOfL (K : PySem.W.Frag) : List V → Hp → VK → Prop := fun vs H Q => ∃ (l : Addr) (zs : List Int), vs = [V.ref l] ∧ SqL K H l (zs.map V.int) ∧ zs.length ≤ 1000 ∧
  ∀ (p : Addr) (n : Nat), H p = Option.none → Q (.ref p) (upd H p (.set (fun k => decide (k ∈ zs)) n))
theorem cr_set {X : Cx} (calm : X.calm = true) : CallR X (.type "set") (rSetOfL X.K) := by
  intro pins sh σ H vs us Q I rel hyp
  obtain ⟨l, zs, rfl, hl, few, q⟩ := hyp
  rw [Vals.ref1 rel]
  obtain ⟨its, rv, pl, _⟩ := I.list hl
  have isI := ints_of_vals rv
  have same : its.toArray.size = zs.length := by
    have e := rv.length
    rw [List.length_map] at e
    rw [List.size_toArray]
    exact e.symm
  refine PySem.call_set_list (items := its.toArray) (ns := zs) (I.ok.hd calm) pl.isList (by simpa using isI) (by rw [same]; unfold scanBound; omega) fun h' tk S kp => ?_
  have fresh : H sh.heap.objs.size = Option.none := I.hok.fresh (Nat.le_refl _)
  have e : (fun k => (PyProof.Rows.firstMet (fun i => zs.getD i 0) its.toArray.size).any (· == k)) = fun k => decide (k ∈ zs) := by
    funext k
    rw [same]
    exact any_firstMet zs k
  rw [e] at S
  exact ⟨.ref sh.heap.objs.size, upd H sh.heap.objs.size (.set (fun k => decide (k ∈ zs)) _), I.laid (t' := tk) (fun b o ho => kp b o (Heap.lt_size ho) ho) (Nat.le_refl _) S, rfl, q _ _ fresh⟩
/-- k in such a set -/
def rInSt (neg : Bool) : R2 := fun x y H Q => ∃ (k : Int) (b : Addr) (S : Int → Bool) (n : Nat), x = V.int k ∧ y = V.ref b ∧ H b = some (.set S n) ∧ Q (.bl (if neg then !S k else S k)) H
theorem op_in_set {X : Cx} : OpR X (compareOp .In) (rInSt false) := by
  intro pins sh σ H x y v u Q I r1 r2 hyp
  obtain ⟨k, b, S, n, rfl, rfl, hb, q⟩ := hyp
  obtain ⟨tk, rfl⟩ := r1
  cases r2
  have hS : sh.heap.SetOf (intKind X.prog X.w) b S n := I.hok b _ hb
  exact PySem.wpAny_inSet_of (PySem.intKind_is _ _ _ _) rfl hS ⟨.bl (S k), H, I.tok _, rfl, q⟩
/-- the pairs of enumerate over the tuple at a -/
def Itu (K : PySem.W.Frag) (a : Addr) : It where
  go i H := ∃ (ys : List V) (y : V), SqT K H a ys ∧ ys[i]? = some y
  yld i H v H' := ∃ (p : Addr) (y : V), v = .ref p ∧ H p = Option.none ∧ H' = upd H p (.tup [.int (i : Nat), y]) ∧ ∀ ys, SqT K H a ys → ys[i]? = some y
  stop i H := ∃ ys : List V, SqT K H a ys ∧ ys.length = i
theorem turn_enumT {P : Program} {w : World} {K : PySem.W.Frag} {elts : List Expr} {kk : Nat} {tpos : Pos} (a en it : Addr) (na : a ≠ it) (ne : en ≠ it) (nea : en ≠ a) :
    Turn P w K (.Tuple elts kk tpos) (Itu K a) [en, it] en (fun i h => (∃ old, IsEnum h en it ((i : Nat) : Int) old) ∧ h.IsTupleIter it a i) where
  mem := List.mem_cons_self
  obj := by
    rintro i h ⟨⟨old, he⟩, ⟨o, ho, hc, hd⟩⟩ b hb
    rcases List.mem_cons.mp hb with rfl | hb
    · exact ⟨_, he, fun v z => nomatch z⟩
    · rw [List.mem_singleton.mp hb]
      exact ⟨o, ho, fun v z => by rw [hd] at z; cases z⟩
  keep := by
    rintro i h h' ⟨⟨old, he⟩, hi⟩ kp
    exact ⟨⟨old, kp en List.mem_cons_self _ he⟩, hi.at fun o z => kp it (List.mem_cons_of_mem _ List.mem_cons_self) o z⟩
  item := by
    intro X hP hw hK calm i pins sh σ H E I fp st hg
    subst hP hw hK
    obtain ⟨⟨old, he⟩, hit⟩ := st
    obtain ⟨ys, y, hy, hix⟩ := hg
    obtain ⟨its, rv, tp, _⟩ := I.tuple hy
    obtain ⟨u, hu, ru⟩ := rv.get hix
    have hT : sh.heap.IsTuple a its.toArray := tp
    have hlen : i < its.toArray.size := by
      rw [List.size_toArray]
      exact (List.getElem?_eq_some_iff.mp hu).1
    have len : en < sh.heap.objs.size := Heap.lt_size he
    have lit : it < sh.heap.objs.size := by
      obtain ⟨_, z, _⟩ := hit
      exact Heap.lt_size z
    refine wpAny_pyNext_enum_itemD (Draws.tuple (by simp [I.ok.hd calm]) it a na its.toArray) he ⟨hit, hT⟩ hlen ne (by simp [ne, nea]) fun x h' tk hx ho hst hnew hsz kp => ?_
    have ex : x = u := by
      rw [List.getElem?_toArray, hu] at hx
      exact (Option.some.inj hx).symm
    subst ex
    refine ⟨_, rfl, wpAny_letOwnedTupleGo_enum (s := { sh with heap := h', toks := tk + 1 }) ho fun h2 he2 sb => ?_⟩
    have new2 : h2.get? sh.heap.objs.size = some { cls := .type "tuple", data := .seq #[.int i tk, x] } := (sb.2 _ (Nat.ne_of_gt len)).trans hnew
    have okN : ObjOk X.prog X.w (upd H sh.heap.objs.size (.tup [.int (i : Nat), y])) h2 sh.heap.objs.size (.tup [.int (i : Nat), y]) := by
      refine ⟨(by show 2 ≤ sizeLine; decide), [.int i tk, x], .cons ⟨_, rfl⟩ (.cons ru .nil), ?_⟩
      exact ⟨_, new2, rfl, _, rfl⟩
    have I2 : Inv X pins σ (upd H sh.heap.objs.size (.tup [.int (i : Nat), y])) { sh with heap := h2, toks := tk + 1 } := by
      refine I.turnedNew (ch := [en, it]) (fun b ob hb z => ?_) fp (Nat.le_refl _) okN
      have b1 : b ≠ en := fun q => hb (by rw [q]; exact List.mem_cons_self)
      have b2 : b ≠ it := fun q => hb (by rw [q]; exact List.mem_cons_of_mem _ List.mem_cons_self)
      exact (sb.2 b b1).trans (kp b ob b1 b2 z)
    refine ⟨.ref sh.heap.objs.size, _, I2, rfl, ⟨_, y, rfl, I.hok.fresh (Nat.le_refl _), rfl, fun zs hz => ?_⟩, ⟨⟨x, ?_⟩, hst.1.at fun o z => (sb.2 it (Ne.symm ne)).trans z⟩, fun b hb => ?_⟩
    · rw [I.tuple_inj hz hy]
      exact hix
    · have e1 : ((i + 1 : Nat) : Int) = (i : Int) + 1 := by omega
      rw [e1]
      exact he2
    · have lb : b < sh.heap.objs.size := by
        rcases List.mem_cons.mp hb with rfl | hb
        · exact len
        · rw [List.mem_singleton.mp hb]
          exact lit
      rw [upd_ne (Nat.ne_of_lt lb)]
      exact (fp b hb).1
  done := by
    intro X hP hw hK calm i pins sh σ H E I fp st hg
    subst hP hw hK
    obtain ⟨⟨old, he⟩, hit⟩ := st
    obtain ⟨ys, hy, rfl⟩ := hg
    obtain ⟨its, rv, tp, _⟩ := I.tuple hy
    have hT : sh.heap.IsTuple a its.toArray := tp
    have e : ys.length = its.toArray.size := by
      rw [List.size_toArray]
      exact rv.length
    rw [e] at hit
    obtain ⟨g0, g1, g2, g3, g4, g5⟩ := fp it (List.mem_cons_of_mem _ List.mem_cons_self)
    exact wpAny_pyNext_enum_endD (Draws.tuple (by simp [I.ok.hd calm]) it a na its.toArray) he ⟨hit, hT⟩ fun h' eb => ⟨rfl, I.turned (t' := sh.toks) (fun b o hb z => eb b o hb z) g0 g1 g3 g4 g5⟩
  self := by
    rintro A i s Q E ⟨⟨_, he⟩, _⟩ h
    exact wpAny_pyIter_enum he h
theorem meets_enum1 {v : Value} {o : Obj} {Z : Heap → Prop} (B : Begins v o Z) :
    Meets (Builtin.«enumerate.__new__» ⟨[.type "enumerate", v], []⟩) (fun _ R s => Z s.heap ∧
      R (.ok (.ret (.ref (s.heap.push o).objs.size))) { s with heap := (s.heap.push o).push { cls := .type "enumerate", data := .fields #[.none, .bool false, .ref s.heap.objs.size, rawInt 0, .none, .none] } }) :=
  .of_wp fun prog w A R s hyp => by
    obtain ⟨hp, g, d, tk, os⟩ := s
    obtain ⟨hz, hyp⟩ := hyp
    have sube := sub_enumerate
    have step : ∀ {A' : Around} {E' : Value → Shared → Prop} {Q' : Value → Shared → Prop}, Q' (.ref hp.objs.size) ⟨hp.push o, g, d, tk, os⟩ → wpAny (model prog w) A' (pyIter v) Q' E' ⟨hp, g, d, tk, os⟩ :=
      fun z => B.iter prog w _ _ ⟨hp, g, d, tk, os⟩ _ hz z
    wp_walk using step
    refine wpAny_stack_any fun st => wpAny_pure ?_
    split
    · rename_i c _ _ _ _ _
      cases (c == Value.type "enumerate") <;> (wp_walk using step; exact ⟨_, rfl, hyp⟩)
    · wp_walk using step
      exact ⟨_, rfl, hyp⟩
theorem call_enum1 {prog : Program} {w : World} {A : Around} {E : Value → Shared → Prop} {s : Shared} {v : Value} {o : Obj} {Z : Heap → Prop} {Q : Value → Shared → Prop} (B : Begins v o Z) (hz : Z s.heap)
    (fin : ∀ h', IsEnum h' (s.heap.objs.size + 1) s.heap.objs.size 0 .none → h'.get? s.heap.objs.size = some o → (∀ b u, s.heap.get? b = some u → h'.get? b = some u) → Q (.ref (s.heap.objs.size + 1)) { s with heap := h' }) :
    wpAny (model prog w) A (call (.type "enumerate") [v]) Q E s := by
  have size1 : (s.heap.push o).objs.size = s.heap.objs.size + 1 := Heap.size_push ..
  refine callType_new F.called_enumerate (by decide) (F.typeCall_enumerate_1 _) (F.newCall_enumerate_1 _) (fun obj => F.args_object_init_2 obj _) F.entry_enumerate_new (meets_enum1 B) ⟨hz, ?_⟩
  rw [size1]
  have isE : IsEnum ((s.heap.push o).push { cls := .type "enumerate", data := .fields #[.none, .bool false, .ref s.heap.objs.size, rawInt 0, .none, .none] }) (s.heap.objs.size + 1) s.heap.objs.size 0 .none := by
    have z := Heap.get?_push_size (s.heap.push o) (o := { cls := .type "enumerate", data := .fields #[.none, .bool false, .ref s.heap.objs.size, rawInt 0, .none, .none] }) rfl
    rwa [size1] at z
  exact ⟨⟨_, isE, rfl⟩, fin _ isE (Heap.get?_push_of_some _ (Heap.get?_push_size _ B.free)) fun b u z => Heap.get?_push_of_some _ (Heap.get?_push_of_some _ z)⟩
def iEnumT (K : PySem.W.Frag) (ta : TA) : TI := fun σ H R => ta σ H fun vs H1 => ∃ (a : Addr) (ys : List V), vs = [.ref a] ∧ SqT K H1 a ys ∧ R (Itu K a) H1
theorem pi_enumT {X : Cx} {e : Expr} {ta : TA} {p pos tpos : Pos} {elts : List Expr} {kk : Nat} (gl : Gl X "enumerate") (no : X.mg "enumerate" = none) (pa : PA X [e] ta) (plain : starEach [e] X.env = [(false, eval e X.env)] := by rfl) :
    PI X (.Tuple elts kk tpos) (.Call (.Name "enumerate" p) [e] [] pos) (iEnumT X.K ta) := by
  constructor
  intro pins s σ H R I hyp
  refine PyProof.Rows.Call_ (ld_blt I gl no boot_enumerate (PyProof.Rows.callWith_type1 (thn (pa.run pos pins s σ H _ I hyp) fun us s1 got => ?_) plain rfl))
  obtain ⟨vs, H1, I1, rel, a, ys, rfl, hy, q⟩ := got
  rw [Vals.ref1 rel]
  obtain ⟨its, rv, tp, _⟩ := I1.tuple hy
  have hT : s1.heap.IsTuple a its.toArray := tp
  have la : a < s1.heap.objs.size := by
    obtain ⟨_, z, _⟩ := hT
    exact Heap.lt_size z
  refine call_enum1 (begins_tuple a its.toArray) hT fun h' isE hit kp => wpAny_pyIter_enum isE ?_
  have I2 : Inv X pins σ H1 { s1 with heap := h' } := I1.kept (t' := s1.toks) kp
  refine ⟨s1.heap.objs.size + 1, [s1.heap.objs.size + 1, s1.heap.objs.size], _, _, H1, rfl, I2, turn_enumT a (s1.heap.objs.size + 1) s1.heap.objs.size (Nat.ne_of_lt la) (Nat.succ_ne_self _) (Nat.ne_of_gt (Nat.lt_succ_of_lt la)), ⟨⟨.none, isE⟩, _, hit, rfl, rfl⟩, fun b hb => ?_, q⟩
  have le : s1.heap.objs.size ≤ b := by
    rcases List.mem_cons.mp hb with rfl | hb
    · exact Nat.le_succ _
    · rw [List.mem_singleton.mp hb]
      exact Nat.le_refl _
  exact I1.fpOk le (I1.hok.fresh le)
/-- the forms that one uses: a word by the turn -/
theorem for_enumT {K : PySem.W.Frag} {a : Addr} {ys : List V} {g : TG} {tb : TS} {D : Ends} {σ : L2.St} {H : Hp} (Pv : Nat → L2.St → Hp → Prop) (h0 : Pv 0 σ H) (src : ∀ i σ H, i ≤ ys.length → Pv i σ H → SqT K H a ys)
    (turn : ∀ i y σ H p, ys[i]? = some y → Pv i σ H → H p = Option.none → g (.ref p) σ (upd H p (.tup [.int (i : Nat), y])) fun σ2 H2 => tb { D with nx := Pv (i + 1), ct := Pv (i + 1), bk := D.nx } σ2 H2) (fin : ∀ σ H, Pv ys.length σ H → D.nx σ H) :
    ∃ W : Nat → Nat → L2.St → Hp → Prop, (∃ m, W 0 m σ H) ∧ ∀ i m σ H, W i m σ H →
      ((Itu K a).stop i H ∧ D.nx σ H) ∨ ((Itu K a).go i H ∧ ∃ N : L2.St → Hp → Prop, (∀ σ' H', N σ' H' → ∃ m', m' < m ∧ W (i + 1) m' σ' H') ∧ ∀ x H', (Itu K a).yld i H x H' → g x σ H' fun σ2 H2 => tb { D with nx := N, ct := N, bk := D.nx } σ2 H2) := by
  refine ⟨fun i m σ H => m + i = ys.length ∧ Pv i σ H, ⟨ys.length, Nat.add_zero _, h0⟩, ?_⟩
  rintro i m σ H ⟨em, pv⟩
  have s := src i σ H (by omega) pv
  rcases Nat.lt_or_ge i ys.length with lt | ge
  · refine .inr ⟨⟨ys, ys[i], s, List.getElem?_eq_getElem lt⟩, Pv (i + 1), fun σ' H' z => ⟨m - 1, by omega, by omega, z⟩, ?_⟩
    rintro x H' ⟨p, y, rfl, hp, rfl, hy⟩
    exact turn i y σ H p (hy ys s) pv hp
  · have e : i = ys.length := by omega
    subst e
    exact .inl ⟨⟨ys, s, rfl⟩, fin σ H pv⟩
theorem lc_enumT {K : PySem.W.Frag} {a : Addr} {ys : List V} {g : TG} {tt : TT} {te : TE} {vs : List Nat} {σ : L2.St} {H1 : Hp} {D : Addr} {Qd : Hp → Prop} (Pv : Nat → Hp → Prop) (h0 : Pv 0 (upd H1 D (.lst []))) (src : ∀ i H, i ≤ ys.length → Pv i H → SqT K H a ys)
    (turn : ∀ i y H p, ys[i]? = some y → Pv i H → H p = Option.none → g (.ref p) (wipe σ vs) (upd H p (.tup [.int (i : Nat), y])) fun σ2 H2 => wipe σ2 vs = wipe σ vs ∧ tt σ2 H2 fun b H3 =>
      if b = true then te σ2 H3 fun y H4 => ∃ acc, H4 D = some (.lst acc) ∧ acc.length < sizeLine ∧ Pv (i + 1) (upd H4 D (.lst (acc ++ [y]))) else Pv (i + 1) H3) (fin : ∀ H, Pv ys.length H → Qd H) :
    ∃ W : Nat → Nat → Hp → Prop, (∃ m, W 0 m (upd H1 D (.lst []))) ∧ ∀ i m H, W i m H →
      ((Itu K a).stop i H ∧ Qd H) ∨ ((Itu K a).go i H ∧ ∃ Nx : Hp → Prop, (∀ H', Nx H' → ∃ m', m' < m ∧ W (i + 1) m' H') ∧ ∀ x H', (Itu K a).yld i H x H' → g x (wipe σ vs) H' fun σ2 H2 => wipe σ2 vs = wipe σ vs ∧ tt σ2 H2 fun b H3 =>
        if b = true then te σ2 H3 fun y H4 => ∃ acc, H4 D = some (.lst acc) ∧ acc.length < sizeLine ∧ Nx (upd H4 D (.lst (acc ++ [y]))) else Nx H3) := by
  refine ⟨fun i m H => m + i = ys.length ∧ Pv i H, ⟨ys.length, Nat.add_zero _, h0⟩, ?_⟩
  rintro i m H ⟨em, pv⟩
  have s := src i H (by omega) pv
  rcases Nat.lt_or_ge i ys.length with lt | ge
  · refine .inr ⟨⟨ys, ys[i], s, List.getElem?_eq_getElem lt⟩, Pv (i + 1), fun H' z => ⟨m - 1, by omega, by omega, z⟩, ?_⟩
    rintro x H' ⟨p, y, rfl, hp, rfl, hy⟩
    exact turn i y H p (hy ys s) pv hp
  · have e : i = ys.length := by omega
    subst e
    exact .inl ⟨⟨ys, s, rfl⟩, fin H pv⟩
/-- sum(t), t a tuple of ints -/
def rSumT (K : PySem.W.Frag) : List V → Hp → VK → Prop := fun vs H Q => ∃ (a : Addr) (zs : List Int), vs = [V.ref a] ∧ SqT K H a (zs.map V.int) ∧ Q (.int zs.sum) H
theorem cr_sumT {X : Cx} (calm : X.calm = true) : CallR X (.builtin "sum") (rSumT X.K) := by
  intro pins sh σ H vs us Q I rel hyp
  obtain ⟨a, zs, rfl, hz, q⟩ := hyp
  rw [Vals.ref1 rel]
  obtain ⟨its, rv, tp, _⟩ := I.tuple hz
  have hT : sh.heap.IsTuple a its.toArray := tp
  have isI : IntsAre its zs := Vals.ints rv
  obtain ⟨xs, ex⟩ := isI.allInts.items
  have en : numsOf (intItems xs).toList = zs := by
    rw [← ex]
    exact isI.numsOf
  rw [nums_intItems] at en
  rw [ex] at hT
  refine PySem.W.ktm_sumG (I.ok.hd calm) hT fun h' tk t' kp => ?_
  rw [preSum_eq, List.take_of_length_le (by simp), en]
  exact ⟨.int zs.sum, H, I.kept kp, ⟨_, rfl⟩, q⟩
/-- enumerate over a list, by a word -/
theorem for_enumL {K : PySem.W.Frag} {a : Addr} {ys : List V} {g : TG} {tb : TS} {D : Ends} {σ : L2.St} {H : Hp} (Pv : Nat → L2.St → Hp → Prop) (h0 : Pv 0 σ H) (src : ∀ i σ H, i ≤ ys.length → Pv i σ H → SqL K H a ys)
    (turn : ∀ i y σ H p, ys[i]? = some y → Pv i σ H → H p = Option.none → g (.ref p) σ (upd H p (.tup [.int (i : Nat), y])) fun σ2 H2 => tb { D with nx := Pv (i + 1), ct := Pv (i + 1), bk := D.nx } σ2 H2) (fin : ∀ σ H, Pv ys.length σ H → D.nx σ H) :
    ∃ W : Nat → Nat → L2.St → Hp → Prop, (∃ m, W 0 m σ H) ∧ ∀ i m σ H, W i m σ H →
      ((Ite K a).stop i H ∧ D.nx σ H) ∨ ((Ite K a).go i H ∧ ∃ N : L2.St → Hp → Prop, (∀ σ' H', N σ' H' → ∃ m', m' < m ∧ W (i + 1) m' σ' H') ∧ ∀ x H', (Ite K a).yld i H x H' → g x σ H' fun σ2 H2 => tb { D with nx := N, ct := N, bk := D.nx } σ2 H2) := by
  refine ⟨fun i m σ H => m + i = ys.length ∧ Pv i σ H, ⟨ys.length, Nat.add_zero _, h0⟩, ?_⟩
  rintro i m σ H ⟨em, pv⟩
  have s := src i σ H (by omega) pv
  rcases Nat.lt_or_ge i ys.length with lt | ge
  · refine .inr ⟨⟨ys, ys[i], s, List.getElem?_eq_getElem lt⟩, Pv (i + 1), fun σ' H' z => ⟨m - 1, by omega, by omega, z⟩, ?_⟩
    rintro x H' ⟨p, y, rfl, hp, rfl, hy⟩
    exact turn i y σ H p (hy ys s) pv hp
  · have e : i = ys.length := by omega
    subst e
    exact .inl ⟨⟨ys, s, Nat.le_refl _⟩, fin σ H pv⟩
/-- k in xs, xs a list of ints -/
theorem inV_ints (zs : List Int) (k : Int) : inV (V.int k) (zs.map V.int) = decide (k ∈ zs) := by
  induction zs with
  | nil => rfl
  | cons a r ih =>
    have e : inV (V.int k) ((a :: r).map V.int) = (eqV (V.int a) (V.int k) || inV (V.int k) (r.map V.int)) := rfl
    rw [e, ih]
    by_cases h : a = k
    · subst h
      simp [eqV]
    · have h' : ¬ k = a := fun z => h z.symm
      simp [eqV, h, h']
theorem flat_ints (zs : List Int) : (zs.map V.int).all flatV = true := by
  rw [List.all_eq_true]
  intro x hx
  obtain ⟨z, _, rfl⟩ := List.mem_map.mp hx
  rfl
end

/-! ### the data: a statement as the tuple that it is -/
inductive Kd where
  | prop | pre | com
  deriving DecidableEq
def Kd.s : Kd → Str
  | .prop => "proposal"
  | .pre => "prevote"
  | .com => "precommit"
structure Sm where
  k : Kd
  h : Int
  t : Int
  b : Option Str
  l : Option Int
def oS : Option Str → V
  | none => .non
  | some x => .str x
def oI : Option Int → V
  | none => .non
  | some x => .int x
def Sm.vals (m : Sm) : List V := match m.k with
  | .pre => [.str m.k.s, .int m.h, .int m.t, oS m.b, oI m.l]
  | _ => [.str m.k.s, .int m.h, .int m.t, oS m.b]
def SmAt (H : Hp) (p : Addr) (m : Sm) : Prop := H p = some (.tup m.vals)
theorem at0 (m : Sm) : atI m.vals 0 = some (.str m.k.s) := by
  cases m with | mk k h t b l => cases k <;> rfl
theorem at1 (m : Sm) : atI m.vals 1 = some (.int m.h) := by
  cases m with | mk k h t b l => cases k <;> rfl
theorem at2 (m : Sm) : atI m.vals 2 = some (.int m.t) := by
  cases m with | mk k h t b l => cases k <;> rfl
theorem at3 (m : Sm) : atI m.vals 3 = some (oS m.b) := by
  cases m with | mk k h t b l => cases k <;> rfl
theorem at4 (m : Sm) (e : m.k = .pre) : atI m.vals 4 = some (oI m.l) := by
  cases m with | mk k h t b l => cases k <;> first | rfl | cases e
theorem ks_pp : ¬ (("proposal" : Str) = "prevote") := by decide +kernel
theorem ks_pc : ¬ (("proposal" : Str) = "precommit") := by decide +kernel
theorem ks_vc : ¬ (("prevote" : Str) = "precommit") := by decide +kernel
theorem ks_vp : ¬ (("prevote" : Str) = "proposal") := fun e => ks_pp e.symm
theorem ks_cp : ¬ (("precommit" : Str) = "proposal") := fun e => ks_pc e.symm
theorem ks_cv : ¬ (("precommit" : Str) = "prevote") := fun e => ks_vc e.symm
theorem kd_inj (a b : Kd) : a.s = b.s ↔ a = b := by
  cases a <;> cases b <;> simp [Kd.s, ks_pp, ks_pc, ks_vc, ks_vp, ks_cp, ks_cv]
theorem dec_kd (a b : Kd) : decide (V.str a.s = V.str b.s) = decide (a = b) := by
  rw [Bool.eq_iff_iff, decide_eq_true_iff, decide_eq_true_iff]
  constructor
  · intro e
    injection e with e
    exact (kd_inj a b).mp e
  · intro e
    rw [e]
theorem kprop (a : Kd) : (V.str a.s = V.str "proposal") = (a = .prop) := propext (by simpa [Kd.s] using decide_eq_decide.mp (dec_kd a .prop))
theorem kpre (a : Kd) : (V.str a.s = V.str "prevote") = (a = .pre) := propext (by simpa [Kd.s] using decide_eq_decide.mp (dec_kd a .pre))
theorem kcom (a : Kd) : (V.str a.s = V.str "precommit") = (a = .com) := propext (by simpa [Kd.s] using decide_eq_decide.mp (dec_kd a .com))
theorem koS (a b : Option Str) : (oS a = oS b) = (a = b) := propext (by
  cases a <;> cases b <;> simp [oS])
theorem koSn (a : Option Str) : (oS a = V.non) = (a = none) := koS a none
theorem koIn (a : Option Int) : (oI a = V.non) = (a = none) := by cases a <;> simp [oI]
theorem dec_oS (a b : Option Str) : decide (oS a = oS b) = decide (a = b) := by
  rw [Bool.eq_iff_iff, decide_eq_true_iff, decide_eq_true_iff]
  constructor
  · intro e
    cases a <;> cases b <;> first | rfl | cases e
    rfl
  · intro e
    rw [e]
theorem dec_oSn (a : Option Str) : decide (oS a = V.non) = decide (a = none) := dec_oS a none
theorem dec_oIn (a : Option Int) : decide (oI a = V.non) = decide (a = none) := by
  cases a <;> rfl
theorem scal_oS (a b : Option Str) : scal (oS a) (oS b) = true := by
  cases a <;> cases b <;> rfl
/-! ### the mirror -/
def abandM (x y : Sm) : Bool :=
  if x.k = .com ∧ y.k = .pre ∧ x.b ≠ none ∧ y.b ≠ none ∧ x.b ≠ y.b ∧ x.t < y.t then (match y.l with | none => true | some l => decide (l < x.t)) else false
def clashM (x y : Sm) : Bool :=
  if x.h ≠ y.h then false
  else if x.k = y.k then (decide (x.k ≠ .prop) && (decide (x.t = y.t) && decide (x.b ≠ y.b)))
  else (abandM x y || abandM y x)
theorem clashM_comm (x y : Sm) : clashM x y = clashM y x := by
  unfold clashM
  by_cases h1 : x.h = y.h
  · by_cases h2 : x.k = y.k
    · simp only [h1, h2, ne_eq, not_true_eq_false, if_false, if_true]
      congr 1
      congr 1
      · exact decide_eq_decide.mpr ⟨Eq.symm, Eq.symm⟩
      · exact decide_eq_decide.mpr ⟨Ne.symm, Ne.symm⟩
    · have h3 : ¬ y.k = x.k := fun e => h2 e.symm
      simp only [h1, h2, h3, ne_eq, not_true_eq_false, if_false, Bool.or_comm]
  · have h3 : ¬ y.h = x.h := fun e => h1 e.symm
    simp only [h1, h3, ne_eq, not_false_eq_true, if_true]
def OkS (b : Option Str) : Prop := ∀ x, b = some x → PyData.strOk x = true
theorem okA : OkS (some "a") := fun x e => by
  cases e
  decide +kernel
theorem okB : OkS (some "b") := fun x e => by
  cases e
  decide +kernel
theorem okN : OkS none := fun x e => nomatch e
theorem pick5 {i : Int} (h0 : 0 ≤ i) (h5 : i < 5) : ∃ b : Option Str, atI [V.str "a", V.str "b", V.str "a", V.str "b", V.non] i = some (oS b) ∧ OkS b := by
  have h : i = 0 ∨ i = 1 ∨ i = 2 ∨ i = 3 ∨ i = 4 := by omega
  rcases h with rfl | rfl | rfl | rfl | rfl
  · exact ⟨some "a", rfl, okA⟩
  · exact ⟨some "b", rfl, okB⟩
  · exact ⟨some "a", rfl, okA⟩
  · exact ⟨some "b", rfl, okB⟩
  · exact ⟨none, rfl, okN⟩
def Sm.dat (m : Sm) : List PyData := match m.k with
  | .pre => [.str m.k.s, .int m.h, .int m.t, (match m.b with | none => .none | some x => .str x), (match m.l with | none => .none | some x => .int x)]
  | _ => [.str m.k.s, .int m.h, .int m.t, (match m.b with | none => .none | some x => .str x)]
theorem dp_oS {K : PySem.W.Frag} {H : Hp} (b : Option Str) : Dp K H (oS b) (match b with | none => .none | some x => .str x) := by
  cases b with
  | none => exact .non
  | some x => exact .str x
theorem dp_oI {K : PySem.W.Frag} {H : Hp} (b : Option Int) : Dp K H (oI b) (match b with | none => .none | some x => .int x) := by
  cases b with
  | none => exact .non
  | some x => exact .int x
theorem dp_sm {K : PySem.W.Frag} {H : Hp} {p : Addr} {m : Sm} (h : H p = some (.tup m.vals)) : Dp K H (.ref p) (.tuple m.dat) := by
  refine .tup (SqT.of h) ?_
  obtain ⟨mk, mh, mt, mb, ml⟩ := m
  cases mk
  · exact .cons (.str _) (.cons (.int _) (.cons (.int _) (.cons (dp_oS _) .nil)))
  · exact .cons (.str _) (.cons (.int _) (.cons (.int _) (.cons (dp_oS _) (.cons (dp_oI _) .nil))))
  · exact .cons (.str _) (.cons (.int _) (.cons (.int _) (.cons (dp_oS _) .nil)))
theorem ks_ok (k : Kd) : PyData.strOk k.s = true := by
  cases k <;> decide +kernel
theorem shaped_sm (m : Sm) (o : OkS m.b) : SeqAt.shaped (.tuple m.dat) = true := by
  obtain ⟨mk, mh, mt, mb, ml⟩ := m
  cases mk <;> cases mb <;> cases ml <;> simp [Sm.dat, SeqAt.shaped, PyData.canLay0, PyData.canLayAll0, PyData.depth, PyData.depthAll, ks_ok] <;> exact o _ rfl
theorem eqv_sm (m : Sm) (o : OkS m.b) : PyData.eqv (.tuple m.dat) (.tuple m.dat) = true := SeqAt.eqv_refl _ (by
  obtain ⟨mk, mh, mt, mb, ml⟩ := m
  cases mk <;> cases mb <;> cases ml <;> simp [Sm.dat, PyData.canLay0, PyData.canLayAll0, ks_ok] <;> exact o _ rfl)
def spVote (K : PySem.W.Frag) : Sp := fun vs H Q _ => ∃ (p : Addr) (m : Sm), vs = [.ref p] ∧ SmAt H p m ∧ ∀ H', Same H H' → Q (.bl (decide (m.k ≠ .prop))) H'
def spAband (K : PySem.W.Frag) : Sp := fun vs H Q _ => ∃ (p q : Addr) (m n : Sm), vs = [.ref p, .ref q] ∧ SmAt H p m ∧ SmAt H q n ∧ ∀ H', Same H H' → Q (.bl (abandM m n)) H'
def spClash (K : PySem.W.Frag) : Sp := fun vs H Q _ => ∃ (p q : Addr) (m n : Sm), vs = [.ref p, .ref q] ∧ SmAt H p m ∧ SmAt H q n ∧ ∀ H', Same H H' → Q (.bl (clashM m n)) H'

/-! ### letters, lists of letters, what is due -/
structure Lt where
  w : Int
  m : Sm
instance : Inhabited Lt := ⟨⟨0, ⟨.prop, 0, 0, none, none⟩⟩⟩
def LtAt (H : Hp) (p : Addr) (x : Lt) : Prop := ∃ q, H p = some (.tup [.int x.w, .ref q]) ∧ SmAt H q x.m
theorem LtAt.same {H H' : Hp} {p : Addr} {x : Lt} (h : LtAt H p x) (s : Same H H') : LtAt H' p x := by
  obtain ⟨q, h1, h2⟩ := h
  exact ⟨q, s _ _ h1, s _ _ h2⟩
theorem ne_lst {H : Hp} {p l : Addr} {xs ys : List V} (h : H p = some (.tup xs)) (hl : H l = some (.lst ys)) : p ≠ l := fun e => by
  rw [e, hl] at h
  cases h
theorem LtAt.upd {H : Hp} {p l : Addr} {x : Lt} {ys : List V} {o : HO} (h : LtAt H p x) (hl : H l = some (.lst ys)) : LtAt (upd H l o) p x := by
  obtain ⟨q, h1, h2⟩ := h
  have h2' : H q = some (.tup x.m.vals) := h2
  refine ⟨q, ?_, ?_⟩
  · rw [upd_ne (ne_lst h1 hl)]
    exact h1
  · unfold SmAt
    rw [upd_ne (ne_lst h2' hl)]
    exact h2
def LsAt (H : Hp) (ps : List Addr) (xs : List Lt) : Prop := ps.length = xs.length ∧ ∀ i, i < xs.length → LtAt H (ps.getD i 0) (xs.getD i default)
theorem LsAt.nil {H : Hp} : LsAt H [] [] := ⟨rfl, fun i h => absurd h (Nat.not_lt_zero i)⟩
theorem LsAt.same {H H' : Hp} {ps : List Addr} {xs : List Lt} (h : LsAt H ps xs) (s : Same H H') : LsAt H' ps xs := ⟨h.1, fun i hi => (h.2 i hi).same s⟩
theorem LsAt.upd {H : Hp} {ps : List Addr} {xs : List Lt} {l : Addr} {ys : List V} {o : HO} (h : LsAt H ps xs) (hl : H l = some (.lst ys)) : LsAt (upd H l o) ps xs := ⟨h.1, fun i hi => (h.2 i hi).upd hl⟩
theorem getD_left {α : Type} {d : α} {xs ys : List α} {i : Nat} (h : i < xs.length) : (xs ++ ys).getD i d = xs.getD i d := by
  rw [List.getD_eq_getElem?_getD, List.getD_eq_getElem?_getD, List.getElem?_append_left h]
theorem getD_last {α : Type} {d : α} {xs : List α} {x : α} : (xs ++ [x]).getD xs.length d = x := by
  rw [List.getD_eq_getElem?_getD, List.getElem?_append_right (Nat.le_refl _), Nat.sub_self]
  rfl
theorem LsAt.snoc {H : Hp} {ps : List Addr} {xs : List Lt} {p : Addr} {x : Lt} (h : LsAt H ps xs) (e : LtAt H p x) : LsAt H (ps ++ [p]) (xs ++ [x]) := by
  refine ⟨by rw [List.length_append, List.length_append, h.1]; rfl, fun i hi => ?_⟩
  rw [List.length_append, List.length_singleton] at hi
  rcases Nat.lt_or_ge i xs.length with z | z
  · rw [getD_left (by rw [h.1]; exact z), getD_left z]
    exact h.2 i z
  · have ei : i = xs.length := by omega
    subst ei
    rw [getD_last]
    have : (ps ++ [p]).getD xs.length 0 = p := by rw [← h.1, getD_last]
    rw [this]
    exact e
theorem at_refs {ps : List Addr} {i : Nat} (h : i < ps.length) : (ps.map V.ref)[i]? = some (.ref (ps.getD i 0)) := by
  rw [List.getElem?_map, List.getD_eq_getElem?_getD, List.getElem?_eq_getElem h]
  rfl
def ownOf (xs : List Lt) (who : Int) : List Lt := xs.filter fun x => decide (x.w = who)
theorem take_succ_getD {α : Type} {d : α} {xs : List α} {i : Nat} (h : i < xs.length) : xs.take (i + 1) = xs.take i ++ [xs.getD i d] := by
  rw [List.take_add_one, List.getElem?_eq_getElem h, List.getD_eq_getElem?_getD, List.getElem?_eq_getElem h]
  rfl
theorem own_yes {xs : List Lt} {who : Int} {i : Nat} (h : i < xs.length) (e : (xs.getD i default).w = who) : ownOf (xs.take (i + 1)) who = ownOf (xs.take i) who ++ [xs.getD i default] := by
  unfold ownOf
  rw [take_succ_getD (d := default) h, List.filter_append, List.filter_cons_of_pos (by exact decide_eq_true e)]
  rfl
theorem own_no {xs : List Lt} {who : Int} {i : Nat} (h : i < xs.length) (e : ¬ (xs.getD i default).w = who) : ownOf (xs.take (i + 1)) who = ownOf (xs.take i) who := by
  unfold ownOf
  rw [take_succ_getD (d := default) h, List.filter_append, List.filter_cons_of_neg (by simpa using e), List.filter_nil, List.append_nil]
theorem own_len (xs : List Lt) (who : Int) : (ownOf xs who).length ≤ xs.length := List.length_filter_le _ _
theorem own_mem {xs : List Lt} {who : Int} {x : Lt} (h : x ∈ ownOf xs who) : x ∈ xs ∧ x.w = who := by
  unfold ownOf at h
  rw [List.mem_filter] at h
  exact ⟨h.1, of_decide_eq_true h.2⟩
theorem getD_mem2 {α : Type} {d : α} {xs : List α} {i : Nat} (h : i < xs.length) : xs.getD i d ∈ xs := by
  rw [List.getD_eq_getElem?_getD, List.getElem?_eq_getElem h]
  exact List.getElem_mem h
/-- the first letter before place n with which the one at place a clashes -/
def rowDue (own : List Lt) (a : Nat) : Nat → Option (Lt × Lt)
  | 0 => none
  | n + 1 => match rowDue own a n with
    | some r => some r
    | none => if clashM (own.getD n default).m (own.getD a default).m then some (own.getD n default, own.getD a default) else none
def colDue (own : List Lt) : Nat → Option (Lt × Lt)
  | 0 => none
  | n + 1 => match colDue own n with
    | some r => some r
    | none => rowDue own n n
def due (own : List Lt) : Option (Lt × Lt) := colDue own own.length
theorem row_mono {own : List Lt} {a i : Nat} {r : Lt × Lt} (h : rowDue own a i = some r) : ∀ d, rowDue own a (i + d) = some r
  | 0 => h
  | d + 1 => by
    show rowDue own a (i + d + 1) = some r
    rw [rowDue, row_mono h d]
theorem col_mono {own : List Lt} {i : Nat} {r : Lt × Lt} (h : colDue own i = some r) : ∀ d, colDue own (i + d) = some r
  | 0 => h
  | d + 1 => by
    show colDue own (i + d + 1) = some r
    rw [colDue, col_mono h d]
theorem row_no {own : List Lt} {a n : Nat} (h : rowDue own a n = none) (c : clashM (own.getD n default).m (own.getD a default).m = false) : rowDue own a (n + 1) = none := by
  rw [rowDue, h]
  show (if _ then _ else _) = _
  rw [c]
  rfl
theorem due_at {own : List Lt} {a n : Nat} (ha : a < own.length) (hn : n < a) (hc : colDue own a = none) (h : rowDue own a n = none) (c : clashM (own.getD n default).m (own.getD a default).m = true) :
    due own = some (own.getD n default, own.getD a default) := by
  have h1 : rowDue own a (n + 1) = some (own.getD n default, own.getD a default) := by
    rw [rowDue, h]
    show (if _ then _ else _) = _
    rw [c]
    rfl
  have h2 : rowDue own a a = some (own.getD n default, own.getD a default) := by
    have := row_mono h1 (a - (n + 1))
    rwa [Nat.add_sub_cancel' hn] at this
  have h3 : colDue own (a + 1) = some (own.getD n default, own.getD a default) := by
    rw [colDue, hc]
    exact h2
  have := col_mono h3 (own.length - (a + 1))
  rw [Nat.add_sub_cancel' ha] at this
  exact this
theorem col_no {own : List Lt} {a : Nat} (hc : colDue own a = none) (h : rowDue own a a = none) : colDue own (a + 1) = none := by
  rw [colDue, hc]
  exact h
theorem row_ok {own : List Lt} {a : Nat} (ha : a < own.length) : ∀ n, n ≤ own.length → ∀ f s, rowDue own a n = some (f, s) → f ∈ own ∧ s ∈ own ∧ clashM f.m s.m = true
  | 0, _, f, s, h => nomatch h
  | n + 1, hn, f, s, h => by
    rw [rowDue] at h
    split at h
    · rename_i r e
      cases h
      exact row_ok ha n (Nat.le_of_lt hn) f s e
    · split at h
      · rename_i c
        cases h
        exact ⟨getD_mem2 hn, getD_mem2 ha, c⟩
      · cases h
theorem col_ok {own : List Lt} : ∀ n, n ≤ own.length → ∀ f s, colDue own n = some (f, s) → f ∈ own ∧ s ∈ own ∧ clashM f.m s.m = true
  | 0, _, f, s, h => nomatch h
  | n + 1, hn, f, s, h => by
    rw [colDue] at h
    split at h
    · rename_i r e
      cases h
      exact col_ok n (Nat.le_of_lt hn) f s e
    · exact row_ok hn n (Nat.le_of_lt hn) f s h
theorem due_ok {own : List Lt} {f s : Lt} (h : due own = some (f, s)) : f ∈ own ∧ s ∈ own ∧ clashM f.m s.m = true := col_ok _ (Nat.le_refl _) f s h
def DueAt (H : Hp) (v : V) : Option (Lt × Lt) → Prop
  | none => v = .non
  | some r => ∃ p a b, v = .ref p ∧ H p = some (.tup [.ref a, .ref b]) ∧ LtAt H a r.1 ∧ LtAt H b r.2
def OkL (xs : List Lt) : Prop := ∀ x ∈ xs, OkS x.m.b
def Lt.dat (x : Lt) : PyData := .tuple [.int x.w, .tuple x.m.dat]
theorem dp_lt {K : PySem.W.Frag} {H : Hp} {p : Addr} {x : Lt} (h : LtAt H p x) : Dp K H (.ref p) x.dat := by
  obtain ⟨q, h1, h2⟩ := h
  exact .tup (SqT.of h1) (.cons (.int _) (.cons (dp_sm h2) .nil))
theorem lay_sm (m : Sm) (o : OkS m.b) : PyData.canLay0 (.tuple m.dat) = true := by
  have h := shaped_sm m o
  exact (Bool.and_eq_true_iff.mp h).1
theorem depth_sm (m : Sm) : PyData.depth (.tuple m.dat) = 1 := by
  obtain ⟨mk, mh, mt, mb, ml⟩ := m
  cases mk <;> cases mb <;> cases ml <;> simp [Sm.dat, PyData.depth, PyData.depthAll]
theorem lay_lt {x : Lt} (o : OkS x.m.b) : PyData.canLay0 x.dat = true := by
  simp only [Lt.dat, PyData.canLay0, PyData.canLayAll0, Bool.true_and, Bool.and_true]
  exact lay_sm x.m o
theorem depth_lt (x : Lt) : PyData.depth x.dat = 2 := by
  have h := depth_sm x.m
  simp only [Lt.dat, PyData.depth, PyData.depthAll] at h ⊢
  omega
theorem shaped_lt {x : Lt} (o : OkS x.m.b) : SeqAt.shaped x.dat = true := by
  unfold SeqAt.shaped
  rw [lay_lt o, depth_lt]
  rfl
theorem eqv_lt {x : Lt} (o : OkS x.m.b) : PyData.eqv x.dat x.dat = true := SeqAt.eqv_refl _ (lay_lt o)
theorem LsAt.cons {H : Hp} {p : Addr} {ps : List Addr} {x : Lt} {xs : List Lt} (h : LsAt H (p :: ps) (x :: xs)) : LtAt H p x ∧ LsAt H ps xs :=
  ⟨h.2 0 (Nat.succ_pos _), Nat.succ.inj h.1, fun i hi => h.2 (i + 1) (Nat.succ_lt_succ hi)⟩
theorem dp_lts {K : PySem.W.Frag} {H : Hp} : ∀ {ps : List Addr} {xs : List Lt}, LsAt H ps xs → DpAll K H (ps.map V.ref) (xs.map Lt.dat)
  | [], [], _ => .nil
  | p :: ps, x :: xs, h => .cons (dp_lt h.cons.1) (dp_lts h.cons.2)
  | [], x :: xs, h => nomatch h.1
  | p :: ps, [], h => nomatch h.1
theorem lay_lts : ∀ {xs : List Lt}, OkL xs → PyData.canLayAll0 (xs.map Lt.dat) = true
  | [], _ => by simp [PyData.canLayAll0]
  | x :: xs, o => by
    simp only [List.map_cons, PyData.canLayAll0]
    rw [lay_lt (o x List.mem_cons_self), lay_lts fun y hy => o y (List.mem_cons_of_mem _ hy)]
    rfl
theorem depth_lts : ∀ xs : List Lt, PyData.depthAll (xs.map Lt.dat) ≤ 2
  | [] => by simp [PyData.depthAll]
  | x :: xs => by
    have := depth_lts xs
    have := depth_lt x
    simp only [List.map_cons, PyData.depthAll]
    omega
theorem shaped_lts {xs : List Lt} (o : OkL xs) : SeqAt.shaped (.list (xs.map Lt.dat)) = true := by
  have h := depth_lts xs
  unfold SeqAt.shaped
  have e : PyData.depth (.list (xs.map Lt.dat)) = PyData.depthAll (xs.map Lt.dat) + 1 := by simp only [PyData.depth]
  have l : PyData.canLay0 (.list (xs.map Lt.dat)) = true := by simp only [PyData.canLay0, lay_lts o]
  rw [l, e, decide_eq_true (show PyData.depthAll (xs.map Lt.dat) + 1 ≤ 64 by omega)]
  rfl
theorem eqv_lts {xs : List Lt} (o : OkL xs) : PyData.eqv (.list (xs.map Lt.dat)) (.list (xs.map Lt.dat)) = true := SeqAt.eqv_refl _ (by
  simp only [PyData.canLay0, lay_lts o])

/-! ### an own error over ValueError whose __init__(self, x) says super().__init__(a message) and self.field = x -/
section
open PySem.W (ksEnv ksFn ks_superIn kxs_mw)
/-- the context of such an __init__ -/
def cxSup (CX : CXT) (P : Program) (w : World) (K : PySem.W.Frag) (mg : Str → Option Value) (base : Heap) (N : List Str) (qual : Str) (scope : Scope) (f : Addr) (cd : Value) (cc : Addr) (A : Around) (outer : List Env) (s : Shared) (H : Hp) (E : XK) : Cx where
  prog := P
  w := w
  K := K
  mg := mg
  base := base
  A := A.deeper (ksEnv qual scope s.heap.objs.size f cd cc)
  N := N
  s_0 := s
  H_0 := H
  env := ksEnv qual scope s.heap.objs.size f cd cc
  outer := outer
  stack := ksEnv qual scope s.heap.objs.size f cd cc :: outer
  ex := []
  fn := fun _ => false
  calm := true
  pn := []
  xe := fun e s' => wpAny (model P w) (A.deeper (ksEnv qual scope s.heap.objs.size f cd cc)) (leaving (ksEnv qual scope s.heap.objs.size f cd cc) e) (fun _ s2 => CX outer H s E e s2) (fun e2 s2 => CX outer H s E e2 s2) s'
/-- what the written part says of the class at C and of its __init__ at f -/
structure SupCls (P : Program) (K : PySem.W.Frag) (C : Addr) (qual par fld : Str) (st : Stmt) (f : Addr) (fd : FuncData) : Prop where
  fn : ∃ (oc od : _) (kV doc pm : Value) (an : Option Addr) (cda : Addr) (ct : Value) (osl : Array (Option Value)) (cc : Addr) (cl : Value) (cld : Option Addr) (csl : Array (Option Value)) (ccl : Value) (cdd : Option Addr) (vs : Array Value) (ccs : Array (Option Value)) (file : Str) (tf : Tok),
    fd = ksFn "__init__" qual (defArgs st) (defBody st) (defScope st) .none kV doc pm an (.ref cda) ct cc ∧ K.lookup f = some ⟨oc, od, .func fd, osl⟩ ∧ PySem.W.codeIn K (.ref cda) qual = true ∧
    K.lookup cc = some ⟨cl, cld, .cell (some (.ref C)), csl⟩ ∧ K.lookup cda = some ⟨ccl, cdd, .fields vs, ccs⟩ ∧ vs[2]? = some (.str file tf) ∧ ((P.main.file : Str) == file) = true
  oex : OexC K C
  sup : ks_superIn K C C "__init__" = some (some (.builtin "ValueError.__init__"))
  opq : PySem.W.nsIn K cStatics "thirdparty.any" = some none
  subV : PySem.W.subIn K (.ref C) (.type "ValueError") = some true
  mroC : PySem.W.mroIn K C (.ref C) = some true
  nof : PySem.W.findIn K (.ref C) fld = some none
  topS : (P.main.scope.names.lookup ("super" : Str)).isSome = false
/-- the shape of the text -/
structure SupTxt (par fld : Str) (st : Stmt) (msg : Expr) (p0 p1 p2 p3 p4 p5 p6 p7 p8 : Pos) : Prop where
  body : defBody st = [.Expr (.Call (.Attribute (.Call (.Name "super" p0) [] [] p1) "__init__" p2) [msg] [] p3) p4, .Assign [.Attribute (.Name "self" p5) fld p6] (.Name par p7) p8]
  kind : (defScope st).kind = .function
  co : (defScope st).isCoroutine = false
  gen : (defScope st).isGenerator = false
  s1 : (defScope st).names.lookup ("self" : Str) = some .local
  s2 : (defScope st).names.lookup par = some .local
  s3 : (defScope st).names.lookup ("__class__" : Str) = some .free
  s4 : (defScope st).names.lookup ("super" : Str) = some .globalImplicit
  only : ∀ y ∈ (defScope st).names, y.2 ≠ .cell ∧ (y.2 = .free → y.1 = "__class__")
  ps : ∃ ar, ((defArgs st).posonlyargs ++ (defArgs st).args).head? = some ar ∧ ar.arg = "self"
theorem inv_sup {CX : CXT} {P : Program} {w : World} {K : PySem.W.Frag} {mg : Str → Option Value} {base : Heap} {par qual : Str} {scope : Scope} {f cc : Addr} {cd : Value} {A : Around} {outer : List Env} {s : Shared} {h1 : Heap} {H : Hp} {E : XK} {u0 u1 : Value} {v0 v1 : V} {tk : Nat} {D : Value}
    (kind : scope.kind = .function) (only : ∀ y ∈ scope.names, y.2 ≠ .cell ∧ (y.2 = .free → y.1 = ("__class__" : Str))) (l1 : scope.names.lookup ("self" : Str) = some .local) (l2 : scope.names.lookup par = some .local) (np : ¬ ("self" : Str) = par)
    (hd : A.handled = none) (e0 : Env0 P w K mg base A outer s H) (r0 : RelV v0 u0) (r1 : RelV v1 u1)
    (cell : s.heap.IsCell cc (some D)) (free : H cc = Option.none) (small : cc < s.heap.objs.size)
    (ns : h1.Ns s.heap.objs.size (fun x => [(par, u1), (("self" : Str), u0)].lookup x)) (kp : ∀ b o, s.heap.get? b = some o → h1.get? b = some o) :
    L2.Inv (cxSup CX P w K mg base ["self", par] qual scope f cd cc A outer s H E) [] (start ["self", par] [v0, v1]) H { s with heap := h1, toks := tk } := by
  have one : ∀ (x : Str) (c : Addr), (ksEnv qual scope s.heap.objs.size f cd cc).cells.lookup x = some c → x = "__class__" ∧ c = cc := fun x c e => by
    have e' : [(("__class__" : Str), cc)].lookup x = some c := e
    by_cases z : x = "__class__"
    · subst z
      exact ⟨rfl, (Option.some.inj ((show some cc = some c from by simpa [List.lookup] using e'))).symm⟩
    · have b : (x == ("__class__" : Str)) = false := by simpa using z
      simp [List.lookup, b] at e'
  have noA : ∀ b : Addr, b ∉ (cxSup CX P w K mg base ["self", par] qual scope f cd cc A outer s H E).ex := fun b z => absurd (show b ∈ ([] : List Addr) from z) (by simp)
  have ok : (cxSup CX P w K mg base ["self", par] qual scope f cd cc A outer s H E).Ok := {
    mod := e0.mod
    kind := kind
    glob := rfl
    blt := rfl
    above := Nat.le_refl _
    inj := fun x y c h1 h2 => (one x c h1).1.trans (one y c h2).1.symm
    has := fun x hx => by
      have hx' : scope.names.lookup x = some .cell ∨ scope.names.lookup x = some .free := hx
      rcases hx' with hx' | hx'
      · exact absurd rfl (only _ (PySem.mem_of_lookup hx')).1
      · have e : x = "__class__" := (only _ (PySem.mem_of_lookup hx')).2 rfl
        subst e
        exact ⟨cc, rfl⟩
    cab := fun x c h => Bool.noConfusion h
    hd := fun _ => hd
    frames := Around.frames_deeper e0.frames
    stk := .inr ⟨rfl, rfl⟩
    exf := fun b z => absurd z (noA b)
    bs := e0.bs
    bsz := e0.bsz
    noex := fun b _ _ => noA b
    exfs := fun b z => absurd z (noA b)
    funs := e0.funs
    frf := e0.frf }
  exact {
    ok := ok
    os := rfl
    bare := e0.bare
    base := Un.kept kp
    loc := ⟨_, ns, fun i x v h1 h2 h3 => by
      match i, h1, h2 with
      | 0, h1, h2 =>
        cases h1
        cases h2
        refine ⟨u0, r0, .inl ⟨l1, ?_⟩⟩
        show [(par, u1), (("self" : Str), u0)].lookup ("self" : Str) = some u0
        have b : (("self" : Str) == par) = false := by simpa using np
        simp [List.lookup, b]
      | 1, h1, h2 =>
        cases h1
        cases h2
        refine ⟨u1, r1, .inl ⟨l2, ?_⟩⟩
        show (match par == par with | true => some u1 | false => [(("self" : Str), u0)].lookup par) = some u1
        rw [beq_self_eq_true]
      | i + 2, h1, h2 =>
        have h3 : (["self", par] : List Str)[i + 2]? = some x := h1
        simp at h3⟩
    cell := fun x c e => by
      obtain ⟨_, rfl⟩ := one x c e
      obtain ⟨o, ho, hc⟩ := cell
      exact ⟨_, o, kp _ _ ho, hc⟩
    free := e0.hok.fresh (Nat.le_refl _)
    freeC := fun x c e => by
      obtain ⟨_, rfl⟩ := one x c e
      exact free
    pin := fun p hp => absurd (show p ∈ ([] : List (Addr × Obj)) from hp) (by simp)
    hok := e0.hok.kept kp
    len := rfl }
/-- what such an __init__ promises -/
def spSup (C : Addr) (fld : Str) (good : V → Prop) : Sp := fun vs H Q _ => ∃ (e : Addr) (v : V), vs = [.ref e, v] ∧ H e = some (exo e C Option.none) ∧ good v ∧
  ∀ dx, H dx = Option.none → dx ≠ e → Q .non (upd (upd H dx (exd dx [(fld, v)])) e (exo e C (some dx)))
theorem exo_again {X : Cx} {pins : List (Addr × Obj)} {σ : L2.St} {H : Hp} {a C t1 : Addr} {hp h' : Heap} {g : Array GenState} {d : Drawn} {t t' : Nat} {os : OsState} (I : L2.Inv X pins σ H ⟨hp, g, d, t, os⟩) (e : H a = some (exo a C Option.none))
    (kp : ∀ b o, b ≠ a → hp.get? b = some o → h'.get? b = some o) (hx : h'.get? a = some ({ cls := .ref C, dict := Option.none, data := .fields #[.ref t1, .none, .none, .none, .bool false, .none] } : Obj)) : L2.Inv X pins σ H ⟨h', g, d, t', os⟩ := by
  have same : upd H a (exo a C Option.none) = H := by
    funext b
    unfold upd
    split
    · rename_i z
      rw [z, e]
    · rfl
  have J := I.write (t' := t') (x := a) (e := a) (o := exo a C Option.none) (by rw [e]; exact True.intro) (.inl rfl) kp ⟨_, hx⟩ (exo_ok hx)
  rwa [same] at J
/-- the bound ValueError.__init__, called: the error's arguments are laid anew, nothing of it is told -/
theorem call_mw {X : Cx} {pins : List (Addr × Obj)} {σ : L2.St} {H : Hp} {s : Shared} {e C u : Addr} {rest : List Value} {Q : Value → Shared → Prop} {E : Value → Shared → Prop} (T : OexC X.K C) (I : L2.Inv X pins σ H s) (he : H e = some (exo e C Option.none)) (hu : s.heap.get? u = some (kxs_mw "ValueError.__init__" e))
    (few : rest.length ≤ sizeLine) (fin : ∀ s', L2.Inv X pins σ H s' → Q .none s') : wpAny (model X.prog X.w) X.A (call (.ref u) rest) Q E s := by
  obtain ⟨nm, qn, N, bs, bm, sn, sub, ab, col, dd, k0, k1, k2, k3, k5, hC, hbm⟩ := T.cls
  obtain ⟨t1, ho⟩ := exo_at I.hok he
  have hC' := I.kIn _ _ hC
  obtain ⟨hp, g, d, tk, os⟩ := s
  refine wpAny_call (codeAny_of_tree ?_)
  show wpAny _ X.A.in1 (callAny (.ref u) ⟨rest, []⟩) _ _ _
  unfold callAny
  refine wpAny_bind (wpAny_load hu ?_)
  have b : (Value.type "method-wrapper" == Value.type "method" || Value.type "method-wrapper" == Value.type "builtin_function_or_method" ||
      Value.type "method-wrapper" == Value.type "method-wrapper") = true := by decide
  simp only [b, if_true]
  refine PySem.W.KFB.if_so (by decide) (wpAny_bind ?_)
  refine PySem.W.check_bound_init F.excBase_ValueError.toExcCallFacts hC' ho rfl (wpAny_bind (wpAny_pure (wpAny_pure ⟨plainId_quiet F.excBase_ValueError.init.plain _, ?_⟩)))
  refine codeAny_builtin F.excBase_ValueError.initEntry ?_
  exact PySem.W.exc_init_tree (cls := .ref C) (t0 := t1) (dv := Option.none) (c2 := .none) (c3 := .none) (b4 := .bool false) ho few fun h' kp hx _ => fin _ (exo_again I he kp hx)
/-- THE RULE: such an __init__ keeps its promise -/
theorem ok_sup {CX : CXT} {P : Program} {w : World} {K : PySem.W.Frag} {mg : Str → Option Value} {base : Heap} {C f : Addr} {fd : FuncData} {qual par fld : Str} {st : Stmt} {msg : Expr} {p0 p1 p2 p3 p4 p5 p6 p7 p8 : Pos} {good : V → Prop}
    (S : SupCls P K C qual par fld st f fd) (T : SupTxt par fld st msg p0 p1 p2 p3 p4 p5 p6 p7 p8) (np : ¬ ("self" : Str) = par) (nd : (par == ("__debug__" : Str)) = false) (nc : (par == ("__classdict__" : Str)) = false) (noS : mg "super" = Option.none)
    (hmsg : ∀ (cd : Value) (cc : Addr) (A : Around) (outer : List Env) (s : Shared) (H : Hp) (E : XK) (e : Addr) (v : V), good v →
      ∃ ta, PA (cxSup CX P w K mg base ["self", par] qual (defScope st) f cd cc A outer s H E) [msg] ta ∧ ∀ H1 Q, (∀ x, Q [x] H1) → ta (start ["self", par] [.ref e, v]) H1 Q)
    (star : ∀ env, starEach [msg] env = [(false, eval msg env)]) (inter : ∀ L g cd cc, interactive (ksEnv qual (defScope st) L g cd cc) = false) (swap : ∀ L g cd cc, swapsWith (.Call (.Attribute (.Call (.Name "super" p0) [] [] p1) "__init__" p2) [msg] [] p3) Option.none p4.line (ksEnv qual (defScope st) L g cd cc) = pure false)
    (swap2 : ∀ L g cd cc, swapsWith (.Name par p7) (some (.Attribute (.Name "self" p5) fld p6)) p8.line (ksEnv qual (defScope st) L g cd cc) = pure false)
    (pl : Sem Bool) (he : ∀ (env : Env), eval (.Call (.Attribute (.Call (.Name "super" p0) [] [] p1) "__init__" p2) [msg] [] p3) env = (do
      let ov ← attributeBase (.Call (.Name "super" p0) [] [] p1) "__init__" env (eval (.Call (.Name "super" p0) [] [] p1) env)
      standAt p2.atName
      let (f, first) ← holding [ov] (getMethod ov "__init__" pl)
      callWith p3 f first (backTo p3 (starEach [msg] env)) [])) :
    FnOk P w K mg base CX 1 f fd ["self", par] (spSup C fld good) := by
  obtain ⟨oc, od, kV, doc, pm, an, cda, ct, osl, cc, cl, cld, csl, ccl, cdd, vs, ccs, file, tf, rfl, lk, hcd, hcell, hcode, hvs, hfile⟩ := S.fn
  refine ⟨fun vs H Q E h => ?_, fun A outer s H args us vs0 Q E hr e0 hb rel hsp => ?_⟩
  · obtain ⟨e, v, rfl, _⟩ := h
    rfl
  obtain ⟨e, v, rfl, hexo, hgood, fin⟩ := hsp
  have KX : K.In s.heap := e0.mod.kin.keeps fun b o z => (e0.bs b o z).1
  have lim : s.heap.NoLimit := e0.mod.nolimit.keeps fun b o z => (e0.bs b o z).1
  obtain ⟨u0, u1, rfl, r0, r1⟩ := vals2 rel
  have isCell : s.heap.IsCell cc (some (.ref C)) := ⟨_, KX _ _ hcell, rfl⟩
  have freeC : H cc = Option.none := (e0.bs _ _ (e0.mod.kin _ _ hcell)).2
  refine ks_codeAny_call_defAt (fd := ksFn "__init__" qual (defArgs st) (defBody st) (defScope st) .none kV doc pm an (.ref cda) ct cc) (body := defBody st) (binds := [(("self" : Str), u0), (par, u1)]) hr.depth (KX _ _ lk) rfl lim (PySem.W.codeRec_of KX hcd) rfl hb (fun x hx => (T.only x hx).1) ?_ (fun h1 ns kp => ?_) T.co T.gen T.kind
  · intro y hy
    rcases List.mem_cons.mp hy with rfl | hy
    · exact T.s1
    · rw [List.mem_singleton.mp hy]
      exact T.s2
  have I : L2.Inv (cxSup CX P w K mg base ["self", par] qual (defScope st) f (.ref cda) cc A outer s H E) [] (start ["self", par] [.ref e, v]) H { s with heap := h1, toks := s.toks + 2 } :=
    inv_sup T.kind T.only T.s1 T.s2 np hr.hd e0 r0 r1 isCell freeC (Heap.lt_size (KX _ _ hcell)) ns kp
  show wpAt (model P w) (A.deeper (ksEnv qual (defScope st) s.heap.objs.size f (.ref cda) cc)) (.func (defBody st) (ksEnv qual (defScope st) s.heap.objs.size f (.ref cda) cc)) (execs (defBody st) (ksEnv qual (defScope st) s.heap.objs.size f (.ref cda) cc)) _ _ _
  rw [T.body]
  obtain ⟨hp, g, d, tk, os⟩ := s
  have up : ∀ b o, base.get? b = some o → h1.get? b = some o := fun b o z => kp b o (e0.bs b o z).1
  have K1 : K.In h1 := e0.mod.kin.keeps up
  obtain ⟨mb, hmb, hbb⟩ := e0.mod.blt
  obtain ⟨ar, har, earg⟩ := T.ps
  cases (show u0 = Value.ref e from r0)
  obtain ⟨t1, hx⟩ := exo_at I.hok hexo
  obtain ⟨nm, qn, N, bs, bm, sn, sub, ab, col, dd, k0, k1, k2, k3, k5, hC, hbm⟩ := S.oex.cls
  have hcl : PySem.W.clsIn K C = some { name := nm, bases := bs, mro := .ref C :: bm, ns := N, qualname := qn, hasDict := true, slotNames := sn, subclasses := sub, abstract := ab, collection := col, hasDel := false } := by
    unfold PySem.W.clsIn
    rw [hC]
  refine ks_wpAt_execs_cons (ks_wpAt_Expr_any (ks_wpAt_MethodCall (pl := pl) ?_ (he _)) (inter _ _ _ _) (swap _ _ _ _))
  refine ks_wpAt_super_base (env := ksEnv qual (defScope st) hp.objs.size f (.ref cda) cc) T.s4 T.s3 (by decide) rfl (kp _ _ (KX _ _ lk)) rfl har rfl (K1 _ _ hcode) rfl hvs hfile S.topS ?_
  refine PySem.W.ks_loadName_global T.kind T.s4 (PySem.Calls.loadGlobal_builtin (env := ksEnv qual (defScope st) hp.objs.size f (.ref cda) cc) (e0.mod.glob.keeps up) noS (hmb.keeps up) ((hbb "super" (by decide)).trans (by decide +kernel)) ⟨rfl, ?_⟩)
  refine wpAny_loadName_free T.kind T.s3 rfl ⟨_, K1 _ _ hcell, rfl⟩ ?_
  rw [earg]
  refine wpAny_loadName_local T.kind T.s1 ns (v := .ref e) ?_ ?_
  · show [(par, u1), (("self" : Str), Value.ref e)].lookup ("self" : Str) = some (.ref e)
    have b : (("self" : Str) == par) = false := by simpa using np
    simp [List.lookup, b]
  refine ks_wpAny_isType_cls (K1 _ _ hC) rfl ⟨rfl, ?_⟩
  refine ks_wpAny_call_super (K1 _ _ hC) rfl hx rfl (fun c z => by cases z) (PySem.W.looks_mroIn K1 S.mroC) (fun h2 hso kp2 => ?_)
  have K2 : K.In h2 := K1.keeps kp2
  have hx2 := kp2 _ _ hx
  have inst : PySem.W.InstAt h2 e { cls := .ref C, dict := Option.none, data := .fields #[.ref t1, .none, .none, .none, .bool false, .none] } C Option.none := ⟨hx2, rfl, rfl, trivial⟩
  have hf := S.sup
  unfold ks_superIn at hf
  rw [hcl] at hf
  have neC : e ≠ C := fun z => by
    have q := (e0.bs _ _ (e0.mod.kin _ _ hC)).2
    rw [← z, hexo] at q
    cases q
  refine PySem.W.kxs_getMethod PySem.W.kxs_ValueError hso (PySem.W.looks_opaque K2 S.opq) (l₀ := .ref C :: bm) ((PySem.W.looks_clsIn K2 hcl).andThen .now) rfl K2 hf (inst.type.andThen (PySem.W.looks_subIn K2 S.subV)) neC (by decide) ?_
  have hmw : (h2.push (kxs_mw "ValueError.__init__" e)).get? h2.objs.size = some (kxs_mw "ValueError.__init__" e) := Heap.get?_push_size _ rfl
  have kp3 : ∀ b o, h1.get? b = some o → (h2.push (kxs_mw "ValueError.__init__" e)).get? b = some o := fun b o z => Heap.get?_push_of_some _ (kp2 b o z)
  have Ih := I.kept (h' := h2) (t' := tk + 2) kp2
  have I2 := I.kept (h' := h2.push (kxs_mw "ValueError.__init__" e)) (t' := tk + 2 + 1) kp3
  have I3 : L2.Inv (cxSup CX P w K mg base ["self", par] qual (defScope st) f (.ref cda) cc A outer ⟨hp, g, d, tk, os⟩ H E) [(h2.objs.size, kxs_mw "ValueError.__init__" e)] (start ["self", par] [.ref e, v]) H ⟨h2.push (kxs_mw "ValueError.__init__" e), g, d, tk + 2 + 1, os⟩ := { I2 with
    pin := fun p hp' => by
      cases List.mem_singleton.mp hp'
      refine ⟨hmw, Ih.hok.fresh (Nat.le_refl _), Nat.ne_of_gt Ih.lt, Ih.nofs (Nat.le_refl _), fun c z => by cases z⟩ }
  obtain ⟨ta, pa, rd⟩ := hmsg (.ref cda) cc A outer ⟨hp, g, d, tk, os⟩ H E e v hgood
  have st1 := star (ksEnv qual (defScope st) hp.objs.size f (.ref cda) cc)
  have ran : wpAny (model P w) (A.deeper (ksEnv qual (defScope st) hp.objs.size f (.ref cda) cc)) (spliced (backTo p3 (starEach [msg] (ksEnv qual (defScope st) hp.objs.size f (.ref cda) cc)))) _ _ _ :=
    pa.run p3 _ _ _ _ (fun vs H1 => H1 = H ∧ vs.length = 1) I3 (rd H _ fun x => ⟨rfl, rfl⟩)
  show wpAny _ _ (callWith p3 (.ref h2.objs.size) [] (backTo p3 (starEach [msg] (ksEnv qual (defScope st) hp.objs.size f (.ref cda) cc))) []) _ _ _
  rw [st1] at ran ⊢
  refine PySem.W.kxs_callWith (i := "ValueError.__init__") (x := e) (u := h2.objs.size) rfl (PySem.Calls.evalArgs_plain (thn ran fun us s3 got => ?_))
  obtain ⟨vs1, H1, I4, rel1, rfl, len1⟩ := got
  have hu := (I4.pin _ List.mem_cons_self).1
  refine ⟨hu, call_mw S.oex I4 hexo hu (by show us.length ≤ sizeLine; rw [← Vals.length rel1, len1, sizeLine_eq]; decide) fun s4 I5 => ?_⟩
  have last : PSs (cxSup CX P w K mg base ["self", par] qual (defScope st) f (.ref cda) cc A outer ⟨hp, g, d, tk, os⟩ H1 E) [.Assign [.Attribute (.Name "self" p5) fld p6] (.Name par p7) p8] _ :=
    pss_one (ps_ost (pv 0 rfl (.inl T.s1)) (pv 1 rfl (.inl T.s2) nd nc) (swap2 _ _ _ _))
  refine wpAt_of_wpAny (thn (last.run _ s4 _ H1 { nx := fun _ H2 => Q .non H2, rt := Q } I5 ⟨v, rfl, .ref e, rfl, e, C, rfl, S.oex, S.nof, .inl ⟨hexo, fin⟩⟩) fun fl s5 got => ?_)
  cases fl with
  | next =>
    obtain ⟨σ', H', J, q⟩ := got
    exact ⟨V.non, H', J.os, J.bare, J.base, J.hok, rfl, q⟩
  | ret u =>
    obtain ⟨y, σ', H', J, ry, q⟩ := got
    exact ⟨y, H', J.os, J.bare, J.base, J.hok, ry, q⟩
  | brk =>
    obtain ⟨_, _, _, q⟩ := got
    exact q.elim
  | cont =>
    obtain ⟨_, _, _, q⟩ := got
    exact q.elim
end

/-! ### raising such an error where nothing is handled; a new object whose __init__ may raise; isinstance of a caught error -/
theorem fun_okN {P : Program} {w : World} {K : PySem.W.Frag} {mg : Str → Option Value} {base : Heap} {x qual : Str} {st : Stmt} {f : Addr} {fd : FuncData} {N ps : List Str} {k : Nat} {sp : Sp} (F : Fun K x qual st f fd) (S : FnScope N ps (defScope st))
    (len : ∀ vs H Q E, sp vs H Q E → vs.length = ps.length)
    (body : ∀ (cdv : Value) (A : Around) (outer : List Env) (s : Shared) (H : Hp) (vs : List V) (Q : VK) (E : XK), Room k (A.deeper (PyProof.Rows.envOfC qual (defScope st) s.heap.objs.size f cdv)) → sp vs H Q E →
      ∃ t, PSs (cxOf (L2N.CX P w) P w K mg base N qual (defScope st) f cdv A outer s H E) (defBody st) t ∧ t { nx := fun _ H' => Q .non H', rt := Q } (start N vs) H) : FnOk P w K mg base (L2N.CX P w) (k + 1) f fd ps sp := by
  obtain ⟨oc, od, kV, doc, pm, an, cdv, ct, osl, rfl, lk, hcd⟩ := F.ex
  exact fn_of lk hcd S len fun A outer s H vs Q E hr h => body cdv A outer s H vs Q E hr h
/-- a def that lets nothing out lets nothing out -/
theorem weak_cx {P : Program} {w : World} {K : PySem.W.Frag} {mg : Str → Option Value} {base : Heap} {CX : CXT} {k : Nat} {f : Addr} {fd : FuncData} {ps : List Str} {sp : Sp} (F : FnOk P w K mg base CX0 k f fd ps sp) : FnOk P w K mg base CX k f fd ps sp :=
  ⟨F.len, fun A outer s H args us vs Q E hr e0 hb r h => codeAny_mono (F.run A outer s H args us vs Q E hr e0 hb r h) fun res s' q => by
    cases res with
    | error e => exact False.elim q
    | ok fl => cases fl <;> exact q⟩
def tSup (C : Addr) (fld : Str) (good : V → Prop) (ta : TA) : L2.St → Hp → XK → Prop := fun σ H Q => ta σ H fun vs H1 => ∃ v, vs = [v] ∧ good v ∧ ∀ d, H1 d = Option.none → Q (.ref C) (some d) (upd H1 d (.xd [(fld, v)]))
theorem sup_heap {H : Hp} {a d C : Addr} {fs : List (Str × V)} (ha : H a = Option.none) (ne : d ≠ a) : upd (del (upd (upd (upd H a (exo a C Option.none)) d (exd d fs)) a (exo a C (some d))) a) d (.xd fs) = upd H d (.xd fs) := by
  funext b
  by_cases hd : b = d
  · subst hd
    rw [upd_same, upd_same]
  · rw [upd_ne hd, upd_ne hd]
    by_cases hb : b = a
    · subst hb
      rw [del_same, ha]
    · rw [del_ne hb, upd_ne hb, upd_ne hd, upd_ne hb]
theorem pmk_sup {X : Cx} {x fld par : Str} {e : Expr} {ta : TA} {p pos : Pos} {C fI : Addr} {fd : FuncData} {good : V → Prop} (T : OexC X.K C) (iC : PySem.W.findIn X.K (.ref C) "__init__" = some (some (.ref fI))) (tI : PySem.W.typeIn X.K (.ref fI) = some (.type "function"))
    (F1 : FnOk X.prog X.w X.K X.mg X.base CX0 1 fI fd ["self", par] (spSup C fld good)) (hr : Room 2 X.A) (hb : Binds X.K fd ["self", par] []) (hg : Gl X x) (hm : X.mg x = some (.ref C)) (ha : PA X [e] ta)
    (hdb : (x == ("__debug__" : Str)) = false := by decide) (he : starEach (e :: []) X.env = (false, eval e X.env) :: starEach [] X.env := by rfl) (hpl : (backTo pos (starEach [] X.env)).any (·.1) = false := by rfl) :
    L2N.PMk X (.Call (.Name x p) [e] [] pos) (tSup C fld good ta) := by
  intro pins s σ H Q I hyp
  obtain ⟨nm, qn, N, bs, bm, sn, sub, ab, col, dd, k0, k1, k2, k3, k5, hC, hbm⟩ := T.cls
  refine wpAny_Call_Name_kw (ld_glob I hg hm ?_ hdb)
  refine PySem.W.callWith_K (h₀ := X.base) I.ok.mod.kin T.kC (thn (ha.run pos pins s σ H _ I hyp) fun us s1 got => ?_) he hpl
  obtain ⟨vs, H1, I1, rel, v, rfl, gv, q⟩ := got
  refine ⟨I1.kIn, ?_⟩
  show wpAny _ _ (call (.ref C) us) _ _ _
  obtain ⟨hp, g, dr, tk, os⟩ := s1
  have above : hp.objs.size ≤ hp.objs.size + 1 := Nat.le_succ _
  have free : H1 (hp.objs.size + 1) = Option.none := I1.hok.fresh above
  have grown : ∀ b o, hp.get? b = some o → ((hp.push (PySem.W.kdv_tup us)).push (PySem.HandSPX.excO C hp.objs.size)).get? b = some o := fun b o z => Heap.get?_push_of_some _ (Heap.get?_push_of_some _ z)
  have there : ((hp.push (PySem.W.kdv_tup us)).push (PySem.HandSPX.excO C hp.objs.size)).get? (hp.objs.size + 1) = some (PySem.HandSPX.excO C hp.objs.size) := by heap_get
  have I2 := I1.laid (t' := tk) (a := hp.objs.size + 1) (o := exo (hp.objs.size + 1) C Option.none) (h' := (hp.push (PySem.W.kdv_tup us)).push (PySem.HandSPX.excO C hp.objs.size)) grown above (exo_ok there)
  have rel2 : Vals [V.ref (hp.objs.size + 1), v] (Value.ref (hp.objs.size + 1) :: us) := .cons rfl rel
  have two : (Value.ref (hp.objs.size + 1) :: us).length = 2 := rel2.length.symm
  have bind := hb ⟨(hp.push (PySem.W.kdv_tup us)).push (PySem.HandSPX.excO C hp.objs.size), g, dr, tk, os⟩ (Value.ref (hp.objs.size + 1) :: us) I2.kIn (by rw [List.append_nil]; exact two)
  rw [List.append_nil] at bind
  have few : us.length ≤ sizeLine := by
    rw [← Vals.length rel, sizeLine_eq]
    show 1 ≤ 16777216
    decide
  refine wpAny_call (PySem.HandSPX.call_own F.excBase_ValueError (fun Y => PySem.HandSPX.refsVE_contains Y bm hbm) (I1.kIn _ _ hC) (PySem.W.looks_findIn I1.kIn iC) (fun self => PySem.W.bind_fn I1.kIn self tI) few ?_)
  refine codeAny_mono (F1.run _ X.stack _ _ ⟨Value.ref (hp.objs.size + 1) :: us, []⟩ _ _ (fun y H2 => y = .non ∧ ∃ d, H1 d = Option.none ∧ d ≠ hp.objs.size + 1 ∧ H2 = upd (upd (upd H1 (hp.objs.size + 1) (exo (hp.objs.size + 1) C Option.none)) d (exd d [(fld, v)])) (hp.objs.size + 1) (exo (hp.objs.size + 1) C (some d)))
    (fun _ _ _ => False) ((hr.make (k := 1) C us [])) (I2.env0.make C us []) bind rel2 ⟨_, v, rfl, upd_same, gv, fun d hd nd => ⟨rfl, d, (by rwa [upd_ne nd] at hd), nd, rfl⟩⟩) fun res s2 fin => ?_
  cases res with
  | error z => exact False.elim fin
  | ok fl =>
    cases fl with
    | ret u =>
      obtain ⟨y, H2, os2, bare2, un2, hok2, ry, rfl, d, hd, nd, rfl⟩ := fin
      obtain ⟨h2, g2, d2, t2, os'⟩ := s2
      have ea : upd (upd (upd H1 (hp.objs.size + 1) (exo (hp.objs.size + 1) C Option.none)) d (exd d [(fld, v)])) (hp.objs.size + 1) (exo (hp.objs.size + 1) C (some d)) (hp.objs.size + 1) = some (exo (hp.objs.size + 1) C (some d)) := upd_same
      have ed : upd (upd (upd H1 (hp.objs.size + 1) (exo (hp.objs.size + 1) C Option.none)) d (exd d [(fld, v)])) (hp.objs.size + 1) (exo (hp.objs.size + 1) C (some d)) d = some (exd d [(fld, v)]) := by rw [upd_ne nd, upd_same]
      obtain ⟨t0, G, J, kG, ge, hoe, na⟩ := mk_end0 (d2 := d2) (t2 := t2) I1 above grown un2 hok2 os2 bare2 ea ed hd
      rw [sup_heap free nd] at J na
      refine ⟨ry, hp.objs.size + 1, _, _, ⟨G, g2, d2, t2, os'⟩, _, .ref C, some d, rfl, J, kG, ge, hoe, ⟨rfl, rfl, fun fv z => ?_⟩, rfl, rfl, na, rfl, bare2, raises_own T.exC T.tyC, q d hd⟩
      cases z
      rfl
    | next => exact False.elim fin
    | brk => exact False.elim fin
    | cont => exact False.elim fin
/-- C(e, ..) within a try: what __init__ lets out is wished for at the slots -/
def tMakeS (C : Addr) (sp : Sp) (E : L2.St → XK) (t : TA) : TE := fun σ H Q => t σ H fun vs H1 => ∀ x dx, H1 x = Option.none → H1 dx = Option.none → dx ≠ x → sp (.ref x :: vs) (upd (upd H1 dx (.own x)) x (.ins C dx [])) (fun v H2 => v = .non ∧ Q (.ref x) H2) (E σ)
theorem pe_makeS {X : Cx} {CX : CXT} {k : Nat} {f C : Addr} {fd : FuncData} {ps : List Str} {sp : Sp} {E : L2.St → XK} {x : Str} {p pos : Pos} {e : Expr} {es : List Expr} {t : TA} (M : Mk X.K C f) (F : FnOk X.prog X.w X.K X.mg X.base CX k f fd ps sp) (hr : Room (k + 1) X.A) (hg : Gl X x) (hm : X.mg x = some (.ref C))
    (hb : Binds X.K fd ps []) (hx : ∀ (pins : List (Addr × Obj)) (σ : L2.St) (H : Hp) (s : Shared) (u : Value) (s' : Shared), L2.Inv X pins σ H s → CX X.stack H s (E σ) u s' → X.xe u s')
    (ha : PA X (e :: es) t) (hdb : (x == ("__debug__" : Str)) = false := by decide) (he : starEach (e :: es) X.env = (false, eval e X.env) :: starEach es X.env := by rfl) (hpl : (backTo pos (starEach es X.env)).any (·.1) = false := by rfl) :
    PE X (.Call (.Name x p) (e :: es) [] pos) (tMakeS C sp E t) := by
  constructor
  intro pins s σ H Q I hyp
  refine wpAny_Call_Name_kw (ld_glob I hg hm ?_ hdb)
  refine PySem.W.callWith_K (h₀ := X.base) I.ok.mod.kin M.kp (thn (ha.run pos pins s σ H _ I hyp) fun us s1 got => ?_) he hpl
  obtain ⟨vs, H1, I1, rel, q⟩ := got
  refine ⟨I1.kIn, ?_⟩
  have I2 := Inv.made (C := C) I1
  have prom := q (s1.heap.objs.size + 1) s1.heap.objs.size (I1.hok.fresh (Nat.le_succ _)) (I1.hok.fresh (Nat.le_refl _)) (Nat.ne_of_lt (Nat.lt_succ_self _))
  have rel2 : Vals (V.ref (s1.heap.objs.size + 1) :: vs) (Value.ref (s1.heap.objs.size + 1) :: us) := .cons rfl rel
  have len : (Value.ref (s1.heap.objs.size + 1) :: us ++ []).length = ps.length := by
    rw [List.append_nil, ← F.len _ _ _ _ prom]
    exact rel2.length.symm
  have bind := hb _ (Value.ref (s1.heap.objs.size + 1) :: us) I2.kIn len
  rw [List.append_nil] at bind
  refine wpAny_call (make_map (f := f) I1.kIn M.makes M.init (beq_iff_eq.mp M.fn) (codeAny_mono (F.run _ X.stack _ _ ⟨Value.ref (s1.heap.objs.size + 1) :: us, []⟩ _ _ _ (E σ) (hr.make C us []) (I2.env0.make C us []) bind rel2 prom) fun res s2 fin => ?_))
  cases res with
  | error z => exact hx pins σ _ _ z s2 I2 fin
  | ok fl =>
    cases fl with
    | ret u =>
      obtain ⟨v, H', I3, rv, rfl, q3⟩ := I2.after fin
      exact ⟨rv, V.ref (s1.heap.objs.size + 1), H', I3, rfl, q3⟩
    | next => exact False.elim fin
    | brk => exact False.elim fin
    | cont => exact False.elim fin
/-- isinstance(e, a class), e the caught error of the class at D with its dict -/
structure XcC (K : PySem.W.Frag) (D : Addr) : Prop where
  cl : (PySem.W.clsIn K D).isSome = true
  ga : PySem.W.findIn K (.ref D) "__getattribute__" = some (some (.builtin "BaseException.__getattribute__"))
  gt : PySem.W.findIn K (.ref D) "__getattr__" = some Option.none
  sub : PySem.W.subIn K (.ref D) (.type "BaseException") = some true
  has : PySem.W.hasDictIn K D = true
  cls : PySem.W.findIn K (.ref D) "__class__" = some (some (.builtin "object.__class__"))
  get : PySem.W.specialIn K (.builtin "object.__class__") "__get__" = some (some (.builtin "getset_descriptor.__get__"))
  tk : PySem.W.takesIn K (.builtin "object.__class__") = some true
  obj : PySem.W.mroIn K D (.type "object") = some true
theorem xc_at {X : Cx} {pins : List (Addr × Obj)} {σ : L2.St} {H : Hp} {s : Shared} {a D dd : Addr} {oe : Obj} {pn : List (Addr × Obj)} {fs : List (Str × V)} (I : L2.Inv (X.suite a ((a, oe) :: pn)) pins σ H s) (hz : Zc (.ref D) (some dd) oe) (hf : ∃ vs, oe.data = .fields vs) (hd : H dd = some (.xd fs)) :
    ∃ od, PySem.W.InstAt s.heap a oe D (some od) := by
  obtain ⟨got, _⟩ := I.pin (a, oe) (List.mem_append_left _ List.mem_cons_self)
  obtain ⟨vs, hv⟩ := hf
  have x : ObjOk X.prog X.w H s.heap dd (.xd fs) := I.hok dd _ hd
  obtain ⟨mA, ⟨od, _, _, ho, _⟩, _⟩ := x
  obtain ⟨oc, odd, oda, osl⟩ := oe
  obtain ⟨h1, h2⟩ := hz
  dsimp only at h1 h2 hv
  subst h1 h2 hv
  exact ⟨od, got, rfl, rfl, ho⟩
def rIsX (K : PySem.W.Frag) (a : Addr) (cls : Value) (d : Option Addr) : List V → Hp → VK → Prop := fun xs H Q => ∃ (D dd : Addr) (c : V) (cv : Value) (b : Bool) (fs : List (Str × V)), xs = [.ref a, c] ∧ cls = .ref D ∧ d = some dd ∧ XcC K D ∧ ClsV c cv ∧ H dd = some (.xd fs) ∧
  PySem.W.kitOne K (.ref D) cv = some b ∧ Q (.bl b) H
theorem call_isX {X : Cx} {a : Addr} {cls : Value} {d : Option Addr} {oe : Obj} {pn : List (Addr × Obj)} (hz : Zc cls d oe) (hf : ∃ vs, oe.data = .fields vs) : CallR (X.suite a ((a, oe) :: pn)) (.builtin "isinstance") (rIsX X.K a cls d) := by
  intro pins sh σ H xs us Q I rel hyp
  obtain ⟨D, dd, c, cv, b, fs, rfl, rfl, rfl, C, hcv, hd, e, q⟩ := hyp
  obtain ⟨u1, u2, rfl, r1, r2⟩ := vals2 rel
  have e2 := hcv.eq r2
  subst e2
  cases r1
  obtain ⟨od, J⟩ := xc_at I hz hf hd
  exact PySem.W.kia_one (PySem.W.kitx_exc C.cl C.ga C.gt C.sub C.cls C.get C.tk C.obj) I.kIn J e (fun z => nomatch z) fun tk => ⟨.bl b, H, I.kept (t' := tk) fun _ _ z => z, rfl, q⟩
def rIsXT (K : PySem.W.Frag) (a : Addr) (cls : Value) (d : Option Addr) : List V → Hp → VK → Prop := fun xs H Q => ∃ (D dd tp : Addr) (cs : List V) (cvs : List Value) (b : Bool) (fs : List (Str × V)), xs = [.ref a, .ref tp] ∧ cls = .ref D ∧ d = some dd ∧ XcC K D ∧
  H tp = some (.tup cs) ∧ Paired ClsV cs cvs ∧ H dd = some (.xd fs) ∧ PySem.W.kitAny K (.ref D) cvs = some b ∧ Q (.bl b) H
theorem call_isXT {X : Cx} {a : Addr} {cls : Value} {d : Option Addr} {oe : Obj} {pn : List (Addr × Obj)} (hz : Zc cls d oe) (hf : ∃ vs, oe.data = .fields vs) : CallR (X.suite a ((a, oe) :: pn)) (.builtin "isinstance") (rIsXT X.K a cls d) := by
  intro pins sh σ H xs us Q I rel hyp
  obtain ⟨D, dd, tp, cs, cvs, b, fs, rfl, rfl, rfl, C, ht, hcs, hd, e, q⟩ := hyp
  obtain ⟨u1, u2, rfl, r1, r2⟩ := vals2 rel
  cases r1
  cases (show u2 = Value.ref tp from r2)
  obtain ⟨od, J⟩ := xc_at I hz hf hd
  have x : ObjOk X.prog X.w H sh.heap tp (.tup cs) := I.hok tp _ ht
  obtain ⟨_, its, rv, ⟨oc, odd, oda, osl⟩, h1, h2, n, h3⟩ := x
  have e3 := ClsV.all hcs rv
  subst e3
  simp only at h2 h3
  subst h2 h3
  exact PySem.W.kia_tup (PySem.W.kitx_exc C.cl C.ga C.gt C.sub C.cls C.get C.tk C.obj) I.kIn J h1 e (fun z => nomatch z) fun tk => ⟨.bl b, H, I.kept (t' := tk) fun _ _ z => z, rfl, q⟩
theorem takes0N {X : Cx} : L2N.Takes X (fun _ _ _ _ => False) := fun _ _ x => by
  obtain ⟨_, _, _, _, _, _, _, _, _, _, _, _, _, _, _, _, z⟩ := x
  exact z.elim
theorem hot_of {X : Cx} {a : Addr} {cls : Value} {d : Option Addr} {oe : Obj} {pn : List (Addr × Obj)} (hz : L2N.Zn cls d oe) (hf : ∃ vs, oe.data = .fields vs) : L2H.HotC (X.suite a ((a, oe) :: pn)) := by
  obtain ⟨vs, hv⟩ := hf
  exact ⟨(a, oe), ⟨rfl, vs, hv, hz.2.2 vs hv⟩, List.mem_cons_self⟩
theorem fun_okH {P : Program} {w : World} {K : PySem.W.Frag} {mg : Str → Option Value} {base : Heap} {x qual : Str} {st : Stmt} {f : Addr} {fd : FuncData} {N ps : List Str} {k : Nat} {sp : Sp} (F : Fun K x qual st f fd) (S : FnScope N ps (defScope st))
    (len : ∀ vs H Q E, sp vs H Q E → vs.length = ps.length)
    (body : ∀ (cdv : Value) (A : Around) (outer : List Env) (s : Shared) (H : Hp) (vs : List V) (Q : VK) (E : XK) (p : Addr × Obj), L2H.RoomH k (A.deeper (PyProof.Rows.envOfC qual (defScope st) s.heap.objs.size f cdv)) → sp vs H Q E →
      ∃ t, PSs (L2H.cxH CX0 P w K mg base N qual (defScope st) f cdv A outer s H E p) (defBody st) t ∧ t { nx := fun _ H' => Q .non H', rt := Q } (start N vs) H) : L2H.FnH P w K mg base CX0 (k + 1) f fd ps sp := by
  obtain ⟨oc, od, kV, doc, pm, an, cdv, ct, osl, rfl, lk, hcd⟩ := F.ex
  exact L2H.fn_ofH lk hcd S len fun A outer s H vs Q E p _ hr h => body cdv A outer s H vs Q E p hr h

/-! ### x in a dict of the module, x a text -/
section
open PyProof.Rows
/-- b: whether the dict has the key -/
def KHas (K : PySem.W.Frag) (w : World) (a : Addr) (x : Str) (b : Bool) : Prop := ∃ es n r, K.lookup a = some ⟨.type "dict", none, .dict es n, #[]⟩ ∧ PySem.W.KeysLit w.params es.toList ∧ (a == sysModules) = false ∧ PySem.W.nsIn K a x = some r ∧ b = r.isSome
theorem op_inKd {X : Cx} : OpR X (compareOp .In) (fun x y H Q => ∃ p z b, x = .str z ∧ y = .ref p ∧ KHas X.K X.w p z b ∧ Q (.bl b) H) := by
  intro pins s σ H x y v u Q I rx ry h
  obtain ⟨p, z, b, rfl, rfl, ⟨es, n, r, hl, hk, low, e, rfl⟩, q⟩ := h
  obtain ⟨t, rfl⟩ := rx
  obtain rfl : u = Value.ref p := ry
  refine wpAny_in_of (strKind_is X.prog X.w z t) low (PySem.W.mapOf_K (prog := X.prog) (w := X.w) I.kIn hl hk) ?_
  rw [PySem.W.find_K hl e]
  exact ⟨.bl _, H, I.tok _, rfl, q⟩
theorem op_notInKd {X : Cx} : OpR X (compareOp .NotIn) (fun x y H Q => ∃ p z b, x = .str z ∧ y = .ref p ∧ KHas X.K X.w p z b ∧ Q (.bl (!b)) H) := by
  intro pins s σ H x y v u Q I rx ry h
  obtain ⟨p, z, b, rfl, rfl, ⟨es, n, r, hl, hk, low, e, rfl⟩, q⟩ := h
  obtain ⟨t, rfl⟩ := rx
  obtain rfl : u = Value.ref p := ry
  refine wpAny_notIn_of (strKind_is X.prog X.w z t) low (PySem.W.mapOf_K (prog := X.prog) (w := X.w) I.kIn hl hk) ?_
  rw [PySem.W.find_K hl e]
  exact ⟨.bl _, H, I.tok _, rfl, q⟩
end
section
open PyProof.Rows
theorem nsIn_dict {K : PySem.W.Frag} {P : Params} {a : Addr} {es : Array DictEntry} {n : Nat} (hl : K.lookup a = some ⟨.type "dict", none, .dict es n, #[]⟩) (hk : PySem.W.KeysLit P es.toList) (x : Str) :
    PySem.W.nsIn K a x = some ((es.toList.find? fun d => d.key.isStr x).map (·.val)) := by
  unfold PySem.W.nsIn
  rw [hl]
  cases e : es.toList.find? fun d => d.key.isStr x with
  | some d => simp [e]
  | none =>
    have nr : (es.toList.any fun d => d.refKey) = false := by
      rw [List.any_eq_false]
      intro d hd
      obtain ⟨y, t, e1, _⟩ := hk.all d hd
      unfold DictEntry.refKey
      rw [e1]
      simp
    simp [e, nr]
/-- a dict of the module: its keys, texts, and what stands there -/
structure KTab (K : PySem.W.Frag) (w : World) (a : Addr) (kvs : List (Str × Addr)) : Prop where
  at_ : ∃ es n, K.lookup a = some ⟨.type "dict", none, .dict es n, #[]⟩ ∧ PySem.W.KeysLit w.params es.toList ∧ ∀ x : Str, (es.toList.find? fun d => d.key.isStr x).map (·.val) = (kvs.lookup x).map Value.ref
  low : (a == sysModules) = false
theorem KTab.has {K : PySem.W.Frag} {w : World} {a : Addr} {kvs : List (Str × Addr)} (h : KTab K w a kvs) (x : Str) : KHas K w a x (kvs.lookup x).isSome := by
  obtain ⟨es, n, hl, hk, e⟩ := h.at_
  refine ⟨es, n, _, hl, hk, h.low, nsIn_dict hl hk x, ?_⟩
  rw [e]
  cases kvs.lookup x <;> rfl
theorem KTab.get {K : PySem.W.Frag} {w : World} {a : Addr} {kvs : List (Str × Addr)} (h : KTab K w a kvs) {x : Str} {b : Addr} (hx : kvs.lookup x = some b) : KDct K w a x (.ref b) := by
  obtain ⟨es, n, hl, hk, e⟩ := h.at_
  have q := nsIn_dict hl hk x
  rw [e, hx] at q
  exact ⟨es, n, _, hl, hk, q, rfl⟩
theorem isStr_eq {x y : Str} {t : Tok} : (Value.str y t).isStr x = decide (x = y) := by
  show (y == x) = _
  by_cases h : x = y
  · rw [h, decide_eq_true rfl, beq_self_eq_true]
  · rw [decide_eq_false h, beq_eq_false_iff_ne.mpr fun e => h e.symm]
def TabEs : List DictEntry → List (Str × Addr) → Prop
  | [], [] => True
  | d :: l, kv :: r => (∃ t, d.key = .str kv.1 t ∧ d.val = .ref kv.2) ∧ TabEs l r
  | _, _ => False
theorem find_tab (x : Str) : ∀ {l : List DictEntry} {kvs : List (Str × Addr)}, TabEs l kvs → (l.find? fun d => d.key.isStr x).map (·.val) = (kvs.lookup x).map Value.ref
  | [], [], _ => rfl
  | d :: l, (k, b) :: r, h => by
    obtain ⟨⟨t, e1, e2⟩, hr⟩ := h
    have ih := find_tab x hr
    by_cases c : x = k
    · have c1 : d.key.isStr x = true := by rw [e1, isStr_eq, decide_eq_true c]
      rw [List.find?_cons_of_pos (p := fun d : DictEntry => d.key.isStr x) c1, c]
      simp [List.lookup, e2]
    · have c1 : ¬ d.key.isStr x = true := by rw [e1, isStr_eq, decide_eq_false c]; exact Bool.false_ne_true
      rw [List.find?_cons_of_neg (p := fun d : DictEntry => d.key.isStr x) c1, ih]
      have c2 : (x == k) = false := beq_eq_false_iff_ne.mpr c
      simp [List.lookup, c2]
theorem ktab_mk {K : PySem.W.Frag} {w : World} {a : Addr} {es : Array DictEntry} {n : Nat} {kvs : List (Str × Addr)} (hl : K.lookup a = some ⟨.type "dict", none, .dict es n, #[]⟩) (hk : PySem.W.KeysLit w.params es.toList) (low : (a == sysModules) = false) (he : TabEs es.toList kvs) : KTab K w a kvs :=
  ⟨⟨es, n, hl, hk, fun x => find_tab x he⟩, low⟩
end

/-! ### a dict of the module from texts to ints -/
structure KTabI (K : PySem.W.Frag) (w : World) (a : Addr) (kvs : List (Str × Int)) : Prop where
  at_ : ∃ es n, K.lookup a = some ⟨.type "dict", none, .dict es n, #[]⟩ ∧ PySem.W.KeysLit w.params es.toList ∧ ∀ x : Str, (kvs.lookup x = none → (es.toList.find? fun d => d.key.isStr x).map (·.val) = none) ∧ ∀ i, kvs.lookup x = some i → ∃ t, (es.toList.find? fun d => d.key.isStr x).map (·.val) = some (.int i t)
  low : (a == sysModules) = false
theorem KTabI.has {K : PySem.W.Frag} {w : World} {a : Addr} {kvs : List (Str × Int)} (h : KTabI K w a kvs) (x : Str) : KHas K w a x (kvs.lookup x).isSome := by
  obtain ⟨es, n, hl, hk, e⟩ := h.at_
  refine ⟨es, n, _, hl, hk, h.low, nsIn_dict hl hk x, ?_⟩
  cases q : kvs.lookup x with
  | none => rw [(e x).1 q]; rfl
  | some i =>
    obtain ⟨t, z⟩ := (e x).2 i q
    rw [z]
    rfl
theorem KTabI.get {K : PySem.W.Frag} {w : World} {a : Addr} {kvs : List (Str × Int)} (h : KTabI K w a kvs) {x : Str} {i : Int} (hx : kvs.lookup x = some i) : KDct K w a x (.int i) := by
  obtain ⟨es, n, hl, hk, e⟩ := h.at_
  obtain ⟨t, z⟩ := (e x).2 i hx
  have q := nsIn_dict hl hk x
  rw [z] at q
  exact ⟨es, n, _, hl, hk, q, ⟨t, rfl⟩⟩
def TabEsI : List DictEntry → List (Str × Int) → Prop
  | [], [] => True
  | d :: l, kv :: r => (∃ t t2, d.key = .str kv.1 t ∧ d.val = .int kv.2 t2) ∧ TabEsI l r
  | _, _ => False
theorem find_tabI (x : Str) : ∀ {l : List DictEntry} {kvs : List (Str × Int)}, TabEsI l kvs → (kvs.lookup x = none → (l.find? fun d => d.key.isStr x).map (·.val) = none) ∧ ∀ i, kvs.lookup x = some i → ∃ t, (l.find? fun d => d.key.isStr x).map (·.val) = some (.int i t)
  | [], [], _ => ⟨fun _ => rfl, fun i z => nomatch z⟩
  | d :: l, (k, b) :: r, h => by
    obtain ⟨⟨t, t2, e1, e2⟩, hr⟩ := h
    have ih := find_tabI x hr
    by_cases c : x = k
    · have c1 : d.key.isStr x = true := by rw [e1, isStr_eq, decide_eq_true c]
      rw [List.find?_cons_of_pos (p := fun d : DictEntry => d.key.isStr x) c1, c]
      refine ⟨fun z => ?_, fun i z => ?_⟩
      · simp [List.lookup] at z
      · simp [List.lookup] at z
        subst z
        exact ⟨t2, by simp [e2]⟩
    · have c1 : ¬ d.key.isStr x = true := by rw [e1, isStr_eq, decide_eq_false c]; exact Bool.false_ne_true
      have c2 : (x == k) = false := beq_eq_false_iff_ne.mpr c
      rw [List.find?_cons_of_neg (p := fun d : DictEntry => d.key.isStr x) c1]
      simp only [List.lookup, c2]
      exact ih
theorem ktabi_mk {K : PySem.W.Frag} {w : World} {a : Addr} {es : Array DictEntry} {n : Nat} {kvs : List (Str × Int)} (hl : K.lookup a = some ⟨.type "dict", none, .dict es n, #[]⟩) (hk : PySem.W.KeysLit w.params es.toList) (low : (a == sysModules) = false) (he : TabEsI es.toList kvs) : KTabI K w a kvs :=
  ⟨⟨es, n, hl, hk, fun x => find_tabI x he⟩, low⟩

/-- e.f where the written part is told -/
theorem pe_fldK {X : Cx} {K : PySem.W.Frag} {e : Expr} {f : Str} {ta : TE} {pos : Pos} (hK : X.K = K) (he : PE X e ta) (hb : attributeBase e f X.env (eval e X.env) = eval e X.env) : PE X (.Attribute e f pos) (tFld K ta f) := by
  subst hK
  exact pe_fld he hb
/-- list(xs) where the written part is told -/
def rListOf (K : PySem.W.Frag) : List V → Hp → VK → Prop := fun zs H Q => ∃ (p : Addr) (ys : List V), zs = [V.ref p] ∧ (SqL K H p ys ∨ SqT K H p ys) ∧ (∀ l : Addr, H l = none → Q (.ref l) (upd H l (.lst ys)))
theorem cr_listK {X : Cx} {K : PySem.W.Frag} (hK : X.K = K) : CallR X (.type "list") (rListOf K) := by
  subst hK
  exact call_list_of
/-- len of a list or tuple where the written part is told -/
def rLenOf (K : PySem.W.Frag) : List V → Hp → VK → Prop := fun zs H Q => ∃ (p : Addr) (ys : List V), zs = [V.ref p] ∧ (SqL K H p ys ∨ SqT K H p ys) ∧ Q (.int (ys.length : Int)) H
theorem cr_lenK {X : Cx} {K : PySem.W.Frag} (hK : X.K = K) : CallR X (.builtin "len") (rLenOf K) := by
  subst hK
  exact call_len_seq
/-- o.m(e, ..), m of a built-in type, where the written part is told -/
theorem pe_bmK {X : Cx} {K : PySem.W.Frag} {T id : String} {name : Str} {r : V → List V → Hp → VK → Prop} {o e : Expr} {es : List Expr} {to : TE} {t : TA} {apos cpos : Pos} (hK : X.K = K) (pa : PySem.PlainAttrs T) (slot : PySem.Slot T name id) (hty : typeOf (.builtin id) = pure (.type "method_descriptor")) (hm : MtR X id r) (ho : PE X o to) (ha : PA X (e :: es) t)
    (hbase : attributeBase o name X.env (eval o X.env) = eval o X.env := by rfl)
    (hfew : ((backTo cpos (starEach (e :: es) X.env)).all (fun x => !x.1) && (backToKw cpos (keywordEach [] X.env)).all (fun x => x.1.isSome)
      && decide ((e :: es).length + ([] : List Keyword).length + (if ([] : List Keyword).isEmpty then 0 else 1) < 30)) = true := by rfl)
    (hline : (apos.endLine == cpos.line) = true := by rfl) (hs : starEach (e :: es) X.env = (false, eval e X.env) :: starEach es X.env := by rfl) (hplain : (backTo cpos (starEach es X.env)).any (·.1) = false := by rfl) :
    PE X (.Call (.Attribute o name apos) (e :: es) [] cpos) (tBM K T r to t) := by
  subst hK
  exact pe_bm pa slot hty hm ho ha hbase hfew hline hs hplain

/-- o.m(e, ..) within a try: what the method lets out is wished for at the slots -/
def tMethT (C : Addr) (m : Str) (sp : Sp) (E : L2.St → XK) (ta : TE) (t : TA) : TE := fun σ H Q => ta σ H fun x H1 => ∃ (j dx : Addr) (fs : List (Str × V)), x = V.ref j ∧ H1 j = some (HO.ins C dx fs) ∧ fs.lookup m = Option.none ∧ (t σ H1 fun vs H2 => sp (x :: vs) H2 Q (E σ))
theorem pe_methT {X : Cx} {CX : CXT} {k : Nat} {f C : Addr} {fd : FuncData} {ps : List Str} {sp : Sp} {E : L2.St → XK} {m : Str} {apos pos : Pos} {o e : Expr} {es : List Expr} {ta : TE} {t : TA} {pl : Sem Bool} (he : PE X o ta) (c : L2.Cls X.K C) (hm : L2.Meth X.K C m f) (F : FnOk X.prog X.w X.K X.mg X.base CX k f fd ps sp)
    (hr : Room k X.A) (hb : Binds X.K fd ps []) (hx : ∀ σ, PassesAt CX X σ (E σ)) (ha : PA X (e :: es) t) (one : starEach (e :: es) X.env = (false, eval e X.env) :: starEach es X.env := by rfl) (nost : (backTo pos (starEach es X.env)).any (·.1) = false := by rfl)
    (text : eval (.Call (.Attribute o m apos) (e :: es) [] pos) X.env = (do let ov ← eval o X.env; standAt apos.atName; let (f, first) ← holding [ov] (getMethod ov m pl); callWith pos f first (backTo pos (starEach (e :: es) X.env)) (backToKw pos (keywordEach [] X.env))) := by rfl) :
    PE X (.Call (.Attribute o m apos) (e :: es) [] pos) (tMethT C m sp E ta t) := by
  constructor
  intro pins s σ H Q I hyp
  refine PySem.W.methodCall_KW (pl := pl) (thn (he.run pins s σ H _ I hyp) fun u s1 got => ?_) text
  obtain ⟨x, H1, I1, rx, j, dx, fs, ex, ej, nf, q⟩ := got
  subst ex
  have eu : u = Value.ref j := rx
  subst eu
  refine getmeth_ok I1 ej c hm nf (PySem.W.callWith_K (first := [Value.ref j]) (h₀ := X.base) I.ok.mod.kin hm.kp (thn (ha.run pos pins s1 σ H1 _ I1 q) fun us s2 got2 => ?_) one nost)
  obtain ⟨vs, H2, I2, rel, q2⟩ := got2
  exact ⟨I2.kIn, run_fnS (us := Value.ref j :: us) (vs := V.ref j :: vs) F hr hb (hx σ) I2 (.cons rfl rel) q2⟩
/-- str of a text or of an int -/
def rStrA : List V → Hp → VK → Prop := fun vs H Q => (∃ i : Int, vs = [V.int i] ∧ i.natAbs.log2 < 1920 ∧ Q (.str (toString i)) H) ∨ ∃ x : Str, vs = [V.str x] ∧ Q (.str x) H
theorem cr_strA {X : Cx} : CallR X (.type "str") rStrA := by
  intro pins sh σ H vs us Q I rel hyp
  rcases hyp with ⟨i, rfl, small, q⟩ | ⟨x, rfl, q⟩
  · exact call_str_int pins sh σ H _ us Q I rel ⟨i, rfl, small, q⟩
  · exact SkE.call_str_str pins sh σ H _ us Q I rel ⟨x, rfl, q⟩

/-! ### the same where an exception is handled -/
section
open PySem.W (ksEnv ksFn ks_superIn kxs_mw)
/-- the context of such an __init__, called while an exception is handled -/
def cxSupH (CX : CXT) (P : Program) (w : World) (K : PySem.W.Frag) (mg : Str → Option Value) (base : Heap) (N : List Str) (qual : Str) (scope : Scope) (f : Addr) (cd : Value) (cc : Addr) (A : Around) (outer : List Env) (s : Shared) (H : Hp) (E : XK) (p : Addr × Obj) : Cx where
  prog := P
  w := w
  K := K
  mg := mg
  base := base
  A := A.deeper (ksEnv qual scope s.heap.objs.size f cd cc)
  N := N
  s_0 := s
  H_0 := H
  env := ksEnv qual scope s.heap.objs.size f cd cc
  outer := outer
  stack := ksEnv qual scope s.heap.objs.size f cd cc :: outer
  ex := []
  fn := fun _ => false
  calm := false
  pn := [p]
  xe := fun e s' => wpAny (model P w) (A.deeper (ksEnv qual scope s.heap.objs.size f cd cc)) (leaving (ksEnv qual scope s.heap.objs.size f cd cc) e) (fun _ s2 => CX outer H s E e s2) (fun e2 s2 => CX outer H s E e2 s2) s'
theorem inv_supH {CX : CXT} {P : Program} {w : World} {K : PySem.W.Frag} {mg : Str → Option Value} {base : Heap} {par qual : Str} {scope : Scope} {f cc : Addr} {cd : Value} {A : Around} {outer : List Env} {s : Shared} {h1 : Heap} {H : Hp} {E : XK} {u0 u1 : Value} {v0 v1 : V} {tk : Nat} {D : Value}
    (kind : scope.kind = .function) (only : ∀ y ∈ scope.names, y.2 ≠ .cell ∧ (y.2 = .free → y.1 = ("__class__" : Str))) (l1 : scope.names.lookup ("self" : Str) = some .local) (l2 : scope.names.lookup par = some .local) (np : ¬ ("self" : Str) = par)
    {p : Addr × Obj} (hpin : L2H.PinOk outer H s p) (e0 : Env0 P w K mg base A outer s H) (r0 : RelV v0 u0) (r1 : RelV v1 u1)
    (cell : s.heap.IsCell cc (some D)) (free : H cc = Option.none) (small : cc < s.heap.objs.size)
    (ns : h1.Ns s.heap.objs.size (fun x => [(par, u1), (("self" : Str), u0)].lookup x)) (kp : ∀ b o, s.heap.get? b = some o → h1.get? b = some o) :
    L2.Inv (cxSupH CX P w K mg base ["self", par] qual scope f cd cc A outer s H E p) [] (start ["self", par] [v0, v1]) H { s with heap := h1, toks := tk } := by
  have one : ∀ (x : Str) (c : Addr), (ksEnv qual scope s.heap.objs.size f cd cc).cells.lookup x = some c → x = "__class__" ∧ c = cc := fun x c e => by
    have e' : [(("__class__" : Str), cc)].lookup x = some c := e
    by_cases z : x = "__class__"
    · subst z
      exact ⟨rfl, (Option.some.inj ((show some cc = some c from by simpa [List.lookup] using e'))).symm⟩
    · have b : (x == ("__class__" : Str)) = false := by simpa using z
      simp [List.lookup, b] at e'
  have noA : ∀ b : Addr, b ∉ (cxSupH CX P w K mg base ["self", par] qual scope f cd cc A outer s H E p).ex := fun b z => absurd (show b ∈ ([] : List Addr) from z) (by simp)
  have ok : (cxSupH CX P w K mg base ["self", par] qual scope f cd cc A outer s H E p).Ok := {
    mod := e0.mod
    kind := kind
    glob := rfl
    blt := rfl
    above := Nat.le_refl _
    inj := fun x y c h1 h2 => (one x c h1).1.trans (one y c h2).1.symm
    has := fun x hx => by
      have hx' : scope.names.lookup x = some .cell ∨ scope.names.lookup x = some .free := hx
      rcases hx' with hx' | hx'
      · exact absurd rfl (only _ (PySem.mem_of_lookup hx')).1
      · have e : x = "__class__" := (only _ (PySem.mem_of_lookup hx')).2 rfl
        subst e
        exact ⟨cc, rfl⟩
    cab := fun x c h => Bool.noConfusion h
    hd := fun z => Bool.noConfusion (show false = true from z)
    frames := Around.frames_deeper e0.frames
    stk := .inr ⟨rfl, rfl⟩
    exf := fun b z => absurd z (noA b)
    bs := e0.bs
    bsz := e0.bsz
    noex := fun b _ _ => noA b
    exfs := fun b z => absurd z (noA b)
    funs := e0.funs
    frf := e0.frf }
  exact {
    ok := ok
    os := rfl
    bare := e0.bare
    base := Un.kept kp
    loc := ⟨_, ns, fun i x v h1 h2 h3 => by
      match i, h1, h2 with
      | 0, h1, h2 =>
        cases h1
        cases h2
        refine ⟨u0, r0, .inl ⟨l1, ?_⟩⟩
        show [(par, u1), (("self" : Str), u0)].lookup ("self" : Str) = some u0
        have b : (("self" : Str) == par) = false := by simpa using np
        simp [List.lookup, b]
      | 1, h1, h2 =>
        cases h1
        cases h2
        refine ⟨u1, r1, .inl ⟨l2, ?_⟩⟩
        show (match par == par with | true => some u1 | false => [(("self" : Str), u0)].lookup par) = some u1
        rw [beq_self_eq_true]
      | i + 2, h1, h2 =>
        have h3 : (["self", par] : List Str)[i + 2]? = some x := h1
        simp at h3⟩
    cell := fun x c e => by
      obtain ⟨_, rfl⟩ := one x c e
      obtain ⟨o, ho, hc⟩ := cell
      exact ⟨_, o, kp _ _ ho, hc⟩
    free := e0.hok.fresh (Nat.le_refl _)
    freeC := fun x c e => by
      obtain ⟨_, rfl⟩ := one x c e
      exact free
    pin := fun q hq => by
      have eq : q = p := by simpa using (show q ∈ [p] ++ ([] : List (Addr × Obj)) from hq)
      rw [eq]
      exact ⟨kp _ _ hpin.get, hpin.free, Nat.ne_of_lt (Heap.lt_size hpin.get), hpin.nofs, hpin.nocell⟩
    hok := e0.hok.kept kp
    len := rfl }
/-- THE RULE, where an exception is handled: such an __init__ keeps its promise -/
theorem ok_supH {CX : CXT} {P : Program} {w : World} {K : PySem.W.Frag} {mg : Str → Option Value} {base : Heap} {C f : Addr} {fd : FuncData} {qual par fld : Str} {st : Stmt} {msg : Expr} {p0 p1 p2 p3 p4 p5 p6 p7 p8 : Pos} {good : V → Prop}
    (S : SupCls P K C qual par fld st f fd) (T : SupTxt par fld st msg p0 p1 p2 p3 p4 p5 p6 p7 p8) (np : ¬ ("self" : Str) = par) (nd : (par == ("__debug__" : Str)) = false) (nc : (par == ("__classdict__" : Str)) = false) (noS : mg "super" = Option.none)
    (hmsg : ∀ (cd : Value) (cc : Addr) (A : Around) (outer : List Env) (s : Shared) (H : Hp) (E : XK) (p : Addr × Obj) (e : Addr) (v : V), good v →
      ∃ ta, PA (cxSupH CX P w K mg base ["self", par] qual (defScope st) f cd cc A outer s H E p) [msg] ta ∧ ∀ H1 Q, (∀ x, Q [x] H1) → ta (start ["self", par] [.ref e, v]) H1 Q)
    (star : ∀ env, starEach [msg] env = [(false, eval msg env)]) (inter : ∀ L g cd cc, interactive (ksEnv qual (defScope st) L g cd cc) = false) (swap : ∀ L g cd cc, swapsWith (.Call (.Attribute (.Call (.Name "super" p0) [] [] p1) "__init__" p2) [msg] [] p3) Option.none p4.line (ksEnv qual (defScope st) L g cd cc) = pure false)
    (swap2 : ∀ L g cd cc, swapsWith (.Name par p7) (some (.Attribute (.Name "self" p5) fld p6)) p8.line (ksEnv qual (defScope st) L g cd cc) = pure false)
    (pl : Sem Bool) (he : ∀ (env : Env), eval (.Call (.Attribute (.Call (.Name "super" p0) [] [] p1) "__init__" p2) [msg] [] p3) env = (do
      let ov ← attributeBase (.Call (.Name "super" p0) [] [] p1) "__init__" env (eval (.Call (.Name "super" p0) [] [] p1) env)
      standAt p2.atName
      let (f, first) ← holding [ov] (getMethod ov "__init__" pl)
      callWith p3 f first (backTo p3 (starEach [msg] env)) [])) :
    L2H.FnH P w K mg base CX 1 f fd ["self", par] (spSup C fld good) := by
  obtain ⟨oc, od, kV, doc, pm, an, cda, ct, osl, cc, cl, cld, csl, ccl, cdd, vs, ccs, file, tf, rfl, lk, hcd, hcell, hcode, hvs, hfile⟩ := S.fn
  refine ⟨fun vs H Q E h => ?_, fun A outer s H args us vs0 Q E p hr hot hpin e0 hb rel hsp => ?_⟩
  · obtain ⟨e, v, rfl, _⟩ := h
    rfl
  obtain ⟨e, v, rfl, hexo, hgood, fin⟩ := hsp
  have KX : K.In s.heap := e0.mod.kin.keeps fun b o z => (e0.bs b o z).1
  have lim : s.heap.NoLimit := e0.mod.nolimit.keeps fun b o z => (e0.bs b o z).1
  obtain ⟨u0, u1, rfl, r0, r1⟩ := vals2 rel
  have isCell : s.heap.IsCell cc (some (.ref C)) := ⟨_, KX _ _ hcell, rfl⟩
  have freeC : H cc = Option.none := (e0.bs _ _ (e0.mod.kin _ _ hcell)).2
  refine ks_codeAny_call_defAt (fd := ksFn "__init__" qual (defArgs st) (defBody st) (defScope st) .none kV doc pm an (.ref cda) ct cc) (body := defBody st) (binds := [(("self" : Str), u0), (par, u1)]) hr.depth (KX _ _ lk) rfl lim (PySem.W.codeRec_of KX hcd) rfl hb (fun x hx => (T.only x hx).1) ?_ (fun h1 ns kp => ?_) T.co T.gen T.kind
  · intro y hy
    rcases List.mem_cons.mp hy with rfl | hy
    · exact T.s1
    · rw [List.mem_singleton.mp hy]
      exact T.s2
  have I : L2.Inv (cxSupH CX P w K mg base ["self", par] qual (defScope st) f (.ref cda) cc A outer s H E p) [] (start ["self", par] [.ref e, v]) H { s with heap := h1, toks := s.toks + 2 } :=
    inv_supH T.kind T.only T.s1 T.s2 np hpin e0 r0 r1 isCell freeC (Heap.lt_size (KX _ _ hcell)) ns kp
  show wpAt (model P w) (A.deeper (ksEnv qual (defScope st) s.heap.objs.size f (.ref cda) cc)) (.func (defBody st) (ksEnv qual (defScope st) s.heap.objs.size f (.ref cda) cc)) (execs (defBody st) (ksEnv qual (defScope st) s.heap.objs.size f (.ref cda) cc)) _ _ _
  rw [T.body]
  obtain ⟨hp, g, d, tk, os⟩ := s
  have up : ∀ b o, base.get? b = some o → h1.get? b = some o := fun b o z => kp b o (e0.bs b o z).1
  have K1 : K.In h1 := e0.mod.kin.keeps up
  obtain ⟨mb, hmb, hbb⟩ := e0.mod.blt
  obtain ⟨ar, har, earg⟩ := T.ps
  cases (show u0 = Value.ref e from r0)
  obtain ⟨t1, hx⟩ := exo_at I.hok hexo
  obtain ⟨nm, qn, N, bs, bm, sn, sub, ab, col, dd, k0, k1, k2, k3, k5, hC, hbm⟩ := S.oex.cls
  have hcl : PySem.W.clsIn K C = some { name := nm, bases := bs, mro := .ref C :: bm, ns := N, qualname := qn, hasDict := true, slotNames := sn, subclasses := sub, abstract := ab, collection := col, hasDel := false } := by
    unfold PySem.W.clsIn
    rw [hC]
  refine ks_wpAt_execs_cons (ks_wpAt_Expr_any (ks_wpAt_MethodCall (pl := pl) ?_ (he _)) (inter _ _ _ _) (swap _ _ _ _))
  refine ks_wpAt_super_base (env := ksEnv qual (defScope st) hp.objs.size f (.ref cda) cc) T.s4 T.s3 (by decide) rfl (kp _ _ (KX _ _ lk)) rfl har rfl (K1 _ _ hcode) rfl hvs hfile S.topS ?_
  refine PySem.W.ks_loadName_global T.kind T.s4 (PySem.Calls.loadGlobal_builtin (env := ksEnv qual (defScope st) hp.objs.size f (.ref cda) cc) (e0.mod.glob.keeps up) noS (hmb.keeps up) ((hbb "super" (by decide)).trans (by decide +kernel)) ⟨rfl, ?_⟩)
  refine wpAny_loadName_free T.kind T.s3 rfl ⟨_, K1 _ _ hcell, rfl⟩ ?_
  rw [earg]
  refine wpAny_loadName_local T.kind T.s1 ns (v := .ref e) ?_ ?_
  · show [(par, u1), (("self" : Str), Value.ref e)].lookup ("self" : Str) = some (.ref e)
    have b : (("self" : Str) == par) = false := by simpa using np
    simp [List.lookup, b]
  refine ks_wpAny_isType_cls (K1 _ _ hC) rfl ⟨rfl, ?_⟩
  refine ks_wpAny_call_super (K1 _ _ hC) rfl hx rfl (fun c z => by cases z) (PySem.W.looks_mroIn K1 S.mroC) (fun h2 hso kp2 => ?_)
  have K2 : K.In h2 := K1.keeps kp2
  have hx2 := kp2 _ _ hx
  have inst : PySem.W.InstAt h2 e { cls := .ref C, dict := Option.none, data := .fields #[.ref t1, .none, .none, .none, .bool false, .none] } C Option.none := ⟨hx2, rfl, rfl, trivial⟩
  have hf := S.sup
  unfold ks_superIn at hf
  rw [hcl] at hf
  have neC : e ≠ C := fun z => by
    have q := (e0.bs _ _ (e0.mod.kin _ _ hC)).2
    rw [← z, hexo] at q
    cases q
  refine PySem.W.kxs_getMethod PySem.W.kxs_ValueError hso (PySem.W.looks_opaque K2 S.opq) (l₀ := .ref C :: bm) ((PySem.W.looks_clsIn K2 hcl).andThen .now) rfl K2 hf (inst.type.andThen (PySem.W.looks_subIn K2 S.subV)) neC (by decide) ?_
  have hmw : (h2.push (kxs_mw "ValueError.__init__" e)).get? h2.objs.size = some (kxs_mw "ValueError.__init__" e) := Heap.get?_push_size _ rfl
  have kp3 : ∀ b o, h1.get? b = some o → (h2.push (kxs_mw "ValueError.__init__" e)).get? b = some o := fun b o z => Heap.get?_push_of_some _ (kp2 b o z)
  have Ih := I.kept (h' := h2) (t' := tk + 2) kp2
  have I2 := I.kept (h' := h2.push (kxs_mw "ValueError.__init__" e)) (t' := tk + 2 + 1) kp3
  have I3 : L2.Inv (cxSupH CX P w K mg base ["self", par] qual (defScope st) f (.ref cda) cc A outer ⟨hp, g, d, tk, os⟩ H E p) [(h2.objs.size, kxs_mw "ValueError.__init__" e)] (start ["self", par] [.ref e, v]) H ⟨h2.push (kxs_mw "ValueError.__init__" e), g, d, tk + 2 + 1, os⟩ := { I2 with
    pin := fun q hq => by
      rcases List.mem_append.mp (show q ∈ [p] ++ [(h2.objs.size, kxs_mw "ValueError.__init__" e)] from hq) with hq | hq
      · exact I2.pin q (List.mem_append_left _ hq)
      cases List.mem_singleton.mp hq
      refine ⟨hmw, Ih.hok.fresh (Nat.le_refl _), Nat.ne_of_gt Ih.lt, Ih.nofs (Nat.le_refl _), fun c z => by cases z⟩ }
  obtain ⟨ta, pa, rd⟩ := hmsg (.ref cda) cc A outer ⟨hp, g, d, tk, os⟩ H E p e v hgood
  have st1 := star (ksEnv qual (defScope st) hp.objs.size f (.ref cda) cc)
  have ran : wpAny (model P w) (A.deeper (ksEnv qual (defScope st) hp.objs.size f (.ref cda) cc)) (spliced (backTo p3 (starEach [msg] (ksEnv qual (defScope st) hp.objs.size f (.ref cda) cc)))) _ _ _ :=
    pa.run p3 _ _ _ _ (fun vs H1 => H1 = H ∧ vs.length = 1) I3 (rd H _ fun x => ⟨rfl, rfl⟩)
  show wpAny _ _ (callWith p3 (.ref h2.objs.size) [] (backTo p3 (starEach [msg] (ksEnv qual (defScope st) hp.objs.size f (.ref cda) cc))) []) _ _ _
  rw [st1] at ran ⊢
  refine PySem.W.kxs_callWith (i := "ValueError.__init__") (x := e) (u := h2.objs.size) rfl (PySem.Calls.evalArgs_plain (thn ran fun us s3 got => ?_))
  obtain ⟨vs1, H1, I4, rel1, rfl, len1⟩ := got
  have hu := (I4.pin _ (List.mem_append_right [p] List.mem_cons_self)).1
  refine ⟨hu, call_mw S.oex I4 hexo hu (by show us.length ≤ sizeLine; rw [← Vals.length rel1, len1, sizeLine_eq]; decide) fun s4 I5 => ?_⟩
  have last : PSs (cxSupH CX P w K mg base ["self", par] qual (defScope st) f (.ref cda) cc A outer ⟨hp, g, d, tk, os⟩ H1 E p) [.Assign [.Attribute (.Name "self" p5) fld p6] (.Name par p7) p8] _ :=
    pss_one (ps_ost (pv 0 rfl (.inl T.s1)) (pv 1 rfl (.inl T.s2) nd nc) (swap2 _ _ _ _))
  refine wpAt_of_wpAny (thn (last.run _ s4 _ H1 { nx := fun _ H2 => Q .non H2, rt := Q } I5 ⟨v, rfl, .ref e, rfl, e, C, rfl, S.oex, S.nof, .inl ⟨hexo, fin⟩⟩) fun fl s5 got => ?_)
  cases fl with
  | next =>
    obtain ⟨σ', H', J, q⟩ := got
    exact ⟨V.non, H', J.os, J.bare, J.base, J.hok, rfl, q⟩
  | ret u =>
    obtain ⟨y, σ', H', J, ry, q⟩ := got
    exact ⟨y, H', J.os, J.bare, J.base, J.hok, ry, q⟩
  | brk =>
    obtain ⟨_, _, _, q⟩ := got
    exact q.elim
  | cont =>
    obtain ⟨_, _, _, q⟩ := got
    exact q.elim
end
theorem pmk_weak {X : Cx} {e : Expr} {t : L2.St → Hp → XK → Prop} (h : L2N.PMk X e t) : PMk X e t := fun pins s σ H Q I q => thn (h pins s σ H Q I q) fun _ _ ⟨a, oe, vs, sI, H1, cls, d, e1, J, k, e2, e3, z, x⟩ => ⟨a, oe, vs, sI, H1, cls, d, e1, J, k, e2, e3, z.zc, x⟩
theorem sky_imp {B : Heap} {l : List Env} {a L : Addr} {Z Z' : Obj → Prop} {h : Heap} (z : ∀ o, Z o → Z' o) (x : Sky B l a Z L h) : Sky B l a Z' L h := by
  rcases x with ⟨h1, h2, h3, oe, vs, e1, e2, e3⟩ | x | ⟨h1, h2, h3, x⟩
  · exact .inl ⟨h1, h2, h3, oe, vs, e1, z _ e2, e3⟩
  · exact .inr (.inl (L2H.flyingZ_imp z x))
  · exact .inr (.inr ⟨h1, h2, h3, L2H.tracedZ_imp z x⟩)
theorem takesN_of {X : Cx} {W : WX} (tk : Takes X W) : L2N.Takes X W := fun u s' ⟨a, B, sI, pins, σ, H, cls, d, e, I, nb, up, sky, x⟩ => tk u s' ⟨a, B, sI, pins, σ, H, cls, d, e, I, nb, up, sky_imp (fun _ z => z.zc) sky, x⟩
/-- a statement whose reading is kept whole -/
def tWhole (t : TS) : TS := t
theorem ps_whole {X : Cx} {st : Stmt} {t : TS} (h : PS X st t) : PS X st (tWhole t) := h

/-! ### a def called while any exception is handled -/
structure FnW (P : Program) (w : World) (K : PySem.W.Frag) (mg : Str → Option Value) (base : Heap) (k : Nat) (f : Addr) (fd : FuncData) (ps : List Str) (sp : Sp) : Prop where
  len : ∀ vs H Q E, sp vs H Q E → vs.length = ps.length
  run : ∀ (A : Around) (out : List Env) (s : Shared) (H : Hp) (ar : Args) (us : List Value) (vs : List V) (Q : VK) (E : XK) (p : Addr × Obj), L2H.RoomH k A → L2H.PinOk out H s p → Env0 P w K mg base A out s H →
    BindsTo s fd ar (ps.zip us) → Vals vs us → sp vs H Q E → codeAny (model P w) A (.call (.ref f) ar) (CR CX0 out P w H s Q E) s
theorem fun_okW {P : Program} {w : World} {K : PySem.W.Frag} {mg : Str → Option Value} {base : Heap} {x qual : Str} {st : Stmt} {f : Addr} {fd : FuncData} {N ps : List Str} {k : Nat} {sp : Sp} (F : Fun K x qual st f fd) (S : FnScope N ps (defScope st))
    (len : ∀ vs H Q E, sp vs H Q E → vs.length = ps.length)
    (body : ∀ (cdv : Value) (A : Around) (out : List Env) (s : Shared) (H : Hp) (vs : List V) (Q : VK) (E : XK) (p : Addr × Obj), L2H.RoomH k (A.deeper (PyProof.Rows.envOfC qual (defScope st) s.heap.objs.size f cdv)) → sp vs H Q E →
      ∃ t, PSs (L2H.cxH CX0 P w K mg base N qual (defScope st) f cdv A out s H E p) (defBody st) t ∧ t { nx := fun _ H' => Q .non H', rt := Q } (start N vs) H) : FnW P w K mg base (k + 1) f fd ps sp := by
  obtain ⟨oc, od, kV, doc, pm, an, cdv, ct, osl, rfl, lk, hcd⟩ := F.ex
  constructor
  · exact len
  intro A out s H ar us vs Q E p room pin env bind vals want
  have up : ∀ b o, base.get? b = some o → s.heap.get? b = some o := fun b o z => (env.bs b o z).1
  have KX : K.In s.heap := env.mod.kin.keeps up
  have places : ∀ y ∈ ps.zip us, (defScope st).names.lookup y.1 = some .local ∨ ((defScope st).names.lookup y.1 = some .cell ∧ ((cellsFrom (s.heap.objs.size + 1) (defScope st).names []).lookup y.1).isSome = true) := by
    rintro ⟨n, v⟩ hy
    exact (S.par n (List.of_mem_zip hy).1).imp id fun q => ⟨q, PySem.W.cellsFrom_some _ _ _ (.inl q)⟩
  refine codeAny_call_function room.depth (KX _ _ lk) rfl S.co S.gen rfl (PySem.W.codeRec_of KX hcd) (bind _ _ _ _ ?_)
  refine wpAny_newFunctionEnv_cells S.kind places fun e he s1 x => ?_
  cases he
  refine ⟨(env.mod.nolimit.keeps up).keeps x.toInCall.keep, codeAny_func ?_⟩
  obtain ⟨t, ht, hq⟩ := body cdv A out s H vs Q E p (room.deeper _) want
  refine wpAny_mono (ht.run [] s1 _ H _ (L2H.inv_startH S pin env (len _ _ _ _ want) vals x) hq) (fun fl s' got => ?_) fun _ _ z => z
  cases fl with
  | next =>
    obtain ⟨_, H2, J, q⟩ := got
    exact ⟨V.non, H2, J.os, J.bare, J.base, J.hok, rfl, q⟩
  | ret u =>
    obtain ⟨v, _, H2, J, rv, q⟩ := got
    exact ⟨v, H2, J.os, J.bare, J.base, J.hok, rv, q⟩
  | brk => exact got.elim fun _ z => z.elim fun _ z => z.2.elim
  | cont => exact got.elim fun _ z => z.elim fun _ z => z.2.elim
theorem pe_callW {X : Cx} {k : Nat} {f : Addr} {fd : FuncData} {ps : List Str} {sp : Sp} {x : Str} {q pos : Pos} {e : Expr} {es : List Expr} {t : TA} {p : Addr × Obj} (F : FnW X.prog X.w X.K X.mg X.base k f fd ps sp) (room : L2H.RoomH k X.A) (hp : p ∈ X.pn) (hg : Gl X x) (hm : X.mg x = some (.ref f)) (hk : PySem.W.keepIn X.K (.ref f) = true)
    (hb : Binds X.K fd ps []) (ha : PA X (e :: es) t) (hdb : (x == ("__debug__" : Str)) = false := by decide) (he : starEach (e :: es) X.env = (false, eval e X.env) :: starEach es X.env := by rfl) (hpl : (backTo pos (starEach es X.env)).any (·.1) = false := by rfl) :
    PE X (.Call (.Name x q) (e :: es) [] pos) (tCallS sp (fun _ => E0) t) := by
  constructor
  intro pins s σ H Q I want
  refine wpAny_Call_Name_kw (ld_glob I hg hm ?_ hdb)
  refine PySem.W.callWith_K (h₀ := X.base) I.ok.mod.kin hk (thn (ha.run pos pins s σ H _ I want) fun us s1 got => ?_) he hpl
  obtain ⟨vs, H1, I1, vals, ask⟩ := got
  refine ⟨I1.kIn, ?_⟩
  have same : us.length = ps.length := vals.length.symm.trans (F.len _ _ _ _ ask)
  have bind := hb s1 us I1.kIn ((congrArg List.length (List.append_nil us)).trans same)
  rw [List.append_nil] at bind
  have at1 := I1.pin p (List.mem_append_left _ hp)
  have pin : L2H.PinOk X.stack H1 s1 p := by
    refine ⟨at1.1, at1.2.1, fun hmm => ?_, at1.2.2.2.2⟩
    rcases List.mem_cons.mp (I1.stkSub p.1 hmm) with z | z
    · exact at1.2.2.1 z
    · exact at1.2.2.2.1 z
  refine wpAny_call (codeAny_mono (F.run X.A X.stack s1 H1 ⟨us, []⟩ us vs Q E0 p room pin I1.env0 bind vals ask) fun r s2 fin => ?_)
  cases r with
  | error z => exact (fin : False).elim
  | ok fl =>
    cases fl with
    | ret u => exact I1.after fin
    | next => exact (fin : False).elim
    | brk => exact (fin : False).elim
    | cont => exact (fin : False).elim

/-! ### x, *xs = t, t a tuple -/
section
open PyProof.Rows
def gStarT (K : PySem.W.Frag) (t : TGs) : TG := fun v σ H Q => ∃ a x xs, v = .ref a ∧ SqT K H a (x :: xs) ∧ xs.length ≤ 1000 ∧ ∀ p, H p = none → t [x, .ref p] σ (_root_.L2.upd H p (.lst xs)) Q
theorem pg_starT {X : Cx} {e1 e2 : Expr} {k : Nat} {p2 pos : Pos} {t : TGs} (hc : X.calm = true) (h : PGs X [e1, e2] t)
    (hs : (assignEach [e1, .Starred e2 p2] X.env).map (·.2) = (assignEach [e1, e2] X.env).map (·.2) := by rfl) (hn : (assignEach [e1, .Starred e2 p2] X.env).length = 2 := by rfl)
    (hst : (assignEach [e1, .Starred e2 p2] X.env).findIdx? (·.1) = some 1 := by rfl) : PG X (.Tuple [e1, .Starred e2 p2] k pos) (gStarT X.K t) := by
  refine ⟨fun pins s σ H v u Q I r hw => ?_⟩
  obtain ⟨a, x, xs, e, hq, hl, hw⟩ := hw
  subst e
  cases r
  obtain ⟨its, rv, ht, hz⟩ := I.tuple hq
  cases its with
  | nil => cases rv
  | cons y ys =>
  have rx : RelV x y := by cases rv; assumption
  have rxs : Vals xs ys := by cases rv; assumption
  have hhd := I.ok.hd hc
  have lys := rxs.length
  rw [assign_Tuple]
  refine wpAny_bind (wpAny_standAt ?_)
  unfold unpack
  rw [hn, hst]
  refine wpAny_bind (wpAny_holding ?_)
  have hlt : a ≠ s.heap.objs.size := by obtain ⟨o, ho, _⟩ := ht; exact Nat.ne_of_lt (Heap.lt_size ho)
  unfold unpackItems
  refine wpAny_bind ?_
  unfold notIterableAtAll
  refine wpAny_bind (wpAny_specialOf ht.typeIs slot_tuple_iter.lookup ?_)
  refine wpAny_pure ?_
  simp only [Bool.false_eq_true, if_false]
  refine wpAny_bind (wpAny_holding (iter_tuple ht ?_))
  have h1z : (y :: ys).toArray.size = ys.length + 1 := by simp
  refine wpAny_bind (wpAny_holding (draw_tuple hlt 1 0 _ _ ⟨_, Heap.get?_push_size _ rfl, rfl, rfl⟩ (ht.push _) (by rw [h1z]; omega) fun h₁ hit₁ hs₁ => ?_))
  have hl₁ : IsTup h₁ a (y :: ys).toArray := (ht.push _).extBut hs₁.extBut hlt
  rw [Nat.zero_add] at hit₁
  obtain ⟨oi, hoi, _⟩ := id hit₁
  obtain ⟨ol, hol, _⟩ := id hl₁
  rw [List.drop_zero]
  have e1 : (y :: ys).toArray.toList.take 1 = [y] := rfl
  rw [e1]
  rw [if_neg (show ¬ ([y].length < 1) by simp)]
  refine wpAny_bind (wpAny_holding (PySem.W.kun_collect (s := { s with heap := h₁ }) (T := "tuple_iterator") (.inr (.inr (.inr rfl))) (Walks.tuple (A := X.A.in1) hhd s.heap.objs.size a hlt (y :: ys).toArray) (fun j u st => st.1.typeIs) (k := 1) (by rw [h1z]; omega) ⟨hit₁, hl₁⟩ (Heap.lt_size hoi) (Heap.lt_size hol) (fun h₂ tk hk => ?_) (by rw [h1z, sizeLine_eq]; omega)))
  have e2 : (y :: ys).toArray.toList.drop 1 = ys := rfl
  rw [e2]
  rw [if_neg (show ¬ (ys.length < 2 - 1 - 1) by omega)]
  have e3 : ys.take (ys.length - (2 - 1 - 1)) = ys := by simp
  have e4 : ys.drop (ys.length - (2 - 1 - 1)) = [] := by simp
  rw [e3, e4]
  have he : ∀ b o, s.heap.get? b = some o → h₂.get? b = some o := fun b o e => by
    have hb : b ≠ s.heap.objs.size := Nat.ne_of_lt (Heap.lt_size e)
    exact hk b o hb (hs₁.extBut b o hb (Heap.get?_push_of_some _ e))
  have I1 : Inv X pins σ H { s with heap := h₂, toks := tk } := I.kept he
  refine wpAny_bind (wpAny_newList (wpAny_pure ?_) (by rw [← lys, sizeLine_eq]; omega))
  have I2 : Inv X pins σ (upd H h₂.objs.size (.lst xs)) { s with heap := h₂.push { cls := .type "list", data := .seq ys.toArray }, toks := tk } :=
    I1.laid (t' := tk) (fun b o g => Heap.get?_push_of_some _ g) (Nat.le_refl _) ⟨by rw [sizeLine_eq]; omega, ys, 0, rxs, Heap.get?_push_size _ rfl⟩
  rw [hs]
  exact h.run pins _ σ _ [x, .ref h₂.objs.size] _ Q I2 (.cons rx (.cons rfl .nil)) (hw _ (I1.hok.fresh (Nat.le_refl _)))
end

/-! ### zip of a tuple and a list -/
section
open PyProof.Rows RZ
/-- an iterator that stands before an item, and behind it -/
structure Step (prog : Program) (w : World) (A : Around) (it l : Addr) (x : Value) (P P' : Heap → Prop) : Prop where
  next : ∀ (E : Value → Shared → Prop) (s : Shared) (Q : Value → Shared → Prop), P s.heap → (∀ h', P' h' → Heap.SameBut it s.heap h' → Q x { s with heap := h' }) → wpAny (model prog w) A (Builtin.SmallTypes.nextOf (.ref it)) Q E s
  off : ∀ c h h', c ≠ it → c ≠ l → P h → Heap.SameBut c h h' → P h'
  off' : ∀ c h h', c ≠ it → c ≠ l → P' h → Heap.SameBut c h h' → P' h'
  up' : ∀ h h', P' h → (∀ o, h.get? it = some o → h'.get? it = some o) → P' h'
/-- an iterator that has no more items -/
structure Stop (prog : Program) (w : World) (A : Around) (it l : Addr) (P : Heap → Prop) : Prop where
  next : ∀ (E : Value → Shared → Prop) (s : Shared) (Q : Value → Shared → Prop), P s.heap → (∀ h' e, Heap.ExtBut it s.heap h' → (∃ o, h'.get? e = some o ∧ o.cls = .type "StopIteration") → E (.ref e) { s with heap := h' }) → wpAny (model prog w) A (Builtin.SmallTypes.nextOf (.ref it)) Q E s
  off : ∀ c h h', c ≠ it → c ≠ l → P h → Heap.SameBut c h h' → P h'
theorem step_tup {prog : Program} {w : World} {A : Around} {it l : Addr} {i : Nat} {items : Array Value} {x : Value} (hx : items[i]? = some x) (d : l ≠ it) :
    Step prog w A it l x (fun h => h.IsTupleIter it l i ∧ h.IsTuple l items) (fun h => h.IsTupleIter it l (i + 1)) where
  next := fun E s Q p h => nextOf_tuple_item p.1 p.2 hx h
  off := fun c h h' c1 c2 p s => ⟨p.1.extBut s.extBut c1.symm, p.2.extBut s.extBut c2.symm⟩
  off' := fun c h h' c1 c2 p s => p.extBut s.extBut c1.symm
  up' := fun h h' p k => p.at k
theorem step_lst {prog : Program} {w : World} {A : Around} {it l : Addr} {i : Nat} {items : Array Value} {x : Value} (hx : items[i]? = some x) (d : l ≠ it) :
    Step prog w A it l x (fun h => h.IsListIter it l i ∧ h.IsList l items) (fun h => h.IsListIter it l (i + 1)) where
  next := fun E s Q p h => wpAny_nextOf_list_item p.1 p.2 hx h
  off := fun c h h' c1 c2 p s => ⟨p.1.extBut s.extBut c1.symm, p.2.extBut s.extBut c2.symm⟩
  off' := fun c h h' c1 c2 p s => p.extBut s.extBut c1.symm
  up' := fun h h' p k => p.at k
theorem stop_tup {prog : Program} {w : World} {A : Around} {it l : Addr} {i : Nat} {items : Array Value} (hh : A.handled = none) (hx : items[i]? = none) :
    Stop prog w A it l (fun h => h.IsTupleIter it l i ∧ h.IsTuple l items) where
  next := fun E s Q p h => nextOf_tuple_end hh p.1 p.2 hx h
  off := fun c h h' c1 c2 p s => ⟨p.1.extBut s.extBut c1.symm, p.2.extBut s.extBut c2.symm⟩
theorem stop_lst {prog : Program} {w : World} {A : Around} {it l : Addr} {i : Nat} {items : Array Value} (hh : A.handled = none) (hx : items[i]? = none) :
    Stop prog w A it l (fun h => h.IsListIter it l i ∧ h.IsList l items) where
  next := fun E s Q p h => wpAny_nextOf_list_end hh p.1 p.2 hx h
  off := fun c h h' c1 c2 p s => ⟨p.1.extBut s.extBut c1.symm, p.2.extBut s.extBut c2.symm⟩
variable {prog : Program} {w : World} {A : Around} {E : Value → Shared → Prop} {s : Shared}
theorem mix_item {z TI TO i1 i2 l1 l2 : Addr} {x y a b : Value} {P1 P1' P2 P2' : Heap → Prop} {Q : Value → Shared → Prop} (D : ZipApart z TI TO i1 i2 l1 l2)
    (n1 : Step prog w A i1 l1 x P1 P1') (n2 : Step prog w A i2 l2 y P2 P2') (hz : IsZip s.heap z TI TO .none) (hTI : IsPair s.heap TI (.ref i1) (.ref i2)) (hTO : IsPair s.heap TO a b) (p1 : P1 s.heap) (p2 : P2 s.heap)
    (hQ : ∀ h', IsZip h' z TI TO (rawInt s.heap.objs.size) → IsPair h' TO x y → P1' h' → P2' h' → IsPair h' s.heap.objs.size x y →
      (∀ c o, c ≠ z → c ≠ TO → c ≠ i1 → c ≠ i2 → s.heap.get? c = some o → h'.get? c = some o) → Q (.ref s.heap.objs.size) { s with heap := h' }) :
    wpAny (model prog w) A (Builtin.«zip.__next__» ⟨[.ref z], []⟩) (fun fin s' => ∃ v, fin = .done (.ret v) ∧ Q v s') E s := by
  show wpAny _ _ (field (.ref z) 2 >>= _) _ _ _
  refine wpAny_bind (wpAny_field hz rfl (x := .bool false) rfl ?_)
  show wpAny _ _ (field (.ref z) 3 >>= _) _ _ _
  refine wpAny_bind (wpAny_field hz rfl (x := .ref TI) rfl (wpAny_bind (wpAny_seqItems hTI rfl ?_)))
  show wpAny _ _ (Builtin.SmallTypes.ownedTupleIsFree (.ref z) >>= _) _ _ _
  refine wpAny_bind ?_
  unfold Builtin.SmallTypes.ownedTupleIsFree
  refine wpAny_bind (wpAny_field hz rfl (x := .none) rfl (wpAny_pure ?_))
  simp only [if_true]
  refine wpAny_bind (wpAny_rule (wpAny_bind (wpAny_field hz rfl (x := .ref TO) rfl (wpAny_bind (wpAny_setField_rec hz (by simp) fun g1 hz1 k1 => ?_)))))
  have hz1 : IsZip g1 z TI TO .ellipsis := hz1
  refine wpAny_bind ?_
  simp only [List.zipIdx_cons, List.zipIdx_nil, List.forIn_cons, List.forIn_nil]
  refine wpAny_bind (wpAny_bind (wpAny_onRaise ?_))
  show wpAny _ _ (Builtin.SmallTypes.nextOf (.ref i1) >>= _) _ _ _
  have q1 : P1 g1 := n1.off z s.heap g1 D.i1z.symm D.l1z.symm p1 k1
  refine wpAny_bind (n1.next _ { s with heap := g1 } _ q1 fun g2 r1 k2 => wpAny_pure ?_)
  have t2 : IsPair g2 TO a b := k2.extBut _ _ D.TOi1 (k1.extBut _ _ D.TOz hTO)
  refine wpAny_bind (wpAny_seqItems t2 rfl (wpAny_bind (wpAny_updateSeq_pair t2 fun g3 t3 k3 => ?_)))
  have t3 : IsPair g3 TO x b := t3
  refine wpAny_bind (wpAny_letGo (wpAny_pure (wpAny_bind (wpAny_bind (wpAny_onRaise ?_)))))
  show wpAny _ _ (Builtin.SmallTypes.nextOf (.ref i2) >>= _) _ _ _
  have q2 : P2 g3 := n2.off TO _ _ D.TOi2 D.l2TO.symm (n2.off i1 _ _ D.i12 D.l2i1.symm (n2.off z _ _ D.i2z.symm D.l2z.symm p2 k1) k2) k3
  refine wpAny_bind (n2.next _ { s with heap := g3 } _ q2 fun g4 r2 k4 => wpAny_pure ?_)
  have t4 : IsPair g4 TO x b := k4.extBut _ _ D.TOi2 t3
  refine wpAny_bind (wpAny_seqItems t4 rfl (wpAny_bind (wpAny_updateSeq_pair t4 fun g5 t5 k5 => ?_)))
  have t5 : IsPair g5 TO x y := t5
  refine wpAny_bind (wpAny_letGo (wpAny_pure (wpAny_pure (wpAny_bind (wpAny_seqItems t5 rfl (wpAny_bind (wpAny_newTuple ?_)))))))
  have size : g5.objs.size = s.heap.objs.size := by rw [k5.1, k4.1, k3.1, k2.1, k1.1]
  have hz5 : IsZip g5 z TI TO .ellipsis := k5.extBut _ _ D.TOz.symm (k4.extBut _ _ D.i2z.symm (k3.extBut _ _ D.TOz.symm (k2.extBut _ _ D.i1z.symm hz1)))
  have old : ∀ c o, c ≠ z → c ≠ TO → c ≠ i1 → c ≠ i2 → s.heap.get? c = some o → g5.get? c = some o := fun c o c1 c2 c3 c4 e =>
    k5.extBut _ _ c2 (k4.extBut _ _ c4 (k3.extBut _ _ c2 (k2.extBut _ _ c3 (k1.extBut _ _ c1 e))))
  have f1 : P1' g5 := n1.off' TO _ _ D.TOi1 D.l1TO.symm (n1.off' i2 _ _ D.i12.symm D.l1i2.symm (n1.off' TO _ _ D.TOi1 D.l1TO.symm r1 k3) k4) k5
  have f2 : P2' g5 := n2.off' TO _ _ D.TOi2 D.l2TO.symm r2 k5
  have zlt : z < g5.objs.size := Heap.lt_size hz5
  show wpAny _ _ (Builtin.SmallTypes.ownedTupleHandOut (.ref z) (.ref g5.objs.size) >>= _) _ _ _
  refine wpAny_bind ?_
  unfold Builtin.SmallTypes.ownedTupleHandOut
  have hz6 : IsZip (g5.push { cls := .type "tuple", data := .seq #[x, y] }) z TI TO .ellipsis := Heap.get?_push_of_some _ hz5
  refine wpAny_bind (wpAny_setField_rec hz6 (by simp) fun g7 hz7 k7 => ?_)
  have hz7 : IsZip g7 z TI TO (rawInt g5.objs.size) := hz7
  refine wpAny_setField_rec hz7 (by simp) fun g8 hz8 k8 => ?_
  have hz8 : IsZip g8 z TI TO (rawInt g5.objs.size) := hz8
  have up : ∀ c o, c ≠ z → g5.get? c = some o → g8.get? c = some o := fun c o c1 e => k8.extBut _ _ c1 (k7.extBut _ _ c1 (Heap.get?_push_of_some _ e))
  have new : IsPair g8 g5.objs.size x y := k8.extBut _ _ (Nat.ne_of_gt zlt) (k7.extBut _ _ (Nat.ne_of_gt zlt) (Heap.get?_push_size _ rfl))
  refine wpAny_pure ⟨_, rfl, ?_⟩
  show Q (.ref g5.objs.size) _
  rw [size] at hz8 new ⊢
  exact hQ g8 hz8 (up _ _ D.TOz t5) (n1.up' _ _ f1 fun o e => up _ o D.i1z e) (n2.up' _ _ f2 fun o e => up _ o D.i2z e) new fun c o c1 c2 c3 c4 e => up c o c1 (old c o c1 c2 c3 c4 e)
theorem mix_end1 {z TI TO i1 i2 l1 l2 : Addr} {a b : Value} {P1 : Heap → Prop} {Q : Fin → Shared → Prop} (D : ZipApart z TI TO i1 i2 l1 l2) (n1 : Stop prog w A i1 l1 P1)
    (hz : IsZip s.heap z TI TO .none) (hTI : IsPair s.heap TI (.ref i1) (.ref i2)) (hTO : IsPair s.heap TO a b) (p1 : P1 s.heap)
    (hE : ∀ h' e, (∀ c o, c ≠ z → c ≠ TO → c ≠ i1 → c ≠ i2 → s.heap.get? c = some o → h'.get? c = some o) → (∃ o, h'.get? e = some o ∧ o.cls = .type "StopIteration") → E (.ref e) { s with heap := h' }) :
    wpAny (model prog w) A (Builtin.«zip.__next__» ⟨[.ref z], []⟩) Q E s := by
  show wpAny _ _ (field (.ref z) 2 >>= _) _ _ _
  refine wpAny_bind (wpAny_field hz rfl (x := .bool false) rfl ?_)
  show wpAny _ _ (field (.ref z) 3 >>= _) _ _ _
  refine wpAny_bind (wpAny_field hz rfl (x := .ref TI) rfl (wpAny_bind (wpAny_seqItems hTI rfl ?_)))
  show wpAny _ _ (Builtin.SmallTypes.ownedTupleIsFree (.ref z) >>= _) _ _ _
  refine wpAny_bind ?_
  unfold Builtin.SmallTypes.ownedTupleIsFree
  refine wpAny_bind (wpAny_field hz rfl (x := .none) rfl (wpAny_pure ?_))
  simp only [if_true]
  refine wpAny_bind (wpAny_rule (wpAny_bind (wpAny_field hz rfl (x := .ref TO) rfl (wpAny_bind (wpAny_setField_rec hz (by simp) fun g1 hz1 k1 => ?_)))))
  have hz1 : IsZip g1 z TI TO .ellipsis := hz1
  refine wpAny_bind ?_
  simp only [List.zipIdx_cons, List.zipIdx_nil, List.forIn_cons, List.forIn_nil]
  refine wpAny_bind (wpAny_bind (wpAny_onRaise ?_))
  show wpAny _ _ (Builtin.SmallTypes.nextOf (.ref i1) >>= _) _ _ _
  refine wpAny_bind (n1.next _ { s with heap := g1 } _ (n1.off z s.heap g1 D.i1z.symm D.l1z.symm p1 k1) fun g2 e k2 he => ?_)
  obtain ⟨oe, hoe, hce⟩ := he
  have hz2 : IsZip g2 z TI TO .ellipsis := k2 _ _ D.i1z.symm hz1
  have hez : e ≠ z := fun q => by subst q; rw [hz2] at hoe; cases hoe; simp at hce
  exact wpAny_setField_rec hz2 (by simp) fun g3 _ k3 => hE g3 e (fun c o c1 _ c3 _ q => k3.extBut _ _ c1 (k2 _ _ c3 (k1.extBut _ _ c1 q))) ⟨oe, k3.extBut _ _ hez hoe, hce⟩
theorem next_mix_item {z TI TO i1 i2 l1 l2 : Addr} {x y a b : Value} {P1 P1' P2 P2' : Heap → Prop} {Q : Option Value → Shared → Prop} (D : ZipApart z TI TO i1 i2 l1 l2)
    (n1 : Step prog w A.in1 i1 l1 x P1 P1') (n2 : Step prog w A.in1 i2 l2 y P2 P2') (hz : IsZip s.heap z TI TO .none) (hTI : IsPair s.heap TI (.ref i1) (.ref i2)) (hTO : IsPair s.heap TO a b) (p1 : P1 s.heap) (p2 : P2 s.heap)
    (hQ : ∀ h', IsZip h' z TI TO (rawInt s.heap.objs.size) → IsPair h' TO x y → P1' h' → P2' h' → IsPair h' s.heap.objs.size x y →
      (∀ c o, c ≠ z → c ≠ TO → c ≠ i1 → c ≠ i2 → s.heap.get? c = some o → h'.get? c = some o) → Q (some (.ref s.heap.objs.size)) { s with heap := h' }) :
    wpAny (model prog w) A (pyNext (.ref z)) Q E s := by
  have hT : s.TypeIs (.ref z) "zip" := ⟨_, hz, rfl⟩
  unfold pyNext
  exact wpAny_bind (wpAny_attempt (wpAny_callSpecial?_slot (name := Str.ofString "__next__") hT F.slot_zip_next (wpAny_call_entry F.slot_zip_next hT F.entry_zip_next
    (mix_item D n1 n2 hz hTI hTO p1 p2 fun h' a1 a2 a3 a4 a5 a6 => wpAny_pure (hQ h' a1 a2 a3 a4 a5 a6)) (F.args_zip_next_1 _))))
theorem next_mix_end {z TI TO i1 i2 l1 l2 : Addr} {a b : Value} {P1 : Heap → Prop} {Q : Option Value → Shared → Prop} (D : ZipApart z TI TO i1 i2 l1 l2) (n1 : Stop prog w A.in1 i1 l1 P1)
    (hz : IsZip s.heap z TI TO .none) (hTI : IsPair s.heap TI (.ref i1) (.ref i2)) (hTO : IsPair s.heap TO a b) (p1 : P1 s.heap)
    (hQ : ∀ h', (∀ c o, c ≠ z → c ≠ TO → c ≠ i1 → c ≠ i2 → s.heap.get? c = some o → h'.get? c = some o) → Q none { s with heap := h' }) : wpAny (model prog w) A (pyNext (.ref z)) Q E s := by
  have hT : s.TypeIs (.ref z) "zip" := ⟨_, hz, rfl⟩
  unfold pyNext
  refine wpAny_bind (wpAny_attempt (wpAny_callSpecial?_slot (name := Str.ofString "__next__") hT F.slot_zip_next (wpAny_call_entry F.slot_zip_next hT F.entry_zip_next
    (mix_end1 D n1 hz hTI hTO p1 fun h' e hk he => ?_) (F.args_zip_next_1 _))))
  obtain ⟨o, ho, hc⟩ := he
  exact wpAny_bind (wpAny_isInstance (T := "StopIteration") (b := true) ⟨o, ho, hc⟩ isSubtype_stop (wpAny_pure (hQ _ hk)))
/-- the heap that zip(t, l) leaves -/
abbrev mixH1 (h : Heap) (l1 : Addr) : Heap := h.push { cls := .type "tuple_iterator", data := .fields #[.ref l1, .int 0 0] }
abbrev mixH2 (h : Heap) (l1 l2 : Addr) : Heap := (mixH1 h l1).push { cls := .type "list_iterator", data := .fields #[.ref l2, .int 0 0] }
abbrev mixH3 (h : Heap) (l1 l2 : Addr) : Heap := (mixH2 h l1 l2).push { cls := .type "tuple", data := .seq #[.ref h.objs.size, .ref (mixH1 h l1).objs.size] }
abbrev mixH4 (h : Heap) (l1 l2 : Addr) : Heap := (mixH3 h l1 l2).push { cls := .type "tuple", data := .seq #[.none, .none] }
abbrev mixH5 (h : Heap) (l1 l2 : Addr) : Heap := (mixH4 h l1 l2).push { cls := .type "zip", data := .fields #[.none, .bool false, .bool false, .ref (mixH2 h l1 l2).objs.size, .ref (mixH3 h l1 l2).objs.size] }
theorem meets_mix (l1 l2 : Addr) (xs ys : Array Value) : Meets (Builtin.«zip.__new__» ⟨[.type "zip", .ref l1, .ref l2], []⟩) (fun _ R s => s.heap.IsTuple l1 xs ∧ s.heap.IsList l2 ys ∧ R (.ok (.ret (.ref (mixH4 s.heap l1 l2).objs.size))) { s with heap := mixH5 s.heap l1 l2 }) :=
  .of_wp fun prog w A R s h => by
    obtain ⟨hp, g, d, tk, os⟩ := s
    obtain ⟨h1, h2, h⟩ := h
    have sub := sub_zip
    have t1 : Heap.IsTuple (Shared.heap ⟨hp, g, d, tk, os⟩) l1 xs := h1
    have t2 : Heap.IsList (Shared.heap ⟨hp.push { cls := .type "tuple_iterator", data := .fields #[.ref l1, .int 0 0] }, g, d, tk, os⟩) l2 ys := Heap.IsList.push h2 _
    wp_walk using wpAny_pyIter_tuple t1, wpAny_pyIter_list t2
    exact ⟨_, rfl, h⟩
theorem call_mix {l1 l2 : Addr} {xs ys : Array Value} {Q : Value → Shared → Prop} (h1 : s.heap.IsTuple l1 xs) (h2 : s.heap.IsList l2 ys)
    (h : ∀ h', IsZip h' (s.heap.objs.size + 4) (s.heap.objs.size + 2) (s.heap.objs.size + 3) .none → IsPair h' (s.heap.objs.size + 2) (.ref s.heap.objs.size) (.ref (s.heap.objs.size + 1)) →
      IsPair h' (s.heap.objs.size + 3) .none .none → h'.IsTupleIter s.heap.objs.size l1 0 → h'.IsListIter (s.heap.objs.size + 1) l2 0 → (∀ c o, s.heap.get? c = some o → h'.get? c = some o) → Q (.ref (s.heap.objs.size + 4)) { s with heap := h' }) :
    wpAny (model prog w) A (call (.type "zip") [.ref l1, .ref l2]) Q E s := by
  refine callType_new F.called_zip (by decide) (F.typeCall_zip_2 _ _) (F.newCall_zip_2 _ _) (fun obj => F.args_object_init_3 obj _ _) F.entry_zip_new (meets_mix l1 l2 xs ys) ⟨h1, h2, ?_⟩
  have e1 : (mixH1 s.heap l1).objs.size = s.heap.objs.size + 1 := Heap.size_push ..
  have e2 : (mixH2 s.heap l1 l2).objs.size = s.heap.objs.size + 2 := by rw [Heap.size_push, e1]
  have e3 : (mixH3 s.heap l1 l2).objs.size = s.heap.objs.size + 3 := by rw [Heap.size_push, e2]
  have e4 : (mixH4 s.heap l1 l2).objs.size = s.heap.objs.size + 4 := by rw [Heap.size_push, e3]
  have p5 : ∀ c o, (mixH4 s.heap l1 l2).get? c = some o → (mixH5 s.heap l1 l2).get? c = some o := fun c o => Heap.get?_push_of_some _
  have p4 : ∀ c o, (mixH3 s.heap l1 l2).get? c = some o → (mixH4 s.heap l1 l2).get? c = some o := fun c o => Heap.get?_push_of_some _
  have p3 : ∀ c o, (mixH2 s.heap l1 l2).get? c = some o → (mixH3 s.heap l1 l2).get? c = some o := fun c o => Heap.get?_push_of_some _
  have p2 : ∀ c o, (mixH1 s.heap l1).get? c = some o → (mixH2 s.heap l1 l2).get? c = some o := fun c o => Heap.get?_push_of_some _
  have p1 : ∀ c o, s.heap.get? c = some o → (mixH1 s.heap l1).get? c = some o := fun c o => Heap.get?_push_of_some _
  have g5 : (mixH5 s.heap l1 l2).get? (mixH4 s.heap l1 l2).objs.size = some _ := Heap.get?_push_size _ rfl
  have g4 : (mixH4 s.heap l1 l2).get? (mixH3 s.heap l1 l2).objs.size = some _ := Heap.get?_push_size _ rfl
  have g3 : (mixH3 s.heap l1 l2).get? (mixH2 s.heap l1 l2).objs.size = some _ := Heap.get?_push_size _ rfl
  have g2 : (mixH2 s.heap l1 l2).get? (mixH1 s.heap l1).objs.size = some _ := Heap.get?_push_size _ rfl
  have g1 : (mixH1 s.heap l1).get? s.heap.objs.size = some _ := Heap.get?_push_size _ rfl
  rw [e4, e3, e2] at g5
  rw [e3] at g4
  rw [e2, e1] at g3
  rw [e1] at g2
  show _ ∧ _
  rw [e4]
  exact ⟨⟨_, g5, rfl⟩, h _ g5 (p5 _ _ (p4 _ _ g3)) (p5 _ _ g4) ⟨_, p5 _ _ (p4 _ _ (p3 _ _ (p2 _ _ g1))), rfl, rfl⟩ ⟨_, p5 _ _ (p4 _ _ (p3 _ _ g2)), rfl, rfl⟩ fun c o q => p5 _ _ (p4 _ _ (p3 _ _ (p2 _ _ (p1 _ _ q))))⟩
end
section
open PyProof.Rows RZ
/-- a tuple and a list, the items in new pairs, as long as the tuple has items -/
def ItzM (K : PySem.W.Frag) (a b : Addr) : It :=
  ⟨fun i H => ∃ (xs ys : List V) (x y : V), SqT K H a xs ∧ SqL K H b ys ∧ xs[i]? = some x ∧ ys[i]? = some y,
    fun i H v H' => ∃ T x y, v = .ref T ∧ H T = none ∧ H' = _root_.L2.upd H T (.tup [x, y]) ∧ (∀ xs, SqT K H a xs → xs[i]? = some x) ∧ ∀ ys, SqL K H b ys → ys[i]? = some y,
    fun i H => ∃ xs : List V, SqT K H a xs ∧ xs.length ≤ i⟩
theorem turn_mix {P : Program} {w : World} {K : PySem.W.Frag} {elts : List Expr} {kk : Nat} {tpos : Pos} {a b z TI TO i1 i2 : Addr} (D : ZipApart z TI TO i1 i2 a b) :
    Turn P w K (.Tuple elts kk tpos) (ItzM K a b) [z, TI, TO, i1, i2] z (fun i h => IsZip h z TI TO .none ∧ IsPair h TI (.ref i1) (.ref i2) ∧ (∃ x y, IsPair h TO x y) ∧ h.IsTupleIter i1 a i ∧ h.IsListIter i2 b i) where
  mem := List.mem_cons_self
  obj := fun i h st c hc => by
    obtain ⟨hz, hTI, ⟨x, y, hTO⟩, ⟨o1, e1, _, d1⟩, ⟨o2, e2, _, d2⟩⟩ := st
    simp only [List.mem_cons, List.not_mem_nil, or_false] at hc
    rcases hc with rfl | rfl | rfl | rfl | rfl
    · exact ⟨_, hz, fun v q => nomatch q⟩
    · exact ⟨_, hTI, fun v q => nomatch q⟩
    · exact ⟨_, hTO, fun v q => nomatch q⟩
    · exact ⟨o1, e1, fun v q => by rw [d1] at q; cases q⟩
    · exact ⟨o2, e2, fun v q => by rw [d2] at q; cases q⟩
  keep := fun i h h' st k => by
    obtain ⟨hz, hTI, ⟨x, y, hTO⟩, h1, h2⟩ := st
    exact ⟨k z (by simp) _ hz, k TI (by simp) _ hTI, ⟨x, y, k TO (by simp) _ hTO⟩, h1.at fun o q => k i1 (by simp) o q, h2.at fun o q => k i2 (by simp) o q⟩
  item := by
    rintro X rfl rfl rfl hc i pins s σ H E I hf ⟨hz, hTI, ⟨x0, y0, hTO⟩, h1, h2⟩ ⟨xs, ys, x, y, hqx, hqy, hx, hy⟩
    obtain ⟨its, rv, p, _⟩ := I.tuple hqx
    obtain ⟨its2, rv2, p2, _⟩ := I.list hqy
    obtain ⟨u, hu, ru⟩ := rv.get hx
    obtain ⟨u2, hu2, ru2⟩ := rv2.get hy
    have hzl : z < s.heap.objs.size := Heap.lt_size hz
    refine next_mix_item D (step_tup (items := its.toArray) (x := u) (by simpa using hu) D.l1i1) (step_lst (items := its2.toArray) (x := u2) (by simpa using hu2) D.l2i2) hz hTI hTO ⟨h1, p⟩ ⟨h2, p2.isList⟩ fun h' z' TO' h1' h2' hT hk => ?_
    refine ⟨_, rfl, wpAny_letOwnedTupleGo_zip (s := { s with heap := h' }) z' fun h'' z'' sb => ?_⟩
    have hT2 : h''.get? s.heap.objs.size = some { cls := .type "tuple", data := .seq #[u, u2] } := (sb.2 _ (Nat.ne_of_gt hzl)).trans hT
    have new : ObjOk X.prog X.w (_root_.L2.upd H s.heap.objs.size (.tup [x, y])) h'' s.heap.objs.size (.tup [x, y]) := ⟨by show 2 ≤ sizeLine; decide, [u, u2], .cons ru (.cons ru2 .nil), ⟨_, hT2, rfl, _, rfl⟩⟩
    have out : ∀ c, c ∉ [z, TI, TO, i1, i2] → c ≠ z ∧ c ≠ TO ∧ c ≠ i1 ∧ c ≠ i2 := fun c hb => by
      simp only [List.mem_cons, List.not_mem_nil, or_false, not_or] at hb
      exact ⟨hb.1, hb.2.2.1, hb.2.2.2.1, hb.2.2.2.2⟩
    have I1 : Inv X pins σ (_root_.L2.upd H s.heap.objs.size (.tup [x, y])) { s with heap := h'' } :=
      I.turnedNew (t' := s.toks) (ch := [z, TI, TO, i1, i2]) (fun c o hb q => (sb.2 c (out c hb).1).trans (hk c o (out c hb).1 (out c hb).2.1 (out c hb).2.2.1 (out c hb).2.2.2 q)) hf (Nat.le_refl _) new
    refine ⟨.ref s.heap.objs.size, _, I1, rfl, ⟨_, x, y, rfl, I.hok.fresh (Nat.le_refl _), rfl, fun l hl => by rw [I.tuple_inj hl hqx]; exact hx, fun l hl => by rw [I.list_inj hl hqy]; exact hy⟩, ⟨z'', ?_, ⟨u, u2, ?_⟩, ?_, ?_⟩, fun c hcm => ?_⟩
    · exact (sb.2 _ D.TIz).trans (hk _ _ D.TIz D.TITO D.TIi1 D.TIi2 hTI)
    · exact (sb.2 _ D.TOz).trans TO'
    · exact h1'.at fun o q => (sb.2 _ D.i1z).trans q
    · exact h2'.at fun o q => (sb.2 _ D.i2z).trans q
    · have hlt : c < s.heap.objs.size := by
        simp only [List.mem_cons, List.not_mem_nil, or_false] at hcm
        rcases hcm with rfl | rfl | rfl | rfl | rfl
        · exact hzl
        · exact Heap.lt_size hTI
        · exact Heap.lt_size hTO
        · obtain ⟨_, e1, _⟩ := h1; exact Heap.lt_size e1
        · obtain ⟨_, e2, _⟩ := h2; exact Heap.lt_size e2
      rw [upd_ne (Nat.ne_of_lt hlt)]
      exact (hf c hcm).1
  done := by
    rintro X rfl rfl rfl hc i pins s σ H E I hf ⟨hz, hTI, ⟨x0, y0, hTO⟩, h1, h2⟩ ⟨xs, hqx, hend⟩
    obtain ⟨its, rv, p, _⟩ := I.tuple hqx
    have l1 := rv.length
    refine next_mix_end D (stop_tup (items := its.toArray) (I.ok.hd hc) (by simp; omega)) hz hTI hTO ⟨h1, p⟩ fun h' hk => ⟨rfl, I.turnedL (t' := s.toks) (ch := [z, TI, TO, i1, i2]) (fun c o hb q => ?_) hf⟩
    simp only [List.mem_cons, List.not_mem_nil, or_false, not_or] at hb
    exact hk c o hb.1 hb.2.2.1 hb.2.2.2.1 hb.2.2.2.2 q
  self := fun A i s Q E st h => wpAny_pyIter_zip st.1 h
def iMix (K : PySem.W.Frag) (ta : TA) : TI := fun σ H R => ta σ H fun vs H1 => ∃ a b xs ys, vs = [.ref a, .ref b] ∧ SqT K H1 a xs ∧ SqL K H1 b ys ∧ R (ItzM K a b) H1
theorem pi_mix {X : Cx} {e e2 : Expr} {ta : TA} {p pos tpos : Pos} {elts : List Expr} {kk : Nat} (hg : Gl X "zip") (hm : X.mg "zip" = none) (ha : PA X [e, e2] ta)
    (hs : starEach [e, e2] X.env = (false, eval e X.env) :: starEach [e2] X.env := by rfl) (hpl : (backTo pos (starEach [e2] X.env)).any (·.1) = false := by rfl) :
    PI X (.Tuple elts kk tpos) (.Call (.Name "zip" p) [e, e2] [] pos) (iMix X.K ta) := by
  refine ⟨fun pins s σ H R I h => Call_ (ld_blt I hg hm PyProof.Rows.boot_zip (PyProof.Rows.callWith_type1 (thn (ha.run pos pins s σ H _ I h) fun us s1 ⟨vs, H1, I1, r1, q1⟩ => ?_) hs hpl))⟩
  obtain ⟨a, b, xs, ys, rfl, hqx, hqy, q⟩ := q1
  cases r1 with
  | cons r rr =>
    cases rr with
    | cons r' rr =>
      cases rr
      cases r
      cases r'
      obtain ⟨its, rv, p1, _⟩ := I1.tuple hqx
      obtain ⟨its2, rv2, p2, _⟩ := I1.list hqy
      obtain ⟨o1, ho1, _⟩ := id p1
      refine call_mix (show s1.heap.IsTuple a its.toArray from p1) p2.isList fun h' hz hTI hTO h1 h2 hk => wpAny_pyIter_zip hz ?_
      refine ⟨s1.heap.objs.size + 4, [s1.heap.objs.size + 4, s1.heap.objs.size + 2, s1.heap.objs.size + 3, s1.heap.objs.size, s1.heap.objs.size + 1], _, _, H1, rfl, I1.kept (t' := s1.toks) hk, turn_mix (PySem.W.ktu_apart s1.heap.objs.size a b (Heap.lt_size ho1) p2.lt), ⟨hz, hTI, ⟨_, _, hTO⟩, h1, h2⟩, fun c hcm => ?_, q⟩
      have hle : s1.heap.objs.size ≤ c := by
        simp only [List.mem_cons, List.not_mem_nil, or_false] at hcm
        rcases hcm with rfl | rfl | rfl | rfl | rfl <;> omega
      exact I1.fpOk hle (I1.hok.fresh hle)
end
/-- a list comprehension over zip of a tuple and a list of one length -/
theorem lc_mix {K : PySem.W.Frag} {a b : Addr} {xs ys : List V} {g : TG} {tt : TT} {te : TE} {vs : List Nat} {σ : St} {H1 : Hp} {D : Addr} {Qd : Hp → Prop} (hl : xs.length = ys.length) (Pv : Nat → Hp → Prop) (h0 : Pv 0 (_root_.L2.upd H1 D (.lst []))) (hq : ∀ i H, Pv i H → SqT K H a xs ∧ SqL K H b ys)
    (hs : ∀ (i : Nat) (x y : V) (T : Addr) (H : Hp), xs[i]? = some x → ys[i]? = some y → Pv i H → H T = none → g (.ref T) (wipe σ vs) (_root_.L2.upd H T (.tup [x, y])) fun σ2 H2 => wipe σ2 vs = wipe σ vs ∧ tt σ2 H2 fun b H3 =>
      if b = true then te σ2 H3 fun y H4 => ∃ acc, H4 D = some (.lst acc) ∧ acc.length < sizeLine ∧ Pv (i + 1) (_root_.L2.upd H4 D (.lst (acc ++ [y]))) else Pv (i + 1) H3) (hd : ∀ H, Pv xs.length H → Qd H) :
    ∃ W : Nat → Nat → Hp → Prop, (∃ m, W 0 m (_root_.L2.upd H1 D (.lst []))) ∧ ∀ i m H, W i m H →
      ((ItzM K a b).stop i H ∧ Qd H) ∨ ((ItzM K a b).go i H ∧ ∃ Nx : Hp → Prop, (∀ H', Nx H' → ∃ m', m' < m ∧ W (i + 1) m' H') ∧ ∀ x H', (ItzM K a b).yld i H x H' → g x (wipe σ vs) H' fun σ2 H2 => wipe σ2 vs = wipe σ vs ∧ tt σ2 H2 fun b H3 =>
        if b = true then te σ2 H3 fun y H4 => ∃ acc, H4 D = some (.lst acc) ∧ acc.length < sizeLine ∧ Nx (_root_.L2.upd H4 D (.lst (acc ++ [y]))) else Nx H3) := by
  refine ⟨fun i m H => m = xs.length - i ∧ i ≤ xs.length ∧ Pv i H, ⟨xs.length, rfl, Nat.zero_le _, h0⟩, fun i m H hW => ?_⟩
  obtain ⟨rfl, hi, p⟩ := hW
  obtain ⟨qx, qy⟩ := hq i H p
  rcases Nat.lt_or_ge i xs.length with lt | ge
  · have lt2 : i < ys.length := hl ▸ lt
    have hx : xs[i]? = some xs[i] := List.getElem?_eq_getElem lt
    have hy : ys[i]? = some ys[i] := List.getElem?_eq_getElem lt2
    refine .inr ⟨⟨xs, ys, _, _, qx, qy, hx, hy⟩, Pv (i + 1), fun H' p' => ⟨xs.length - (i + 1), by omega, rfl, lt, p'⟩, fun v H' y => ?_⟩
    obtain ⟨T, x', y', rfl, hT, rfl, f1, f2⟩ := y
    exact hs i x' y' T H (f1 xs qx) (f2 ys qy) p hT
  · have e : i = xs.length := Nat.le_antisymm hi ge
    subst e
    exact .inl ⟨⟨xs, qx, Nat.le_refl _⟩, hd H p⟩

/-! ### y = [f(x) for x in xs], where f may raise -/
section
open PyProof.Rows
theorem note_same {e : Value} {u v : Env} (hf : u.frame = v.frame) : noteFrame e u = noteFrame e v := by
  unfold noteFrame PySem.frameOf
  rw [hf]
/-- how such a comprehension ends; fr: the frame that a raised error has passed -/
def endX (M : Model) (A : Around) (Z : Value → Shared → Prop) (use : Value → Sem Unit) (R : Value → Shared → Prop) (acc : Value) (C : Addr) (fr : Option Addr) (r : Result) (t : Shared) : Prop :=
  match r with
  | .ok _ => wpAny M A (use acc) (fun _ t2 => ∃ m, t2.heap.Ns C m ∧ ∀ g, Heap.SameBut C t2.heap g → R .none { t2 with heap := g }) Z t
  | .error x => ∃ m, t.heap.Ns C m ∧ ∀ g, Heap.SameBut C t.heap g → ∀ ce : Env, ce.frame = fr → wpAny M A (passOn "comprehension.variables-let-go" x ce : Sem Value) (fun _ _ => False) Z { t with heap := g }
theorem compX {M : Model} {A : Around} {Z : Value → Shared → Prop} {t : Shared} {env : Env} {e : Expr} {scope : Scope} {pos : Pos} {newAcc first : Sem Value} {cl1 : Comprehension} {cls : List Comprehension} {cl : List (Str × Addr)} {use : Value → Sem Unit} {R : Value → Shared → Prop}
    (hcl : clausesOf e = cl1 :: cls) (hs : ∀ x, foldedSetIterable cl1.iter env x = pure x) (hclos : closureFor scope env = pure cl) (hk : scope.kind = .function) (hnm : ∀ x ∈ scope.names, x.2 = .local → scope.names.lookup x.1 = some .local)
    (hh : wpAny M A first (fun x t1 => wpAny M A (pyIter x) (fun it t2 => wpAny M A newAcc (fun acc t3 => wpAny M A (newFunctionEnv scope env.globals cl [] env.qual none .none (some env)) (fun ce t4 =>
        codeAny M A (.compStart e 0 it acc { ce with scope := relabel scope env }) (endX M A Z use R acc ce.locals ce.frame) t4) Z t3) Z t2) Z t1) Z t) :
    wpAny M A (comprehension e scope env pos newAcc false first (some use)) R Z t := by
  unfold comprehension
  rw [hclos, hcl]
  refine wpAny_bind (wpAny_mono hh (fun v t1 k1 => ?_) fun _ _ z => z)
  refine wpAny_bind (wpAny_standAt ?_)
  refine wpAny_bind (wpAny_of_eq (hs v) ?_)
  refine wpAny_bind (wpAny_holding (wpAny_mono k1 (fun it t2 k2 => ?_) fun _ _ z => z))
  refine wpAny_standIf ?_
  refine wpAny_bind (wpAny_mono k2 (fun acc t3 k3 => ?_) fun _ _ z => z)
  refine wpAny_bind (wpAny_pure ?_)
  refine wpAny_bind (wpAny_mono k3 (fun ce t4 k4 => ?_) fun _ _ z => z)
  dsimp only
  have v1 : ∀ x ∈ (scope.names.filter fun x => (x.2 == .local || x.2 == .cell) && x.1 != (".0" : Str)).reverse, x.2 = .local → Env.kindOf { ce with scope := relabel scope env } x.1 = some .local :=
    fun x hx hl => lookup_relabel_local (hnm x (List.mem_filter.mp (List.mem_reverse.mp hx)).1 hl)
  have v2 : ∀ x ∈ (scope.names.filter fun x => (x.2 == .local || x.2 == .cell) && x.1 != (".0" : Str)).reverse.drop 1 ++ (scope.names.filter fun x => (x.2 == .local || x.2 == .cell) && x.1 != (".0" : Str)).reverse.take 1, x.2 = .local → Env.kindOf { ce with scope := relabel scope env } x.1 = some .local :=
    fun x hx hl => (List.mem_append.mp hx).elim (fun z => v1 x (List.mem_of_mem_drop z) hl) fun z => v1 x (List.mem_of_mem_take z) hl
  refine wpAny_holding (wpAny_bind (wpAny_attempt (wpAny_holding (wpAny_run (codeAny_mono k4 fun r t5 kr => ?_)))))
  cases r with
  | ok f =>
    refine wpAny_bind (wpAny_rule (wpAny_bind (wpAny_holding (wpAny_mono kr (fun _ t6 k6 => ?_) fun _ _ z => z))))
    obtain ⟨m, hn, k6⟩ := k6
    exact wpAny_bind (wpAny_comp_letGo (cenv := { ce with scope := relabel scope env }) hk _ t6 m v2 hn fun g m2 _ sb => wpAny_pure (k6 g sb))
  | error x =>
    obtain ⟨m, hn, kr⟩ := kr
    exact wpAny_bind (wpAny_holding (wpAny_comp_letGo (cenv := { ce with scope := relabel scope env }) hk _ t5 m v1 hn fun g m2 _ sb => wpAny_mono (kr g sb _ rfl) (fun _ _ z => z.elim) fun _ _ z => z))
theorem ffX {h h2 base B2 : Heap} : ∀ {l : List Env}, h.FunFrames base l → (∀ L ∈ frs l, ∀ o, h.get? L = some o → ∃ o2, h2.get? L = some o2 ∧ o2.data = o.data) → (∀ L ∈ frs l, B2.get? L = none) → h2.FunFrames B2 l
  | [], _, _, _ => trivial
  | env :: l, hf, hk, hn => by
    obtain ⟨k1, ⟨L, o, e1, _, e2, e3⟩, hr⟩ := hf
    have mL : L ∈ frs (env :: l) := List.mem_filterMap.mpr ⟨env, List.mem_cons_self, e1⟩
    have mr : ∀ b ∈ frs l, b ∈ frs (env :: l) := fun b hb => by
      obtain ⟨v, hv, q⟩ := List.mem_filterMap.mp hb
      exact List.mem_filterMap.mpr ⟨v, List.mem_cons_of_mem _ hv, q⟩
    obtain ⟨o2, f1, f2⟩ := hk L mL o e2
    exact ⟨k1, ⟨L, o2, e1, hn L mL, f1, fun vs z => e3 vs (f2.symm.trans z)⟩, ffX hr (fun b hb => hk b (mr b hb)) fun b hb => hn b (mr b hb)⟩
variable {X : Cx} {W : WX} {E : XK}
/-- an error that an element's call let out leaves the comprehension -/
theorem lcx_err {pz pz5 : List (Addr × Obj)} {sg sg5 : L2.St} {H3 H5 : Hp} {s3 s5 s6 : Shared} {scope : Scope} {ce : Env} {fp : List Addr} {use : Value → Sem Unit} {R : Value → Shared → Prop} {acc e : Value}
    (hst : X.stack = X.env :: X.outer) (hfm : X.env.frame = some X.env.locals) (tk : L2N.Takes X W) (hW : ∀ c d sg H, E c d H → W c d sg H) (I3 : Inv X pz sg H3 s3) (f3 : ∀ b ∈ fp, FpOk X pz H3 b)
    (hL : ce.locals = s3.heap.objs.size) (hF : ce.frame = X.env.frame) (I5 : Inv (X.blk s3 H3 scope ce fp) pz5 sg5 H5 s5) (c : L2N.CX X.prog X.w X.stack H5 s5 E e s6) :
    notedBy (model X.prog X.w) X.A ce (fun x t => endX (model X.prog X.w) X.A X.xe use R acc s3.heap.objs.size X.env.frame (.error x) t) e s6 := by
  obtain ⟨a2, B2, H2, cls2, d2, e2, fl2, _⟩ := id c
  obtain ⟨a, B, sI, pn, sg6, H6, cls, d, ea, I6, nb, up, sky, na, os, ag, w⟩ := L2N.XE.of_call (X := X.blk s3 H3 scope ce fp) (W := fun c d _ H => E c d H) I5 (fun _ _ _ z => z) c
  subst ea
  have e2 : a = a2 := by injection e2
  subst e2
  obtain ⟨_, _, _, oe2, vs2, T2, oT2, ts2, t1, _, t2, t3, _, _, t4, t5, t6⟩ := fl2
  have fl : HandSPX.FlyingZ B X.stack a (L2N.Zn cls d) s6.heap := by
    rcases sky with ⟨_, _, _, oe, vs, q1, _, q2, q3⟩ | q | ⟨_, _, _, oe, vs, T, oT, ts, q1, _, q2, q3, _, _, q4, q5, q6⟩
    · rw [t1] at q1
      cases q1
      rw [t2] at q2
      cases q2
      rw [t3] at q3
      cases q3
    · exact q
    · rw [t1] at q1
      cases q1
      rw [t2] at q2
      cases q2
      rw [t3] at q3
      cases q3
      rw [t4] at q4
      cases q4
      rw [t5] at q5
      cases q5
      rw [t6] at q6
      simp [rawInt] at q6
  have hfr : X.A.frames = some (X.env :: X.outer) := by rw [I3.ok.frames, hst]
  have hstk : (X.blk s3 H3 scope ce fp).stack = X.stack := rfl
  unfold notedBy
  rw [note_same hF]
  rw [hst] at fl
  refine PXN.looks_onZ L2N.Zn.steady hfr hfm fl fun h1 hd1 up1 => ?_
  have J := I6.landed (s' := { s6 with heap := h1 }) nb hd1.1 (up.trans up1) os ag
  obtain ⟨m, hn, _⟩ := J.loc
  have hn : h1.Ns s3.heap.objs.size m := hL ▸ hn
  have nC : H6 s3.heap.objs.size = none := hL ▸ J.free
  refine ⟨m, hn, fun g sb cf hcf => ?_⟩
  obtain ⟨kb, en, ff, oe, vs, T, oT, ts, he, hz, hd, h1e, nT, Te, hT, hdT, h3⟩ := hd1
  obtain ⟨oC, esC, epC, gC, dC, _⟩ := id hn
  have aC : a ≠ s3.heap.objs.size := fun z => by
    rw [z, gC] at he
    cases he
    rw [dC] at hd
    cases hd
  have TC : T ≠ s3.heap.objs.size := fun z => by
    rw [z, gC] at hT
    cases hT
    rw [dC] at hdT
    cases hdT
  have he2 : g.get? a = some oe := (sb.2 a aC).trans he
  have hT2 : g.get? T = some oT := (sb.2 T TC).trans hT
  unfold PySem.passOn
  refine wpAny_bind (wpAny_field he2 hd h1e ?_)
  rw [if_neg (show ¬ ((Value.ref T == Value.none) = true) from by simp)]
  refine wpAny_bind ?_
  unfold setFlight
  refine wpAny_bind (wpAny_field he2 hd h1e ?_)
  rw [if_pos (show (Value.ref T != Value.none) = true from by simp)]
  refine wpAny_setField hT2 hdT (Array.getElem?_eq_some_iff.mp h3).1 (wpAny_throw (tk _ _ ?_))
  rw [hcf, hfm]
  show L2N.XE X W (.ref a) { s6 with heap := g.update T (Obj.mapFields (·.setIfInBounds 3 (rawInt X.env.locals))) }
  have oth : ∀ b, b ≠ T → (g.update T (Obj.mapFields (·.setIfInBounds 3 (rawInt X.env.locals)))).get? b = g.get? b := fun b hb => Heap.get?_update_other _ _ (Ne.symm hb)
  have hd3 := Obj.data_mapFields hdT (·.setIfInBounds 3 (rawInt X.env.locals))
  have hT3 := Heap.get?_update_self (Obj.mapFields (·.setIfInBounds 3 (rawInt X.env.locals))) hT2 (Obj.isFreed_of_fields hd3)
  generalize g.update T (Obj.mapFields (·.setIfInBounds 3 (rawInt X.env.locals))) = h2 at oth hT3 ⊢
  obtain ⟨B', b1, b2⟩ := restrict B fun b => decide (b ≠ s3.heap.objs.size)
  have F1 : ∀ b o, B'.get? b = some o → b ≠ s3.heap.objs.size ∧ B.get? b = some o := fun b o q => by
    by_cases z : b = s3.heap.objs.size
    · rw [b2 b (decide_eq_false (fun k => k z))] at q
      cases q
    · rw [b1 b (decide_eq_true z)] at q
      exact ⟨z, q⟩
  have F2 : ∀ b o, B.get? b = some o → b ≠ s3.heap.objs.size → B'.get? b = some o := fun b o q z => (b1 b (decide_eq_true z)).trans q
  have st2 : B'.StaysIn h2 := fun b o q => by
    obtain ⟨z, q⟩ := F1 b o q
    have bT : b ≠ T := fun k => by
      rw [k, nT] at q
      cases q
    rw [oth b bT, sb.2 b z]
    exact kb b o q
  obtain ⟨G, g1, g2⟩ := restrict h2 fun b => (B'.get? b).isSome || decide (b ∈ frs X.stack)
  have gB : ∀ b o, B'.get? b = some o → G.get? b = some o := fun b o q => by
    rw [g1 b (by simp [q])]
    exact st2 b o q
  have gF : ∀ b, b ∈ frs X.stack → G.get? b = h2.get? b := fun b hb => g1 b (by simp [hb])
  have og : ∀ b o, G.get? b = some o → h2.get? b = some o ∧ ((B'.get? b).isSome = true ∨ b ∈ frs X.stack) := fun b o q => by
    cases k : ((B'.get? b).isSome || decide (b ∈ frs X.stack)) with
    | false =>
      rw [g2 b k] at q
      cases q
    | true =>
      rw [g1 b k] at q
      exact ⟨q, by simpa [Bool.or_eq_true] using k⟩
  have old : ∀ b o, s3.heap.get? b = some o → b ≠ s3.heap.objs.size := fun b o q => Nat.ne_of_lt (Heap.lt_size q)
  have fr2 : ∀ b ∈ frs X.stack, ∀ o, h1.get? b = some o → b ≠ s3.heap.objs.size → h2.get? b = some o := fun b hb o q z => by
    have bT : b ≠ T := fun k => by
      rw [← hst] at ff
      obtain ⟨_, o2, q2, dk⟩ := ff.mem hb
      rw [k, hT] at q2
      cases q2
      exact dk _ hdT
    rw [oth b bT, sb.2 b z]
    exact q
  have frC : ∀ b ∈ frs X.stack, b ≠ s3.heap.objs.size := fun b hb z => by
    obtain ⟨_, o2, q2, _⟩ := I3.stack.mem hb
    exact old b o2 q2 z
  have frU : ∀ b ∈ frs X.stack, ∀ o, sI.heap.get? b = some o → ∃ sl, h2.get? b = some { o with slots := sl } := fun b hb o q => by
    obtain ⟨_, o2, q2, dk⟩ := I6.stack.mem (show b ∈ frs (X.blk s3 H3 scope ce fp).stack from hb)
    rw [q] at q2
    cases q2
    obtain ⟨sl, q3⟩ := (up.trans up1) b o q dk
    exact ⟨sl, fr2 b hb _ q3 (frC b hb)⟩
  have un : Un (frs X.stack) fp H3 H6 s3.heap G := by
    refine ⟨fun b o q n hb hx => gB b o (F2 _ _ (nb b o (I6.base.keep b o q n hb hx) hb) (old b o q)), fun b o q n hb hx => ?_, fun b o q n hx => I6.base.free b o q n hx, fun b o q hx => ?_, I6.base.tups, I6.base.frzs, I6.base.tbls⟩
    · obtain ⟨sl, q2⟩ := I6.base.slot b o q n hb hx
      obtain ⟨sl2, q3⟩ := frU b hb _ q2
      exact ⟨sl2, (gF b hb).trans q3⟩
    · by_cases hb : b ∈ frs X.stack
      · obtain ⟨sl, q2⟩ := I6.base.slot b o q (I3.stkFree b hb) hb hx
        obtain ⟨sl2, q3⟩ := frU b hb _ q2
        exact ⟨_, (gF b hb).trans q3⟩
      · obtain ⟨o2, q2⟩ := I6.base.there b o q hx
        exact ⟨o2, gB b o2 (F2 _ _ (nb b o2 q2 hb) (old b o q))⟩
  have hok : HOk X.prog X.w H6 G := fun b o q => (I6.hok b o q).stay (fun k v hk r => by
    have kn : H6 k ≠ none := fun z => by
      rcases hk with hk | hk
      · rw [hk, q] at z
        cases z
      · rw [hk] at z
        cases z
    exact gB k v (F2 _ _ (nb k v r fun hm => kn (I6.stkFree k hm)) fun z => kn (z ▸ nC))) (fun _ z => z) fun _ _ z => z
  have I2 : Inv X pz sg H6 { s6 with heap := G } := I3.call' (ch := fp) (os.trans I6.os) un hok ag fun b hb => ⟨(f3 b hb).2.2.2.1, (f3 b hb).2.1, (f3 b hb).2.2.2.2.1, (f3 b hb).2.2.2.2.2⟩
  refine ⟨a, B', { s6 with heap := G }, pz, sg, H6, cls, d, rfl, I2, fun b o q hb => ?_, Heap.UpToSlots.of_keeps fun b o q => (og b o q).1, .inr (.inr ⟨st2, ?_, ?_, oe, vs, T, _, _, ?_, hz, hd, h1e, ?_, Te, hT3, hd3, ?_⟩), na, rfl, ag, hW _ _ _ _ w⟩
  · obtain ⟨q1, q2⟩ := og b o q
    rcases q2 with q2 | q2
    · obtain ⟨o2, q3⟩ := Option.isSome_iff_exists.mp q2
      have q4 := st2 b o2 q3
      rw [q1] at q4
      cases q4
      exact q3
    · exact absurd q2 hb
  · cases q : B'.get? a with
    | none => rfl
    | some o =>
      have := (F1 a o q).2
      rw [en] at this
      cases this
  · rw [← hst] at ff
    refine ffX ff (fun L mL o q => ⟨o, fr2 L mL o q (frC L mL), rfl⟩) fun L mL => ?_
    cases q : B'.get? L with
    | none => rfl
    | some o =>
      have q2 := (F1 L o q).2
      rw [(ff.mem mL).1] at q2
      cases q2
  · rw [oth a (Ne.symm Te)]
    exact he2
  · cases q : B'.get? T with
    | none => rfl
    | some o =>
      have := (F1 T o q).2
      rw [nT] at this
      cases this
  · have sz : 3 < ts.size := (Array.getElem?_eq_some_iff.mp h3).1
    simp [sz]

theorem mono1 {α : Type} {c : Sem α} {R R2 : α → Shared → Prop} {M : Model} {A : Around} {Z : Value → Shared → Prop} {t : Shared} (h : wpAny M A c R Z t) (k : ∀ v t2, R v t2 → R2 v t2) : wpAny M A c R2 Z t := wpAny_mono h k fun _ _ z => z
/-- name = [elt for target in iter]; E: what an element lets out -/
theorem ps_setLcX {i : Nat} {y : Str} {py : Pos} {elt tg iter : Expr} {scope : Scope} {own : List (Str × Nat)} {pos spos : Pos} {wi : TI} {g : TG} {te : TE}
    (hst : X.stack = X.env :: X.outer) (hfm : X.env.frame = some X.env.locals) (tk : L2N.Takes X W) (hW : ∀ c d sg H, E c d H → W c d sg H)
    (hc : X.calm = true) (hN : X.N.Nodup) (hy : X.N[i]? = some y) (hyl : X.env.scope.names.lookup y = some .local) (hsw : swapsWith (.ListComp elt [⟨tg, iter, [], 0⟩] scope pos) (some (.Name y py)) spos.line X.env = pure true)
    (hi : PI X tg iter wi) (ok : BlkOk X.N X.env.scope scope own)
    (hg : ∀ (t : Shared) (G : Hp) (C : Addr) (cl : List (Str × Addr)) (fp : List Addr), PG (X.blk t G scope (compEnvC scope cl C X.env) fp) tg g)
    (he : ∀ (t : Shared) (G : Hp) (C : Addr) (cl : List (Str × Addr)) (fp : List Addr) (pn : List (Addr × Obj)) (xe : Value → Shared → Prop), (∀ (pz : List (Addr × Obj)) (sg : L2.St) (G1 : Hp) (t1 : Shared) (e : Value) (t2 : Shared), Inv ((X.blk t G scope (compEnvC scope cl C X.env) fp).tr pn xe) pz sg G1 t1 → L2N.CX X.prog X.w X.stack G1 t1 E e t2 → xe e t2) →
      PE ((X.blk t G scope (compEnvC scope cl C X.env) fp).tr pn xe) elt te)
    (hs : ∀ x, foldedSetIterable iter X.env x = pure x := by intro _; rfl) :
    PS X (.Assign [.Name y py] (.ListComp elt [⟨tg, iter, [], 0⟩] scope pos) spos) (tAsg (tLc wi g tYes te (own.map (·.2))) (gName i)) := by
  refine ⟨fun pz ta sg G DD Ia hA => ?_⟩
  rw [exec_Assign_Name_used _ _ _ _ hsw]
  refine wpAny_bind (wpAny_standAt (wpAny_bind ?_))
  show wpAny _ X.A (do let _ ← comprehension (.ListComp elt [⟨tg, iter, [], 0⟩] scope pos) scope X.env (firstIterPos [⟨tg, iter, [], 0⟩] pos) (newList []) false (eval iter X.env) (some (assign (.Name y py) X.env))) _ _ ta
  have hA : tLc wi g tYes te (own.map (·.2)) sg G (fun x G1 => gName i x sg G1 DD.nx) := hA
  refine wpAny_bind (mono1 (R := fun _ tb => SP X pz DD .next tb) ?_ fun _ tb z => wpAny_pure (wpAny_pure z))
  have hfree : ∀ z ∈ scope.names, z.2 = .free → ∃ c, X.env.cells.lookup z.1 = some c := fun z hz q => (ok.free z hz q).elim (fun k => Ia.ok.has _ (.inl k)) fun k => Ia.ok.has _ (.inr k)
  refine compX rfl hs (closure_ok hfree) ok.kind (fun z hz q => by rw [ok.uniq z hz, q]) (mono1 (hi.run pz ta sg G _ Ia hA) fun v t1 k1 => mono1 k1 fun it t2 k2 => ?_)
  obtain ⟨ia, fp, tn, J, G2, ei, J2, TT, sta, fpa, qa⟩ := k2
  subst ei
  refine wpAny_newObj_type (newEnv_comp ?_) (by show 0 ≤ sizeLine; decide)
  generalize hD : t2.heap.objs.size = D
  have nD : G2 D = none := J2.hok.fresh (Nat.le_of_eq hD)
  obtain ⟨WW, ⟨m0, w0⟩, turn⟩ := qa D nD
  generalize ht3 : ({ t2 with heap := t2.heap.push { cls := .type "list", data := .seq ([] : List Value).toArray } } : Shared) = t3
  have J3 : Inv X pz sg (upd G2 D (.lst [])) t3 := by
    rw [← ht3]
    refine J2.laid (t' := t2.toks) (fun b o z => Heap.get?_push_of_some _ z) (Nat.le_of_eq hD) ⟨Nat.zero_le _, [], 0, .nil, ?_⟩
    rw [← hD]
    exact Heap.get?_push_size _ rfl
  have hh3 : t3.heap = t2.heap.push { cls := .type "list", data := .seq ([] : List Value).toArray } := by rw [← ht3]
  have fp3 : ∀ b ∈ fp, FpOk X pz (upd G2 D (.lst [])) b ∧ b < t3.heap.objs.size := fun b hb => by
    obtain ⟨ob, qb, _⟩ := TT.obj _ _ sta b hb
    have lt := Heap.lt_size qb
    refine ⟨⟨?_, (fpa b hb).2⟩, by rw [hh3, Heap.size_push]; exact Nat.lt_succ_of_lt lt⟩
    rw [upd_ne (by rw [← hD]; exact Nat.ne_of_lt lt)]
    exact (fpa b hb).1
  have sta3 : tn 0 t3.heap := TT.keep _ _ _ sta fun b _ o z => by rw [hh3]; exact Heap.get?_push_of_some _ z
  have J4 := block_start J3 ok hN fp3
  have pg := hg t3 (upd G2 D (.lst [])) t3.heap.objs.size (cellsFrom (t3.heap.objs.size + 1) scope.names (cloFrom X.env.cells scope.names [])) fp
  have pe := he t3 (upd G2 D (.lst [])) t3.heap.objs.size (cellsFrom (t3.heap.objs.size + 1) scope.names (cloFrom X.env.cells scope.names [])) fp
  show codeAny _ _ (.compStart (.ListComp elt [⟨tg, iter, [], 0⟩] scope pos) 0 (.ref ia) (.ref D) (compEnvC scope (cellsFrom (t3.heap.objs.size + 1) scope.names (cloFrom X.env.cells scope.names [])) t3.heap.objs.size X.env)) (endX (model X.prog X.w) X.A X.xe (assign (.Name y py) X.env) (fun _ tb => SP X pz DD .next tb) (.ref D) t3.heap.objs.size X.env.frame) { t3 with heap := pushCells (t3.heap.push { cls := .type "dict", data := .dict #[] }) scope.names }
  have nfp : ∀ b ∈ fp, (upd G2 D (.lst [])) b = none := fun b hb => (fp3 b hb).1.1
  generalize hce : compEnvC scope (cellsFrom (t3.heap.objs.size + 1) scope.names (cloFrom X.env.cells scope.names [])) t3.heap.objs.size X.env = ce at J4 pg pe ⊢
  have cL : ce.locals = t3.heap.objs.size := by subst hce; rfl
  have cF : ce.frame = X.env.frame := by subst hce; rfl
  generalize hG3 : upd G2 D (.lst []) = G3 at J3 J4 pg pe w0 nfp fp3
  generalize ht4 : ({ t3 with heap := pushCells (t3.heap.push { cls := .type "dict", data := .dict #[] }) scope.names } : Shared) = t4 at J4 ⊢
  have sta4 : tn 0 t4.heap := TT.keep _ _ _ sta3 fun b _ o z => by rw [← ht4]; exact pushCells_keeps _ _ _ _ (Heap.get?_push_of_some _ z)
  have fpb : ∀ {s1 : L2.St} {G1 : Hp} {tb : Shared}, Inv (X.blk t3 G3 scope ce fp) [] s1 G1 tb → (∀ b ∈ fp, G1 b = none) → ∀ b ∈ fp, FpOk (X.blk t3 G3 scope ce fp) [] G1 b := fun {s1 G1 tb} Jb hn b hb =>
    ⟨hn b hb, (Jb.ok.exf b hb).1, Jb.ok.exfs b hb, .inl hb, fun x c z => (Jb.ok.exf b hb).2 x c z, fun p hp => absurd (show p ∈ ([] : List (Addr × Obj)) ++ [] from hp) (by simp)⟩
  have loop : codeAny (model X.prog X.w) X.A (.compLoop (.ListComp elt [⟨tg, iter, [], 0⟩] scope pos) 0 (.ref ia) (.ref D) ce) (endX (model X.prog X.w) X.A X.xe (assign (.Name y py) X.env) (fun _ tb => SP X pz DD .next tb) (.ref D) t3.heap.objs.size X.env.frame) t4 := by
    refine compLoop_any (fun n tb => ∃ j Gb, Inv (X.blk t3 G3 scope ce fp) [] (wipe sg (own.map (·.2))) Gb tb ∧ tn j tb.heap ∧ (∀ b ∈ fp, Gb b = none) ∧ WW j n Gb) ?_ m0 ⟨0, G3, J4, sta4, nfp, w0⟩
    rintro n t5 ⟨j, G5, J5, sta5, n5, w5⟩
    rcases turn j n G5 w5 with ⟨stop, qq⟩ | ⟨go, Nx, hNx, step⟩
    · have td := TT.done (X.blk t3 G3 scope ce fp) rfl rfl rfl hc j [] t5 _ G5 (fun _ _ => False) J5 (fpb J5 n5) sta5 stop
      refine thnF td fun r t6 ⟨hr, J6⟩ => ?_
      subst hr
      have J7 : Inv X pz sg G5 t6 := J3.call' (ch := fp) J6.os J6.base J6.hok J6.bare fun b hb => ⟨(fp3 b hb).1.2.2.2.1, (fp3 b hb).1.2.1, (fp3 b hb).1.2.2.2.2.1, (fp3 b hb).1.2.2.2.2.2⟩
      have nC : G5 t3.heap.objs.size = none := cL ▸ J6.free
      obtain ⟨m, hn, _⟩ := J6.loc
      have hn : t6.heap.Ns t3.heap.objs.size m := cL ▸ hn
      obtain ⟨f0, f1, f2, f3, f4, f5⟩ := J3.fpOk (Nat.le_refl _) nC
      show wpAny _ _ (assign (.Name y py) X.env (.ref D)) _ _ _
      refine wpAny_assign_Name (store_ok2 (v := V.ref D) J7 hN hy (.inl hyl) rfl (fun tc Jc ⟨cx, sb, hx⟩ => ?_) (.inr hyl))
      have neC : t3.heap.objs.size ≠ cx := by
        rcases hx with z | z
        · rw [z]
          exact f1
        · exact fun k => f4 y cx z k.symm
      refine ⟨m, hn.sameBut sb neC, fun g3 sb3 => ?_⟩
      exact ⟨_, G5, Jc.turned (t' := tc.toks) (fun b o hb z => (sb3.2 b hb).trans z) f0 f1 f3 f4 f5, qq⟩
    · have ti := TT.item (X.blk t3 G3 scope ce fp) rfl rfl rfl hc j [] t5 _ G5 (fun _ _ => False) J5 (fpb J5 n5) sta5 go
      refine thnF ti fun r t6 ⟨u, hr, h6⟩ => ?_
      subst hr
      refine thnF h6 fun _ t7 ⟨x, G7, J7, r7, y7, sta7, n7⟩ => ?_
      have K7 := J7.pinned (fpb J7 n7) (TT.obj _ _ sta7)
      refine thnF (pg.run _ t7 _ G7 x u _ K7 r7 (step x G7 y7)) fun _ t8 ⟨s8, G8, J8, hw8, q8⟩ => ?_
      have q8 : te s8 G8 fun yv G4 => ∃ acc, G4 D = some (.lst acc) ∧ acc.length < sizeLine ∧ Nx (upd G4 D (.lst (acc ++ [yv]))) := by
        have z := q8
        simp only [tYes, if_true] at z
        exact z
      refine thnF (wpAny_tests_nil ⟨rfl, rfl⟩ : wpAny _ _ _ (fun b t9 => b = true ∧ t9 = t8) (fun _ _ => False) t8) fun b t9 ⟨hb9, ht9⟩ => ?_
      subst hb9
      subst ht9
      rw [if_pos rfl]
      have K8 := J8.toTry (notedBy (model X.prog X.w) X.A ce fun e t => endX (model X.prog X.w) X.A X.xe (assign (.Name y py) X.env) (fun _ tb => SP X pz DD .next tb) (.ref D) t3.heap.objs.size X.env.frame (.error e) t)
      have pz8 := (pe _ _ (fun pn sgb Gb tb e tc Jb c => lcx_err hst hfm tk hW J3 (fun b hb => (fp3 b hb).1) cL cF (show Inv (X.blk t3 G3 scope ce fp) [] sgb Gb tb from ⟨J8.ok, Jb.os, Jb.bare, Jb.base, Jb.loc, Jb.cell, Jb.free, Jb.freeC, fun p hp => absurd (show p ∈ ([] : List (Addr × Obj)) ++ [] from hp) (by simp), Jb.hok, Jb.len⟩) c)).run _ t9 s8 G8 _ K8 q8
      refine mono1 pz8 fun z t10 ⟨yv, G10, J10, r10, acc, hD10, hz10, nx⟩ => ?_
      have J10 := J10.ofTry J8.ok
      refine app_ok (X := X.blk t3 G3 scope ce fp) J10 hD10 hz10 r10 fun t11 J11 => ?_
      obtain ⟨m', hm, w'⟩ := hNx _ nx
      have pin : ∀ b ∈ fp, ∀ o, t7.heap.get? b = some o → t11.heap.get? b = some o ∧ (upd G10 D (.lst (acc ++ [yv]))) b = none := fun b hb o z =>
        let k := J11.pin (b, o) (List.mem_append_right _ (List.mem_append_right _ (mem_pinsAt hb z)))
        ⟨k.1, k.2.1⟩
      have hl : (wipe sg (own.map (·.2))).length = s8.length := by rw [← hw8, wipe_length]
      refine ⟨m', hm, j + 1, _, (J11.unpinned (pins := [])).weak hl (fun k v z => ?_), TT.keep _ _ _ sta7 fun b hb o z => (pin b hb o z).1, fun b hb => ?_, w'⟩
      · rw [← hw8] at z
        exact (wipe_some z).1
      · obtain ⟨o, z, _⟩ := TT.obj _ _ sta7 b hb
        exact (pin b hb o z).2
  exact codeAny_compStart_list loop (TT.self X.A 0 _ _ _ sta4 loop)
end

structure TxtE (P : Program) (w : World) (K : PySem.W.Frag) (mg : Str → Option Value) (a : Ads) : Prop where
  g_MARKS : mg "MARKS" = some (.ref a.P_MARKS)
  tab_MARKS : KTab K w a.P_MARKS [("p", a.M_MARKS_p), ("w", a.M_MARKS_w), ("d", a.M_MARKS_d), ("k", a.M_MARKS_k)]
  s_MARKS_p : ∀ H, SqT K H a.M_MARKS_p [V.str "p", V.str "q", V.str "r"]
  s_MARKS_w : ∀ H, SqT K H a.M_MARKS_w [V.str "w", V.str "x"]
  s_MARKS_d : ∀ H, SqT K H a.M_MARKS_d [V.str "d", V.str "z"]
  s_MARKS_k : ∀ H, SqT K H a.M_MARKS_k [V.str "k", V.str "b", V.str "v"]
  g_BadCommand : mg "BadCommand" = some (.ref a.C_BadCommand)
  x_BadCommand : PySem.W.excIn K a.C_BadCommand [.type "ValueError", .type "Exception", .type "BaseException", .type "object"] "ValueError.__new__" = true
  kc_BadCommand : PySem.W.keepIn K (.ref a.C_BadCommand) = true
  b_BadCommand : PySem.W.subIn K (.ref a.C_BadCommand) (.type "BaseException") = some true
  t_BadCommand : PySem.W.typeIn K (.ref a.C_BadCommand) = some (.type "type")
  xc_BadCommand : XcC K a.C_BadCommand
  exm_BadCommand_BadCommand : PySem.W.exmOne K (.ref a.C_BadCommand) (.ref a.C_BadCommand) = some true
  g_BadLine : mg "BadLine" = some (.ref a.C_BadLine)
  sup_BadLine : ∃ fd, SupCls P K a.C_BadLine "BadLine.__init__" "at" "at" s_BadLine_init a.d_BadLine_init fd ∧ Binds K fd ["self", "at"] []
  iC_BadLine : PySem.W.findIn K (.ref a.C_BadLine) "__init__" = some (some (.ref a.d_BadLine_init))
  tI_BadLine : PySem.W.typeIn K (.ref a.d_BadLine_init) = some (.type "function")
  oex_BadLine : OexC K a.C_BadLine
  xc_BadLine : XcC K a.C_BadLine
  g_BadScript : mg "BadScript" = some (.ref a.C_BadScript)
  sup_BadScript : ∃ fd, SupCls P K a.C_BadScript "BadScript.__init__" "at" "at" s_BadScript_init a.d_BadScript_init fd ∧ Binds K fd ["self", "at"] []
  iC_BadScript : PySem.W.findIn K (.ref a.C_BadScript) "__init__" = some (some (.ref a.d_BadScript_init))
  tI_BadScript : PySem.W.typeIn K (.ref a.d_BadScript_init) = some (.type "function")
  oex_BadScript : OexC K a.C_BadScript
  xc_BadScript : XcC K a.C_BadScript
  g_KINDS : mg "KINDS" = some (.ref a.P_KINDS)
  s_KINDS : ∀ H, SqT K H a.P_KINDS [V.str "proposal", V.str "prevote", V.str "precommit"]
  exm_BadLine_BadLine : PySem.W.exmOne K (.ref a.C_BadLine) (.ref a.C_BadLine) = some true
  g_NUMBERED : mg "NUMBERED" = some (.ref a.P_NUMBERED)
  tab_NUMBERED : KTabI K w a.P_NUMBERED [("deliver", 2), ("timeout", 1), ("assist", 2), ("crash", 1)]
  g_TribunalError : mg "TribunalError" = some (.ref a.C_TribunalError)
  exm_TribunalError_BadScript : PySem.W.exmOne K (.ref a.C_BadScript) (.ref a.C_TribunalError) = some true
  exm_BadScript_BadScript : PySem.W.exmOne K (.ref a.C_BadScript) (.ref a.C_BadScript) = some true
  kta_BadScript_BadCommand_BadLine : PySem.W.kitAny K (.ref a.C_BadScript) [.ref a.C_BadCommand, .ref a.C_BadLine] = some false
  kt_BadScript_BadScript : PySem.W.kitOne K (.ref a.C_BadScript) (.ref a.C_BadScript) = some true

/-! ### journals -/
theorem hu65 {k : Nat} {A : Around} (r : Room k A) : A.units + 65 < cLine := by
  have := r.un
  omega
instance : Inhabited Sm := ⟨⟨.prop, 0, 0, none, none⟩⟩
def SsAt (H : Hp) (ps : List Addr) (ms : List Sm) : Prop := ps.length = ms.length ∧ ∀ i, i < ms.length → SmAt H (ps.getD i 0) (ms.getD i default)
theorem SsAt.nil {H : Hp} : SsAt H [] [] := ⟨rfl, fun i h => absurd h (Nat.not_lt_zero i)⟩
theorem SsAt.same {H H' : Hp} {ps : List Addr} {ms : List Sm} (h : SsAt H ps ms) (s : Same H H') : SsAt H' ps ms := ⟨h.1, fun i hi => s _ _ (h.2 i hi)⟩
theorem ne_ls {H : Hp} {p l : Addr} {m : Sm} {ys : List V} (h : SmAt H p m) (hl : H l = some (.lst ys)) : p ≠ l := fun e => by
  have h : H p = some (.tup m.vals) := h
  rw [e, hl] at h
  cases h
/-- all but the object at l stays -/
def But (l : Addr) (H H' : Hp) : Prop := ∀ b o, b ≠ l → H b = some o → H' b = some o
theorem But.sm {l : Addr} {H H' : Hp} {p : Addr} {m : Sm} {ys : List V} (k : But l H H') (hl : H l = some (.lst ys)) (h : SmAt H p m) : SmAt H' p m := k _ _ (ne_ls h hl) h
theorem But.ss {l : Addr} {H H' : Hp} {ps : List Addr} {ms : List Sm} {ys : List V} (k : But l H H') (hl : H l = some (.lst ys)) (h : SsAt H ps ms) : SsAt H' ps ms := ⟨h.1, fun i hi => k.sm hl (h.2 i hi)⟩
theorem SsAt.snoc {H : Hp} {ps : List Addr} {ms : List Sm} {p : Addr} {m : Sm} (h : SsAt H ps ms) (e : SmAt H p m) : SsAt H (ps ++ [p]) (ms ++ [m]) := by
  refine ⟨by rw [List.length_append, List.length_append, h.1]; rfl, fun i hi => ?_⟩
  rw [List.length_append, List.length_singleton] at hi
  rcases Nat.lt_or_ge i ms.length with z | z
  · rw [getD_left (by rw [h.1]; exact z), getD_left z]
    exact h.2 i z
  · have ei : i = ms.length := by omega
    subst ei
    rw [getD_last]
    have : (ps ++ [p]).getD ms.length 0 = p := by rw [← h.1, getD_last]
    rw [this]
    exact e
theorem SsAt.cons {H : Hp} {p : Addr} {ps : List Addr} {m : Sm} {ms : List Sm} (h : SsAt H (p :: ps) (m :: ms)) : SmAt H p m ∧ SsAt H ps ms :=
  ⟨h.2 0 (Nat.succ_pos _), Nat.succ.inj h.1, fun i hi => h.2 (i + 1) (Nat.succ_lt_succ hi)⟩
def smD (m : Sm) : PyData := .tuple m.dat
theorem dp_sms {K : PySem.W.Frag} {H : Hp} : ∀ {ps : List Addr} {ms : List Sm}, SsAt H ps ms → DpAll K H (ps.map V.ref) (ms.map smD)
  | [], [], _ => .nil
  | p :: ps, m :: ms, h => .cons (dp_sm h.cons.1) (dp_sms h.cons.2)
  | [], m :: ms, h => nomatch h.1
  | p :: ps, [], h => nomatch h.1
def OkM (ms : List Sm) : Prop := ∀ m ∈ ms, OkS m.b
theorem lay_sms : ∀ {ms : List Sm}, OkM ms → PyData.canLayAll0 (ms.map smD) = true
  | [], _ => by simp [PyData.canLayAll0]
  | m :: ms, o => by
    simp only [List.map_cons, PyData.canLayAll0]
    rw [show PyData.canLay0 (smD m) = true from lay_sm m (o m List.mem_cons_self), lay_sms fun y hy => o y (List.mem_cons_of_mem _ hy)]
    rfl
theorem depth_sms : ∀ ms : List Sm, PyData.depthAll (ms.map smD) ≤ 1
  | [] => by simp [PyData.depthAll]
  | m :: ms => by
    have := depth_sms ms
    have h : PyData.depth (smD m) = 1 := depth_sm m
    simp only [List.map_cons, PyData.depthAll, h]
    omega
theorem shaped_sms {ms : List Sm} (o : OkM ms) : SeqAt.shaped (.list (ms.map smD)) = true := by
  have h := depth_sms ms
  unfold SeqAt.shaped
  have e : PyData.depth (.list (ms.map smD)) = PyData.depthAll (ms.map smD) + 1 := by simp only [PyData.depth]
  have l : PyData.canLay0 (.list (ms.map smD)) = true := by simp only [PyData.canLay0, lay_sms o]
  rw [l, e, decide_eq_true (show PyData.depthAll (ms.map smD) + 1 ≤ 64 by omega)]
  rfl
theorem eqv_sms {ms : List Sm} (o : OkM ms) : PyData.eqv (.list (ms.map smD)) (.list (ms.map smD)) = true := SeqAt.eqv_refl _ (by
  simp only [PyData.canLay0, lay_sms o])
/-- m in ms -/
def memS (ms : List Sm) (m : Sm) : Bool := (ms.map smD).any fun z => PyData.eqv z (smD m)
theorem ne_wsg : ¬ (("who" : Str) = "signed") := by decide +kernel
def jfs (who : Int) (L : Addr) : List (Str × V) := putF "signed" (.ref L) (putF "who" (.int who) [])
theorem jfs_w (who : Int) (L : Addr) : (jfs who L).lookup ("who" : Str) = some (.int who) := by
  unfold jfs
  rw [lookup_putF, if_neg ne_wsg, lookup_putF, if_pos rfl]
theorem jfs_s (who : Int) (L : Addr) : (jfs who L).lookup ("signed" : Str) = some (.ref L) := by
  unfold jfs
  rw [lookup_putF, if_pos rfl]
theorem jfs_no (who : Int) (L : Addr) {m : Str} (h1 : ¬ m = "who") (h2 : ¬ m = "signed") : (jfs who L).lookup m = none := by
  unfold jfs
  rw [lookup_putF, if_neg h2, lookup_putF, if_neg h1]
  rfl
def JAt (C : Addr) (H : Hp) (j : Addr) (who : Int) (L : Addr) : Prop := ∃ dx, H j = some (.ins C dx (jfs who L))
/-- the first of the first n that clashes with m -/
def fcl (ms : List Sm) (m : Sm) : Nat → Option Nat
  | 0 => none
  | n + 1 => match fcl ms m n with
    | some k => some k
    | none => if clashM (ms.getD n default) m then some n else none
theorem fcl_none {ms : List Sm} {m : Sm} : ∀ {n : Nat}, fcl ms m n = none → ∀ k, k < n → clashM (ms.getD k default) m = false
  | 0, _, k, hk => absurd hk (Nat.not_lt_zero _)
  | n + 1, h, k, hk => by
    rw [fcl] at h
    split at h
    · cases h
    · rename_i e
      split at h
      · cases h
      · rename_i c
        rcases Nat.lt_or_ge k n with z | z
        · exact fcl_none e k z
        · have : k = n := by omega
          rw [this]
          simpa using c
theorem fcl_keep {ms : List Sm} {m : Sm} {n k : Nat} (h : fcl ms m n = some k) : fcl ms m (n + 1) = some k := by
  rw [fcl, h]
theorem fcl_new {ms : List Sm} {m : Sm} {n : Nat} (h : fcl ms m n = none) (c : clashM (ms.getD n default) m = true) : fcl ms m (n + 1) = some n := by
  rw [fcl, h]
  exact if_pos c
theorem fcl_no {ms : List Sm} {m : Sm} {n : Nat} (h : fcl ms m n = none) (c : clashM (ms.getD n default) m = false) : fcl ms m (n + 1) = none := by
  rw [fcl, h]
  exact if_neg (by rw [c]; exact Bool.false_ne_true)
theorem fcl_mono {ms : List Sm} {m : Sm} {n k : Nat} (h : fcl ms m n = some k) : ∀ d, fcl ms m (n + d) = some k
  | 0 => h
  | d + 1 => fcl_keep (fcl_mono h d)
theorem fcl_lt {ms : List Sm} {m : Sm} : ∀ {n k : Nat}, fcl ms m n = some k → k < n
  | 0, k, h => nomatch h
  | n + 1, k, h => by
    rw [fcl] at h
    split at h
    · rename_i e
      cases h
      have := fcl_lt e
      omega
    · split at h
      · cases h
        exact Nat.lt_succ_self _
      · cases h
/-- what is signed behind m -/
def after (ps : List Addr) (ms : List Sm) (p : Addr) (m : Sm) : List Addr := if memS ms m then ps else ps ++ [p]
def afterM (ms : List Sm) (m : Sm) : List Sm := if memS ms m then ms else ms ++ [m]
theorem shaped_pair {who : Int} {m : Sm} (o : OkS m.b) : SeqAt.shaped (.tuple [.int who, .tuple m.dat]) = true := shaped_lt (x := ⟨who, m⟩) o
theorem eqv_pair {who : Int} {m : Sm} (o : OkS m.b) : PyData.eqv (.tuple [.int who, .tuple m.dat]) (.tuple [.int who, .tuple m.dat]) = true := eqv_lt (x := ⟨who, m⟩) o
def spJI (K : PySem.W.Frag) (C : Addr) : Sp := fun vs H Q _ => ∃ (p dx : Addr) (who : Int), vs = [.ref p, .int who] ∧ H p = some (.ins C dx []) ∧ ∀ (L : Addr) (H' : Hp), H L = none → H' p = some (.ins C dx (jfs who L)) → H' L = some (.lst []) → (∀ b o, b ≠ p → H b = some o → H' b = some o) → Q .non H'
def spSign (K : PySem.W.Frag) (C CR : Addr) : Sp := fun vs H Q E => ∃ (j p L : Addr) (who : Int) (ps : List Addr) (ms : List Sm) (m : Sm), vs = [.ref j, .ref p] ∧ JAt C H j who L ∧ H L = some (.lst (ps.map V.ref)) ∧ SsAt H ps ms ∧ SmAt H p m ∧ ms.length ≤ 900 ∧ OkM ms ∧ OkS m.b ∧
  (∀ k, fcl ms m ms.length = some k → ∀ d H', Same H H' → H' d = some (.xd [(("vote" : Str), .ref (ps.getD k 0))]) → E (.ref CR) (some d) H') ∧
  (fcl ms m ms.length = none → ∀ t H', But L H H' → H' L = some (.lst ((after ps ms p m).map V.ref)) → H' t = some (.tup [.int who, .ref p]) → Q (.ref t) H')
def spLast (K : PySem.W.Frag) (C : Addr) : Sp := fun vs H Q _ => ∃ (j L : Addr) (who h : Int) (ps : List Addr) (ms : List Sm), vs = [.ref j, .int h] ∧ JAt C H j who L ∧ H L = some (.lst (ps.map V.ref)) ∧ SsAt H ps ms ∧ ms.length ≤ 900 ∧ (∀ m ∈ ms, 0 ≤ m.t) ∧
  ∀ (z : Int) H', Same H H' → (z = 0 ∨ z ∈ (ms.filter fun m => decide (m.h = h)).map Sm.t) → 0 ≤ z → (∀ m ∈ ms, m.h = h → m.t ≤ z) → Q (.int z) H'

/-! ### words and lines -/
def wordV : V → Str
  | .non => "-"
  | .int i => toString i
  | .str x => x
  | _ => ""
def lineS (who : Int) (m : Sm) : Str := Txt.join " " ((toString who : Str) :: m.vals.map wordV)
/-- small numbers and names -/
def SmallV (v : V) : Prop := v = .non ∨ (∃ i : Int, v = .int i ∧ 0 ≤ i ∧ i < 1000000000) ∨ ∃ x : Str, v = .str x ∧ x.length ≤ 60 ∧ PyData.strOk x = true
def SmallM (m : Sm) : Prop := ∀ v ∈ m.vals, SmallV v
theorem strOk_of {x : Str} (h : ∀ c ∈ TL.tl x, c < 1114112) : PyData.strOk x = true := by
  unfold PyData.strOk
  rw [← Array.all_toList]
  exact List.all_eq_true.mpr fun c hc => decide_eq_true (h c hc)
theorem tos_nat {i : Int} (h0 : 0 ≤ i) : (toString i : Str) = Str.ofString (toString ((i.toNat : Nat) : Int)) := by
  rw [Int.toNat_of_nonneg h0]
theorem num_ok {i : Int} (h0 : 0 ≤ i) (h1 : i < 1000000000) : (toString i : Str).length ≤ 60 ∧ PyData.strOk (toString i : Str) = true := by
  have e : TL.tl (toString i : Str) = TL.numL i.toNat := by
    rw [tos_nat h0, TL.tl_num]
  refine ⟨?_, strOk_of fun c hc => ?_⟩
  · rw [TL.len_tl, e]
    exact Nat.le_trans (TL.numL_len (k := 9) (by decide) (by omega)) (by decide)
  · rw [e] at hc
    have := TL.numL_digits i.toNat c hc
    omega
theorem log_small {i : Int} (h0 : 0 ≤ i) (h1 : i < 1000000000) : i.natAbs.log2 < 1920 := by
  rcases Nat.eq_zero_or_pos i.natAbs with z | z
  · rw [z]
    decide
  · have : i.natAbs.log2 < 30 := (Nat.log2_lt (Nat.ne_of_gt z)).mpr (by omega)
    omega
theorem word_ok {v : V} (h : SmallV v) : (wordV v).length ≤ 60 ∧ PyData.strOk (wordV v) = true := by
  rcases h with rfl | ⟨i, rfl, h0, h1⟩ | ⟨x, rfl, h⟩
  · exact ⟨by decide +kernel, by decide +kernel⟩
  · exact num_ok h0 h1
  · exact h
theorem vals_len (m : Sm) : m.vals.length ≤ 5 := by
  obtain ⟨mk, mh, mt, mb, ml⟩ := m
  cases mk <;> simp [Sm.vals]
theorem strOk_app {a b : Str} (h1 : PyData.strOk a = true) (h2 : PyData.strOk b = true) : PyData.strOk (a ++ b) = true := by
  unfold PyData.strOk at *
  show (a.cps ++ b.cps).all _ = true
  rw [Array.all_append, h1, h2]
  rfl
theorem strOk_join {y : Str} (hy : PyData.strOk y = true) : ∀ {parts : List Str}, (∀ x ∈ parts, PyData.strOk x = true) → PyData.strOk (Str.join y parts) = true
  | [], _ => (by decide +kernel : PyData.strOk Str.empty = true)
  | [x], h => h x List.mem_cons_self
  | x :: z :: r, h => strOk_app (strOk_app (h x List.mem_cons_self) hy) (strOk_join hy fun w hw => h w (List.mem_cons_of_mem _ hw))
theorem line_ok {who : Int} {m : Sm} (w0 : 0 ≤ who) (w1 : who < 1000000000) (h : SmallM m) : PyData.strOk (lineS who m) = true := by
  unfold lineS
  rw [TL.join_eq]
  refine strOk_join (by decide +kernel) fun x hx => ?_
  rcases List.mem_cons.mp hx with rfl | hx
  · exact (num_ok w0 w1).2
  · obtain ⟨v, hv, rfl⟩ := List.mem_map.mp hx
    exact (word_ok (h v hv)).2
theorem sum_small : ∀ {ys : List Str}, (∀ y ∈ ys, y.length ≤ 60) → (ys.map (·.length)).sum ≤ 60 * ys.length
  | [], _ => by simp
  | y :: ys, h => by
    have h1 := h y List.mem_cons_self
    have h2 := sum_small fun z hz => h z (List.mem_cons_of_mem _ hz)
    simp only [List.map_cons, List.sum_cons, List.length_cons]
    omega
theorem join_fit {who : Int} {m : Sm} (w0 : 0 ≤ who) (w1 : who < 1000000000) (h : SmallM m) : ((((toString who : Str) :: m.vals.map wordV)).map (·.length)).sum + (((toString who : Str) :: m.vals.map wordV)).length * (" " : Str).length ≤ 16777216 := by
  have l := vals_len m
  have s := sum_small (ys := (toString who : Str) :: m.vals.map wordV) fun y hy => by
    rcases List.mem_cons.mp hy with rfl | hy
    · exact (num_ok w0 w1).1
    · obtain ⟨v, hv, rfl⟩ := List.mem_map.mp hy
      exact (word_ok (h v hv)).1
  have e : (" " : Str).length = 1 := by decide +kernel
  simp only [List.length_cons, List.length_map] at s ⊢
  rw [e]
  omega
theorem dp_strs {K : PySem.W.Frag} {H : Hp} : ∀ xs : List Str, DpAll K H (xs.map V.str) (xs.map PyData.str)
  | [] => .nil
  | x :: xs => .cons (.str x) (dp_strs xs)
theorem lay_strs : ∀ {xs : List Str}, (∀ x ∈ xs, PyData.strOk x = true) → PyData.canLayAll0 (xs.map PyData.str) = true
  | [], _ => by simp [PyData.canLayAll0]
  | x :: xs, o => by
    simp only [List.map_cons, PyData.canLayAll0, PyData.canLay0, o x List.mem_cons_self, lay_strs fun y hy => o y (List.mem_cons_of_mem _ hy)]
    rfl
theorem depth_strs : ∀ xs : List Str, PyData.depthAll (xs.map PyData.str) = 0
  | [] => by simp [PyData.depthAll]
  | x :: xs => by
    have := depth_strs xs
    simp only [List.map_cons, PyData.depthAll, PyData.depth, this]
    rfl
theorem shaped_strs {xs : List Str} (o : ∀ x ∈ xs, PyData.strOk x = true) : SeqAt.shaped (.list (xs.map PyData.str)) = true := by
  unfold SeqAt.shaped
  have e : PyData.depth (.list (xs.map PyData.str)) = PyData.depthAll (xs.map PyData.str) + 1 := by simp only [PyData.depth]
  have l : PyData.canLay0 (.list (xs.map PyData.str)) = true := by simp only [PyData.canLay0, lay_strs o]
  rw [l, e, depth_strs]
  rfl
theorem eqv_strs {xs : List Str} (o : ∀ x ∈ xs, PyData.strOk x = true) : PyData.eqv (.list (xs.map PyData.str)) (.list (xs.map PyData.str)) = true := SeqAt.eqv_refl _ (by
  simp only [PyData.canLay0, lay_strs o])
def spWord (K : PySem.W.Frag) : Sp := fun vs H Q _ => ∃ v : V, vs = [v] ∧ SmallV v ∧ Q (.str (wordV v)) H
def spLine (K : PySem.W.Frag) : Sp := fun vs H Q _ => ∃ (t : Addr) (x : Lt), vs = [.ref t] ∧ LtAt H t x ∧ 0 ≤ x.w ∧ x.w < 1000000000 ∧ SmallM x.m ∧ ∀ H', Same H H' → Q (.str (lineS x.w x.m)) H'
def spLines (K : PySem.W.Frag) (C : Addr) : Sp := fun vs H Q _ => ∃ (j L : Addr) (who : Int) (ps : List Addr) (ms : List Sm), vs = [.ref j] ∧ JAt C H j who L ∧ H L = some (.lst (ps.map V.ref)) ∧ SsAt H ps ms ∧ ms.length ≤ 900 ∧ 0 ≤ who ∧ who < 1000000000 ∧ (∀ m ∈ ms, SmallM m) ∧
  ∀ R H', Same H H' → H' R = some (.lst ((ms.map (lineS who)).map V.str)) → Q (.ref R) H'

/-! ### words read back -/
def isD (c : Nat) : Bool := decide (48 ≤ c) && decide (c ≤ 57)
theorem isD_iff {c : Nat} : isD c = true ↔ 48 ≤ c ∧ c ≤ 57 := by
  unfold isD
  rw [Bool.and_eq_true, decide_eq_true_eq, decide_eq_true_eq]
def numB (w : Str) : Bool := (TL.tl w).all isD && (decide (TL.tl w ≠ []) && (decide ((TL.tl w).length ≤ 9) && (decide (w = "0") || decide ((TL.tl w).head? ≠ some 48))))
def numV (w : Str) : Int := ((NumText.digitsVal (TL.tl w) : Nat) : Int)
theorem ascii_digit : ∀ c : _root_.Fin 128, Unicode.isDigit c.val = isD c.val := by decide +kernel
theorem all_digit : ∀ {l : List Nat}, (l.all fun c => decide (c < 128)) = true → l.all Unicode.isDigit = l.all isD
  | [], _ => rfl
  | c :: l, h => by
    rw [List.all_cons, Bool.and_eq_true] at h
    have hc := of_decide_eq_true h.1
    rw [List.all_cons, List.all_cons, ascii_digit ⟨c, hc⟩, all_digit h.2]
theorem digit_ascii : ∀ {l : List Nat}, l.all isD = true → (l.all fun c => decide (c < 128)) = true
  | [], _ => rfl
  | c :: l, h => by
    rw [List.all_cons, Bool.and_eq_true] at h
    have hc := isD_iff.mp h.1
    rw [List.all_cons, digit_ascii h.2, decide_eq_true (show c < 128 by omega)]
    rfl
theorem ascii_all (w : Str) : Txt.isascii w = ((TL.tl w).all fun c => decide (c < 128)) := by
  unfold Txt.isascii TL.tl
  rw [← Array.all_toList]
theorem digit_all (w : Str) : Txt.isdigit w = (decide (TL.tl w ≠ []) && (TL.tl w).all Unicode.isDigit) := by
  unfold Txt.isdigit
  have e : decide (w.length > 0) = decide (TL.tl w ≠ []) := by
    rw [TL.len_tl]
    refine decide_eq_decide.mpr ?_
    exact List.length_pos_iff
  rw [← Array.all_toList]
  show (decide (w.length > 0) && _) = _
  rw [e]
theorem num_parts (w : Str) : (Txt.isascii w && Txt.isdigit w) = ((TL.tl w).all isD && decide (TL.tl w ≠ [])) := by
  rw [ascii_all, digit_all]
  cases h : (TL.tl w).all fun c => decide (c < 128) with
  | false =>
    cases h2 : (TL.tl w).all isD with
    | false => rfl
    | true =>
      rw [digit_ascii h2] at h
      cases h
  | true =>
    rw [all_digit h, Bool.true_and, Bool.and_comm]
theorem numV_nonneg (w : Str) : 0 ≤ numV w := Int.natCast_nonneg _
theorem num_all {w : Str} (h : numB w = true) : (∀ c ∈ TL.tl w, 48 ≤ c ∧ c ≤ 57) ∧ TL.tl w ≠ [] ∧ (TL.tl w).length ≤ 9 := by
  unfold numB at h
  simp only [Bool.and_eq_true, decide_eq_true_eq, List.all_eq_true] at h
  exact ⟨fun c hc => isD_iff.mp (h.1 c hc), h.2.1, h.2.2.1⟩
theorem num_int {w : Str} (h : numB w = true) : PySem.intText? w = some (numV w) ∧ w.length ≤ 9 := by
  obtain ⟨h1, h2, h3⟩ := num_all h
  have h4 : w.length ≤ 9 := by rw [TL.len_tl]; exact h3
  exact ⟨PySem.intText_digits (fun c hc => h1 c hc) h2 (by omega), h4⟩
theorem num_last {w : Str} (h1 : Txt.isascii w = true) (h2 : Txt.isdigit w = true) (h3 : w.length ≤ 9) : numB w = (decide (w = "0") || decide ((TL.tl w).head? ≠ some 48)) := by
  have e := num_parts w
  rw [h1, h2] at e
  have e2 := Bool.and_eq_true_iff.mp e.symm
  rw [TL.len_tl] at h3
  unfold numB
  rw [e2.1, e2.2, decide_eq_true h3]
  rfl
theorem num_not1 {w : Str} (h : Txt.isascii w = false ∨ Txt.isdigit w = false) : numB w = false := by
  have e := num_parts w
  cases z : numB w with
  | false => rfl
  | true =>
    unfold numB at z
    simp only [Bool.and_eq_true] at z
    rw [z.1, z.2.1] at e
    rcases h with h | h <;> rw [h] at e <;> simp at e
theorem num_not2 {w : Str} (h : 9 < w.length) : numB w = false := by
  cases z : numB w with
  | false => rfl
  | true =>
    have := (num_all z).2.2
    rw [← TL.len_tl] at this
    omega
def wordAt (ws : List Str) (k : Nat) : Except Int Str := if k < ws.length then .ok (ws.getD k "") else .error (ws.length : Int)
theorem word_mem {ws : List Str} {k : Nat} {x : Str} (h : wordAt ws k = .ok x) : x ∈ ws := by
  unfold wordAt at h
  split at h
  · cases h
    rename_i h
    rw [List.getD_eq_getElem?_getD, List.getElem?_eq_getElem h]
    exact List.getElem_mem h
  · cases h
def numAt (ws : List Str) (k : Nat) : Except Int Int := match wordAt ws k with
  | .error e => .error e
  | .ok w => if numB w = true then .ok (numV w) else .error (k : Int)
def kdOf (w : Str) : Option Kd := if w = "proposal" then some .prop else if w = "prevote" then some .pre else if w = "precommit" then some .com else none
def kindAt (ws : List Str) (k : Nat) : Except Int Kd := match wordAt ws k with
  | .error e => .error e
  | .ok w => match kdOf w with
    | some d => .ok d
    | none => .error (k : Int)
def isL (c : Nat) : Bool := decide (c ∈ TL.tl "abcdefghijklmnopqrstuvwxyz")
def isA (c : Nat) : Bool := decide (c ∈ TL.tl "abcdefghijklmnopqrstuvwxyz0123456789")
def blkB (w : Str) : Bool := match TL.tl w with
  | [] => false
  | c :: l => decide (l.length + 1 ≤ 60) && (isL c && (c :: l).all isA)
def blockAt (ws : List Str) (k : Nat) (d : Kd) : Except Int (Option Str) := match wordAt ws k with
  | .error e => .error e
  | .ok w => if w = "-" ∧ d ≠ .prop then .ok none else if blkB w = true then .ok (some w) else .error (k : Int)
def leanAt (ws : List Str) (k : Nat) (t : Int) : Except Int (Option Int) := match wordAt ws k with
  | .error e => .error e
  | .ok w => if w = "-" then .ok none else if numB w = true then (if numV w < t then .ok (some (numV w)) else .error (k : Int)) else .error (k : Int)
def endAt (ws : List Str) (k : Nat) : Except Int Unit := if k < ws.length then .error (k : Int) else .ok ()
def bindE {α β : Type} : Except Int α → (α → Except Int β) → Except Int β
  | .error e, _ => .error e
  | .ok x, f => f x
def readEnd (ws : List Str) (w : Int) (k : Kd) (h t : Int) (b : Option Str) : Except Int Lt :=
  if k = .pre then bindE (leanAt ws 5 t) fun l => bindE (endAt ws 6) fun _ => .ok ⟨w, ⟨.pre, h, t, b, l⟩⟩
  else bindE (endAt ws 5) fun _ => .ok ⟨w, ⟨k, h, t, b, none⟩⟩
def readW (ws : List Str) : Except Int Lt :=
  bindE (numAt ws 0) fun w => bindE (kindAt ws 1) fun k => bindE (numAt ws 2) fun h => bindE (numAt ws 3) fun t => bindE (blockAt ws 4 k) fun b => readEnd ws w k h t b
def readL (line : Str) : Except Int Lt := readW (Txt.split line " ")
theorem inV_kinds (w : Str) : inV (.str w) [V.str "proposal", V.str "prevote", V.str "precommit"] = (kdOf w).isSome := by
  unfold kdOf inV
  have e : ∀ x y : Str, eqV (.str x) (.str y) = decide (y = x) := fun x y => by
    show (x == y) = _
    by_cases h : y = x
    · rw [h, decide_eq_true rfl, beq_self_eq_true]
    · rw [decide_eq_false h]
      exact beq_eq_false_iff_ne.mpr fun z => h z.symm
  simp only [List.any_cons, List.any_nil, e, Bool.or_false]
  by_cases h1 : w = "proposal"
  · rw [h1]
    decide +kernel
  · by_cases h2 : w = "prevote"
    · rw [h2]
      decide +kernel
    · by_cases h3 : w = "precommit"
      · rw [h3]
        decide +kernel
      · simp [h1, h2, h3]
theorem s_prop (a : Kd) : a.s = ("proposal" : Str) ↔ a = .prop := by cases a <;> decide +kernel
theorem s_pre (a : Kd) : a.s = ("prevote" : Str) ↔ a = .pre := by cases a <;> decide +kernel
theorem s_com (a : Kd) : a.s = ("precommit" : Str) ↔ a = .com := by cases a <;> decide +kernel
theorem kd_s (k : Kd) : kdOf k.s = some k := by
  cases k <;> decide +kernel
theorem kd_of {w : Str} {k : Kd} (h : kdOf w = some k) : w = k.s := by
  unfold kdOf at h
  split at h
  · cases h
    assumption
  · split at h
    · cases h
      assumption
    · split at h
      · cases h
        assumption
      · cases h
/-- what is raised: the error of the class at C that keeps e as at -/
def ExR (C : Addr) (H : Hp) (E : XK) (e : Int) : Prop := ∀ d H', Same H H' → H' d = some (.xd [(("at" : Str), .int e)]) → E (.ref C) (some d) H'
def spAt (K : PySem.W.Frag) (C : Addr) (R : List Str → Nat → Except Int V) : Sp := fun vs H Q E => ∃ (W : Addr) (ws : List Str) (k : Nat), vs = [.ref W, .int k] ∧ H W = some (.lst (ws.map V.str)) ∧ ws.length ≤ 16777216 ∧ (∀ w ∈ ws, w.length ≤ 16777216) ∧ k ≤ 6 ∧
  (∀ e, R ws k = .error e → ExR C H E e) ∧ (∀ n, R ws k = .ok n → ∀ H', Same H H' → Q n H')
def mapE {α β : Type} (f : α → β) : Except Int α → Except Int β
  | .error e => .error e
  | .ok x => .ok (f x)
def spWordAt (K : PySem.W.Frag) (C : Addr) : Sp := spAt K C fun ws k => mapE V.str (wordAt ws k)
def spNumAt (K : PySem.W.Frag) (C : Addr) : Sp := spAt K C fun ws k => mapE V.int (numAt ws k)
def spKindAt (K : PySem.W.Frag) (C : Addr) : Sp := spAt K C fun ws k => mapE (fun d => V.str d.s) (kindAt ws k)
def spEndAt (K : PySem.W.Frag) (C : Addr) : Sp := spAt K C fun ws k => mapE (fun _ => V.non) (endAt ws k)
def spBlockAt (K : PySem.W.Frag) (C : Addr) : Sp := fun vs H Q E => ∃ (W : Addr) (ws : List Str) (k : Nat) (d : Kd), vs = [.ref W, .int k, .str d.s] ∧ H W = some (.lst (ws.map V.str)) ∧ ws.length ≤ 16777216 ∧ (∀ w ∈ ws, w.length ≤ 16777216) ∧ k ≤ 6 ∧
  (∀ e, blockAt ws k d = .error e → ExR C H E e) ∧ (∀ n, blockAt ws k d = .ok n → ∀ H', Same H H' → Q (oS n) H')
def spLeanAt (K : PySem.W.Frag) (C : Addr) : Sp := fun vs H Q E => ∃ (W : Addr) (ws : List Str) (k : Nat) (t : Int), vs = [.ref W, .int k, .int t] ∧ H W = some (.lst (ws.map V.str)) ∧ ws.length ≤ 16777216 ∧ (∀ w ∈ ws, w.length ≤ 16777216) ∧ k ≤ 6 ∧
  (∀ e, leanAt ws k t = .error e → ExR C H E e) ∧ (∀ n, leanAt ws k t = .ok n → ∀ H', Same H H' → Q (oI n) H')
def spIsNum (K : PySem.W.Frag) : Sp := fun vs H Q _ => ∃ w : Str, vs = [.str w] ∧ w.length ≤ 16777216 ∧ ∀ H', Same H H' → Q (.bl (numB w)) H'
def spIsBlk (K : PySem.W.Frag) : Sp := fun vs H Q _ => ∃ w : Str, vs = [.str w] ∧ w.length ≤ 16777216 ∧ ∀ H', Same H H' → Q (.bl (blkB w)) H'
def spProp (K : PySem.W.Frag) : Sp := fun vs H Q _ => ∃ (h t : Int) (b : Option Str), vs = [.int h, .int t, oS b] ∧ ∀ p H', Same H H' → SmAt H' p ⟨.prop, h, t, b, none⟩ → Q (.ref p) H'
def spPrec (K : PySem.W.Frag) : Sp := fun vs H Q _ => ∃ (h t : Int) (b : Option Str), vs = [.int h, .int t, oS b] ∧ ∀ p H', Same H H' → SmAt H' p ⟨.com, h, t, b, none⟩ → Q (.ref p) H'
def spPrev (K : PySem.W.Frag) : Sp := fun vs H Q _ => ∃ (h t : Int) (b : Option Str) (l : Option Int), vs = [.int h, .int t, oS b, oI l] ∧ ∀ p H', Same H H' → SmAt H' p ⟨.pre, h, t, b, l⟩ → Q (.ref p) H'
def spRead (K : PySem.W.Frag) (C : Addr) : Sp := fun vs H Q E => ∃ line : Str, vs = [.str line] ∧ line.length + 2 ≤ 16777216 ∧
  (∀ e, readL line = .error e → ExR C H E e) ∧ (∀ x, readL line = .ok x → ∀ p H', Same H H' → LtAt H' p x → Q (.ref p) H')
theorem at_err {α β : Type} {C : Addr} {H H1 : Hp} {E : XK} {r : Except Int α} {f : α → Except Int β} (s1 : Same H H1) (h : ∀ e, bindE r f = .error e → ExR C H E e) : ∀ e, r = .error e → ExR C H1 E e := fun e he => by
  rw [he] at h
  exact fun d H' s' hd => h e rfl d H' (s1.trans s') hd
theorem mapE_err {α β : Type} {g : α → β} {r : Except Int α} {e : Int} (h : mapE g r = .error e) : r = .error e := by
  cases r with
  | error e' => cases h; rfl
  | ok x => cases h
theorem mapE_ok {α β : Type} {g : α → β} {r : Except Int α} {y : β} (h : mapE g r = .ok y) : ∃ x, r = .ok x ∧ y = g x := by
  cases r with
  | error e' => cases h
  | ok x => cases h; exact ⟨x, rfl, rfl⟩

/-! ### what is written is read back -/
theorem tl_str {i : Int} (h0 : 0 ≤ i) : TL.tl (toString i : Str) = TL.numL i.toNat := by
  rw [tos_nat h0, TL.tl_num]
theorem numL_head : ∀ (n : Nat), 0 < n → (TL.numL n).head? ≠ some 48
  | n, h => by
    rcases Nat.lt_or_ge n 10 with z | z
    · rw [TL.numL_lt z]
      simp
      omega
    · rw [TL.numL_step z]
      have ih := numL_head (n / 10) (by omega)
      have ne := TL.numL_ne (n / 10)
      cases e : TL.numL (n / 10) with
      | nil => exact absurd e ne
      | cons c l =>
        rw [e] at ih
        exact ih
theorem num_str {i : Int} (h0 : 0 ≤ i) (h1 : i < 1000000000) : numB (toString i : Str) = true ∧ numV (toString i : Str) = i := by
  have e := tl_str h0
  refine ⟨?_, ?_⟩
  · unfold numB
    rw [e]
    have a1 : (TL.numL i.toNat).all isD = true := List.all_eq_true.mpr fun c hc => isD_iff.mpr (TL.numL_digits i.toNat c hc)
    have a3 : (TL.numL i.toNat).length ≤ 9 := TL.numL_len (by decide) (by omega)
    rw [a1, decide_eq_true (TL.numL_ne i.toNat), decide_eq_true a3, Bool.true_and, Bool.true_and, Bool.true_and, Bool.or_eq_true]
    rcases Nat.eq_zero_or_pos i.toNat with z | z
    · refine .inl (decide_eq_true ?_)
      have : i = 0 := by omega
      rw [this]
      decide +kernel
    · exact .inr (decide_eq_true (numL_head _ z))
  · unfold numV
    rw [e, TL.numL_val]
    omega
theorem num_free {i : Int} (h0 : 0 ≤ i) {c : Nat} (hc : c < 48 ∨ 57 < c) : c ∉ TL.tl (toString i : Str) := by
  rw [tl_str h0]
  exact TL.numL_free hc
theorem blk_free {x : Str} (h : blkB x = true) {c : Nat} (hc : isA c = false) : c ∉ TL.tl x := fun hm => by
  unfold blkB at h
  split at h
  · cases h
  · rename_i d l e
    simp only [Bool.and_eq_true, List.all_eq_true] at h
    rw [e] at hm
    have := h.2.2 c hm
    rw [hc] at this
    cases this
/-- a statement that a line may write -/
structure GoodM (m : Sm) : Prop where
  h0 : 0 ≤ m.h
  h1 : m.h < 1000000000
  t0 : 0 ≤ m.t
  t1 : m.t < 1000000000
  b : ∀ x, m.b = some x → blkB x = true
  bp : m.k = .prop → m.b ≠ none
  l : ∀ x, m.l = some x → 0 ≤ x ∧ x < m.t
  lk : m.k ≠ .pre → m.l = none
theorem blk_ok {x : Str} (h : blkB x = true) : x.length ≤ 60 ∧ PyData.strOk x = true := by
  unfold blkB at h
  split at h
  · cases h
  · rename_i d l e
    simp only [Bool.and_eq_true, List.all_eq_true, decide_eq_true_eq] at h
    refine ⟨by rw [TL.len_tl, e]; exact h.1, strOk_of fun c hc => ?_⟩
    rw [e] at hc
    have := of_decide_eq_true (h.2.2 c hc)
    have : ∀ c ∈ TL.tl "abcdefghijklmnopqrstuvwxyz0123456789", c < 1114112 := by decide +kernel
    exact this c (of_decide_eq_true (h.2.2 c hc))
theorem GoodM.small {m : Sm} (g : GoodM m) : SmallM m := by
  have hk : SmallV (.str m.k.s) := .inr (.inr ⟨_, rfl, by cases m.k <;> decide +kernel, ks_ok _⟩)
  have hh : SmallV (.int m.h) := .inr (.inl ⟨_, rfl, g.h0, g.h1⟩)
  have ht : SmallV (.int m.t) := .inr (.inl ⟨_, rfl, g.t0, g.t1⟩)
  have hb : SmallV (oS m.b) := by
    cases e : m.b with
    | none => exact .inl rfl
    | some x => exact .inr (.inr ⟨x, rfl, blk_ok (g.b x e)⟩)
  have hl : SmallV (oI m.l) := by
    cases e : m.l with
    | none => exact .inl rfl
    | some x =>
      have := g.l x e
      have := g.t1
      exact .inr (.inl ⟨x, rfl, by omega, by omega⟩)
  intro v hv
  obtain ⟨mk, mh, mt, mb, ml⟩ := m
  cases mk <;> simp only [Sm.vals, List.mem_cons, List.not_mem_nil, or_false] at hv <;> (rcases hv with rfl | rfl | rfl | rfl | rfl <;> assumption) <;> skip
theorem GoodM.ok {m : Sm} (g : GoodM m) : OkS m.b := fun x e => (blk_ok (g.b x e)).2
theorem dash_blk : blkB "-" = false := by decide +kernel
theorem dash_num : numB "-" = false := by decide +kernel
theorem ks_free (k : Kd) : 32 ∉ TL.tl k.s := by cases k <;> decide +kernel
theorem word_free {m : Sm} (g : GoodM m) : ∀ v ∈ m.vals, 32 ∉ TL.tl (wordV v) := by
  have hd : 32 ∉ TL.tl (wordV V.non) := by decide +kernel
  have hk : 32 ∉ TL.tl (wordV (.str m.k.s)) := ks_free m.k
  have hh : 32 ∉ TL.tl (wordV (.int m.h)) := num_free g.h0 (.inl (by decide))
  have ht : 32 ∉ TL.tl (wordV (.int m.t)) := num_free g.t0 (.inl (by decide))
  have hb : 32 ∉ TL.tl (wordV (oS m.b)) := by
    cases e : m.b with
    | none => exact hd
    | some x => exact blk_free (g.b x e) (by decide +kernel)
  have hl : 32 ∉ TL.tl (wordV (oI m.l)) := by
    cases e : m.l with
    | none => exact hd
    | some x => exact num_free (g.l x e).1 (.inl (by decide))
  intro v hv
  obtain ⟨mk, mh, mt, mb, ml⟩ := m
  cases mk <;> simp only [Sm.vals, List.mem_cons, List.not_mem_nil, or_false] at hv <;> (rcases hv with rfl | rfl | rfl | rfl | rfl <;> assumption) <;> skip
theorem line_words {who : Int} (w0 : 0 ≤ who) {m : Sm} (g : GoodM m) : Txt.split (lineS who m) " " = (toString who : Str) :: m.vals.map wordV := by
  unfold lineS
  refine TL.split_join (y := " ") (s := 32) (S := []) (by decide +kernel) (by decide +kernel) (List.cons_ne_nil _ _) fun p hp => ?_
  rcases List.mem_cons.mp hp with rfl | hp
  · exact num_free w0 (.inl (by decide))
  · obtain ⟨v, hv, rfl⟩ := List.mem_map.mp hp
    exact word_free g v hv
theorem wordAt_cons {x : Str} {ws : List Str} {k : Nat} : wordAt (x :: ws) (k + 1) = mapE id (match wordAt ws k with | .ok y => .ok y | .error e => .error (e + 1)) := by
  unfold wordAt
  by_cases h : k < ws.length
  · rw [if_pos h, if_pos (by simpa using h)]
    rfl
  · rw [if_neg h, if_neg (by simpa using h)]
    simp [mapE]
theorem wordAt_ok {ws : List Str} {k : Nat} {x : Str} (h : ws[k]? = some x) : wordAt ws k = .ok x := by
  have hk := (List.getElem?_eq_some_iff.mp h).1
  unfold wordAt
  rw [if_pos hk, List.getD_eq_getElem?_getD, h]
  rfl
theorem read_line {who : Int} (w0 : 0 ≤ who) (w1 : who < 1000000000) {m : Sm} (g : GoodM m) : readL (lineS who m) = .ok ⟨who, m⟩ := by
  unfold readL
  rw [line_words w0 g]
  have nw := num_str w0 w1
  have nh := num_str g.h0 g.h1
  have nt := num_str g.t0 g.t1
  obtain ⟨mk, mh, mt, mb, ml⟩ := m
  have lk := g.lk
  have bp := g.bp
  have gb := g.b
  have gl := g.l
  have t1 := g.t1
  dsimp only at nh nt lk bp gb gl t1
  have e0 : ∀ rest, numAt ((toString who : Str) :: rest) 0 = .ok who := fun rest => by
    unfold numAt
    rw [wordAt_ok (x := toString who) rfl]
    simp only [nw.1, nw.2, if_true]
  have e2 : ∀ a b rest, numAt (a :: b :: (toString mh : Str) :: rest) 2 = .ok mh := fun a b rest => by
    unfold numAt
    rw [wordAt_ok (x := toString mh) rfl]
    simp only [nh.1, nh.2, if_true]
  have e3 : ∀ a b c rest, numAt (a :: b :: c :: (toString mt : Str) :: rest) 3 = .ok mt := fun a b c rest => by
    unfold numAt
    rw [wordAt_ok (x := toString mt) rfl]
    simp only [nt.1, nt.2, if_true]
  have e1 : ∀ a (k : Kd) rest, kindAt (a :: k.s :: rest) 1 = .ok k := fun a k rest => by
    unfold kindAt
    rw [wordAt_ok (x := k.s) rfl]
    simp only [kd_s]
  have e4 : ∀ a b c d rest, blockAt (a :: b :: c :: d :: wordV (oS mb) :: rest) 4 mk = .ok mb := fun a b c d rest => by
    unfold blockAt
    rw [wordAt_ok (x := wordV (oS mb)) rfl]
    cases mb with
    | none => exact if_pos ⟨rfl, fun z => bp z rfl⟩
    | some x =>
      have hx := gb x rfl
      have nd : ¬ (x = "-" ∧ mk ≠ .prop) := fun z => by
        rw [z.1, dash_blk] at hx
        cases hx
      show (if x = "-" ∧ mk ≠ .prop then _ else if blkB x = true then _ else _) = _
      rw [if_neg nd, if_pos hx]
      rfl
  have e5 : ∀ a b c d e, leanAt [a, b, c, d, e, wordV (oI ml)] 5 mt = .ok ml := fun a b c d e => by
    unfold leanAt
    rw [wordAt_ok (x := wordV (oI ml)) rfl]
    cases ml with
    | none => exact if_pos rfl
    | some x =>
      have hx := gl x rfl
      have nx := num_str hx.1 (by omega)
      have nd : ¬ ((toString x : Str) = "-") := fun z => by
        rw [z, dash_num] at nx
        cases nx.1
      show (if (toString x : Str) = "-" then _ else if numB (toString x) = true then (if numV (toString x) < mt then _ else _) else _) = _
      rw [if_neg nd, if_pos nx.1, nx.2, if_pos hx.2]
      exact congrArg (fun z => Except.ok (some z)) nx.2
  cases mk with
  | pre =>
    have ew : (toString who : Str) :: (Sm.vals ⟨.pre, mh, mt, mb, ml⟩).map wordV = [(toString who : Str), Kd.pre.s, (toString mh : Str), (toString mt : Str), wordV (oS mb), wordV (oI ml)] := rfl
    rw [ew]
    unfold readW readEnd
    rw [e0, e1, e2, e3]
    simp only [bindE, e4]
    rw [if_pos trivial, e5]
    rfl
  | prop =>
    have ew : (toString who : Str) :: (Sm.vals ⟨.prop, mh, mt, mb, ml⟩).map wordV = [(toString who : Str), Kd.prop.s, (toString mh : Str), (toString mt : Str), wordV (oS mb)] := rfl
    rw [ew]
    unfold readW readEnd
    rw [e0, e1, e2, e3]
    simp only [bindE, e4]
    rw [if_neg (by decide), lk (by decide)]
    rfl
  | com =>
    have ew : (toString who : Str) :: (Sm.vals ⟨.com, mh, mt, mb, ml⟩).map wordV = [(toString who : Str), Kd.com.s, (toString mh : Str), (toString mt : Str), wordV (oS mb)] := rfl
    rw [ew]
    unfold readW readEnd
    rw [e0, e1, e2, e3]
    simp only [bindE, e4]
    rw [if_neg (by decide), lk (by decide)]
    rfl
/-! ### a journal restored -/
/-- the journal of the lines, or the index of the first invalid one -/
def resM (who : Int) : List Str → Nat → List Sm → Except Int (List Sm)
  | [], _, ms => .ok ms
  | l :: ls, n, ms => match readL l with
    | .error _ => if ls = [] then .ok ms else .error (n : Int)
    | .ok x => if x.w ≠ who ∨ memS ms x.m = true ∨ fcl ms x.m ms.length ≠ none then .error (n : Int) else resM who ls (n + 1) (ms ++ [x.m])
/-- no two of them clash, none is repeated -/
def Clean (ms : List Sm) : Prop := ∀ j, j < ms.length → memS (ms.take j) (ms.getD j default) = false ∧ fcl (ms.take j) (ms.getD j default) j = none
theorem resM_lines {who : Int} (w0 : 0 ≤ who) (w1 : who < 1000000000) (tail : List Str) : ∀ (ms : List Sm) (n : Nat) (acc : List Sm), (∀ m ∈ ms, GoodM m) → (∀ j, j < ms.length → memS (acc ++ ms.take j) (ms.getD j default) = false ∧ fcl (acc ++ ms.take j) (ms.getD j default) (acc.length + j) = none) →
    resM who (ms.map (lineS who) ++ tail) n acc = resM who tail (n + ms.length) (acc ++ ms)
  | [], n, acc, _, _ => by simp
  | m :: ms, n, acc, g, c => by
    have h0 := c 0 (Nat.succ_pos _)
    have e := read_line w0 w1 (g m List.mem_cons_self)
    have h1 : memS acc m = false := by simpa using h0.1
    have h2 : fcl acc m acc.length = none := by simpa using h0.2
    show resM who (lineS who m :: (ms.map (lineS who) ++ tail)) n acc = _
    rw [resM, e]
    show (if (⟨who, m⟩ : Lt).w ≠ who ∨ memS acc m = true ∨ fcl acc m acc.length ≠ none then _ else _) = _
    rw [if_neg (by simp [h1, h2]), resM_lines w0 w1 tail ms (n + 1) (acc ++ [m]) (fun y hy => g y (List.mem_cons_of_mem _ hy)) fun j hj => ?_]
    · simp [Nat.add_assoc, Nat.add_comm 1]
    · have := c (j + 1) (Nat.succ_lt_succ hj)
      simpa [Nat.add_assoc, Nat.add_comm 1] using this

/-- a command -/
inductive Cm where
  | p (a b c : Int)
  | w (a b : Int)
  | k (a b c : Int)
  | d (a : Int) (code : Str)
def nu (i : Int) : Str := Str.ofString (toString i)
def Cm.ki : Cm → Str
  | .p _ _ _ => "p"
  | .w _ _ => "w"
  | .k _ _ _ => "k"
  | .d _ _ => "d"
def Cm.ps : Cm → List V
  | .p a b c => [.int a, .int b, .int c]
  | .w a b => [.int a, .int b]
  | .k a b c => [.int a, .int b, .int c]
  | .d a s => [.int a, .str s]
def Cm.txt : Cm → Str
  | .p a b c => "p" ++ nu a ++ "q" ++ nu b ++ "r" ++ nu c
  | .w a b => "w" ++ nu a ++ "x" ++ nu b
  | .k a b c => "k" ++ nu a ++ "b" ++ nu b ++ "v" ++ nu c
  | .d a s => "d" ++ nu a ++ "z" ++ s ++ "z"
/-- what stands before each part -/
def Cm.ms : Cm → List Str
  | .p _ _ _ => ["p", "q", "r"]
  | .w _ _ => ["w", "x"]
  | .k _ _ _ => ["k", "b", "v"]
  | .d _ _ => ["d", "z"]
def Cm.ma (a : Ads) : Cm → Addr
  | .p _ _ _ => a.M_MARKS_p
  | .w _ _ => a.M_MARKS_w
  | .k _ _ _ => a.M_MARKS_k
  | .d _ _ => a.M_MARKS_d
/-- each part behind its mark -/
def Cm.bits : Cm → List Str
  | .p a b c => ["p" ++ nu a, "q" ++ nu b, "r" ++ nu c]
  | .w a b => ["w" ++ nu a, "x" ++ nu b]
  | .k a b c => ["k" ++ nu a, "b" ++ nu b, "v" ++ nu c]
  | .d a s => ["d" ++ nu a, "z" ++ s]
/-- a part as a text -/
def paT : V → Str
  | .int i => nu i
  | .str s => s
  | _ => Str.empty
def CmAt (H : Hp) (p : Addr) (c : Cm) : Prop := H p = some (.tup (.str c.ki :: c.ps))
def NOk (i : Int) : Prop := 0 ≤ i ∧ i ≤ 999999
/-- a number that may stand in a command tuple -/
def WOk (i : Int) : Prop := -1000 ≤ i ∧ i ≤ 2000000
theorem NOk.w {i : Int} (h : NOk i) : WOk i := ⟨by have := h.1; omega, by have := h.2; omega⟩
def Cm.ok : Cm → Prop
  | .p a b c => WOk a ∧ WOk b ∧ WOk c
  | .w a b => WOk a ∧ WOk b
  | .k a b c => WOk a ∧ WOk b ∧ WOk c
  | .d a s => WOk a ∧ s.length ≤ 250 ∧ PyData.strOk s = true
def spText (K : PySem.W.Frag) : Sp := fun vs H Q _ => ∃ (p : Addr) (c : Cm), vs = [.ref p] ∧ CmAt H p c ∧ c.ok ∧ ∀ H', Same H H' → Q (.str c.txt) H'
def spCell (K : PySem.W.Frag) : Sp := fun vs H Q _ => ∃ (a : Addr) (ns : List Int) (k : Int), vs = [.ref a, .int k] ∧ SqL K H a (ns.map V.int) ∧ ns.length ≤ 63 ∧ 0 ≤ k ∧ Q (.int (ns.getD k.toNat 0)) H
def spRow (K : PySem.W.Frag) : Sp := fun vs H Q _ => ∃ (cell count size : Int), vs = [.int cell, .int count, .int size] ∧ 0 ≤ count ∧ count ≤ 1000 ∧ 0 < size ∧ size < 1000 ∧
  ∀ p (row : List Int) H', Same H H' → H' p = some (.lst (row.map V.int)) → row.length = count.toNat → (∀ x ∈ row, 0 ≤ x ∧ x < size) → H p = none → Q (.ref p) H'
def spNumber : Sp := fun vs H Q _ => ∃ c : Int, vs = [.int c] ∧ ∀ v, NOk v → Q (.int v) H
def spPlace : Sp := fun vs H Q _ => ∃ c : Int, vs = [.int c] ∧ ∀ v, NOk v → Q (.int v) H
/-- the signs of programs -/
def Sgn (z : Str) : Prop := ∀ n ∈ TL.tl z, n ∈ TL.tl "0123456789ginasmtcehlujfyo"
def spCode : Sp := fun vs H Q _ => ∃ c : Int, vs = [.int c] ∧ ∀ (z : Str) H', Same H H' → z.length ≤ 12 → Sgn z → Q (.str z) H'
/-- a command that a text writes -/
def Cm.right : Cm → Prop
  | .p a b c => NOk a ∧ NOk b ∧ NOk c
  | .w a b => NOk a ∧ NOk b
  | .k a b c => NOk a ∧ NOk b ∧ NOk c
  | .d a s => NOk a ∧ Sgn s
/-- a command that the law makes -/
def Cm.good : Cm → Prop
  | .p a b c => NOk a ∧ NOk b ∧ NOk c
  | .w a b => NOk a ∧ NOk b
  | .k a b c => NOk a ∧ NOk b ∧ NOk c
  | .d a s => NOk a ∧ s.length ≤ 12 ∧ Sgn s
theorem strOk_cps {x : Str} (h : ∀ c ∈ TL.tl x, c < 1114112) : PyData.strOk x = true := by
  unfold PyData.strOk
  rw [← Array.all_toList]
  exact List.all_eq_true.mpr fun c hc => decide_eq_true (h c hc)
theorem Sgn.ok {z : Str} (h : Sgn z) : PyData.strOk z = true := strOk_cps fun c hc => by
  have : ∀ c ∈ TL.tl "0123456789ginasmtcehlujfyo", c < 1114112 := by decide +kernel
  exact this c (h c hc)
theorem Cm.good.ok : ∀ {c : Cm}, c.good → c.ok
  | .p _ _ _, h => ⟨h.1.w, h.2.1.w, h.2.2.w⟩
  | .w _ _, h => ⟨h.1.w, h.2.w⟩
  | .k _ _ _, h => ⟨h.1.w, h.2.1.w, h.2.2.w⟩
  | .d _ _, h => ⟨h.1.w, Nat.le_trans h.2.1 (by decide), h.2.2.ok⟩
theorem Cm.good.right : ∀ {c : Cm}, c.good → c.right
  | .p _ _ _, h => h
  | .w _ _, h => h
  | .k _ _ _, h => h
  | .d _ _, h => ⟨h.1, h.2.2⟩
def spMake : Sp := fun vs H Q _ => ∃ c m : Int, vs = [.int c, .int m] ∧ ∀ (p : Addr) (x : Cm) H', Same H H' → H p = none → CmAt H' p x → x.good → Q (.ref p) H'
instance : Inhabited Cm := ⟨.w 0 0⟩
def CmsAt (H : Hp) (ps : List Addr) (cs : List Cm) : Prop := ps.length = cs.length ∧ ∀ i, i < cs.length → CmAt H (ps.getD i 0) (cs.getD i default)
theorem CmsAt.same {H H' : Hp} {ps : List Addr} {cs : List Cm} (h : CmsAt H ps cs) (s : Same H H') : CmsAt H' ps cs := ⟨h.1, fun i hi => s _ _ (h.2 i hi)⟩
/-- the texts one behind the other -/
def cat (cs : List Cm) : Str := cs.foldl (fun z c => z ++ c.txt) Str.empty
theorem cat_snoc (cs : List Cm) (c : Cm) : cat (cs ++ [c]) = cat cs ++ c.txt := by
  unfold cat
  rw [List.foldl_append]
  rfl
/-- the first n commands fit, and no more do -/
def Fit (cs : List Cm) (n : Nat) : Prop := n ≤ cs.length ∧ (∀ j, j ≤ n → (cat (cs.take j)).length ≤ 60) ∧ (n < cs.length → 60 < (cat (cs.take (n + 1))).length)
theorem Fit.one {cs : List Cm} {m n : Nat} (h : Fit cs m) (g : Fit cs n) : m = n := by
  obtain ⟨a1, a2, a3⟩ := h
  obtain ⟨b1, b2, b3⟩ := g
  rcases Nat.lt_trichotomy m n with c | c | c
  · have := a3 (by omega)
    have := b2 (m + 1) c
    omega
  · exact c
  · have := b3 (by omega)
    have := a2 (n + 1) c
    omega
def spFitting (K : PySem.W.Frag) : Sp := fun vs H Q _ => ∃ (l : Addr) (ps : List Addr) (cs : List Cm), vs = [.ref l] ∧ H l = some (.lst (ps.map V.ref)) ∧ CmsAt H ps cs ∧ cs.length ≤ 100 ∧ (∀ c ∈ cs, c.ok) ∧
  ∀ (q tk : Addr) (n : Nat) H', Same H H' → H' q = some (.tup [.str (cat (cs.take n)), .ref tk]) → H' tk = some (.lst ((ps.take n).map V.ref)) → Fit cs n → Q (.ref q) H'
def spBlock (K : PySem.W.Frag) : Sp := fun vs H Q _ => ∃ (l : Addr) (ps : List Addr) (cs : List Cm), vs = [.ref l] ∧ H l = some (.lst (ps.map V.ref)) ∧ CmsAt H ps cs ∧ cs.length ≤ 100 ∧ (∀ c ∈ cs, c.ok) ∧
  ∀ (q : Addr) (n : Nat) H', Same H H' → H' q = some (.tup [.str (cat (cs.take n)), .int (n : Int)]) → Fit cs n → Q (.ref q) H'
def spChanged : Sp := fun vs H Q _ => ∃ (z : Str) (w : Int), vs = [.str z, .int w] ∧ z.length ≤ 60 ∧ ∀ z2 : Str, z2.length ≤ 200 → Q (.str z2) H
/-- a reader of z that stands at i -/
def RdAt (C : Addr) (H : Hp) (p : Addr) (z : Str) (i : Nat) : Prop := ∃ dx, H p = some (.ins C dx [("text", .str z), ("at", .int (i : Int))])
/-- how many signs from i on are allowed -/
def runL (al : List Nat) : List Nat → Nat
  | [] => 0
  | c :: r => if c ∈ al then runL al r + 1 else 0
def spRInit (C : Addr) : Sp := fun vs H Q _ => ∃ (p dx : Addr) (z : Str), vs = [.ref p, .str z] ∧ H p = some (.ins C dx []) ∧ ∀ H', RdAt C H' p z 0 → (∀ b o, b ≠ p → H b = some o → H' b = some o) → Q .non H'
def spSigns (C : Addr) : Sp := fun vs H Q _ => ∃ (p : Addr) (z al : Str) (i : Nat), vs = [.ref p, .str al] ∧ RdAt C H p z i ∧ z.length ≤ 1000 ∧ i ≤ z.length ∧
  ∀ H', RdAt C H' p z (i + runL (TL.tl al) ((TL.tl z).drop i)) → (∀ b o, b ≠ p → H b = some o → H' b = some o) → Q (.str ⟨(((TL.tl z).drop i).take (runL (TL.tl al) ((TL.tl z).drop i))).toArray⟩) H'
def spSkip (C CE : Addr) : Sp := fun vs H Q E => ∃ (p : Addr) (z : Str) (c i : Nat), vs = [.ref p, .str ⟨#[c]⟩] ∧ RdAt C H p z i ∧ z.length ≤ 1000 ∧ i ≤ z.length ∧
  ((TL.tl z)[i]? = some c → ∀ H', RdAt C H' p z (i + 1) → (∀ b o, b ≠ p → H b = some o → H' b = some o) → Q .non H') ∧
  ((TL.tl z)[i]? ≠ some c → E (.ref CE) none H)
/-- the digits that stand at i -/
def digsAt (z : Str) (i : Nat) : List Nat := ((TL.tl z).drop i).take (runL (TL.tl "0123456789") ((TL.tl z).drop i))
/-- a right number -/
def NumW (w : List Nat) : Prop := 1 ≤ w.length ∧ w.length ≤ 6 ∧ ¬ (w.head? = some 48 ∧ w ≠ [48])
def spNumR (C CE : Addr) : Sp := fun vs H Q E => ∃ (p : Addr) (z : Str) (i : Nat), vs = [.ref p] ∧ RdAt C H p z i ∧ z.length ≤ 1000 ∧ i ≤ z.length ∧
  (NumW (digsAt z i) → ∀ H', RdAt C H' p z (i + (digsAt z i).length) → (∀ b o, b ≠ p → H b = some o → H' b = some o) → Q (.int (NumText.digitsVal (digsAt z i) : Nat)) H') ∧
  (¬ NumW (digsAt z i) → ∀ H', (∀ b o, b ≠ p → H b = some o → H' b = some o) → E (.ref CE) none H')
def spLaw (K : PySem.W.Frag) : Sp := fun vs H Q _ => ∃ (a : Addr) (ns : List Int), vs = [.ref a] ∧ SqL K H a (ns.map V.int) ∧ ns.length ≤ 63 ∧ ∀ H', Q (.bl true) H'


section
local macro_rules | `(tactic| walk_at "r1") => `(tactic| first
  | refine ⟨_, rfl, ?_⟩
  | refine ⟨_, _, rfl, rfl, (by show (0 : Int) < _; first | decide | omega), ?_⟩
  | refine ⟨_, _, rfl, rfl, (show CDiv _ _ from ⟨by decide, by decide⟩), ?_⟩
  | refine ⟨_, _, rfl, rfl, (show CMul _ _ from .inl ⟨by decide, by decide⟩), ?_⟩
  | refine ⟨_, _, rfl, rfl, (show CMul _ _ from .inr ⟨by decide, by decide⟩), ?_⟩
  | refine ⟨_, _, rfl, rfl, (show CPow _ _ from ⟨by decide, by decide, by decide⟩), ?_⟩
  | refine ⟨_, _, rfl, rfl, ?_⟩
  | refine ⟨_, _, _, _, rfl, rfl, SqT.of (by assumption), by first | exact at0 _ | exact at1 _ | exact at2 _ | exact at3 _ | exact at4 _ (by assumption), ?_⟩
  | refine ⟨scal_oS _ _, ?_⟩
  | refine .inl ⟨_, rfl, ?_⟩
  | refine ⟨rfl, ?_⟩)
local macro_rules | `(tactic| walk_at "rs") => `(tactic| repeat walk_at "r1")

variable {P : Program} {w : World} {K : PySem.W.Frag} {mg : Str → Option Value} {base : Heap} {a : Ads}
theorem getD_mem {zs : List Int} {i : Nat} (h : i < zs.length) : zs.getD i 0 ∈ zs := by
  rw [List.getD_eq_getElem?_getD, List.getElem?_eq_getElem h]
  exact List.getElem_mem h
theorem at_ints {zs : List Int} {i : Nat} (h : i < zs.length) : (zs.map V.int)[i]? = some (.int (zs.getD i 0)) := by
  rw [List.getElem?_map, List.getD_eq_getElem?_getD, List.getElem?_eq_getElem h]
  rfl

theorem ok_word (T : Txt K mg a) : ∃ fd, FnOk P w K mg base CX0 1 a.d_word fd ["part"] (spWord K) ∧ Binds K fd ["part"] [] := by
  obtain ⟨fd, F, b⟩ := T.d_word.F
  refine ⟨fd, F.ok sc_word (fun vs H Q E h => ?_) (fun cdv A outer s H vs Q E hr h => ?_), b⟩
  · obtain ⟨_, rfl, _⟩ := h
    rfl
  · obtain ⟨v, rfl, hv, k⟩ := h
    refine ⟨_, (pss_cons (ps_if (pt_cmpR op_isN (pv 0) pe_non (nomark _))
      (pss_one (ps_ret (pe_glob (v := (.str "-")) rfl T.c_NONE.choose_spec ⟨_, rfl⟩)))
      pss_nil)
      (pss_one (ps_ret (pe_callTy cr_strA (by rfl) T.n_str (by decide +kernel) (pa_cons (pv 0) pa_nil))))), ?_⟩
    rcases hv with rfl | ⟨i, rfl, h0, h1⟩ | ⟨x, rfl, hx⟩
    · walk_at "rs"
      exact k
    · walk_at "rs"
      exact ⟨log_small (by omega) (by omega), k⟩
    · walk_at "rs"
      exact .inr ⟨x, rfl, k⟩
theorem ok_letter_line (T : Txt K mg a) : ∃ fd, FnOk P w K mg base CX0 2 a.d_letter_line fd ["letter"] (spLine K) ∧ Binds K fd ["letter"] [] := by
  obtain ⟨fd, F, b⟩ := T.d_letter_line.F
  obtain ⟨fd_word, G_word, b_word⟩ := ok_word (P := P) (w := w) (base := base) T
  refine ⟨fd, F.ok sc_letter_line (fun vs H Q E h => ?_) (fun cdv A outer s H vs Q E hr h => ?_), b⟩
  · obtain ⟨_, _, rfl, _⟩ := h
    rfl
  · obtain ⟨t, x, rfl, hx, w0, w1, hs, k⟩ := h
    obtain ⟨q, hp, hq⟩ := id hx
    have hq' : H q = some (.tup x.m.vals) := hq
    have l5 := vals_len x.m
    refine ⟨_, (pss_cons (ps_asg (pv 0) (pg_tup rfl (pgs_cons (pg_name (i := 1) sc_letter_line.nd rfl (Or.inl rfl)) (pgs_cons (pg_name (i := 2) sc_letter_line.nd rfl (Or.inl rfl)) pgs_nil))))
      (pss_one (ps_ret (pe_join pe_str (pe_op op_cat (pe_lst (pa_cons (pe_callTy cr_strA (by rfl) T.n_str (by decide +kernel) (pa_cons (pv 1) pa_nil)) pa_nil)) (pe_lc (own := [("part", 3)]) (g := (gName 3)) (tt := tYes) rfl sc_letter_line.nd (pi_tup (pv 2)) (blkOk_by (own := [("part", 3)]) (N := sc_letter_line_N) (sc := defScope s_letter_line) (by decide +kernel)) (fun _ _ _ _ _ => (pg_name (i := 3) sc_letter_line.nd rfl (Or.inl rfl))) (fun _ _ _ _ _ => pts_nil) (fun _ _ _ _ _ => (pe_call G_word (hr.mono (by decide)) rfl T.d_word.g T.d_word.kp b_word .nil pass0 (pa_cons (pv 3) pa_nil))))))))), ?_⟩
    walk_at "rs"
    refine ⟨_, _, rfl, SqT.of hp, rfl, _, _, rfl, _, _, rfl, rfl, ?_⟩
    walk_at "rs"
    refine ⟨⟨_, rfl⟩, ?_⟩
    walk_at "rs"
    refine ⟨log_small (by omega) (by omega), ?_⟩
    refine ⟨(by show 1 ≤ sizeLine; decide), fun l1 hl1 => ?_⟩
    have s1 := same_new (o := .lst [V.str (toString x.w)]) hl1
    have h1 := (upd_same : (upd H l1 (.lst [V.str (toString x.w)])) l1 = _)
    generalize upd H l1 (.lst [V.str (toString x.w)]) = H1 at s1 h1 ⊢
    walk_at "rs"
    refine ⟨⟨_, SqT.of (s1 _ _ hq')⟩, fun D hD => ?_⟩
    refine lc_tup (K := K) (a := q) (xs := x.m.vals) (fun i H2 => Same H1 H2 ∧ H2 D = some (.lst (((x.m.vals.take i).map wordV).map V.str))) ⟨same_new hD, by rw [upd_same]; simp⟩ (fun i H2 _ ⟨s2, _⟩ => SqT.of (s2 _ _ (s1 _ _ hq'))) ?_ ?_
    · rintro i y H2 hy ⟨s2, hd⟩
      have hi : i < x.m.vals.length := (List.getElem?_eq_some_iff.mp hy).1
      have et : x.m.vals.take (i + 1) = x.m.vals.take i ++ [y] := by rw [List.take_add_one, hy]; rfl
      have hsy := hs y (List.mem_of_getElem? hy)
      refine ⟨rfl, ?_⟩
      walk_at "rs"
      refine ⟨hsy, ?_⟩
      refine ⟨_, hd, by rw [List.length_map, List.length_map, List.length_take]; exact small1000 (by omega), same_upd s2 hD, ?_⟩
      rw [upd_same, et]
      simp
    · rintro H2 ⟨s2, hd⟩
      rw [List.take_length] at hd
      have fit := join_fit (who := x.w) w0 w1 hs
      refine ⟨l1, D, _, _, rfl, rfl, s2 _ _ h1, hd, by rw [List.length_map, List.length_map, sizeLine_eq]; simp; omega, fun l3 hl3 => ?_⟩
      have s3 := same_new (o := .lst ([V.str (toString x.w)] ++ (x.m.vals.map wordV).map V.str)) hl3
      refine ⟨_, l3, (toString x.w : Str) :: x.m.vals.map wordV, rfl, rfl, .inl (SqL.of upd_same), fit, ?_⟩
      exact k _ ((s1.trans s2).trans s3)

theorem at_strs {ws : List Str} {k : Nat} (h : k < ws.length) : atI (ws.map V.str) (k : Int) = some (.str (ws.getD k "")) := atI_nat (by
  rw [List.getElem?_map, List.getD_eq_getElem?_getD, List.getElem?_eq_getElem h]
  rfl)
theorem msgL (i : Int) (h0 : 0 ≤ i) (h1 : i < 1000000000) : (((Str.empty ++ ("no right word at index " : Str)) ++ (toString i : Str)) : Str).length ≤ 1000 := by
  have a := (num_ok h0 h1).1
  have e : (((Str.empty ++ ("no right word at index " : Str)) ++ (toString i : Str)) : Str).length = (Str.empty ++ ("no right word at index " : Str)).length + (toString i : Str).length := by
    rw [TL.len_tl, TL.tl_append, List.length_append, ← TL.len_tl, ← TL.len_tl]
  rw [e]
  have c : (Str.empty ++ ("no right word at index " : Str)).length = 23 := by decide +kernel
  omega
theorem ok_BadLine_init (TE : TxtE P w K mg a) (T : Txt K mg a) : ∃ fd, FnOk P w K mg base CX0 1 a.d_BadLine_init fd ["self", "at"] (spSup a.C_BadLine "at" fun v => ∃ i : Int, v = .int i ∧ 0 ≤ i ∧ i < 1000000000) ∧ Binds K fd ["self", "at"] [] := by
  obtain ⟨fd, S, b⟩ := TE.sup_BadLine
  have T0 : SupTxt "at" "at" s_BadLine_init _ _ _ _ _ _ _ _ _ _ := ⟨rfl, rfl, rfl, rfl, rfl, rfl, rfl, rfl, by decide +kernel, ⟨_, rfl, rfl⟩⟩
  refine ⟨fd, ok_sup S T0 (by decide +kernel) (by decide) (by decide) T.n_super ?_ (fun _ => rfl) (fun _ _ _ _ => rfl) (fun _ _ _ _ => rfl) (fun _ _ _ _ => rfl) _ (fun _ => rfl), b⟩
  rintro cd cc A outer s H E e v ⟨i, rfl, i0, i1⟩
  refine ⟨_, pa_cons (pe_joined (.cons pe_str (.cons (pe_fmt (pv 1)) .nil))) pa_nil, fun H1 Q q => ?_⟩
  have len := msgL i i0 i1
  refine ⟨_, rfl, by rw [sizeLine_eq]; decide +kernel, _, rfl, .inr ⟨i, rfl, log_small i0 i1, _, rfl, ?_, q _⟩⟩
  rw [sizeLine_eq]
  exact Nat.le_trans len (by decide)
theorem ok_proposal (T : Txt K mg a) : ∃ fd, FnOk P w K mg base CX0 1 a.d_proposal fd ["height", "turn", "block"] (spProp K) ∧ Binds K fd ["height", "turn", "block"] [] := by
  obtain ⟨fd, F, b⟩ := T.d_proposal.F
  refine ⟨fd, F.ok sc_proposal (fun vs H Q E h => ?_) (fun cdv A outer s H vs Q E hr h => ?_), b⟩
  · obtain ⟨_, _, _, rfl, _⟩ := h
    rfl
  · obtain ⟨h, t, b, rfl, k⟩ := h
    refine ⟨_, (pss_one (ps_ret (pe_tup (pa_cons pe_str (pa_cons (pv 0) (pa_cons (pv 1) (pa_cons (pv 2) pa_nil))))))), ?_⟩
    walk_at "rs"
    exact ⟨(by show 4 ≤ sizeLine; decide), fun p hp => k p _ (same_new hp) upd_same⟩
theorem ok_precommit (T : Txt K mg a) : ∃ fd, FnOk P w K mg base CX0 1 a.d_precommit fd ["height", "turn", "block"] (spPrec K) ∧ Binds K fd ["height", "turn", "block"] [] := by
  obtain ⟨fd, F, b⟩ := T.d_precommit.F
  refine ⟨fd, F.ok sc_precommit (fun vs H Q E h => ?_) (fun cdv A outer s H vs Q E hr h => ?_), b⟩
  · obtain ⟨_, _, _, rfl, _⟩ := h
    rfl
  · obtain ⟨h, t, b, rfl, k⟩ := h
    refine ⟨_, (pss_one (ps_ret (pe_tup (pa_cons pe_str (pa_cons (pv 0) (pa_cons (pv 1) (pa_cons (pv 2) pa_nil))))))), ?_⟩
    walk_at "rs"
    exact ⟨(by show 4 ≤ sizeLine; decide), fun p hp => k p _ (same_new hp) upd_same⟩
theorem ok_prevote (T : Txt K mg a) : ∃ fd, FnOk P w K mg base CX0 1 a.d_prevote fd ["height", "turn", "block", "lean"] (spPrev K) ∧ Binds K fd ["height", "turn", "block", "lean"] [] := by
  obtain ⟨fd, F, b⟩ := T.d_prevote.F
  refine ⟨fd, F.ok sc_prevote (fun vs H Q E h => ?_) (fun cdv A outer s H vs Q E hr h => ?_), b⟩
  · obtain ⟨_, _, _, _, rfl, _⟩ := h
    rfl
  · obtain ⟨h, t, b, l, rfl, k⟩ := h
    refine ⟨_, (pss_one (ps_ret (pe_tup (pa_cons pe_str (pa_cons (pv 0) (pa_cons (pv 1) (pa_cons (pv 2) (pa_cons (pv 3) pa_nil)))))))), ?_⟩
    walk_at "rs"
    exact ⟨(by show 5 ≤ sizeLine; decide), fun p hp => k p _ (same_new hp) upd_same⟩
theorem ok_is_number (T : Txt K mg a) : ∃ fd, FnOk P w K mg base CX0 1 a.d_is_number fd ["word"] (spIsNum K) ∧ Binds K fd ["word"] [] := by
  obtain ⟨fd, F, b⟩ := T.d_is_number.F
  refine ⟨fd, F.ok sc_is_number (fun vs H Q E h => ?_) (fun cdv A outer s H vs Q E hr h => ?_), b⟩
  · obtain ⟨_, rfl, _⟩ := h
    rfl
  · obtain ⟨x, rfl, lx, k⟩ := h
    have k0 := k _ (Same.refl H)
    refine ⟨_, (pss_cons (ps_if (PW.pt (pw_or (pt_not (pt_val (pe_bm0 PySem.F.plainAttrs_str PySem.F.slot_str_isascii PySem.F.type_str_isascii mt_isascii (pv 0)))) (pw_or (pt_not (pt_val (pe_bm0 PySem.F.plainAttrs_str PySem.F.slot_str_isdigit PySem.F.type_str_isdigit mt_isdigit (pv 0)))) (pw_or1 (pt_cmpR op_gt (pe_callB call_len_str (by rfl) T.n_len PySem.boot_len (pa_cons (pv 0) pa_nil)) (pe_glob (v := (.int 9)) rfl T.c_MOST_DIGITS_wire.choose_spec ⟨_, rfl⟩) (nomark _))))))
      (pss_one (ps_ret pe_bl))
      pss_nil)
      (pss_one (ps_ret (pe_or (pe_cmpR op_eq (pv 0) pe_str (nomark _)) (pe_one (pe_cmpR op_ne (pe_ix ix_str (pv 0) pe_int (fun _ _ => rfl)) pe_str (nomark _))))))), ?_⟩
    walk_at "rs"
    refine ⟨trivial, ?_⟩
    walk_at "rs"
    refine ite2 (fun c1 => ?_) (fun c1 => ?_)
    · rw [num_not1 (.inl (by simpa using c1))] at k0
      walk_at "rs"
      exact k0
    walk_at "rs"
    refine ⟨trivial, ?_⟩
    walk_at "rs"
    refine ite2 (fun c2 => ?_) (fun c2 => ?_)
    · rw [num_not1 (.inr (by simpa using c2))] at k0
      walk_at "rs"
      exact k0
    walk_at "rs"
    refine ⟨lx, ?_⟩
    walk_at "rs"
    refine ite2 (fun c3 => ?_) (fun c3 => ?_)
    · rw [num_not2 (by simp at c3; omega)] at k0
      walk_at "rs"
      exact k0
    have a1 : Txt.isascii x = true := by simpa using c1
    have a2 : Txt.isdigit x = true := by simpa using c2
    rw [num_last a1 a2 (by simp at c3; omega)] at k0
    obtain ⟨c, l, ec⟩ : ∃ c l, TL.tl x = c :: l := by
      have := num_parts x
      rw [a1, a2] at this
      have := of_decide_eq_true (Bool.and_eq_true_iff.mp this.symm).2
      cases e : TL.tl x with
      | nil => exact absurd e this
      | cons c l => exact ⟨c, l, rfl⟩
    walk_at "rs"
    refine ite2 (fun c4 => ?_) (fun c4 => ?_)
    · have e0 : x = "0" := by simpa using c4
      rw [decide_eq_true e0] at k0
      exact k0
    · have e0 : ¬ x = "0" := by simpa using c4
      rw [decide_eq_false e0, ec] at k0
      walk_at "rs"
      refine ⟨_, _, c, rfl, rfl, lx, atI_nat (j := 0) (by rw [show x.cps.toList = c :: l from ec]; rfl), ?_⟩
      walk_at "rs"
      have e3 : (!decide (V.str ⟨#[c]⟩ = V.str "0")) = (false || decide ((c :: l).head? ≠ some 48)) := by
        have : (("0" : Str)) = ⟨#[48]⟩ := by decide +kernel
        rw [this]
        simp
      rw [e3]
      exact k0
theorem ok_is_block (T : Txt K mg a) : ∃ fd, FnOk P w K mg base CX0 1 a.d_is_block fd ["word"] (spIsBlk K) ∧ Binds K fd ["word"] [] := by
  obtain ⟨fd, F, b⟩ := T.d_is_block.F
  refine ⟨fd, F.ok sc_is_block (fun vs H Q E h => ?_) (fun cdv A outer s H vs Q E hr h => ?_), b⟩
  · obtain ⟨_, rfl, _⟩ := h
    rfl
  · obtain ⟨x, rfl, lx, k⟩ := h
    have k2 := k
    have k0 := k _ (Same.refl H)
    refine ⟨_, (pss_cons (ps_if (PW.pt (pw_or (pt_cmpR op_lt (pe_callB call_len_str (by rfl) T.n_len PySem.boot_len (pa_cons (pv 0) pa_nil)) pe_int (nomark _)) (pw_or (pt_cmpR op_gt (pe_callB call_len_str (by rfl) T.n_len PySem.boot_len (pa_cons (pv 0) pa_nil)) (pe_glob (v := (.int 60)) rfl T.c_MOST_SIGNS.choose_spec ⟨_, rfl⟩) (nomark _)) (pw_or1 (pt_cmpR op_notIn_sign (pe_ix ix_str (pv 0) pe_int (fun _ _ => rfl)) (pe_glob (v := (.str "abcdefghijklmnopqrstuvwxyz")) rfl T.c_LETTERS.choose_spec ⟨_, rfl⟩) (by rfl))))))
      (pss_one (ps_ret pe_bl))
      pss_nil)
      (pss_one (ps_ret (pe_callB (cr_all rfl) (by rfl) T.n_all (by decide +kernel) (pa_cons (pe_lc (own := [("sign", 1)]) (g := (gName 1)) (tt := tYes) rfl sc_is_block.nd (pi_str (pv 0)) (blkOk_by (own := [("sign", 1)]) (N := sc_is_block_N) (sc := defScope s_is_block) (by decide +kernel)) (fun _ _ _ _ _ => (pg_name (i := 1) sc_is_block.nd rfl (Or.inl rfl))) (fun _ _ _ _ _ => pts_nil) (fun _ _ _ _ _ => (pe_cmpR op_in_sign (pv 1) (pe_glob (v := (.str "abcdefghijklmnopqrstuvwxyz0123456789")) rfl T.c_BLOCK_SIGNS.choose_spec ⟨_, rfl⟩) (by rfl)))) pa_nil))))), ?_⟩
    walk_at "rs"
    refine ⟨lx, ?_⟩
    walk_at "rs"
    refine ite2 (fun c1 => ?_) (fun c1 => ?_)
    · have e : TL.tl x = [] := by
        have := of_decide_eq_true c1
        have : x.length = 0 := by omega
        rw [TL.len_tl] at this
        exact List.eq_nil_of_length_eq_zero (by omega)
      have : blkB x = false := by unfold blkB; rw [e]
      rw [this] at k0
      walk_at "rs"
      refine ite2 (fun _ => ?_) (fun z => absurd rfl z)
      walk_at "rs"
      exact k0
    obtain ⟨c, l, ec⟩ : ∃ c l, TL.tl x = c :: l := by
      have : ¬ ((x.length : Int) < 1) := fun z => c1 (decide_eq_true z)
      have : ¬ x.length = 0 := by omega
      rw [TL.len_tl] at this
      cases e : TL.tl x with
      | nil => rw [e] at this; exact absurd rfl this
      | cons c l => exact ⟨c, l, rfl⟩
    have eb : blkB x = (decide (l.length + 1 ≤ 60) && (isL c && (c :: l).all isA)) := by unfold blkB; rw [ec]
    rw [eb] at k0
    walk_at "rs"
    refine ⟨lx, ?_⟩
    walk_at "rs"
    have el : x.length = l.length + 1 := by rw [TL.len_tl, ec]; rfl
    refine ite2 (fun c2 => ?_) (fun c2 => ?_)
    · have : ¬ (l.length + 1 ≤ 60) := by simp at c2; omega
      rw [decide_eq_false this] at k0
      walk_at "rs"
      refine ite2 (fun _ => ?_) (fun z => absurd rfl z)
      walk_at "rs"
      exact k0
    have : l.length + 1 ≤ 60 := by simp at c2; omega
    rw [decide_eq_true this, Bool.true_and] at k0
    walk_at "rs"
    refine ⟨_, _, c, rfl, rfl, lx, atI_nat (j := 0) (by rw [show x.cps.toList = c :: l from ec]; rfl), ?_⟩
    walk_at "rs"
    refine ite2 (fun c3 => ?_) (fun c3 => ?_)
    · have : isL c = false := by
        unfold isL
        have c3' : (!decide (c ∈ TL.tl "abcdefghijklmnopqrstuvwxyz")) = true := c3
        simpa using c3'
      rw [this] at k0
      walk_at "rs"
      exact k0
    have : isL c = true := by
      unfold isL
      have c3' : ¬ (!decide (c ∈ TL.tl "abcdefghijklmnopqrstuvwxyz")) = true := c3
      simpa using c3'
    rw [eb, decide_eq_true (show l.length + 1 ≤ 60 by assumption), this, Bool.true_and, Bool.true_and] at k2
    walk_at "rs"
    intro D hD
    have es : x.cps.toList = c :: l := ec
    have esz : x.cps.size = (c :: l).length := by rw [← es, Array.length_toList]
    refine lc_it walk_str (fun i H2 => Same H H2 ∧ H2 D = some (.lst ((((c :: l).take i).map isA).map V.bl))) ⟨same_new hD, by rw [upd_same]; rfl⟩ (fun _ _ _ _ => trivial) ?_ ?_
    · rintro i y H2 _ hi ⟨s2, hd⟩ ⟨rfl, d, hd0, rfl⟩
      have hd1 : (c :: l)[i]? = some d := by rw [← es, Array.getElem?_toList]; exact hd0
      have et : (c :: l).take (i + 1) = (c :: l).take i ++ [d] := by rw [List.take_add_one, hd1]; rfl
      refine ⟨rfl, ?_⟩
      walk_at "rs"
      refine ⟨_, hd, by rw [List.length_map, List.length_map, List.length_take]; exact small1000 (by rw [List.length_cons]; omega), same_upd s2 hD, ?_⟩
      rw [upd_same, et]
      simp only [List.map_append, List.map_cons, List.map_nil]
      rfl
    · rintro H2 ⟨s2, hd⟩
      rw [esz, List.take_length] at hd
      walk_at "rs"
      refine ⟨D, _, rfl, SqL.of hd, ?_⟩
      rw [List.all_map]
      exact k2 _ s2
theorem ok_word_at (TE : TxtE P w K mg a) (T : Txt K mg a) : ∃ fd, FnOk P w K mg base (L2N.CX P w) 3 a.d_word_at fd ["words", "at"] (spWordAt K a.C_BadLine) ∧ Binds K fd ["words", "at"] [] := by
  obtain ⟨fd, F, b⟩ := T.d_word_at.F
  obtain ⟨fd_BadLine_init, G_BadLine_init, b_BadLine_init⟩ := ok_BadLine_init (P := P) (w := w) (base := base) TE T
  refine ⟨fd, fun_okN F sc_word_at (fun vs H Q E h => ?_) (fun cdv A outer s H vs Q E hr h => ?_), b⟩
  · obtain ⟨_, _, _, rfl, _⟩ := h
    rfl
  · obtain ⟨W, ws, k, rfl, hW, lw, sw, k6, kr, kq⟩ := h
    refine ⟨_, (pss_cons (ps_if (pt_cmpR op_ge (pv 1) (pe_callB call_len_seq (by rfl) T.n_len PySem.boot_len (pa_cons (pv 0) pa_nil)) (nomark _))
      (pss_one (L2N.ps_raise rfl (L2N.takes_of rfl rfl rfl rfl) (pmk_sup TE.oex_BadLine TE.iC_BadLine TE.tI_BadLine G_BadLine_init (hr.mono (by decide)) b_BadLine_init rfl TE.g_BadLine (pa_cons (pe_callB call_len_seq (by rfl) T.n_len PySem.boot_len (pa_cons (pv 0) pa_nil)) pa_nil))))
      pss_nil)
      (pss_one (ps_ret (pe_ix ix_list (pv 0) (pv 1) (fun _ _ => rfl))))), ?_⟩
    walk_at "rs"
    refine ⟨W, _, rfl, .inl (SqL.of hW), ?_⟩
    walk_at "rs"
    refine ite2 (fun c1 => ?_) (fun c1 => ?_)
    · have c1 : ws.length ≤ k := by simpa using c1
      have er : wordAt ws k = .error (ws.length : Int) := if_neg (by omega)
      walk_at "rs"
      refine ⟨W, _, rfl, .inl (SqL.of hW), ?_⟩
      walk_at "rs"
      rw [List.length_map]
      refine ⟨⟨_, rfl, Int.natCast_nonneg _, by omega⟩, fun d hd => ?_⟩
      exact kr _ (by show mapE V.str (wordAt ws k) = _; rw [er]; rfl) d _ (same_new hd) upd_same
    · have c1 : k < ws.length := by simpa using c1
      have er : wordAt ws k = .ok (ws.getD k "") := if_pos c1
      walk_at "rs"
      refine ⟨W, _, _, _, rfl, rfl, SqL.of hW, at_strs c1, ?_⟩
      exact kq _ (by show mapE V.str (wordAt ws k) = _; rw [er]; rfl) _ (Same.refl H)
theorem ok_number_at (TE : TxtE P w K mg a) (T : Txt K mg a) : ∃ fd, FnOk P w K mg base (L2N.CX P w) 4 a.d_number_at fd ["words", "at"] (spNumAt K a.C_BadLine) ∧ Binds K fd ["words", "at"] [] := by
  obtain ⟨fd, F, b⟩ := T.d_number_at.F
  obtain ⟨fd_word_at, G_word_at, b_word_at⟩ := ok_word_at (P := P) (w := w) (base := base) TE T
  obtain ⟨fd_is_number, G_is_number, b_is_number⟩ := ok_is_number (P := P) (w := w) (base := base) T
  obtain ⟨fd_BadLine_init, G_BadLine_init, b_BadLine_init⟩ := ok_BadLine_init (P := P) (w := w) (base := base) TE T
  refine ⟨fd, fun_okN F sc_number_at (fun vs H Q E h => ?_) (fun cdv A outer s H vs Q E hr h => ?_), b⟩
  · obtain ⟨_, _, _, rfl, _⟩ := h
    rfl
  · obtain ⟨W, ws, k, rfl, hW, lw, sw, k6, kr, kq⟩ := h
    have kr' : ∀ e, numAt ws k = .error e → ExR a.C_BadLine H E e := fun e h => kr e (by show mapE _ _ = _; rw [h]; rfl)
    have kq' : ∀ n, numAt ws k = .ok n → ∀ H', Same H H' → Q (.int n) H' := fun n h => kq _ (by show mapE _ _ = _; rw [h]; rfl)
    clear kr kq
    refine ⟨_, (pss_cons (ps_set (i := 2) sc_number_at.nd rfl (Or.inl rfl) (pe_call G_word_at (hr.mono (by decide)) rfl T.d_word_at.g T.d_word_at.kp b_word_at .nil (L2N.passes_call (W := fun c d _ H => E c d H) (E := E) (L2N.takes_of rfl rfl rfl rfl) (fun _ _ _ _ h => h)) (pa_cons (pv 0) (pa_cons (pv 1) pa_nil))))
      (pss_cons (ps_if (pt_not (pt_val (pe_call G_is_number (hr.mono (by decide)) rfl T.d_is_number.g T.d_is_number.kp b_is_number .nil pass0 (pa_cons (pv 2) pa_nil))))
      (pss_one (L2N.ps_raise rfl (L2N.takes_of rfl rfl rfl rfl) (pmk_sup TE.oex_BadLine TE.iC_BadLine TE.tI_BadLine G_BadLine_init (hr.mono (by decide)) b_BadLine_init rfl TE.g_BadLine (pa_cons (pv 1) pa_nil))))
      pss_nil)
      (pss_one (ps_ret (pe_callTy call_int_str (by rfl) T.n_int (by decide +kernel) (pa_cons (pv 2) pa_nil)))))), ?_⟩
    walk_at "rs"
    refine ⟨W, ws, k, rfl, hW, lw, sw, k6, fun e he => ?_, fun n hn H1 s1 => ?_⟩
    · cases q : wordAt ws k with
      | ok x => simp only [q, mapE] at he; cases he
      | error e' =>
        simp only [q, mapE] at he
        cases he
        exact kr' e (by unfold numAt; rw [q])
    · cases q : wordAt ws k with
      | error e' => simp only [q, mapE] at hn; cases hn
      | ok x =>
        simp only [q, mapE] at hn
        cases hn
        have hx := word_mem q
        walk_at "rs"
        refine ⟨sw x hx, fun H2 s2 => ?_⟩
        walk_at "rs"
        refine ite2 (fun c1 => ?_) (fun c1 => ?_)
        · have c2 : numB x = false := by simpa using c1
          walk_at "rs"
          refine ⟨⟨_, rfl, Int.natCast_nonneg _, by omega⟩, fun d hd => ?_⟩
          exact kr' _ (by unfold numAt; rw [q]; exact if_neg (by rw [c2]; exact Bool.false_ne_true)) d _ ((s1.trans s2).trans (same_new hd)) upd_same
        · have c2 : numB x = true := by simpa using c1
          walk_at "rs"
          have nv := num_int c2
          refine ⟨x, _, rfl, nv.1, Nat.le_trans nv.2 (by decide), ?_⟩
          exact kq' _ (by unfold numAt; rw [q]; exact if_pos c2) _ (s1.trans s2)
theorem ok_kind_at (TE : TxtE P w K mg a) (T : Txt K mg a) : ∃ fd, FnOk P w K mg base (L2N.CX P w) 4 a.d_kind_at fd ["words", "at"] (spKindAt K a.C_BadLine) ∧ Binds K fd ["words", "at"] [] := by
  obtain ⟨fd, F, b⟩ := T.d_kind_at.F
  obtain ⟨fd_word_at, G_word_at, b_word_at⟩ := ok_word_at (P := P) (w := w) (base := base) TE T
  obtain ⟨fd_BadLine_init, G_BadLine_init, b_BadLine_init⟩ := ok_BadLine_init (P := P) (w := w) (base := base) TE T
  refine ⟨fd, fun_okN F sc_kind_at (fun vs H Q E h => ?_) (fun cdv A outer s H vs Q E hr h => ?_), b⟩
  · obtain ⟨_, _, _, rfl, _⟩ := h
    rfl
  · obtain ⟨W, ws, k, rfl, hW, lw, sw, k6, kr, kq⟩ := h
    have kr' : ∀ e, kindAt ws k = .error e → ExR a.C_BadLine H E e := fun e h => kr e (by show mapE _ _ = _; rw [h]; rfl)
    have kq' : ∀ n, kindAt ws k = .ok n → ∀ H', Same H H' → Q (.str n.s) H' := fun n h => kq _ (by show mapE _ _ = _; rw [h]; rfl)
    clear kr kq
    refine ⟨_, (pss_cons (ps_set (i := 2) sc_kind_at.nd rfl (Or.inl rfl) (pe_call G_word_at (hr.mono (by decide)) rfl T.d_word_at.g T.d_word_at.kp b_word_at .nil (L2N.passes_call (W := fun c d _ H => E c d H) (E := E) (L2N.takes_of rfl rfl rfl rfl) (fun _ _ _ _ h => h)) (pa_cons (pv 0) (pa_cons (pv 1) pa_nil))))
      (pss_cons (ps_if (pt_cmpR op_notIn_seq (pv 2) (pe_glob (v := .ref a.P_KINDS) rfl TE.g_KINDS rfl) (by rfl))
      (pss_one (L2N.ps_raise rfl (L2N.takes_of rfl rfl rfl rfl) (pmk_sup TE.oex_BadLine TE.iC_BadLine TE.tI_BadLine G_BadLine_init (hr.mono (by decide)) b_BadLine_init rfl TE.g_BadLine (pa_cons (pv 1) pa_nil))))
      pss_nil)
      (pss_one (ps_ret (pv 2))))), ?_⟩
    walk_at "rs"
    refine ⟨W, ws, k, rfl, hW, lw, sw, k6, fun e he => ?_, fun n hn H1 s1 => ?_⟩
    · cases q : wordAt ws k with
      | ok x => simp only [q, mapE] at he; cases he
      | error e' =>
        simp only [q, mapE] at he
        cases he
        exact kr' e (by unfold kindAt; rw [q])
    · cases q : wordAt ws k with
      | error e' => simp only [q, mapE] at hn; cases hn
      | ok x =>
        simp only [q, mapE] at hn
        cases hn
        walk_at "rs"
        refine ⟨_, _, rfl, .inr (TE.s_KINDS _), rfl, rfl, ?_⟩
        rw [if_pos rfl, inV_kinds]
        walk_at "rs"
        refine ite2 (fun c1 => ?_) (fun c1 => ?_)
        · have c2 : kdOf x = none := by simpa using c1
          walk_at "rs"
          refine ⟨⟨_, rfl, Int.natCast_nonneg _, by omega⟩, fun d hd => ?_⟩
          exact kr' _ (by unfold kindAt; rw [q]; simp only [c2]) d _ (s1.trans (same_new hd)) upd_same
        · obtain ⟨d, c2⟩ : ∃ d, kdOf x = some d := Option.ne_none_iff_exists'.mp (by simpa using c1)
          walk_at "rs"
          rw [kd_of c2]
          exact kq' _ (by unfold kindAt; rw [q]; simp only [c2]) _ s1
theorem ok_end_at (TE : TxtE P w K mg a) (T : Txt K mg a) : ∃ fd, FnOk P w K mg base (L2N.CX P w) 3 a.d_end_at fd ["words", "at"] (spEndAt K a.C_BadLine) ∧ Binds K fd ["words", "at"] [] := by
  obtain ⟨fd, F, b⟩ := T.d_end_at.F
  obtain ⟨fd_BadLine_init, G_BadLine_init, b_BadLine_init⟩ := ok_BadLine_init (P := P) (w := w) (base := base) TE T
  refine ⟨fd, fun_okN F sc_end_at (fun vs H Q E h => ?_) (fun cdv A outer s H vs Q E hr h => ?_), b⟩
  · obtain ⟨_, _, _, rfl, _⟩ := h
    rfl
  · obtain ⟨W, ws, k, rfl, hW, lw, sw, k6, kr, kq⟩ := h
    have kr' : ∀ e, endAt ws k = .error e → ExR a.C_BadLine H E e := fun e h => kr e (by show mapE _ _ = _; rw [h]; rfl)
    have kq' : ∀ n, endAt ws k = .ok n → ∀ H', Same H H' → Q .non H' := fun n h => kq _ (by show mapE _ _ = _; rw [h]; rfl)
    clear kr kq
    refine ⟨_, (pss_one (ps_if (pt_cmpR op_gt (pe_callB call_len_seq (by rfl) T.n_len PySem.boot_len (pa_cons (pv 0) pa_nil)) (pv 1) (nomark _))
      (pss_one (L2N.ps_raise rfl (L2N.takes_of rfl rfl rfl rfl) (pmk_sup TE.oex_BadLine TE.iC_BadLine TE.tI_BadLine G_BadLine_init (hr.mono (by decide)) b_BadLine_init rfl TE.g_BadLine (pa_cons (pv 1) pa_nil))))
      pss_nil)), ?_⟩
    walk_at "rs"
    refine ⟨W, _, rfl, .inl (SqL.of hW), ?_⟩
    walk_at "rs"
    refine ite2 (fun c1 => ?_) (fun c1 => ?_)
    · have c2 : k < ws.length := by simpa using c1
      walk_at "rs"
      refine ⟨⟨_, rfl, Int.natCast_nonneg _, by omega⟩, fun d hd => ?_⟩
      exact kr' _ (if_pos c2) d _ (same_new hd) upd_same
    · have c2 : ¬ k < ws.length := by simpa using c1
      exact kq' () (if_neg c2) _ (Same.refl H)
theorem ok_block_at (TE : TxtE P w K mg a) (T : Txt K mg a) : ∃ fd, FnOk P w K mg base (L2N.CX P w) 4 a.d_block_at fd ["words", "at", "kind"] (spBlockAt K a.C_BadLine) ∧ Binds K fd ["words", "at", "kind"] [] := by
  obtain ⟨fd, F, b⟩ := T.d_block_at.F
  obtain ⟨fd_word_at, G_word_at, b_word_at⟩ := ok_word_at (P := P) (w := w) (base := base) TE T
  obtain ⟨fd_is_block, G_is_block, b_is_block⟩ := ok_is_block (P := P) (w := w) (base := base) T
  obtain ⟨fd_BadLine_init, G_BadLine_init, b_BadLine_init⟩ := ok_BadLine_init (P := P) (w := w) (base := base) TE T
  refine ⟨fd, fun_okN F sc_block_at (fun vs H Q E h => ?_) (fun cdv A outer s H vs Q E hr h => ?_), b⟩
  · obtain ⟨_, _, _, _, rfl, _⟩ := h
    rfl
  · obtain ⟨W, ws, k, kd, rfl, hW, lw, sw, k6, kr, kq⟩ := h
    refine ⟨_, (pss_cons (ps_set (i := 3) sc_block_at.nd rfl (Or.inl rfl) (pe_call G_word_at (hr.mono (by decide)) rfl T.d_word_at.g T.d_word_at.kp b_word_at .nil (L2N.passes_call (W := fun c d _ H => E c d H) (E := E) (L2N.takes_of rfl rfl rfl rfl) (fun _ _ _ _ h => h)) (pa_cons (pv 0) (pa_cons (pv 1) pa_nil))))
      (pss_cons (ps_if (PW.pt (pw_and (pt_cmpR op_eq (pv 3) (pe_glob (v := (.str "-")) rfl T.c_NONE.choose_spec ⟨_, rfl⟩) (nomark _)) (pw_and1 (pt_cmpR op_ne (pv 2) pe_str (nomark _)))))
      (pss_one (ps_ret pe_non))
      pss_nil)
      (pss_cons (ps_if (pt_not (pt_val (pe_call G_is_block (hr.mono (by decide)) rfl T.d_is_block.g T.d_is_block.kp b_is_block .nil pass0 (pa_cons (pv 3) pa_nil))))
      (pss_one (L2N.ps_raise rfl (L2N.takes_of rfl rfl rfl rfl) (pmk_sup TE.oex_BadLine TE.iC_BadLine TE.tI_BadLine G_BadLine_init (hr.mono (by decide)) b_BadLine_init rfl TE.g_BadLine (pa_cons (pv 1) pa_nil))))
      pss_nil)
      (pss_one (ps_ret (pv 3)))))), ?_⟩
    walk_at "rs"
    refine ⟨W, ws, k, rfl, hW, lw, sw, k6, fun e he => ?_, fun n hn H1 s1 => ?_⟩
    · cases q : wordAt ws k with
      | ok x => simp only [q, mapE] at he; cases he
      | error e' =>
        simp only [q, mapE] at he
        cases he
        exact kr e (by unfold blockAt; rw [q])
    · cases q : wordAt ws k with
      | error e' => simp only [q, mapE] at hn; cases hn
      | ok x =>
        simp only [q, mapE] at hn
        cases hn
        have hx := word_mem q
        have fin1 : ∀ y, Q y H1 → Q y H1 := fun _ h => h
        walk_at "rs"
        have rest : ¬ (x = "-" ∧ kd ≠ .prop) → blockAt ws k kd = if blkB x = true then .ok (some x) else .error (k : Int) := fun h => by
          unfold blockAt
          rw [q]
          exact if_neg h
        refine ite2 (fun c1 => ?_) (fun c1 => ?_)
        · have e1 : x = "-" := by simpa using c1
          walk_at "rs"
          refine ite2 (fun c2 => ?_) (fun c2 => ?_)
          · have e2 : kd ≠ .prop := by simpa [s_prop] using c2
            walk_at "rs"
            exact kq none (by unfold blockAt; rw [q]; exact if_pos ⟨e1, e2⟩) _ s1
          · have e2 : kd = .prop := by simpa [s_prop] using c2
            have e3 := rest fun z => z.2 e2
            walk_at "rs"
            refine ⟨sw x hx, fun H2 s2 => ?_⟩
            walk_at "rs"
            refine ite2 (fun c3 => ?_) (fun c3 => ?_)
            · have e4 : blkB x = false := by simpa using c3
              walk_at "rs"
              refine ⟨⟨_, rfl, Int.natCast_nonneg _, by omega⟩, fun d hd => ?_⟩
              exact kr _ (by rw [e3, e4]; rfl) d _ ((s1.trans s2).trans (same_new hd)) upd_same
            · have e4 : blkB x = true := by simpa using c3
              walk_at "rs"
              exact kq (some x) (by rw [e3, e4]; rfl) _ (s1.trans s2)
        · have e1 : ¬ x = "-" := by simpa using c1
          have e3 := rest fun z => e1 z.1
          walk_at "rs"
          refine ⟨sw x hx, fun H2 s2 => ?_⟩
          walk_at "rs"
          refine ite2 (fun c3 => ?_) (fun c3 => ?_)
          · have e4 : blkB x = false := by simpa using c3
            walk_at "rs"
            refine ⟨⟨_, rfl, Int.natCast_nonneg _, by omega⟩, fun d hd => ?_⟩
            exact kr _ (by rw [e3, e4]; rfl) d _ ((s1.trans s2).trans (same_new hd)) upd_same
          · have e4 : blkB x = true := by simpa using c3
            walk_at "rs"
            exact kq (some x) (by rw [e3, e4]; rfl) _ (s1.trans s2)
theorem ok_lean_at (TE : TxtE P w K mg a) (T : Txt K mg a) : ∃ fd, FnOk P w K mg base (L2N.CX P w) 5 a.d_lean_at fd ["words", "at", "turn"] (spLeanAt K a.C_BadLine) ∧ Binds K fd ["words", "at", "turn"] [] := by
  obtain ⟨fd, F, b⟩ := T.d_lean_at.F
  obtain ⟨fd_word_at, G_word_at, b_word_at⟩ := ok_word_at (P := P) (w := w) (base := base) TE T
  obtain ⟨fd_number_at, G_number_at, b_number_at⟩ := ok_number_at (P := P) (w := w) (base := base) TE T
  obtain ⟨fd_BadLine_init, G_BadLine_init, b_BadLine_init⟩ := ok_BadLine_init (P := P) (w := w) (base := base) TE T
  refine ⟨fd, fun_okN F sc_lean_at (fun vs H Q E h => ?_) (fun cdv A outer s H vs Q E hr h => ?_), b⟩
  · obtain ⟨_, _, _, _, rfl, _⟩ := h
    rfl
  · obtain ⟨W, ws, k, t, rfl, hW, lw, sw, k6, kr, kq⟩ := h
    refine ⟨_, (pss_cons (ps_set (i := 3) sc_lean_at.nd rfl (Or.inl rfl) (pe_call G_word_at (hr.mono (by decide)) rfl T.d_word_at.g T.d_word_at.kp b_word_at .nil (L2N.passes_call (W := fun c d _ H => E c d H) (E := E) (L2N.takes_of rfl rfl rfl rfl) (fun _ _ _ _ h => h)) (pa_cons (pv 0) (pa_cons (pv 1) pa_nil))))
      (pss_cons (ps_if (pt_cmpR op_eq (pv 3) (pe_glob (v := (.str "-")) rfl T.c_NONE.choose_spec ⟨_, rfl⟩) (nomark _))
      (pss_one (ps_ret pe_non))
      pss_nil)
      (pss_cons (ps_set (i := 4) sc_lean_at.nd rfl (Or.inl rfl) (pe_call G_number_at (hr.mono (by decide)) rfl T.d_number_at.g T.d_number_at.kp b_number_at .nil (L2N.passes_call (W := fun c d _ H => E c d H) (E := E) (L2N.takes_of rfl rfl rfl rfl) (fun _ _ _ _ h => h)) (pa_cons (pv 0) (pa_cons (pv 1) pa_nil))))
      (pss_cons (ps_if (pt_cmpR op_ge (pv 4) (pv 2) (nomark _))
      (pss_one (L2N.ps_raise rfl (L2N.takes_of rfl rfl rfl rfl) (pmk_sup TE.oex_BadLine TE.iC_BadLine TE.tI_BadLine G_BadLine_init (hr.mono (by decide)) b_BadLine_init rfl TE.g_BadLine (pa_cons (pv 1) pa_nil))))
      pss_nil)
      (pss_one (ps_ret (pv 4))))))), ?_⟩
    walk_at "rs"
    refine ⟨W, ws, k, rfl, hW, lw, sw, k6, fun e he => ?_, fun n hn H1 s1 => ?_⟩
    · cases q : wordAt ws k with
      | ok x => simp only [q, mapE] at he; cases he
      | error e' =>
        simp only [q, mapE] at he
        cases he
        exact kr e (by unfold leanAt; rw [q])
    · cases q : wordAt ws k with
      | error e' => simp only [q, mapE] at hn; cases hn
      | ok x =>
        simp only [q, mapE] at hn
        cases hn
        have hx := word_mem q
        walk_at "rs"
        refine ite2 (fun c1 => ?_) (fun c1 => ?_)
        · have e1 : x = "-" := by simpa using c1
          walk_at "rs"
          exact kq none (by unfold leanAt; rw [q]; exact if_pos e1) _ s1
        · have e1 : ¬ x = "-" := by simpa using c1
          have e3 : leanAt ws k t = if numB x = true then (if numV x < t then .ok (some (numV x)) else .error (k : Int)) else .error (k : Int) := by
            unfold leanAt
            rw [q]
            exact if_neg e1
          have e5 : numAt ws k = if numB x = true then .ok (numV x) else .error (k : Int) := by
            unfold numAt
            rw [q]
          walk_at "rs"
          refine ⟨W, ws, k, rfl, s1 _ _ hW, lw, sw, k6, fun e he => ?_, fun n hn H2 s2 => ?_⟩
          · cases e4 : numB x with
            | true => simp only [e5, e4, if_true, mapE] at he; cases he
            | false =>
              rw [e4] at e3
              simp only [e5, e4, mapE] at he
              cases he
              exact fun d H' s' hd => kr _ e3 d H' (s1.trans s') hd
          · cases e4 : numB x with
            | false => simp only [e5, e4, mapE] at hn; cases hn
            | true =>
              rw [e4, if_pos rfl] at e3
              simp only [e5, e4, if_true, mapE] at hn
              cases hn
              walk_at "rs"
              refine ite2 (fun c3 => ?_) (fun c3 => ?_)
              · have e6 : ¬ numV x < t := by have := of_decide_eq_true c3; omega
                walk_at "rs"
                refine ⟨⟨_, rfl, Int.natCast_nonneg _, by omega⟩, fun d hd => ?_⟩
                exact kr _ (by rw [e3, if_neg e6]) d _ ((s1.trans s2).trans (same_new hd)) upd_same
              · have e6 : numV x < t := by
                  have : ¬ t ≤ numV x := fun z => c3 (decide_eq_true z)
                  omega
                walk_at "rs"
                exact kq _ (by rw [e3, if_pos e6]) _ (s1.trans s2)
theorem ok_read_letter (TE : TxtE P w K mg a) (T : Txt K mg a) : ∃ fd, FnOk P w K mg base (L2N.CX P w) 6 a.d_read_letter fd ["line"] (spRead K a.C_BadLine) ∧ Binds K fd ["line"] [] := by
  obtain ⟨fd, F, b⟩ := T.d_read_letter.F
  obtain ⟨fd_number_at, G_number_at, b_number_at⟩ := ok_number_at (P := P) (w := w) (base := base) TE T
  obtain ⟨fd_kind_at, G_kind_at, b_kind_at⟩ := ok_kind_at (P := P) (w := w) (base := base) TE T
  obtain ⟨fd_block_at, G_block_at, b_block_at⟩ := ok_block_at (P := P) (w := w) (base := base) TE T
  obtain ⟨fd_end_at, G_end_at, b_end_at⟩ := ok_end_at (P := P) (w := w) (base := base) TE T
  obtain ⟨fd_lean_at, G_lean_at, b_lean_at⟩ := ok_lean_at (P := P) (w := w) (base := base) TE T
  obtain ⟨fd_proposal, G_proposal, b_proposal⟩ := ok_proposal (P := P) (w := w) (base := base) T
  obtain ⟨fd_prevote, G_prevote, b_prevote⟩ := ok_prevote (P := P) (w := w) (base := base) T
  obtain ⟨fd_precommit, G_precommit, b_precommit⟩ := ok_precommit (P := P) (w := w) (base := base) T
  refine ⟨fd, fun_okN F sc_read_letter (fun vs H Q E h => ?_) (fun cdv A outer s H vs Q E hr h => ?_), b⟩
  · obtain ⟨_, rfl, _⟩ := h
    rfl
  · obtain ⟨line, rfl, ll, kr, kq⟩ := h
    refine ⟨_, (pss_cons (ps_set (i := 1) sc_read_letter.nd rfl (Or.inl rfl) (pe_split (pv 0) pe_str))
      (pss_cons (ps_set (i := 2) sc_read_letter.nd rfl (Or.inl rfl) (pe_call G_number_at (hr.mono (by decide)) rfl T.d_number_at.g T.d_number_at.kp b_number_at .nil (L2N.passes_call (W := fun c d _ H => E c d H) (E := E) (L2N.takes_of rfl rfl rfl rfl) (fun _ _ _ _ h => h)) (pa_cons (pv 1) (pa_cons pe_int pa_nil))))
      (pss_cons (ps_set (i := 3) sc_read_letter.nd rfl (Or.inl rfl) (pe_call G_kind_at (hr.mono (by decide)) rfl T.d_kind_at.g T.d_kind_at.kp b_kind_at .nil (L2N.passes_call (W := fun c d _ H => E c d H) (E := E) (L2N.takes_of rfl rfl rfl rfl) (fun _ _ _ _ h => h)) (pa_cons (pv 1) (pa_cons pe_int pa_nil))))
      (pss_cons (ps_set (i := 4) sc_read_letter.nd rfl (Or.inl rfl) (pe_call G_number_at (hr.mono (by decide)) rfl T.d_number_at.g T.d_number_at.kp b_number_at .nil (L2N.passes_call (W := fun c d _ H => E c d H) (E := E) (L2N.takes_of rfl rfl rfl rfl) (fun _ _ _ _ h => h)) (pa_cons (pv 1) (pa_cons pe_int pa_nil))))
      (pss_cons (ps_set (i := 5) sc_read_letter.nd rfl (Or.inl rfl) (pe_call G_number_at (hr.mono (by decide)) rfl T.d_number_at.g T.d_number_at.kp b_number_at .nil (L2N.passes_call (W := fun c d _ H => E c d H) (E := E) (L2N.takes_of rfl rfl rfl rfl) (fun _ _ _ _ h => h)) (pa_cons (pv 1) (pa_cons pe_int pa_nil))))
      (pss_cons (ps_set (i := 6) sc_read_letter.nd rfl (Or.inl rfl) (pe_call G_block_at (hr.mono (by decide)) rfl T.d_block_at.g T.d_block_at.kp b_block_at .nil (L2N.passes_call (W := fun c d _ H => E c d H) (E := E) (L2N.takes_of rfl rfl rfl rfl) (fun _ _ _ _ h => h)) (pa_cons (pv 1) (pa_cons pe_int (pa_cons (pv 3) pa_nil)))))
      (pss_cons (ps_if (pt_cmpR op_eq (pv 3) pe_str (nomark _))
      (pss_cons (ps_set (i := 7) sc_read_letter.nd rfl (Or.inl rfl) (pe_call G_lean_at (hr.mono (by decide)) rfl T.d_lean_at.g T.d_lean_at.kp b_lean_at .nil (L2N.passes_call (W := fun c d _ H => E c d H) (E := E) (L2N.takes_of rfl rfl rfl rfl) (fun _ _ _ _ h => h)) (pa_cons (pv 1) (pa_cons pe_int (pa_cons (pv 5) pa_nil)))))
        (pss_cons (ps_expr (pe_call G_end_at (hr.mono (by decide)) rfl T.d_end_at.g T.d_end_at.kp b_end_at .nil (L2N.passes_call (W := fun c d _ H => E c d H) (E := E) (L2N.takes_of rfl rfl rfl rfl) (fun _ _ _ _ h => h)) (pa_cons (pv 1) (pa_cons pe_int pa_nil))))
        (pss_one (ps_ret (pe_tup (pa_cons (pv 2) (pa_cons (pe_call G_prevote (hr.mono (by decide)) rfl T.d_prevote.g T.d_prevote.kp b_prevote .nil pass0 (pa_cons (pv 4) (pa_cons (pv 5) (pa_cons (pv 6) (pa_cons (pv 7) pa_nil))))) pa_nil)))))))
      pss_nil)
      (pss_cons (ps_expr (pe_call G_end_at (hr.mono (by decide)) rfl T.d_end_at.g T.d_end_at.kp b_end_at .nil (L2N.passes_call (W := fun c d _ H => E c d H) (E := E) (L2N.takes_of rfl rfl rfl rfl) (fun _ _ _ _ h => h)) (pa_cons (pv 1) (pa_cons pe_int pa_nil))))
      (pss_cons (ps_if (pt_cmpR op_eq (pv 3) pe_str (nomark _))
      (pss_one (ps_ret (pe_tup (pa_cons (pv 2) (pa_cons (pe_call G_precommit (hr.mono (by decide)) rfl T.d_precommit.g T.d_precommit.kp b_precommit .nil pass0 (pa_cons (pv 4) (pa_cons (pv 5) (pa_cons (pv 6) pa_nil)))) pa_nil)))))
      pss_nil)
      (pss_one (ps_ret (pe_tup (pa_cons (pv 2) (pa_cons (pe_call G_proposal (hr.mono (by decide)) rfl T.d_proposal.g T.d_proposal.kp b_proposal .nil pass0 (pa_cons (pv 4) (pa_cons (pv 5) (pa_cons (pv 6) pa_nil)))) pa_nil)))))))))))))), ?_⟩
    walk_at "rs"
    refine ⟨⟨_, rfl⟩, _, _, rfl, rfl, by decide +kernel, ll, fun W hW0 => ?_⟩
    have s0 := same_new (o := .lst ((Txt.split line " ").map V.str)) hW0
    have hW := (upd_same : upd H W (.lst ((Txt.split line " ").map V.str)) W = _)
    have lw : (Txt.split line " ").length ≤ 16777216 := Nat.le_trans (PyProof.Rows.split_le line " ") ll
    have sw : ∀ w ∈ Txt.split line " ", w.length ≤ 16777216 := fun w hw => by
      have := PyProof.Rows.part_short hw
      omega
    unfold readL readW at kr kq
    generalize upd H W (.lst ((Txt.split line " ").map V.str)) = H0 at s0 hW ⊢
    generalize Txt.split line " " = ws at hW lw sw kr kq
    clear ll
    walk_at "rs"
    refine ⟨W, ws, 0, rfl, hW, lw, sw, by decide, fun e he => at_err s0 kr e (mapE_err he), fun n hn H1 s1 => ?_⟩
    obtain ⟨w0, e0, rfl⟩ := mapE_ok hn
    simp only [bindE, e0] at kr kq
    have t1 := s0.trans s1
    have hW1 := s1 _ _ hW
    clear hn s0 s1 hW
    walk_at "rs"
    refine ⟨W, ws, 1, rfl, hW1, lw, sw, by decide, fun e he => at_err t1 kr e (mapE_err he), fun n hn H2 s2 => ?_⟩
    obtain ⟨kd, e1, rfl⟩ := mapE_ok hn
    simp only [bindE, e1] at kr kq
    have t2 := t1.trans s2
    have hW2 := s2 _ _ hW1
    clear hn t1 s2 hW1
    walk_at "rs"
    refine ⟨W, ws, 2, rfl, hW2, lw, sw, by decide, fun e he => at_err t2 kr e (mapE_err he), fun n hn H3 s3 => ?_⟩
    obtain ⟨h0, e2, rfl⟩ := mapE_ok hn
    simp only [bindE, e2] at kr kq
    have t3 := t2.trans s3
    have hW3 := s3 _ _ hW2
    clear hn t2 s3 hW2
    walk_at "rs"
    refine ⟨W, ws, 3, rfl, hW3, lw, sw, by decide, fun e he => at_err t3 kr e (mapE_err he), fun n hn H4 s4 => ?_⟩
    obtain ⟨tu, e3, rfl⟩ := mapE_ok hn
    simp only [bindE, e3] at kr kq
    have t4 := t3.trans s4
    have hW4 := s4 _ _ hW3
    clear hn t3 s4 hW3
    walk_at "rs"
    refine ⟨W, ws, 4, kd, rfl, hW4, lw, sw, by decide, fun e he => at_err t4 kr e he, fun bl e4 H5 s5 => ?_⟩
    simp only [bindE, e4] at kr kq
    have t5 := t4.trans s5
    have hW5 := s5 _ _ hW4
    clear t4 s5 hW4
    walk_at "rs"
    unfold readEnd at kr kq
    refine ite2 (fun c1 => ?_) (fun c1 => ?_)
    · have ek : kd = .pre := by simpa [s_pre] using c1
      rw [if_pos ek] at kr kq
      walk_at "rs"
      refine ⟨W, ws, 5, tu, rfl, hW5, lw, sw, by decide, fun e he => at_err t5 kr e he, fun ln e6 H6 s6 => ?_⟩
      simp only [bindE, e6] at kr kq
      have t6 := t5.trans s6
      have hW6 := s6 _ _ hW5
      walk_at "rs"
      refine ⟨W, ws, 6, rfl, hW6, lw, sw, by decide, fun e he => at_err t6 kr e (mapE_err he), fun n hn H7 s7 => ?_⟩
      obtain ⟨_, e7, rfl⟩ := mapE_ok hn
      simp only [bindE, e7] at kr kq
      walk_at "rs"
      refine ⟨h0, tu, bl, ln, rfl, fun p H8 s8 hp => ?_⟩
      refine ⟨(by show 2 ≤ sizeLine; decide), fun q hq => ?_⟩
      have s9 := same_new (o := .tup [V.int w0, V.ref p]) hq
      exact kq _ rfl q _ (((t6.trans s7).trans s8).trans s9) ⟨p, upd_same, s9 _ _ hp⟩
    · have ek : ¬ kd = .pre := by simpa [s_pre] using c1
      rw [if_neg ek] at kr kq
      walk_at "rs"
      refine ⟨W, ws, 5, rfl, hW5, lw, sw, by decide, fun e he => at_err t5 kr e (mapE_err he), fun n hn H6 s6 => ?_⟩
      obtain ⟨_, e6, rfl⟩ := mapE_ok hn
      simp only [bindE, e6] at kr kq
      have t6 := t5.trans s6
      walk_at "rs"
      refine ite2 (fun c2 => ?_) (fun c2 => ?_)
      · have ek2 : kd = .com := by simpa [s_com] using c2
        subst ek2
        walk_at "rs"
        refine ⟨h0, tu, bl, rfl, fun p H8 s8 hp => ?_⟩
        refine ⟨(by show 2 ≤ sizeLine; decide), fun q hq => ?_⟩
        have s9 := same_new (o := .tup [V.int w0, V.ref p]) hq
        exact kq _ rfl q _ ((t6.trans s8).trans s9) ⟨p, upd_same, s9 _ _ hp⟩
      · have ek2 : ¬ kd = .com := by simpa [s_com] using c2
        have ek3 : kd = .prop := by
          cases kd with
          | prop => rfl
          | pre => exact absurd rfl ek
          | com => exact absurd rfl ek2
        subst ek3
        walk_at "rs"
        refine ⟨h0, tu, bl, rfl, fun p H8 s8 hp => ?_⟩
        refine ⟨(by show 2 ≤ sizeLine; decide), fun q hq => ?_⟩
        have s9 := same_new (o := .tup [V.int w0, V.ref p]) hq
        exact kq _ rfl q _ ((t6.trans s8).trans s9) ⟨p, upd_same, s9 _ _ hp⟩

theorem nu_tl {i : Int} (h : NOk i) : TL.tl (nu i) = TL.numL i.toNat := by
  unfold nu
  rw [← TL.tl_num, Int.toNat_of_nonneg h.1]
theorem nu_neg {n : Nat} : TL.tl (nu (Int.negSucc n)) = 45 :: TL.numL (n + 1) := by
  unfold nu
  rw [TL.tl_ofString]
  show (("-" ++ (n + 1).repr).toList.map Char.toNat) = _
  rw [String.toList_append, List.map_append]
  unfold TL.numL Nat.repr
  simp
theorem nu_len {i : Int} (h : WOk i) : (nu i).length ≤ 7 := by
  obtain ⟨h0, h1⟩ := id h
  rw [TL.len_tl]
  cases i with
  | ofNat n =>
    show (TL.tl (Str.ofString (toString ((n : Nat) : Int)))).length ≤ 7
    rw [TL.tl_num]
    exact TL.numL_len (k := 7) (by decide) (by have : ((n : Nat) : Int) ≤ 2000000 := h1; omega)
  | negSucc n =>
    rw [nu_neg, List.length_cons]
    have : n + 1 ≤ 1000 := by omega
    have := TL.numL_len (n := n + 1) (k := 4) (by decide) (by omega)
    omega
theorem nu_log {i : Int} (h : WOk i) : i.natAbs.log2 < 1920 := by
  obtain ⟨h0, h1⟩ := h
  rcases Nat.eq_zero_or_pos i.natAbs with z | z
  · rw [z]
    decide
  · have : i.natAbs.log2 < 30 := (Nat.log2_lt (Nat.ne_of_gt z)).mpr (by omega)
    omega
theorem bits_len {c : Cm} (ok : c.ok) : (c.bits.map fun x => x.length).sum ≤ 270 := by
  cases c with
  | p a b d =>
    obtain ⟨o1, o2, o3⟩ := ok
    have := nu_len o1
    have := nu_len o2
    have := nu_len o3
    simp only [Cm.bits, List.map, List.sum_cons, List.sum_nil, PySem.Str.length_append]
    have l1 : ("p" : Str).length = 1 := rfl
    have l2 : ("q" : Str).length = 1 := rfl
    have l3 : ("r" : Str).length = 1 := rfl
    omega
  | w a b =>
    obtain ⟨o1, o2⟩ := ok
    have := nu_len o1
    have := nu_len o2
    simp only [Cm.bits, List.map, List.sum_cons, List.sum_nil, PySem.Str.length_append]
    have l1 : ("w" : Str).length = 1 := rfl
    have l2 : ("x" : Str).length = 1 := rfl
    omega
  | k a b d =>
    obtain ⟨o1, o2, o3⟩ := ok
    have := nu_len o1
    have := nu_len o2
    have := nu_len o3
    simp only [Cm.bits, List.map, List.sum_cons, List.sum_nil, PySem.Str.length_append]
    have l1 : ("k" : Str).length = 1 := rfl
    have l2 : ("b" : Str).length = 1 := rfl
    have l3 : ("v" : Str).length = 1 := rfl
    omega
  | d a s =>
    obtain ⟨o1, o2, o3⟩ := ok
    have := nu_len o1
    simp only [Cm.bits, List.map, List.sum_cons, List.sum_nil, PySem.Str.length_append]
    have l1 : ("d" : Str).length = 1 := rfl
    have l2 : ("z" : Str).length = 1 := rfl
    omega
theorem cps_nil : (Str.ofString "").cps = #[] := rfl
theorem join_nil_len : ∀ l : List Str, (Str.join "" l).length = (l.map fun x => x.length).sum
  | [] => rfl
  | [x] => by simp [Str.join]
  | x :: y :: r => by
    have ih := join_nil_len (y :: r)
    show ((x ++ "") ++ Str.join "" (y :: r)).length = _
    rw [PySem.Str.length_append, PySem.Str.length_append, ih]
    rfl
theorem bit_at {c : Cm} {i : Nat} {x y : V} (hx : (c.ms.map V.str)[i]? = some x) (hy : c.ps[i]? = some y) (ok : c.ok) :
    ∃ m, x = .str m ∧ m.length = 1 ∧ ((∃ n, y = .int n ∧ WOk n ∧ c.bits[i]? = some (m ++ nu n)) ∨ ∃ s, y = .str s ∧ s.length ≤ 250 ∧ c.bits[i]? = some (m ++ s)) := by
  cases c with
  | p a b d =>
    obtain ⟨o1, o2, o3⟩ := ok
    match i, hx, hy with
    | 0, hx, hy => cases hx; cases hy; exact ⟨_, rfl, rfl, .inl ⟨_, rfl, o1, rfl⟩⟩
    | 1, hx, hy => cases hx; cases hy; exact ⟨_, rfl, rfl, .inl ⟨_, rfl, o2, rfl⟩⟩
    | 2, hx, hy => cases hx; cases hy; exact ⟨_, rfl, rfl, .inl ⟨_, rfl, o3, rfl⟩⟩
    | i + 3, hx, hy => simp [Cm.ps] at hy
  | w a b =>
    obtain ⟨o1, o2⟩ := ok
    match i, hx, hy with
    | 0, hx, hy => cases hx; cases hy; exact ⟨_, rfl, rfl, .inl ⟨_, rfl, o1, rfl⟩⟩
    | 1, hx, hy => cases hx; cases hy; exact ⟨_, rfl, rfl, .inl ⟨_, rfl, o2, rfl⟩⟩
    | i + 2, hx, hy => simp [Cm.ps] at hy
  | k a b d =>
    obtain ⟨o1, o2, o3⟩ := ok
    match i, hx, hy with
    | 0, hx, hy => cases hx; cases hy; exact ⟨_, rfl, rfl, .inl ⟨_, rfl, o1, rfl⟩⟩
    | 1, hx, hy => cases hx; cases hy; exact ⟨_, rfl, rfl, .inl ⟨_, rfl, o2, rfl⟩⟩
    | 2, hx, hy => cases hx; cases hy; exact ⟨_, rfl, rfl, .inl ⟨_, rfl, o3, rfl⟩⟩
    | i + 3, hx, hy => simp [Cm.ps] at hy
  | d a s =>
    obtain ⟨o1, o2, o3⟩ := ok
    match i, hx, hy with
    | 0, hx, hy => cases hx; cases hy; exact ⟨_, rfl, rfl, .inl ⟨_, rfl, o1, rfl⟩⟩
    | 1, hx, hy => cases hx; cases hy; exact ⟨_, rfl, rfl, .inr ⟨_, rfl, o2, rfl⟩⟩
    | i + 2, hx, hy => simp [Cm.ps] at hy
theorem ok_command_text (TE : TxtE P w K mg a) (T : Txt K mg a) : ∃ fd, FnOk P w K mg base CX0 1 a.d_command_text fd ["command"] (spText K) ∧ Binds K fd ["command"] [] := by
  obtain ⟨fd, F, b⟩ := T.d_command_text.F
  refine ⟨fd, F.ok sc_command_text (fun vs H Q E h => ?_) (fun cdv A outer s H vs Q E hr h => ?_), b⟩
  · obtain ⟨_, _, rfl, _⟩ := h
    rfl
  · obtain ⟨p, c, rfl, hp, ok, k⟩ := h
    refine ⟨_, (pss_cons (ps_asg (pv 0) (pg_starT rfl (pgs_cons (pg_name (i := 1) sc_command_text.nd rfl (Or.inl rfl)) (pgs_cons (pg_name (i := 2) sc_command_text.nd rfl (Or.inl rfl)) pgs_nil))))
      (pss_cons (ps_set (i := 3) sc_command_text.nd rfl (Or.inl rfl) (pe_join pe_str (pe_lc (own := [("mark", 4), ("part", 5)]) (g := (gTup K 2 (gCons (gName 4) (gCons (gName 5) gNil)))) (tt := tYes) rfl sc_command_text.nd (pi_mix (by rfl) T.n_zip (pa_cons (pe_ix ix_kdict (pe_glob (v := .ref a.P_MARKS) rfl TE.g_MARKS rfl) (pv 1) (fun _ _ => rfl)) (pa_cons (pv 2) pa_nil))) (blkOk_by (own := [("mark", 4), ("part", 5)]) (N := sc_command_text_N) (sc := defScope s_command_text) (by decide +kernel)) (fun _ _ _ _ _ => (pg_tup rfl (pgs_cons (pg_name (i := 4) sc_command_text.nd rfl (Or.inl rfl)) (pgs_cons (pg_name (i := 5) sc_command_text.nd rfl (Or.inl rfl)) pgs_nil)))) (fun _ _ _ _ _ => pts_nil) (fun _ _ _ _ _ => (pe_joined (PJ.cons (pe_fmt (pv 4)) (PJ.cons (pe_fmt (pv 5)) PJ.nil)))))))
      (pss_cons (ps_if (pt_cmpR op_eq (pv 1) pe_str (nomark _))
      (pss_one (ps_ret (pe_op op_add_str (pv 3) (pe_glob (v := (.str "z")) rfl T.c_CODE_END.choose_spec ⟨_, rfl⟩))))
      pss_nil)
      (pss_one (ps_ret (pv 3)))))), ?_⟩
    walk_at "rs"
    have np : c.ps.length ≤ 3 := by cases c <;> simp [Cm.ps]
    refine ⟨p, _, _, rfl, SqT.of hp, by omega, fun q hq => ?_⟩
    have s1 : Same H (upd H q (.lst c.ps)) := same_new hq
    have h1 : (upd H q (.lst c.ps)) q = some (.lst c.ps) := upd_same
    generalize upd H q (.lst c.ps) = H1 at s1 h1 ⊢
    refine ⟨_, _, rfl, _, _, rfl, rfl, ?_⟩
    dsimp only
    refine ⟨⟨_, rfl⟩, ?_⟩
    walk_at "rs"
    have eget : [(("p" : Str), a.M_MARKS_p), ("w", a.M_MARKS_w), ("d", a.M_MARKS_d), ("k", a.M_MARKS_k)].lookup c.ki = some (c.ma a) := by
      cases c <;> rfl
    have hm : ∀ H, SqT K H (c.ma a) (c.ms.map V.str) := fun H => by
      cases c
      · exact TE.s_MARKS_p H
      · exact TE.s_MARKS_w H
      · exact TE.s_MARKS_k H
      · exact TE.s_MARKS_d H
    have lm : (c.ms.map V.str).length = c.ps.length := by cases c <;> rfl
    refine ⟨_, _, _, rfl, rfl, TE.tab_MARKS.get eget, ?_⟩
    walk_at "rs"
    refine ⟨_, _, _, _, rfl, hm _, SqL.of h1, ?_⟩
    intro D hD
    refine lc_mix (te := fun σ H Q => tJs [tFmt (tVar 4), tFmt (tVar 5)] Str.empty σ H fun out H1 => Q (.str out) H1) (K := K) (a := c.ma a) (b := q) (xs := c.ms.map V.str) (ys := c.ps) lm (fun i H2 => Same H1 H2 ∧ H2 D = some (.lst ((c.bits.take i).map V.str))) ⟨same_new hD, upd_same⟩ (fun i H2 ⟨s2, _⟩ => ⟨hm _, SqL.of (s2 _ _ h1)⟩) ?_ ?_
    · rintro i x y T2 H2 hx hy ⟨s2, hd⟩ hT2
      refine ⟨T2, _, rfl, SqT.of upd_same, rfl, ?_⟩
      obtain ⟨m, rfl, lenm, hb⟩ := bit_at hx hy ok
      have s3 : Same H2 (upd H2 T2 (.tup [V.str m, y])) := same_new hT2
      have hd3 := s3 _ _ hd
      generalize upd H2 T2 (.tup [V.str m, y]) = H3 at s3 hd3 ⊢
      have lt : (c.bits.take i).length ≤ 3 := by
        have := List.length_take_le' i c.bits
        have : c.bits.length ≤ 3 := by cases c <;> simp [Cm.bits]
        omega
      refine ⟨_, _, rfl, _, _, rfl, rfl, rfl, ?_⟩
      walk_at "rs"
      refine ⟨by rw [lenm]; decide, m, rfl, ?_, ?_⟩
      · rw [PySem.Str.empty_append, lenm]
        decide
      rw [PySem.Str.empty_append]
      rcases hb with ⟨n, rfl, hn, eb⟩ | ⟨z, rfl, hz, eb⟩
      · refine ⟨_, rfl, .inr ⟨n, rfl, nu_log hn, nu n, rfl, ?_, ?_⟩⟩
        · rw [PySem.Str.length_append, lenm, sizeLine_eq]
          have := nu_len hn
          omega
        · refine ⟨_, hd3, by rw [List.length_map]; exact small1000 (by omega), same_upd (s2.trans s3) hD, ?_⟩
          rw [upd_same, List.take_add_one, eb]
          simp
      · refine ⟨_, rfl, .inl ⟨z, rfl, by rw [sizeLine_eq]; omega, z, rfl, ?_, ?_⟩⟩
        · rw [PySem.Str.length_append, lenm, sizeLine_eq]
          omega
        · refine ⟨_, hd3, by rw [List.length_map]; exact small1000 (by omega), same_upd (s2.trans s3) hD, ?_⟩
          rw [upd_same, List.take_add_one, eb]
          simp
    · rintro H2 ⟨s2, hd⟩
      have et : c.bits.take (c.ms.map V.str).length = c.bits := by cases c <;> rfl
      rw [et] at hd
      walk_at "rs"
      refine ⟨_, _, c.bits, rfl, rfl, .inl (SqL.of hd), ?_, ?_⟩
      · have := bits_len ok
        have lb : c.bits.length ≤ 3 := by cases c <;> simp [Cm.bits]
        have l0 : ("" : Str).length = 0 := rfl
        rw [l0]
        omega
      have tl3 : (Txt.join "" c.bits).length ≤ 300 := by
        rw [TL.join_eq, join_nil_len]
        exact Nat.le_trans (bits_len ok) (by decide)
      walk_at "rs"
      refine ite2 (fun c1 => ?_) (fun c1 => ?_)
      · have c1 : c.ki = "d" := by simpa using c1
        walk_at "rs"
        refine ⟨by rw [sizeLine_eq]; exact Nat.le_trans (Nat.add_le_add tl3 (Nat.le_refl 1)) (by decide), ?_⟩
        have e : Txt.join "" c.bits ++ "z" = c.txt := by
          cases c with
          | d a s =>
            refine TL.ext_tl ?_
            rw [TL.join_eq, TL.tl_append, TL.tl_join]
            simp only [Cm.bits, Cm.txt, List.map, TL.joinL, TL.tl_append]
            simp [TL.tl, cps_nil]
          | _ => cases c1
        rw [e]
        exact k H2 (s1.trans s2)
      · have c1 : c.ki ≠ "d" := by simpa using c1
        walk_at "rs"
        have e : Txt.join "" c.bits = c.txt := by
          refine TL.ext_tl ?_
          rw [TL.join_eq, TL.tl_join]
          cases c with
          | d a s => exact absurd rfl c1
          | _ =>
            simp only [Cm.bits, Cm.txt, List.map, TL.joinL, TL.tl_append]
            simp [TL.tl, cps_nil]
        rw [e]
        exact k H2 (s1.trans s2)

theorem ok_Reader_init (T : Txt K mg a) : ∃ fd, FnOk P w K mg base CX0 1 a.d_Reader_init fd ["self", "text"] (spRInit a.C_Reader) ∧ Binds K fd ["self", "text"] [] := by
  obtain ⟨fd, F, b⟩ := T.d_Reader_init.F
  refine ⟨fd, F.ok sc_Reader_init (fun vs H Q E h => ?_) (fun cdv A outer s H vs Q E hr h => ?_), b⟩
  · obtain ⟨_, _, _, rfl, _⟩ := h
    rfl
  · obtain ⟨p, dx, z, rfl, hp, k⟩ := h
    refine ⟨_, (pss_cons (ps_fld (pv 0) (pv 1) rfl)
      (pss_one (ps_fld (pv 0) pe_int rfl))), ?_⟩
    walk_at "rs"
    refine ⟨p, _, dx, [], rfl, hp, T.cl_Reader, T.a_Reader_text, (by show 0 < 1000; decide), ?_⟩
    walk_at "rs"
    refine ⟨p, _, dx, _, rfl, upd_same, T.cl_Reader, T.a_Reader_at, (by show 1 < 1000; decide), ?_⟩
    rw [upd_upd]
    walk_at "rs"
    refine k _ ⟨dx, ?_⟩ (fun b o n e => by rw [upd_ne n]; exact e)
    rw [upd_same]
    rfl
theorem ok_Reader_read_signs (T : Txt K mg a) : ∃ fd, FnOk P w K mg base CX0 1 a.d_Reader_read_signs fd ["self", "allowed"] (spSigns a.C_Reader) ∧ Binds K fd ["self", "allowed"] [] := by
  obtain ⟨fd, F, b⟩ := T.d_Reader_read_signs.F
  refine ⟨fd, F.ok sc_Reader_read_signs (fun vs H Q E h => ?_) (fun cdv A outer s H vs Q E hr h => ?_), b⟩
  · obtain ⟨_, _, _, _, rfl, _⟩ := h
    rfl
  · obtain ⟨p, z, al, i, rfl, ⟨dx, hp⟩, lz, li, k⟩ := h
    refine ⟨_, (pss_cons (ps_set (i := 2) sc_Reader_read_signs.nd rfl (Or.inl rfl) (pe_fld (pv 0) rfl))
      (pss_cons (ps_while PassesOwn.never (PW.pt (pw_and (pt_cmpR op_lt (pe_fld (pv 0) rfl) (pe_callB call_len_str (by rfl) T.n_len PySem.boot_len (pa_cons (pe_fld (pv 0) rfl) pa_nil)) (nomark _)) (pw_and1 (pt_cmpR op_in_sign (pe_ix ix_str (pe_fld (pv 0) rfl) (pe_fld (pv 0) rfl) (fun _ _ => rfl)) (pv 1) (by rfl)))))
      (pss_one (ps_fldaug (pv 0) pe_int in_add)))
      (pss_one (ps_ret (pe_slice sl_str (pe_fld (pv 0) rfl) (po_some (pv 2)) (po_some (pe_fld (pv 0) rfl))))))), ?_⟩
    walk_at "rs"
    refine ⟨p, _, dx, _, .int (i : Int), rfl, hp, T.cl_Reader, T.a_Reader_at, rfl, ?_⟩
    walk_at "rs"
    refine ⟨fun m σ H2 => ∃ j : Nat, m = z.length - j ∧ σ = [some (.ref p), some (.str al), some (.int (i : Int))] ∧ H2 p = some (.ins a.C_Reader dx [("text", .str z), ("at", .int (j : Int))]) ∧ (∀ b o, b ≠ p → H b = some o → H2 b = some o) ∧ i ≤ j ∧ j ≤ z.length ∧ i + runL (TL.tl al) ((TL.tl z).drop i) = j + runL (TL.tl al) ((TL.tl z).drop j),
      ⟨_, i, rfl, rfl, hp, fun b o _ e => e, Nat.le_refl _, li, rfl⟩, ?_⟩
    rintro m σ H2 ⟨j, rfl, rfl, h2, k2, ij, jz, ej⟩
    walk_at "rs"
    refine ⟨p, _, dx, _, .int (j : Int), rfl, h2, T.cl_Reader, T.a_Reader_at, rfl, ?_⟩
    walk_at "rs"
    refine ⟨p, _, dx, _, .str z, rfl, h2, T.cl_Reader, T.a_Reader_text, rfl, ?_⟩
    walk_at "rs"
    refine ⟨(by rw [sizeLine_eq]; omega), ?_⟩
    walk_at "rs"
    have fin : runL (TL.tl al) ((TL.tl z).drop j) = 0 → Q (V.str (cutS z (some (i : Int)) (some (j : Int)))) H2 := fun e0 => by
      have ejj : j = i + runL (TL.tl al) ((TL.tl z).drop i) := by omega
      have ec : cutS z (some (i : Int)) (some (j : Int)) = ⟨(((TL.tl z).drop i).take (runL (TL.tl al) ((TL.tl z).drop i))).toArray⟩ := by
        unfold cutS
        rw [HT.sIx_nat, HT.sIx_nat, Nat.min_eq_left li, Nat.min_eq_left jz, show j - i = runL (TL.tl al) ((TL.tl z).drop i) by omega]
      rw [ec]
      refine k H2 ⟨dx, ?_⟩ k2
      rw [← ejj]
      exact h2
    refine ite2 (fun c1 => ?_) (fun c1 => ?_)
    · have c1 : j < z.length := by
        have := of_decide_eq_true c1
        omega
      have c1' : j < (TL.tl z).length := by rw [← TL.len_tl]; exact c1
      walk_at "rs"
      refine ⟨p, _, dx, _, .str z, rfl, h2, T.cl_Reader, T.a_Reader_text, rfl, ?_⟩
      walk_at "rs"
      refine ⟨p, _, dx, _, .int (j : Int), rfl, h2, T.cl_Reader, T.a_Reader_at, rfl, ?_⟩
      walk_at "rs"
      obtain ⟨c, rest, ed⟩ : ∃ c rest, (TL.tl z).drop j = c :: rest := by
        cases e : (TL.tl z).drop j with
        | nil =>
          have := congrArg List.length e
          rw [List.length_drop, List.length_nil] at this
          omega
        | cons c rest => exact ⟨c, rest, rfl⟩
      have eg : (TL.tl z)[j]? = some c := by
        have : ((TL.tl z).drop j)[0]? = some c := by rw [ed]; rfl
        rw [List.getElem?_drop] at this
        simpa using this
      have er : (TL.tl z).drop (j + 1) = rest := by
        rw [← List.drop_drop, ed]
        rfl
      refine ⟨z, j, c, rfl, rfl, (by rw [sizeLine_eq]; omega), atI_nat eg, ?_⟩
      walk_at "rs"
      refine ite2 (fun c2 => ?_) (fun c2 => ?_)
      · have c2 : c ∈ TL.tl al := of_decide_eq_true c2
        have e1 : runL (TL.tl al) ((TL.tl z).drop j) = runL (TL.tl al) ((TL.tl z).drop (j + 1)) + 1 := by
          rw [ed, er, runL, if_pos c2]
        refine ⟨fun σ' H' => σ' = [some (.ref p), some (.str al), some (.int (i : Int))] ∧ H' = upd H2 p (.ins a.C_Reader dx [("text", .str z), ("at", .int ((j + 1 : Nat) : Int))]), fun σ' H' w => ?_, ?_⟩
        · obtain ⟨rfl, rfl⟩ := w
          exact ⟨z.length - (j + 1), by omega, j + 1, rfl, rfl, upd_same, fun b o n e => by rw [upd_ne n]; exact k2 b o n e, by omega, by omega, by omega⟩
        walk_at "rs"
        refine ⟨p, _, dx, _, .int (j : Int), rfl, h2, T.cl_Reader, T.a_Reader_at, rfl, ?_⟩
        walk_at "rs"
        exact ⟨dx, _, h2, (by show 2 < 1000; decide), rfl, rfl⟩
      · have c2 : ¬ c ∈ TL.tl al := fun h => c2 (decide_eq_true h)
        have e0 : runL (TL.tl al) ((TL.tl z).drop j) = 0 := by
          rw [ed, runL, if_neg c2]
        walk_at "rs"
        refine ⟨p, _, dx, _, .str z, rfl, h2, T.cl_Reader, T.a_Reader_text, rfl, ?_⟩
        walk_at "rs"
        refine ⟨p, _, dx, _, .int (j : Int), rfl, h2, T.cl_Reader, T.a_Reader_at, rfl, ?_⟩
        walk_at "rs"
        exact ⟨(by rw [sizeLine_eq]; omega), fin e0⟩
    · have c1 : ¬ j < z.length := fun h => c1 (decide_eq_true (by omega))
      have e0 : runL (TL.tl al) ((TL.tl z).drop j) = 0 := by
        rw [List.drop_eq_nil_of_le (by rw [← TL.len_tl]; omega)]
        rfl
      walk_at "rs"
      refine ⟨p, _, dx, _, .str z, rfl, h2, T.cl_Reader, T.a_Reader_text, rfl, ?_⟩
      walk_at "rs"
      refine ⟨p, _, dx, _, .int (j : Int), rfl, h2, T.cl_Reader, T.a_Reader_at, rfl, ?_⟩
      walk_at "rs"
      exact ⟨(by rw [sizeLine_eq]; omega), fin e0⟩

theorem starts_one {z : Str} {c i : Nat} (li : i ≤ z.length) : Txt.startswith3 z ⟨#[c]⟩ (i : Int) = decide ((TL.tl z)[i]? = some c) := by
  have ef : PySem.fromIndex z.length (i : Int) = i := by
    unfold PySem.fromIndex
    rw [if_neg (by omega)]
    omega
  unfold Txt.startswith3
  rw [ef]
  have h := PySem.StrLaws.subAt_one z c i
  rw [Bool.eq_iff_iff, Bool.and_eq_true, decide_eq_true_iff, decide_eq_true_iff]
  exact h
theorem ok_Reader_skip (TE : TxtE P w K mg a) (T : Txt K mg a) : ∃ fd, FnOk P w K mg base (L2.CX P w) 1 a.d_Reader_skip fd ["self", "mark"] (spSkip a.C_Reader a.C_BadCommand) ∧ Binds K fd ["self", "mark"] [] := by
  obtain ⟨fd, F, b⟩ := T.d_Reader_skip.F
  refine ⟨fd, F.okX sc_Reader_skip (fun vs H Q E h => ?_) (fun cdv A outer s H vs Q E hr h => ?_), b⟩
  · obtain ⟨_, _, _, _, rfl, _⟩ := h
    rfl
  · obtain ⟨p, z, c, i, rfl, ⟨dx, hp⟩, lz, li, k1, k2⟩ := h
    refine ⟨_, (pss_cons (ps_if (pt_not (pt_val (pe_bm PySem.F.plainAttrs_str PySem.F.slot_str_startswith PySem.F.type_str_startswith mt_startswith3 (pe_fld (pv 0) rfl) (pa_cons (pv 1) (pa_cons (pe_fld (pv 0) rfl) pa_nil)))))
      (pss_one (ps_raise rfl (takes_of rfl rfl rfl rfl) (pmk_own PySem.F.excBase_ValueError TE.x_BadCommand TE.g_BadCommand TE.kc_BadCommand (raises_own TE.b_BadCommand TE.t_BadCommand) rfl)))
      pss_nil)
      (pss_one (ps_fldaug (pv 0) pe_int in_add))), ?_⟩
    walk_at "rs"
    refine ⟨p, _, dx, _, .str z, rfl, hp, T.cl_Reader, T.a_Reader_text, rfl, ?_⟩
    walk_at "rs"
    refine ⟨p, _, dx, _, .int (i : Int), rfl, hp, T.cl_Reader, T.a_Reader_at, rfl, ?_⟩
    walk_at "rs"
    refine ⟨z, _, _, rfl, rfl, ?_⟩
    rw [starts_one li]
    by_cases c0 : (TL.tl z)[i]? = some c
    · rw [decide_eq_true c0]
      walk_at "rs"
      refine ⟨p, _, dx, _, .int (i : Int), rfl, hp, T.cl_Reader, T.a_Reader_at, rfl, ?_⟩
      walk_at "rs"
      refine ⟨dx, _, hp, (by show 2 < 1000; decide), ?_⟩
      exact k1 c0 _ ⟨dx, upd_same⟩ fun b o n e => by rw [upd_ne n]; exact e
    · rw [decide_eq_false c0]
      walk_at "rs"
      exact k2 c0

theorem run_le (al : List Nat) : ∀ l : List Nat, runL al l ≤ l.length
  | [] => Nat.le_refl _
  | c :: r => by
    have := run_le al r
    rw [runL]
    split
    · rw [List.length_cons]
      omega
    · exact Nat.zero_le _
theorem run_mem (al : List Nat) : ∀ (l : List Nat), ∀ n ∈ l.take (runL al l), n ∈ al
  | [], n, h => by cases h
  | c :: r, n, h => by
    rw [runL] at h
    split at h
    · rename_i hc
      rw [List.take_succ_cons] at h
      rcases List.mem_cons.mp h with rfl | h
      · exact hc
      · exact run_mem al r n h
    · rw [List.take_zero] at h
      cases h
theorem digs_len (z : Str) (i : Nat) : (digsAt z i).length = runL (TL.tl "0123456789") ((TL.tl z).drop i) := by
  unfold digsAt
  rw [List.length_take]
  exact Nat.min_eq_left (run_le _ _)
theorem digs_all (z : Str) (i : Nat) : NumText.AllDigits (digsAt z i) := fun n hn => by
  have h := run_mem _ _ n hn
  have e : TL.tl "0123456789" = [48, 49, 50, 51, 52, 53, 54, 55, 56, 57] := by decide +kernel
  rw [e] at h
  simp only [List.mem_cons, List.not_mem_nil, or_false] at h
  omega
theorem ok_Reader_read_number (TE : TxtE P w K mg a) (T : Txt K mg a) : ∃ fd, FnOk P w K mg base (L2.CX P w) 2 a.d_Reader_read_number fd ["self"] (spNumR a.C_Reader a.C_BadCommand) ∧ Binds K fd ["self"] [] := by
  obtain ⟨fd, F, b⟩ := T.d_Reader_read_number.F
  obtain ⟨fd_Reader_read_signs, G_Reader_read_signs, b_Reader_read_signs⟩ := ok_Reader_read_signs (P := P) (w := w) (base := base) T
  refine ⟨fd, F.okX sc_Reader_read_number (fun vs H Q E h => ?_) (fun cdv A outer s H vs Q E hr h => ?_), b⟩
  · obtain ⟨_, _, _, rfl, _⟩ := h
    rfl
  · obtain ⟨p, z, i, rfl, ⟨dx, hp⟩, lz, li, k1, k2⟩ := h
    refine ⟨_, (pss_cons (ps_set (i := 1) sc_Reader_read_number.nd rfl (Or.inl rfl) (pe_meth (pv 0) T.cl_Reader T.me_Reader_read_signs G_Reader_read_signs (hr.mono (by decide)) b_Reader_read_signs .nil pass0 (pa_cons (pe_glob (v := (.str "0123456789")) rfl T.c_DIGITS.choose_spec ⟨_, rfl⟩) pa_nil)))
      (pss_cons (ps_if (PW.pt (pw_or (pt_cmpR op_lt (pe_callB call_len_str (by rfl) T.n_len PySem.boot_len (pa_cons (pv 1) pa_nil)) pe_int (nomark _)) (pw_or (pt_cmpR op_gt (pe_callB call_len_str (by rfl) T.n_len PySem.boot_len (pa_cons (pv 1) pa_nil)) (pe_glob (v := (.int 6)) rfl T.c_MOST_DIGITS_commands.choose_spec ⟨_, rfl⟩) (nomark _)) (pw_or1 (PW.pt (pw_and (pt_cmpR op_eq (pe_ix ix_str (pv 1) pe_int (fun _ _ => rfl)) pe_str (nomark _)) (pw_and1 (pt_cmpR op_ne (pv 1) pe_str (nomark _)))))))))
      (pss_one (ps_raise rfl (takes_of rfl rfl rfl rfl) (pmk_own PySem.F.excBase_ValueError TE.x_BadCommand TE.g_BadCommand TE.kc_BadCommand (raises_own TE.b_BadCommand TE.t_BadCommand) rfl)))
      pss_nil)
      (pss_one (ps_ret (pe_callTy call_int_str (by rfl) T.n_int (by decide +kernel) (pa_cons (pv 1) pa_nil)))))), ?_⟩
    walk_at "rs"
    refine ⟨p, dx, _, rfl, hp, rfl, ?_⟩
    walk_at "rs"
    refine ⟨p, z, _, i, rfl, ⟨dx, hp⟩, lz, li, fun H1 h1 kp => ?_⟩
    rw [show (⟨(((TL.tl z).drop i).take (runL (TL.tl "0123456789") ((TL.tl z).drop i))).toArray⟩ : Str) = ⟨(digsAt z i).toArray⟩ from rfl]
    rw [← digs_len] at h1
    have hall := digs_all z i
    have lw : (digsAt z i).length ≤ 1000 := by
      rw [digs_len]
      have := run_le (TL.tl "0123456789") ((TL.tl z).drop i)
      rw [List.length_drop, ← TL.len_tl] at this
      omega
    have k1 := fun g => k1 g H1 h1 kp
    have k2 := fun g => k2 g H1 kp
    generalize digsAt z i = dg at hall lw k1 k2 ⊢
    have el : (⟨dg.toArray⟩ : Str).length = dg.length := by
      rw [TL.len_tl, TL.tl_mk]
    walk_at "rs"
    refine ⟨(by rw [el, sizeLine_eq]; omega), ?_⟩
    walk_at "rs"
    refine ite2 (fun c1 => ?_) (fun c1 => ?_)
    · have c1 := of_decide_eq_true c1
      refine k2 fun g => ?_
      have := g.1
      rw [el] at c1
      omega
    · have c1 : ¬ dg.length < 1 := fun h => c1 (decide_eq_true (by rw [el]; omega))
      walk_at "rs"
      refine ⟨(by rw [el, sizeLine_eq]; omega), ?_⟩
      walk_at "rs"
      refine ite2 (fun c2 => ?_) (fun c2 => ?_)
      · have c2 := of_decide_eq_true c2
        refine k2 fun g => ?_
        have := g.2.1
        rw [el] at c2
        omega
      · have c2 : ¬ 6 < dg.length := fun h => c2 (decide_eq_true (by rw [el]; omega))
        cases dg with
        | nil => exact absurd (by decide) c1
        | cons d r =>
          walk_at "rs"
          refine ⟨_, 0, d, rfl, rfl, (by rw [el, sizeLine_eq]; omega), atI_nat (j := 0) rfl, ?_⟩
          walk_at "rs"
          have z48 : (Str.ofString "0") = ⟨#[48]⟩ := rfl
          have fin : NumW (d :: r) → (∃ (x : Str) (n : Int), [V.str ⟨(d :: r).toArray⟩] = [V.str x] ∧ PySem.intText? x = some n ∧ x.length ≤ 640 ∧ Q (.int n) H1) := fun g =>
            ⟨_, _, rfl, PySem.intText_digits (x := ⟨(d :: r).toArray⟩) hall (fun e => nomatch e) (by rw [el]; have := g.2.1; omega), by rw [el]; have := g.2.1; omega, k1 g⟩
          refine ite2 (fun c3 => ?_) (fun c3 => ?_)
          · have c3 : d = 48 := by
              have := of_decide_eq_true c3
              rw [z48] at this
              simpa using this
            walk_at "rs"
            refine ite2 (fun c4 => ?_) (fun c4 => ?_)
            · refine k2 fun g => g.2.2 ⟨by rw [c3]; rfl, fun e => ?_⟩
              rw [e, z48] at c4
              simp at c4
            · have e : d :: r = [48] := by
                rw [z48] at c4
                simp at c4
                rw [c4.1, c4.2]
              walk_at "rs"
              exact fin ⟨by rw [e]; decide, by rw [e]; decide, fun g => g.2 e⟩
          · have c3 : d ≠ 48 := fun e => c3 (by rw [e, z48]; simp)
            walk_at "rs"
            exact fin ⟨by simp, by omega, fun g => c3 (by simpa using g.1)⟩

/-- the signs of a program that stand at i -/
def codeAt (z : Str) (i : Nat) : List Nat := ((TL.tl z).drop i).take (runL (TL.tl "0123456789ginasmtcehlujfyo") ((TL.tl z).drop i))
def spCodeR (C CE : Addr) : Sp := fun vs H Q E => ∃ (p : Addr) (z : Str) (i : Nat), vs = [.ref p] ∧ RdAt C H p z i ∧ z.length ≤ 1000 ∧ i ≤ z.length ∧
  ((TL.tl z)[i + (codeAt z i).length]? = some 122 → ∀ H', RdAt C H' p z (i + (codeAt z i).length + 1) → (∀ b o, b ≠ p → H b = some o → H' b = some o) → Q (.str ⟨(codeAt z i).toArray⟩) H') ∧
  ((TL.tl z)[i + (codeAt z i).length]? ≠ some 122 → ∀ H', (∀ b o, b ≠ p → H b = some o → H' b = some o) → E (.ref CE) none H')
theorem code_len (z : Str) (i : Nat) : (codeAt z i).length = runL (TL.tl "0123456789ginasmtcehlujfyo") ((TL.tl z).drop i) := by
  unfold codeAt
  rw [List.length_take]
  exact Nat.min_eq_left (run_le _ _)
theorem ok_Reader_read_code (TE : TxtE P w K mg a) (T : Txt K mg a) : ∃ fd, FnOk P w K mg base (L2.CX P w) 2 a.d_Reader_read_code fd ["self"] (spCodeR a.C_Reader a.C_BadCommand) ∧ Binds K fd ["self"] [] := by
  obtain ⟨fd, F, b⟩ := T.d_Reader_read_code.F
  obtain ⟨fd_Reader_read_signs, G_Reader_read_signs, b_Reader_read_signs⟩ := ok_Reader_read_signs (P := P) (w := w) (base := base) T
  obtain ⟨fd_Reader_skip, G_Reader_skip, b_Reader_skip⟩ := ok_Reader_skip (P := P) (w := w) (base := base) TE T
  refine ⟨fd, F.okX sc_Reader_read_code (fun vs H Q E h => ?_) (fun cdv A outer s H vs Q E hr h => ?_), b⟩
  · obtain ⟨_, _, _, rfl, _⟩ := h
    rfl
  · obtain ⟨p, z, i, rfl, ⟨dx, hp⟩, lz, li, k1, k2⟩ := h
    refine ⟨_, (pss_cons (ps_set (i := 1) sc_Reader_read_code.nd rfl (Or.inl rfl) (pe_meth (pv 0) T.cl_Reader T.me_Reader_read_signs G_Reader_read_signs (hr.mono (by decide)) b_Reader_read_signs .nil pass0 (pa_cons (pe_glob (v := (.str "0123456789ginasmtcehlujfyo")) rfl T.c_SIGNS.choose_spec ⟨_, rfl⟩) pa_nil)))
      (pss_cons (ps_expr (pe_meth (pv 0) T.cl_Reader T.me_Reader_skip G_Reader_skip (hr.mono (by decide)) b_Reader_skip .nil (L2.passes_call (W := fun c d _ H => E c d H) (E := E) (L2.takes_of rfl rfl rfl rfl) (fun _ _ _ _ h => h)) (pa_cons (pe_glob (v := (.str "z")) rfl T.c_CODE_END.choose_spec ⟨_, rfl⟩) pa_nil)))
      (pss_one (ps_ret (pv 1))))), ?_⟩
    walk_at "rs"
    refine ⟨p, dx, _, rfl, hp, rfl, ?_⟩
    walk_at "rs"
    refine ⟨p, z, _, i, rfl, ⟨dx, hp⟩, lz, li, fun H1 h1 kp => ?_⟩
    rw [show (⟨(((TL.tl z).drop i).take (runL (TL.tl "0123456789ginasmtcehlujfyo") ((TL.tl z).drop i))).toArray⟩ : Str) = ⟨(codeAt z i).toArray⟩ from rfl]
    rw [← code_len] at h1
    have lc : i + (codeAt z i).length ≤ z.length := by
      rw [code_len]
      have := run_le (TL.tl "0123456789ginasmtcehlujfyo") ((TL.tl z).drop i)
      rw [List.length_drop, ← TL.len_tl] at this
      omega
    obtain ⟨dx1, hp1⟩ := id h1
    walk_at "rs"
    refine ⟨p, dx1, _, rfl, hp1, rfl, ?_⟩
    walk_at "rs"
    refine ⟨p, z, 122, _, rfl, h1, lz, lc, fun e H2 h2 kp2 => ?_, fun e => k2 e H1 kp⟩
    walk_at "rs"
    exact k1 e H2 h2 fun b o n q => kp2 b o n (kp b o n q)

/-! ### the reader's model -/
theorem dig10 : TL.tl "0123456789" = [48, 49, 50, 51, 52, 53, 54, 55, 56, 57] := by decide +kernel
theorem run_app {al : List Nat} : ∀ {v : List Nat} {r : List Nat}, (∀ n ∈ v, n ∈ al) → runL al (v ++ r) = v.length + runL al r
  | [], r, _ => by simp
  | c :: v, r, h => by
    rw [List.cons_append, runL, if_pos (h c List.mem_cons_self), run_app fun n hn => h n (List.mem_cons_of_mem _ hn), List.length_cons]
    omega
theorem run_stop {al : List Nat} : ∀ {r : List Nat}, (∀ c, r.head? = some c → c ∉ al) → runL al r = 0
  | [], _ => rfl
  | c :: r, h => by rw [runL, if_neg (h c rfl)]
theorem run_cut {al v r : List Nat} (h : ∀ n ∈ v, n ∈ al) (hr : ∀ c, r.head? = some c → c ∉ al) : runL al (v ++ r) = v.length := by
  rw [run_app h, run_stop hr]
  rfl
instance decNumW (v : List Nat) : Decidable (NumW v) := by unfold NumW; infer_instance
def numP (l : List Nat) : Option (V × List Nat) :=
  if NumW (l.take (runL (TL.tl "0123456789") l)) then some (.int (NumText.digitsVal (l.take (runL (TL.tl "0123456789") l)) : Nat), l.drop (runL (TL.tl "0123456789") l)) else none
def codeP (l : List Nat) : Option (V × List Nat) :=
  if l[runL (TL.tl "0123456789ginasmtcehlujfyo") l]? = some 122 then some (.str ⟨(l.take (runL (TL.tl "0123456789ginasmtcehlujfyo") l)).toArray⟩, l.drop (runL (TL.tl "0123456789ginasmtcehlujfyo") l + 1)) else none
def partP (m : Nat) : List Nat → Option (V × List Nat)
  | [] => none
  | c :: r => if c = m then (if m = 122 then codeP r else numP r) else none
def partsP : List Nat → List Nat → Option (List V × List Nat)
  | [], l => some ([], l)
  | m :: ms, l => match partP m l with
    | none => none
    | some (v, r) => match partsP ms r with
      | none => none
      | some (vs, q) => some (v :: vs, q)
theorem numL_head2 : ∀ (n : Nat), 0 < n → (TL.numL n).head? ≠ some 48
  | n, h => by
    rcases Nat.lt_or_ge n 10 with z | z
    · rw [TL.numL_lt z]
      simp
      omega
    · rw [TL.numL_step z]
      have ih := numL_head2 (n / 10) (by omega)
      have ne := TL.numL_ne (n / 10)
      cases e : TL.numL (n / 10) with
      | nil => exact absurd e ne
      | cons c l =>
        rw [e] at ih
        exact ih
theorem numL_long : ∀ (k n : Nat), 10 ^ k ≤ n → k < (TL.numL n).length
  | 0, n, _ => List.length_pos_iff.mpr (TL.numL_ne n)
  | k + 1, n, h => by
    have p : 0 < 10 ^ k := Nat.pow_pos (by decide)
    rw [Nat.pow_succ] at h
    have := numL_long k (n / 10) (by omega)
    rw [TL.numL_step (by omega), List.length_append, List.length_singleton]
    omega
theorem digs_toNat : ∀ {v : List Nat}, NumText.AllDigits v → (v.map Char.ofNat).map Char.toNat = v
  | [], _ => rfl
  | c :: v, h => by
    have hc := h c List.mem_cons_self
    have ih := digs_toNat (v := v) fun n hn => h n (List.mem_cons_of_mem _ hn)
    rw [List.map_cons, List.map_cons, ih]
    congr 1
    have : ∀ i : Fin 58, (Char.ofNat i.val).toNat = i.val := by decide +kernel
    exact this ⟨c, by omega⟩
theorem num_back {v : List Nat} (h : NumW v) (d : NumText.AllDigits v) : NOk (NumText.digitsVal v : Nat) ∧ TL.tl (nu (NumText.digitsVal v : Nat)) = v := by
  obtain ⟨h1, h2, h3⟩ := h
  have e : TL.numL (NumText.digitsVal v) = v := by
    unfold TL.numL
    rw [NumText.toDigits_digitsVal (v.length - 1) v (by omega) d, digs_toNat d]
    rcases Nat.lt_or_ge 1 v.length with z | z
    · right
      cases v with
      | nil => simp at h1
      | cons c r =>
        refine ⟨c, r, rfl, ?_⟩
        have hc := d c List.mem_cons_self
        rcases Nat.lt_or_ge c 49 with y | y
        · exfalso
          refine h3 ⟨?_, fun q => ?_⟩
          · have : c = 48 := by omega
            rw [this]
            rfl
          · rw [q] at z
            simp at z
        · exact y
    · left
      omega
  refine ⟨⟨Int.natCast_nonneg _, ?_⟩, ?_⟩
  · rcases Nat.lt_or_ge (NumText.digitsVal v) (10 ^ 6) with z | z
    · have : (10 : Nat) ^ 6 = 1000000 := by decide
      omega
    · have := numL_long 6 _ z
      rw [e] at this
      omega
  · show TL.tl (Str.ofString (toString ((NumText.digitsVal v : Nat) : Int))) = v
    rw [TL.tl_num, e]
theorem take_run_digits (l : List Nat) : NumText.AllDigits (l.take (runL (TL.tl "0123456789") l)) := fun n hn => by
  have h := run_mem _ _ n hn
  rw [dig10] at h
  simp only [List.mem_cons, List.not_mem_nil, or_false] at h
  omega
theorem numP_ok {l : List Nat} {v : V} {r : List Nat} (h : numP l = some (v, r)) : ∃ i, v = .int i ∧ NOk i ∧ TL.tl (nu i) ++ r = l := by
  unfold numP at h
  split at h
  · rename_i c
    cases h
    obtain ⟨h1, h2⟩ := num_back c (take_run_digits l)
    refine ⟨_, rfl, h1, ?_⟩
    rw [h2]
    exact List.take_append_drop _ _
  · cases h
theorem codeP_ok {l : List Nat} {v : V} {r : List Nat} (h : codeP l = some (v, r)) : ∃ s : Str, v = .str s ∧ Sgn s ∧ TL.tl s ++ 122 :: r = l := by
  unfold codeP at h
  split at h
  · rename_i c
    cases h
    refine ⟨_, rfl, fun n hn => run_mem _ _ n hn, ?_⟩
    rw [TL.tl_mk]
    have hlt := (List.getElem?_eq_some_iff.mp c).1
    have e : l.drop (runL (TL.tl "0123456789ginasmtcehlujfyo") l) = 122 :: l.drop (runL (TL.tl "0123456789ginasmtcehlujfyo") l + 1) := by
      rw [List.drop_eq_getElem_cons hlt, (List.getElem?_eq_some_iff.mp c).2]
    rw [← e]
    exact List.take_append_drop _ _
  · cases h
theorem partP_ok {m : Nat} {l : List Nat} {v : V} {r : List Nat} (h : partP m l = some (v, r)) : (m ≠ 122 ∧ ∃ i, v = .int i ∧ NOk i ∧ m :: (TL.tl (nu i) ++ r) = l) ∨ (m = 122 ∧ ∃ s : Str, v = .str s ∧ Sgn s ∧ 122 :: (TL.tl s ++ 122 :: r) = l) := by
  cases l with
  | nil => cases h
  | cons c q =>
    rw [partP] at h
    split at h
    · rename_i e
      subst e
      split at h
      · rename_i e
        obtain ⟨s, h1, h2, h3⟩ := codeP_ok h
        exact .inr ⟨e, s, h1, h2, by rw [h3, e]⟩
      · rename_i e
        obtain ⟨i, h1, h2, h3⟩ := numP_ok h
        exact .inl ⟨e, i, h1, h2, by rw [h3]⟩
    · cases h
theorem partP_int {m : Nat} {l : List Nat} {v : V} {r : List Nat} (hm : m ≠ 122) (h : partP m l = some (v, r)) : ∃ i, v = .int i ∧ NOk i ∧ m :: (TL.tl (nu i) ++ r) = l := by
  rcases partP_ok h with ⟨_, h⟩ | ⟨h, _⟩
  · exact h
  · exact absurd h hm
theorem partP_code {l : List Nat} {v : V} {r : List Nat} (h : partP 122 l = some (v, r)) : ∃ s : Str, v = .str s ∧ Sgn s ∧ 122 :: (TL.tl s ++ 122 :: r) = l := by
  rcases partP_ok h with ⟨h, _⟩ | ⟨_, h⟩
  · exact absurd rfl h
  · exact h
theorem partsP_cons {m : Nat} {ms l : List Nat} {vs : List V} {q : List Nat} (h : partsP (m :: ms) l = some (vs, q)) : ∃ v r us, partP m l = some (v, r) ∧ partsP ms r = some (us, q) ∧ vs = v :: us := by
  rw [partsP] at h
  split at h
  · cases h
  · rename_i v r e
    split at h
    · cases h
    · rename_i us q' e2
      cases h
      exact ⟨v, r, us, e, e2, rfl⟩
theorem partsP_nil {l : List Nat} {vs : List V} {q : List Nat} (h : partsP [] l = some (vs, q)) : vs = [] ∧ q = l := by
  cases h
  exact ⟨rfl, rfl⟩
def kdOfC (c : Nat) : Option (List Nat) := if c = 112 then some [112, 113, 114] else if c = 119 then some [119, 120] else if c = 100 then some [100, 122] else if c = 107 then some [107, 98, 118] else none
def mkC (c : Nat) : List V → Cm
  | [.int a, .int b, .int d] => if c = 112 then .p a b d else .k a b d
  | [.int a, .int b] => .w a b
  | [.int a, .str s] => .d a s
  | _ => default
def cmdP : List Nat → Option (Cm × List Nat)
  | [] => none
  | c :: r => match kdOfC c with
    | none => none
    | some ms => match partsP ms (c :: r) with
      | none => none
      | some (vs, q) => some (mkC c vs, q)
theorem tl1 {c : Nat} : TL.tl ⟨#[c]⟩ = [c] := rfl
theorem mk_ok {c : Nat} {ms r : List Nat} {vs : List V} {q : List Nat} (hk : kdOfC c = some ms) (h : partsP ms (c :: r) = some (vs, q)) :
    (mkC c vs).ki = ⟨#[c]⟩ ∧ (mkC c vs).ps = vs ∧ TL.tl (mkC c vs).txt ++ q = c :: r ∧ (mkC c vs).right := by
  unfold kdOfC at hk
  split at hk
  · rename_i e
    cases hk
    subst e
    obtain ⟨v1, r1, u1, a1, b1, rfl⟩ := partsP_cons h
    obtain ⟨v2, r2, u2, a2, b2, rfl⟩ := partsP_cons b1
    obtain ⟨v3, r3, u3, a3, b3, rfl⟩ := partsP_cons b2
    obtain ⟨rfl, rfl⟩ := partsP_nil b3
    obtain ⟨i1, rfl, o1, e1⟩ := partP_int (by decide) a1
    obtain ⟨i2, rfl, o2, e2⟩ := partP_int (by decide) a2
    obtain ⟨i3, rfl, o3, e3⟩ := partP_int (by decide) a3
    refine ⟨rfl, rfl, ?_, o1, o2, o3⟩
    rw [← e1, ← e2, ← e3]
    show TL.tl ("p" ++ nu i1 ++ "q" ++ nu i2 ++ "r" ++ nu i3) ++ q = _
    simp only [TL.tl_append, List.append_assoc]
    rfl
  · split at hk
    · rename_i e
      cases hk
      subst e
      obtain ⟨v1, r1, u1, a1, b1, rfl⟩ := partsP_cons h
      obtain ⟨v2, r2, u2, a2, b2, rfl⟩ := partsP_cons b1
      obtain ⟨rfl, rfl⟩ := partsP_nil b2
      obtain ⟨i1, rfl, o1, e1⟩ := partP_int (by decide) a1
      obtain ⟨i2, rfl, o2, e2⟩ := partP_int (by decide) a2
      refine ⟨rfl, rfl, ?_, o1, o2⟩
      rw [← e1, ← e2]
      show TL.tl ("w" ++ nu i1 ++ "x" ++ nu i2) ++ q = _
      simp only [TL.tl_append, List.append_assoc]
      rfl
    · split at hk
      · rename_i e
        cases hk
        subst e
        obtain ⟨v1, r1, u1, a1, b1, rfl⟩ := partsP_cons h
        obtain ⟨v2, r2, u2, a2, b2, rfl⟩ := partsP_cons b1
        obtain ⟨rfl, rfl⟩ := partsP_nil b2
        obtain ⟨i1, rfl, o1, e1⟩ := partP_int (by decide) a1
        obtain ⟨i2, rfl, o2, e2⟩ := partP_code a2
        refine ⟨rfl, rfl, ?_, o1, o2⟩
        rw [← e1, ← e2]
        show TL.tl ("d" ++ nu i1 ++ "z" ++ i2 ++ "z") ++ q = _
        simp only [TL.tl_append, List.append_assoc]
        rfl
      · split at hk
        · rename_i e
          cases hk
          subst e
          obtain ⟨v1, r1, u1, a1, b1, rfl⟩ := partsP_cons h
          obtain ⟨v2, r2, u2, a2, b2, rfl⟩ := partsP_cons b1
          obtain ⟨v3, r3, u3, a3, b3, rfl⟩ := partsP_cons b2
          obtain ⟨rfl, rfl⟩ := partsP_nil b3
          obtain ⟨i1, rfl, o1, e1⟩ := partP_int (by decide) a1
          obtain ⟨i2, rfl, o2, e2⟩ := partP_int (by decide) a2
          obtain ⟨i3, rfl, o3, e3⟩ := partP_int (by decide) a3
          refine ⟨rfl, rfl, ?_, o1, o2, o3⟩
          rw [← e1, ← e2, ← e3]
          show TL.tl ("k" ++ nu i1 ++ "b" ++ nu i2 ++ "v" ++ nu i3) ++ q = _
          simp only [TL.tl_append, List.append_assoc]
          rfl
        · cases hk
theorem cmdP_ok {l : List Nat} {x : Cm} {q : List Nat} (h : cmdP l = some (x, q)) : TL.tl x.txt ++ q = l ∧ x.right := by
  cases l with
  | nil => cases h
  | cons c r =>
    rw [cmdP] at h
    split at h
    · cases h
    · rename_i ms hk
      split at h
      · cases h
      · rename_i vs q' hp
        cases h
        exact (mk_ok hk hp).2.2
def NoDig (r : List Nat) : Prop := ∀ c, r.head? = some c → c ∉ TL.tl "0123456789"
theorem num_w {i : Int} (h : NOk i) : NumW (TL.tl (nu i)) := by
  obtain ⟨h0, h1⟩ := id h
  rw [nu_tl h]
  refine ⟨List.length_pos_iff.mpr (TL.numL_ne _), TL.numL_len (by decide) (by omega), fun ⟨g1, g2⟩ => ?_⟩
  rcases Nat.eq_zero_or_pos i.toNat with z | z
  · rw [z] at g2
    exact g2 (by decide +kernel)
  · exact numL_head2 _ z g1
theorem numP_nu {i : Int} (h : NOk i) {r : List Nat} (hr : NoDig r) : numP (TL.tl (nu i) ++ r) = some (.int i, r) := by
  have hd : ∀ n ∈ TL.tl (nu i), n ∈ TL.tl "0123456789" := fun n hn => by
    rw [nu_tl h] at hn
    have := TL.numL_digits _ n hn
    rw [dig10]
    simp only [List.mem_cons, List.not_mem_nil, or_false]
    omega
  have er : runL (TL.tl "0123456789") (TL.tl (nu i) ++ r) = (TL.tl (nu i)).length := run_cut hd hr
  unfold numP
  rw [er, List.take_left', List.drop_left', if_pos (num_w h)]
  · rw [nu_tl h, TL.numL_val, Int.toNat_of_nonneg h.1]
  · rfl
  · rfl
theorem codeP_s {s : Str} (h : Sgn s) {r : List Nat} : codeP (TL.tl s ++ 122 :: r) = some (.str s, r) := by
  have er : runL (TL.tl "0123456789ginasmtcehlujfyo") (TL.tl s ++ 122 :: r) = (TL.tl s).length := run_cut h fun c hc => by
    cases hc
    decide +kernel
  unfold codeP
  have e1 : (TL.tl s ++ 122 :: r).drop ((TL.tl s).length + 1) = r := by
    rw [← List.drop_drop, List.drop_left' rfl]
    rfl
  have e2 : (TL.tl s ++ 122 :: r)[(TL.tl s).length]? = some 122 := by
    rw [List.getElem?_append_right (Nat.le_refl _), Nat.sub_self]
    rfl
  rw [er, if_pos e2, List.take_left' rfl, e1]
theorem partP_nu {m : Nat} (hm : m ≠ 122) {i : Int} (h : NOk i) {r : List Nat} (hr : NoDig r) : partP m (m :: (TL.tl (nu i) ++ r)) = some (.int i, r) := by
  rw [partP, if_pos rfl, if_neg hm]
  exact numP_nu h hr
theorem partP_s {s : Str} (h : Sgn s) {r : List Nat} : partP 122 (122 :: (TL.tl s ++ 122 :: r)) = some (.str s, r) := by
  rw [partP, if_pos rfl, if_pos rfl]
  exact codeP_s h
theorem noDig_cons {c : Nat} {r : List Nat} (h : c ∉ TL.tl "0123456789") : NoDig (c :: r) := fun d hd => by
  cases hd
  exact h
theorem partsP_step {m : Nat} {ms l : List Nat} {v : V} {r : List Nat} {us : List V} {q : List Nat} (h1 : partP m l = some (v, r)) (h2 : partsP ms r = some (us, q)) : partsP (m :: ms) l = some (v :: us, q) := by
  rw [partsP, h1]
  dsimp only
  rw [h2]
theorem partsP_end (r : List Nat) : partsP [] r = some ([], r) := rfl
theorem cmdP_txt {x : Cm} (h : x.right) {r : List Nat} (hr : NoDig r) : cmdP (TL.tl x.txt ++ r) = some (x, r) := by
  cases x with
  | p a b c =>
    obtain ⟨o1, o2, o3⟩ := h
    have e : TL.tl (Cm.p a b c).txt ++ r = 112 :: (TL.tl (nu a) ++ 113 :: (TL.tl (nu b) ++ 114 :: (TL.tl (nu c) ++ r))) := by
      show TL.tl ("p" ++ nu a ++ "q" ++ nu b ++ "r" ++ nu c) ++ r = _
      simp only [TL.tl_append, List.append_assoc]
      rfl
    have hp := partsP_step (partP_nu (m := 112) (by decide) o1 (noDig_cons (by decide +kernel))) (partsP_step (partP_nu (m := 113) (by decide) o2 (noDig_cons (by decide +kernel))) (partsP_step (partP_nu (m := 114) (by decide) o3 hr) (partsP_end r)))
    have hk : kdOfC 112 = some [112, 113, 114] := rfl
    rw [e, cmdP, hk]
    dsimp only
    rw [hp]
    rfl
  | w a b =>
    obtain ⟨o1, o2⟩ := h
    have e : TL.tl (Cm.w a b).txt ++ r = 119 :: (TL.tl (nu a) ++ 120 :: (TL.tl (nu b) ++ r)) := by
      show TL.tl ("w" ++ nu a ++ "x" ++ nu b) ++ r = _
      simp only [TL.tl_append, List.append_assoc]
      rfl
    have hp := partsP_step (partP_nu (m := 119) (by decide) o1 (noDig_cons (by decide +kernel))) (partsP_step (partP_nu (m := 120) (by decide) o2 hr) (partsP_end r))
    have hk : kdOfC 119 = some [119, 120] := rfl
    rw [e, cmdP, hk]
    dsimp only
    rw [hp]
    rfl
  | k a b c =>
    obtain ⟨o1, o2, o3⟩ := h
    have e : TL.tl (Cm.k a b c).txt ++ r = 107 :: (TL.tl (nu a) ++ 98 :: (TL.tl (nu b) ++ 118 :: (TL.tl (nu c) ++ r))) := by
      show TL.tl ("k" ++ nu a ++ "b" ++ nu b ++ "v" ++ nu c) ++ r = _
      simp only [TL.tl_append, List.append_assoc]
      rfl
    have hp := partsP_step (partP_nu (m := 107) (by decide) o1 (noDig_cons (by decide +kernel))) (partsP_step (partP_nu (m := 98) (by decide) o2 (noDig_cons (by decide +kernel))) (partsP_step (partP_nu (m := 118) (by decide) o3 hr) (partsP_end r)))
    have hk : kdOfC 107 = some [107, 98, 118] := rfl
    rw [e, cmdP, hk]
    dsimp only
    rw [hp]
    rfl
  | d a s =>
    obtain ⟨o1, o2⟩ := h
    have e : TL.tl (Cm.d a s).txt ++ r = 100 :: (TL.tl (nu a) ++ 122 :: (TL.tl s ++ 122 :: r)) := by
      show TL.tl ("d" ++ nu a ++ "z" ++ s ++ "z") ++ r = _
      simp only [TL.tl_append, List.append_assoc]
      rfl
    have hp := partsP_step (partP_nu (m := 100) (by decide) o1 (noDig_cons (by decide +kernel))) (partsP_step (partP_s o2 (r := r)) (partsP_end r))
    have hk : kdOfC 100 = some [100, 122] := rfl
    rw [e, cmdP, hk]
    dsimp only
    rw [hp]
    rfl
def cmdsP : Nat → List Nat → Option (List Cm)
  | _, [] => some []
  | 0, _ :: _ => none
  | n + 1, c :: r => match cmdP (c :: r) with
    | none => none
    | some (x, q) => match cmdsP n q with
      | none => none
      | some xs => some (x :: xs)
def cmdsOf (z : Str) : List Cm := (cmdsP z.length (TL.tl z)).getD []
def catL (xs : List Cm) : List Nat := (xs.map fun c => TL.tl c.txt).flatten
theorem tl_cat : ∀ xs : List Cm, TL.tl (cat xs) = catL xs := fun xs => by
  have h : ∀ (xs : List Cm) (z : Str), TL.tl (xs.foldl (fun z c => z ++ c.txt) z) = TL.tl z ++ catL xs := fun xs => by
    induction xs with
    | nil => intro z; simp [catL]
    | cons c xs ih =>
      intro z
      rw [List.foldl_cons, ih, TL.tl_append]
      simp [catL, List.append_assoc]
  have := h xs Str.empty
  have e : TL.tl Str.empty = [] := rfl
  rw [e, List.nil_append] at this
  exact this
theorem cmdsP_ok : ∀ (n : Nat) (l : List Nat) (xs : List Cm), cmdsP n l = some xs → catL xs = l ∧ ∀ x ∈ xs, x.right
  | n, [], xs, h => by
    have : xs = [] := by cases n <;> (cases h; rfl)
    subst this
    exact ⟨rfl, fun x hx => absurd hx List.not_mem_nil⟩
  | 0, c :: r, xs, h => by cases h
  | n + 1, c :: r, xs, h => by
    rw [cmdsP] at h
    split at h
    · cases h
    · rename_i x q hx
      split at h
      · cases h
      · rename_i ys hy
        cases h
        obtain ⟨e1, g1⟩ := cmdP_ok hx
        obtain ⟨e2, g2⟩ := cmdsP_ok n q ys hy
        refine ⟨?_, fun y hy => ?_⟩
        · rw [← e1, ← e2]
          simp [catL]
        · rcases List.mem_cons.mp hy with rfl | hy
          · exact g1
          · exact g2 y hy
theorem txt_first (x : Cm) : ∃ c r, TL.tl x.txt = c :: r ∧ c ∉ TL.tl "0123456789" := by
  cases x with
  | p a b c => exact ⟨112, _, by show TL.tl ("p" ++ nu a ++ "q" ++ nu b ++ "r" ++ nu c) = _; simp only [TL.tl_append, List.append_assoc]; rfl, by decide +kernel⟩
  | w a b => exact ⟨119, _, by show TL.tl ("w" ++ nu a ++ "x" ++ nu b) = _; simp only [TL.tl_append, List.append_assoc]; rfl, by decide +kernel⟩
  | k a b c => exact ⟨107, _, by show TL.tl ("k" ++ nu a ++ "b" ++ nu b ++ "v" ++ nu c) = _; simp only [TL.tl_append, List.append_assoc]; rfl, by decide +kernel⟩
  | d a s => exact ⟨100, _, by show TL.tl ("d" ++ nu a ++ "z" ++ s ++ "z") = _; simp only [TL.tl_append, List.append_assoc]; rfl, by decide +kernel⟩
theorem catL_cons (x : Cm) (xs : List Cm) : catL (x :: xs) = TL.tl x.txt ++ catL xs := by simp [catL]
theorem catL_noDig : ∀ xs : List Cm, NoDig (catL xs)
  | [] => fun c h => by cases h
  | x :: xs => by
    obtain ⟨c, r, e, h⟩ := txt_first x
    rw [catL_cons, e]
    exact noDig_cons h
theorem cmdsP_cat : ∀ (xs : List Cm) (n : Nat), (∀ x ∈ xs, x.right) → xs.length ≤ n → cmdsP n (catL xs) = some xs
  | [], n, _, _ => by cases n <;> rfl
  | x :: xs, 0, _, h => by simp at h
  | x :: xs, n + 1, g, h => by
    have ih := cmdsP_cat xs n (fun y hy => g y (List.mem_cons_of_mem _ hy)) (by simpa using h)
    have hx := cmdP_txt (g x List.mem_cons_self) (catL_noDig xs)
    obtain ⟨c, r, e, _⟩ := txt_first x
    rw [catL_cons]
    rw [e, List.cons_append] at hx ⊢
    rw [cmdsP, hx]
    dsimp only
    rw [ih]
theorem cat_long : ∀ xs : List Cm, xs.length ≤ (catL xs).length
  | [] => Nat.le_refl _
  | x :: xs => by
    have := cat_long xs
    obtain ⟨c, r, e, _⟩ := txt_first x
    rw [catL_cons, List.length_append, e, List.length_cons, List.length_cons]
    omega
theorem cmdsOf_cat {xs : List Cm} (g : ∀ x ∈ xs, x.right) : cmdsOf (cat xs) = xs := by
  unfold cmdsOf
  rw [TL.len_tl, tl_cat, cmdsP_cat xs _ g (cat_long xs)]
  rfl
theorem cat_one (x : Cm) : cat [x] = x.txt := by
  refine TL.ext_tl ?_
  rw [tl_cat]
  simp [catL]
theorem cmdsOf_one {x : Cm} (g : x.right) : cmdsOf x.txt = [x] := by
  have := cmdsOf_cat (xs := [x]) fun y hy => by rw [List.mem_singleton.mp hy]; exact g
  rwa [cat_one] at this
theorem cmdsOf_right {z : Str} : ∀ x ∈ cmdsOf z, x.right := by
  unfold cmdsOf
  cases e : cmdsP z.length (TL.tl z) with
  | none => intro x hx; cases hx
  | some xs => exact (cmdsP_ok _ _ _ e).2
theorem cmdsOf_text {z : Str} : cmdsOf z = [] ∨ cat (cmdsOf z) = z := by
  unfold cmdsOf
  cases e : cmdsP z.length (TL.tl z) with
  | none => exact .inl rfl
  | some xs =>
    refine .inr (TL.ext_tl ?_)
    rw [tl_cat]
    exact (cmdsP_ok _ _ _ e).1
theorem cmdsOf_iff {x : Cm} : cmdsOf x.txt = [x] ↔ x.right := ⟨fun h => cmdsOf_right x (by rw [h]; exact List.mem_singleton.mpr rfl), cmdsOf_one⟩
theorem cmdsOf_long (z : Str) : (cmdsOf z).length ≤ z.length := by
  rcases cmdsOf_text (z := z) with h | h
  · rw [h]
    exact Nat.zero_le _
  · have := cat_long (cmdsOf z)
    rw [← tl_cat, h, ← TL.len_tl] at this
    exact this

def spReadC (C CE : Addr) : Sp := fun vs H Q E => ∃ (p : Addr) (z : Str) (i : Nat), vs = [.ref p] ∧ RdAt C H p z i ∧ z.length ≤ 1000 ∧ i < z.length ∧
  (∀ c q, cmdP ((TL.tl z).drop i) = some (c, q) → q = (TL.tl z).drop (i + c.txt.length) → i + c.txt.length ≤ z.length → ∀ t H', RdAt C H' p z (i + c.txt.length) → (∀ b o, b ≠ p → H b = some o → H' b = some o) → H t = none → CmAt H' t c → Q (.ref t) H') ∧
  (cmdP ((TL.tl z).drop i) = none → ∀ H', (∀ b o, b ≠ p → H b = some o → H' b = some o) → E (.ref CE) none H')
/-- what stands before each part, by its sign -/
def mksV (ms : List Nat) : List V := ms.map fun m => V.str ⟨#[m]⟩
theorem sign_ne {c d : Nat} (h : c ≠ d) : ((⟨#[c]⟩ : Str) == ⟨#[d]⟩) = false := beq_eq_false_iff_ne.mpr fun e => h (by simpa using e)
theorem marks_get (TE : TxtE P w K mg a) (c : Nat) : (kdOfC c = none ∧ [(("p" : Str), a.M_MARKS_p), ("w", a.M_MARKS_w), ("d", a.M_MARKS_d), ("k", a.M_MARKS_k)].lookup ⟨#[c]⟩ = none) ∨
    ∃ ms M, kdOfC c = some ms ∧ [(("p" : Str), a.M_MARKS_p), ("w", a.M_MARKS_w), ("d", a.M_MARKS_d), ("k", a.M_MARKS_k)].lookup ⟨#[c]⟩ = some M ∧ (∀ H, SqT K H M (mksV ms)) ∧ ms.length ≤ 3 := by
  by_cases h1 : c = 112
  · subst h1
    exact .inr ⟨_, _, rfl, rfl, fun H => TE.s_MARKS_p H, by decide⟩
  by_cases h2 : c = 119
  · subst h2
    exact .inr ⟨_, _, rfl, rfl, fun H => TE.s_MARKS_w H, by decide⟩
  by_cases h3 : c = 100
  · subst h3
    exact .inr ⟨_, _, rfl, rfl, fun H => TE.s_MARKS_d H, by decide⟩
  by_cases h4 : c = 107
  · subst h4
    exact .inr ⟨_, _, rfl, rfl, fun H => TE.s_MARKS_k H, by decide⟩
  refine .inl ⟨by rw [kdOfC, if_neg h1, if_neg h2, if_neg h3, if_neg h4], ?_⟩
  show [((⟨#[112]⟩ : Str), a.M_MARKS_p), (⟨#[119]⟩, a.M_MARKS_w), (⟨#[100]⟩, a.M_MARKS_d), (⟨#[107]⟩, a.M_MARKS_k)].lookup ⟨#[c]⟩ = none
  simp only [List.lookup, sign_ne h1, sign_ne h2, sign_ne h3, sign_ne h4]
/-- what is to come, behind the parts read so far -/
def contP (us : List V) (o : Option (List V × List Nat)) : Option (List V × List Nat) := o.map fun x => (us ++ x.1, x.2)
theorem contP_step {us : List V} {m : Nat} {ms l : List Nat} {v : V} {r : List Nat} (h : partP m l = some (v, r)) : contP us (partsP (m :: ms) l) = contP (us ++ [v]) (partsP ms r) := by
  rw [partsP, h]
  dsimp only
  cases partsP ms r with
  | none => rfl
  | some x => simp [contP]
theorem ok_Reader_read_command (TE : TxtE P w K mg a) (T : Txt K mg a) : ∃ fd, FnOk P w K mg base (L2.CX P w) 3 a.d_Reader_read_command fd ["self"] (spReadC a.C_Reader a.C_BadCommand) ∧ Binds K fd ["self"] [] := by
  obtain ⟨fd, F, b⟩ := T.d_Reader_read_command.F
  obtain ⟨fd_Reader_skip, G_Reader_skip, b_Reader_skip⟩ := ok_Reader_skip (P := P) (w := w) (base := base) TE T
  obtain ⟨fd_Reader_read_code, G_Reader_read_code, b_Reader_read_code⟩ := ok_Reader_read_code (P := P) (w := w) (base := base) TE T
  obtain ⟨fd_Reader_read_number, G_Reader_read_number, b_Reader_read_number⟩ := ok_Reader_read_number (P := P) (w := w) (base := base) TE T
  refine ⟨fd, F.okX sc_Reader_read_command (fun vs H Q E h => ?_) (fun cdv A outer s H vs Q E hr h => ?_), b⟩
  · obtain ⟨_, _, _, rfl, _⟩ := h
    rfl
  · obtain ⟨p, z, i, rfl, ⟨dx, hp⟩, lz, li, k1, k2⟩ := h
    refine ⟨_, (pss_cons (ps_set (i := 1) sc_Reader_read_command.nd rfl (Or.inl rfl) (pe_ix ix_str (pe_fld (pv 0) rfl) (pe_fld (pv 0) rfl) (fun _ _ => rfl)))
      (pss_cons (ps_if (pt_cmpR op_notInKd (pv 1) (pe_glob (v := .ref a.P_MARKS) rfl TE.g_MARKS rfl) (by rfl))
      (pss_one (ps_raise rfl (takes_of rfl rfl rfl rfl) (pmk_own PySem.F.excBase_ValueError TE.x_BadCommand TE.g_BadCommand TE.kc_BadCommand (raises_own TE.b_BadCommand TE.t_BadCommand) rfl)))
      pss_nil)
      (pss_cons (ps_set (i := 2) sc_Reader_read_command.nd rfl (Or.inl rfl) (pe_lst pa_nil))
      (pss_cons (ps_for (passes_of rfl) rfl (pi_tup (pe_ix ix_kdict (pe_glob (v := .ref a.P_MARKS) rfl TE.g_MARKS rfl) (pv 1) (fun _ _ => rfl))) (pg_name (i := 3) sc_Reader_read_command.nd rfl (Or.inl rfl))
      (pss_cons (ps_expr (pe_meth (pv 0) T.cl_Reader T.me_Reader_skip G_Reader_skip (hr.mono (by decide)) b_Reader_skip .nil (L2.passes_call (W := fun c d _ H => E c d H) (E := E) (L2.takes_of rfl rfl rfl rfl) (fun _ _ _ _ h => h)) (pa_cons (pv 3) pa_nil)))
        (pss_cons (ps_set (i := 4) sc_Reader_read_command.nd rfl (Or.inl rfl) (pe_ifExp (pt_cmpR op_eq (pv 3) (pe_glob (v := (.str "z")) rfl T.c_CODE_END.choose_spec ⟨_, rfl⟩) (nomark _)) (pe_meth0 (pv 0) T.cl_Reader T.me_Reader_read_code G_Reader_read_code (hr.mono (by decide)) b_Reader_read_code .nil (L2.passes_call (W := fun c d _ H => E c d H) (E := E) (L2.takes_of rfl rfl rfl rfl) (fun _ _ _ _ h => h))) (pe_meth0 (pv 0) T.cl_Reader T.me_Reader_read_number G_Reader_read_number (hr.mono (by decide)) b_Reader_read_number .nil (L2.passes_call (W := fun c d _ H => E c d H) (E := E) (L2.takes_of rfl rfl rfl rfl) (fun _ _ _ _ h => h)))))
        (pss_one (ps_expr (pe_bm PySem.F.plainAttrs_list PySem.F.slot_list_append PySem.F.type_list_append mt_append (pv 2) (pa_cons (pv 4) pa_nil)))))))
      (pss_one (ps_ret (pe_tup (pa_cons (pv 1) (StX.pa_star (pv 2) pa_nil))))))))), ?_⟩
    walk_at "rs"
    refine ⟨p, _, dx, _, .str z, rfl, hp, T.cl_Reader, T.a_Reader_text, rfl, ?_⟩
    walk_at "rs"
    refine ⟨p, _, dx, _, .int (i : Int), rfl, hp, T.cl_Reader, T.a_Reader_at, rfl, ?_⟩
    walk_at "rs"
    obtain ⟨c, rest, ed⟩ : ∃ c rest, (TL.tl z).drop i = c :: rest := by
      cases e : (TL.tl z).drop i with
      | nil =>
        have := congrArg List.length e
        rw [List.length_drop, List.length_nil, ← TL.len_tl] at this
        omega
      | cons c rest => exact ⟨c, rest, rfl⟩
    have eg : (TL.tl z)[i]? = some c := by
      have : ((TL.tl z).drop i)[0]? = some c := by rw [ed]; rfl
      rw [List.getElem?_drop] at this
      simpa using this
    refine ⟨z, i, c, rfl, rfl, (by rw [sizeLine_eq]; omega), atI_nat eg, ?_⟩
    walk_at "rs"
    refine ⟨_, _, _, rfl, rfl, TE.tab_MARKS.has _, ?_⟩
    rcases marks_get TE c with ⟨hk, hm⟩ | ⟨ms, M, hk, hm, hM, lm⟩
    · have ex : cmdP ((TL.tl z).drop i) = none := by rw [ed, cmdP, hk]
      rw [hm]
      walk_at "rs"
      exact k2 ex H fun b o _ e => e
    have ex : ∀ vs q, partsP ms ((TL.tl z).drop i) = some (vs, q) → cmdP ((TL.tl z).drop i) = some (mkC c vs, q) := fun vs q e => by
      rw [ed] at e ⊢
      rw [cmdP, hk]
      dsimp only
      rw [e]
    have ex0 : partsP ms ((TL.tl z).drop i) = none → cmdP ((TL.tl z).drop i) = none := fun e => by
      rw [ed] at e ⊢
      rw [cmdP, hk]
      dsimp only
      rw [e]
    rw [hm]
    walk_at "rs"
    refine iteF ?_
    walk_at "rs"
    refine ⟨(by show 0 ≤ sizeLine; decide), fun L hL => ?_⟩
    have pL : p ≠ L := fun e => by rw [← e, hp] at hL; cases hL
    walk_at "rs"
    refine ⟨_, _, _, rfl, rfl, TE.tab_MARKS.get hm, ?_⟩
    refine ⟨_, rfl, ⟨_, hM _⟩, for_tup (K := K) (a := M) (xs := mksV ms) (fun n σ H2 => ∃ (v3 v4 : Option V) (j : Nat) (us : List V), σ = [some (.ref p), some (.str ⟨#[c]⟩), some (.ref L), v3, v4] ∧ RdAt a.C_Reader H2 p z j ∧ j ≤ z.length ∧ H2 L = some (.lst us) ∧ us.length = n ∧
        (∀ b o, b ≠ p → H b = some o → H2 b = some o) ∧ partsP ms ((TL.tl z).drop i) = contP us (partsP (ms.drop n) ((TL.tl z).drop j)))
      ⟨none, none, i, [], rfl, ⟨dx, by rw [upd_ne pL]; exact hp⟩, Nat.le_of_lt li, upd_same, rfl, fun b o _ e => by rw [upd_ne (fun q => by rw [q, hL] at e; cases e)]; exact e, by
        rw [List.drop_zero]
        cases partsP ms ((TL.tl z).drop i) <;> rfl⟩ (fun _ _ _ _ _ => hM _) ?_ ?_⟩
    · rintro n y σ H2 hy ⟨v3, v4, j, us, rfl, ⟨dx2, hp2⟩, lj, hL2, lu, kp, er⟩
      obtain ⟨m, hm2, rfl⟩ : ∃ m, ms[n]? = some m ∧ y = V.str ⟨#[m]⟩ := by
        unfold mksV at hy
        rw [List.getElem?_map] at hy
        cases e : ms[n]? with
        | none => rw [e] at hy; cases hy
        | some m => rw [e] at hy; cases hy; exact ⟨m, rfl, rfl⟩
      have hn := (List.getElem?_eq_some_iff.mp hm2).1
      have em : ms.drop n = m :: ms.drop (n + 1) := by
        rw [List.drop_eq_getElem_cons hn, (List.getElem?_eq_some_iff.mp hm2).2]
      rw [em] at er
      have bad : partP m ((TL.tl z).drop j) = none → cmdP ((TL.tl z).drop i) = none := fun e => ex0 (by
        rw [er, partsP, e]
        rfl)
      walk_at "rs"
      refine ⟨p, dx2, _, rfl, hp2, rfl, ?_⟩
      walk_at "rs"
      refine ⟨p, z, m, j, rfl, ⟨dx2, hp2⟩, lz, lj, fun e H3 h3 kp3 => ?_, fun e => ?_⟩
      · have lj1 : j < z.length := by
          rw [TL.len_tl]
          exact (List.getElem?_eq_some_iff.mp e).1
        have ej : (TL.tl z).drop j = m :: (TL.tl z).drop (j + 1) := by
          rw [List.drop_eq_getElem_cons (by rw [← TL.len_tl]; exact lj1), (List.getElem?_eq_some_iff.mp e).2]
        rw [ej, partP, if_pos rfl] at bad
        obtain ⟨dx3, hp3⟩ := id h3
        have kp23 : ∀ b o, b ≠ p → H b = some o → H3 b = some o := fun b o q e => kp3 b o q (kp b o q e)
        walk_at "rs"
        have hL3 := kp3 _ _ (fun q => pL q.symm) hL2
        have partP_mk : ∀ {v : V} {r : List Nat}, (if m = 122 then codeP ((TL.tl z).drop (j + 1)) else numP ((TL.tl z).drop (j + 1))) = some (v, r) → partP m ((TL.tl z).drop j) = some (v, r) := fun q => by
          rw [ej, partP, if_pos rfl]
          exact q
        refine ite2 (fun c1 => ?_) (fun c1 => ?_)
        · have c1 : m = 122 := by
            have := of_decide_eq_true c1
            have z122 : (Str.ofString "z") = ⟨#[122]⟩ := rfl
            rw [z122] at this
            simpa using this
          rw [if_pos c1] at bad partP_mk
          have ec : codeP ((TL.tl z).drop (j + 1)) = if (TL.tl z)[j + 1 + (codeAt z (j + 1)).length]? = some 122 then some (.str ⟨(codeAt z (j + 1)).toArray⟩, (TL.tl z).drop (j + 1 + (codeAt z (j + 1)).length + 1)) else none := by
            unfold codeP
            rw [code_len, List.getElem?_drop, List.drop_drop]
            rfl
          walk_at "rs"
          refine ⟨p, dx3, _, rfl, hp3, rfl, ?_⟩
          walk_at "rs"
          refine ⟨p, z, j + 1, rfl, h3, lz, lj1, fun e H4 ⟨dx4, hp4⟩ kp4 => ?_, fun e H4 kp4 => ?_⟩
          · rw [if_pos e] at ec
            have hL4 := kp4 _ _ (fun q => pL q.symm) hL3
            have lj4 : j + 1 + (codeAt z (j + 1)).length + 1 ≤ z.length := by
              rw [TL.len_tl]
              exact (List.getElem?_eq_some_iff.mp e).1
            walk_at "rs"
            refine ⟨.inl ⟨rfl, _, SqL.of hL4⟩, ?_⟩
            walk_at "rs"
            refine ⟨L, _, _, rfl, rfl, hL4, small1000 (by omega), ?_⟩
            refine ⟨_, _, j + 1 + (codeAt z (j + 1)).length + 1, us ++ [V.str ⟨(codeAt z (j + 1)).toArray⟩], rfl, ⟨dx4, by rw [upd_ne pL]; exact hp4⟩, lj4, upd_same, by rw [List.length_append, lu]; rfl, fun b o q e => ?_, ?_⟩
            · rw [upd_ne (fun q => by rw [q, hL] at e; cases e)]
              exact kp4 b o q (kp23 b o q e)
            · rw [er, contP_step (partP_mk (ec))]
          · rw [if_neg e] at ec
            exact k2 (bad ec) H4 fun b o q e => kp4 b o q (kp23 b o q e)
        · have c1 : ¬ m = 122 := fun q => c1 (decide_eq_true (by rw [q]; rfl))
          rw [if_neg c1] at bad partP_mk
          have ec : numP ((TL.tl z).drop (j + 1)) = if NumW (digsAt z (j + 1)) then some (.int (NumText.digitsVal (digsAt z (j + 1)) : Nat), (TL.tl z).drop (j + 1 + (digsAt z (j + 1)).length)) else none := by
            unfold numP
            rw [digs_len, List.drop_drop]
            rfl
          walk_at "rs"
          refine ⟨p, dx3, _, rfl, hp3, rfl, ?_⟩
          walk_at "rs"
          refine ⟨p, z, j + 1, rfl, h3, lz, lj1, fun e H4 ⟨dx4, hp4⟩ kp4 => ?_, fun e H4 kp4 => ?_⟩
          · rw [if_pos e] at ec
            have hL4 := kp4 _ _ (fun q => pL q.symm) hL3
            have lj4 : j + 1 + (digsAt z (j + 1)).length ≤ z.length := by
              rw [digs_len]
              have := run_le (TL.tl "0123456789") ((TL.tl z).drop (j + 1))
              rw [List.length_drop, ← TL.len_tl] at this
              omega
            walk_at "rs"
            refine ⟨.inl ⟨rfl, _, SqL.of hL4⟩, ?_⟩
            walk_at "rs"
            refine ⟨L, _, _, rfl, rfl, hL4, small1000 (by omega), ?_⟩
            refine ⟨_, _, j + 1 + (digsAt z (j + 1)).length, us ++ [V.int (NumText.digitsVal (digsAt z (j + 1)) : Nat)], rfl, ⟨dx4, by rw [upd_ne pL]; exact hp4⟩, lj4, upd_same, by rw [List.length_append, lu]; rfl, fun b o q e => ?_, ?_⟩
            · rw [upd_ne (fun q => by rw [q, hL] at e; cases e)]
              exact kp4 b o q (kp23 b o q e)
            · rw [er, contP_step (partP_mk (ec))]
          · rw [if_neg e] at ec
            exact k2 (bad ec) H4 fun b o q e => kp4 b o q (kp23 b o q e)
      · refine k2 (bad ?_) H2 kp
        cases ed2 : (TL.tl z).drop j with
        | nil => rfl
        | cons d r =>
          rw [partP, if_neg]
          intro q
          refine e ?_
          have : ((TL.tl z).drop j)[0]? = some d := by rw [ed2]; rfl
          rw [List.getElem?_drop] at this
          rw [← q]
          simpa using this
    · rintro σ H2 ⟨v3, v4, j, us, rfl, ⟨dx2, hp2⟩, lj, hL2, lu, kp, er⟩
      have ln : (mksV ms).length = ms.length := List.length_map _
      rw [ln, List.drop_length] at er
      have er : partsP ms ((TL.tl z).drop i) = some (us ++ [], (TL.tl z).drop j) := er
      rw [List.append_nil] at er
      have em := ex _ _ er
      have hmk := mk_ok hk (by rw [← ed]; exact er)
      have et := hmk.2.2.1
      rw [← ed] at et
      have ej : j = i + (mkC c us).txt.length := by
        have := congrArg List.length et
        rw [List.length_append, List.length_drop, List.length_drop, ← TL.len_tl, ← TL.len_tl] at this
        omega
      walk_at "rs"
      refine ⟨L, us, rfl, .inr (SqL.of hL2), ?_⟩
      walk_at "rs"
      refine ⟨by rw [sizeLine_eq]; simp; omega, fun t ht => ?_⟩
      refine k1 _ _ em (by rw [ej]) (by omega) t _ ⟨dx2, ?_⟩ ?_ ?_ ?_
      · rw [upd_ne (fun q => by rw [← q, hp2] at ht; cases ht), ← ej]
        exact hp2
      · intro b o q e
        rw [upd_ne (fun q => by rw [← q, kp b o ‹_› e] at ht; cases ht)]
        exact kp b o q e
      · cases e : H t with
        | none => rfl
        | some o =>
          by_cases q : t = p
          · rw [q, hp2] at ht
            cases ht
          · rw [kp t o q e] at ht
            cases ht
      · show upd H2 t _ t = _
        rw [upd_same, hmk.1, hmk.2.1]
        simp

/-- o.m() within a try: what the method lets out is wished for at the slots -/
def tMethT0 (C : Addr) (m : Str) (sp : Sp) (E : L2.St → XK) (ta : TE) : TE := fun σ H Q => ta σ H fun x H1 => ∃ (j dx : Addr) (fs : List (Str × V)), x = V.ref j ∧ H1 j = some (HO.ins C dx fs) ∧ fs.lookup m = Option.none ∧ sp [x] H1 Q (E σ)
theorem pe_methT0 {X : Cx} {CX : CXT} {k : Nat} {f C : Addr} {fd : FuncData} {ps : List Str} {sp : Sp} {E : L2.St → XK} {m : Str} {apos pos : Pos} {o : Expr} {ta : TE} {pl : Sem Bool} (he : PE X o ta) (c : L2.Cls X.K C) (hm : L2.Meth X.K C m f) (F : FnOk X.prog X.w X.K X.mg X.base CX k f fd ps sp)
    (hr : Room k X.A) (hb : Binds X.K fd ps []) (hx : ∀ σ, PassesAt CX X σ (E σ))
    (text : eval (.Call (.Attribute o m apos) [] [] pos) X.env = (do let ov ← eval o X.env; standAt apos.atName; let (f, first) ← holding [ov] (getMethod ov m pl); callWith pos f first (backTo pos (starEach [] X.env)) (backToKw pos (keywordEach [] X.env))) := by rfl) :
    PE X (.Call (.Attribute o m apos) [] [] pos) (tMethT0 C m sp E ta) := by
  constructor
  intro pins s σ H Q I hyp
  refine PySem.W.methodCall_KW (pl := pl) (thn (he.run pins s σ H _ I hyp) fun u s1 got => ?_) text
  obtain ⟨x, H1, I1, rx, j, dx, fs, ex, ej, nf, q⟩ := got
  subst ex
  have eu : u = Value.ref j := rx
  subst eu
  refine getmeth_ok I1 ej c hm nf ?_
  exact PySem.W.callWith_K0 (first := [Value.ref j]) I1.kIn hm.kp (run_fnS (us := [Value.ref j]) (vs := [V.ref j]) F hr hb (hx σ) I1 (.cons rfl .nil) q)

def spCof (K : PySem.W.Frag) : Sp := fun vs H Q _ => ∃ z : Str, vs = [.str z] ∧ z.length ≤ 1000 ∧ ∀ (q : Addr) (ps : List Addr) H', Same H H' → H q = none → H' q = some (.lst (ps.map V.ref)) → CmsAt H' ps (cmdsOf z) → Q (.ref q) H'
theorem CmsAt.snoc {H : Hp} {ps : List Addr} {cs : List Cm} {p : Addr} {c : Cm} (h : CmsAt H ps cs) (e : CmAt H p c) : CmsAt H (ps ++ [p]) (cs ++ [c]) := by
  refine ⟨by rw [List.length_append, List.length_append, h.1]; rfl, fun i hi => ?_⟩
  rw [List.length_append, List.length_singleton] at hi
  rw [List.getD_eq_getElem?_getD, List.getD_eq_getElem?_getD]
  rcases Nat.lt_or_ge i cs.length with z | z
  · rw [List.getElem?_append_left (by rw [h.1]; exact z), List.getElem?_append_left z, ← List.getD_eq_getElem?_getD, ← List.getD_eq_getElem?_getD]
    exact h.2 i z
  · have ei : i = cs.length := by omega
    rw [ei, List.getElem?_append_right (Nat.le_of_eq h.1), List.getElem?_append_right (Nat.le_refl _), h.1, Nat.sub_self]
    exact e
theorem ok_commands_of (TE : TxtE P w K mg a) (T : Txt K mg a) : ∃ fd, FnOk P w K mg base CX0 4 a.d_commands_of fd ["block"] (spCof K) ∧ Binds K fd ["block"] [] := by
  obtain ⟨fd, F, b⟩ := T.d_commands_of.F
  obtain ⟨fd_Reader_init, G_Reader_init, b_Reader_init⟩ := ok_Reader_init (P := P) (w := w) (base := base) T
  obtain ⟨fd_Reader_read_command, G_Reader_read_command, b_Reader_read_command⟩ := ok_Reader_read_command (P := P) (w := w) (base := base) TE T
  refine ⟨fd, F.ok sc_commands_of (fun vs H Q E h => ?_) (fun cdv A outer s H vs Q E hr h => ?_), b⟩
  · obtain ⟨_, rfl, _⟩ := h
    rfl
  · obtain ⟨z, rfl, lz, k⟩ := h
    refine ⟨_, (pss_cons (ps_set (i := 1) sc_commands_of.nd rfl (Or.inl rfl) (pe_make T.m_Reader G_Reader_init (hr.mono (by decide)) (by rfl) T.g_Reader b_Reader_init .nil pass0 (pa_cons (pv 0) pa_nil)))
      (pss_cons (ps_set (i := 2) sc_commands_of.nd rfl (Or.inl rfl) (pe_lst pa_nil))
      (pss_cons (ps_try_only rfl rfl ⟨rfl, by decide, .inl TE.g_BadCommand⟩ takes0 (fun W pn xe tk po => (pss_one (ps_while po (pt_cmpR op_lt (pe_fldK (K := K) rfl (pv 1) rfl) (pe_callB call_len_str (by rfl) T.n_len PySem.boot_len (pa_cons (pv 0) pa_nil)) (nomark _)) (pss_one (ps_expr (pe_bmK (K := K) rfl PySem.F.plainAttrs_list PySem.F.slot_list_append PySem.F.type_list_append mt_append (pv 2) (pa_cons (pe_methT0 (pv 1) T.cl_Reader T.me_Reader_read_command G_Reader_read_command (hr.mono (by decide)) b_Reader_read_command (E := fun σ cls d H => W cls d σ H) (fun σ => passAt tk σ)) pa_nil))))))) (fun ae oe cls d pn hz hf => (pss_one (ps_ret (pe_lst pa_nil)))))
      (pss_one (ps_ret (pv 2)))))), ?_⟩
    walk_at "rs"
    intro rd dx hrd hdx ndx
    refine ⟨rd, dx, z, rfl, upd_same, fun H1 h1 keep => ?_⟩
    have s1 : Same H H1 := fun b o e => keep b o (fun q => by rw [q, hrd] at e; cases e) (by rw [upd_ne (fun q => by rw [q, hrd] at e; cases e), upd_ne (fun q => by rw [q, hdx] at e; cases e)]; exact e)
    refine ⟨rfl, ?_⟩
    clear keep
    walk_at "rs"
    refine ⟨(by show 0 ≤ sizeLine; decide), fun L hL => ?_⟩
    have hL0 := s1.free hL
    have rL : rd ≠ L := fun e => by
      obtain ⟨d, h⟩ := h1
      rw [e, hL] at h
      cases h
    have s2 := same_new (o := .lst []) hL
    walk_at "rs"
    refine ⟨fun m σ H2 => ∃ (j n : Nat) (ps : List Addr) (cs : List Cm), m = z.length - j ∧ σ = [some (.str z), some (.ref rd), some (.ref L)] ∧ RdAt a.C_Reader H2 rd z j ∧ j ≤ z.length ∧ H2 L = some (.lst (ps.map V.ref)) ∧ CmsAt H2 ps cs ∧ Same H H2 ∧ z.length - j ≤ n ∧ cs.length ≤ j ∧
        cmdsP z.length (TL.tl z) = (cmdsP n ((TL.tl z).drop j)).map (cs ++ ·),
      ⟨_, 0, z.length, [], [], rfl, rfl, h1.elim fun d h => ⟨d, by rw [upd_ne rL]; exact h⟩, Nat.zero_le _, upd_same, ⟨rfl, fun i hi => absurd hi (Nat.not_lt_zero i)⟩, s1.trans s2, Nat.le_of_eq (Nat.sub_zero _), Nat.le_refl _, by
        rw [List.drop_zero]
        cases cmdsP z.length (TL.tl z) <;> rfl⟩, ?_⟩
    clear s2 h1
    rintro m σ H2 ⟨j, n, ps, cs, rfl, rfl, ⟨dx2, h2⟩, lj, hL2, hc, s2, ln, lcs, er⟩
    walk_at "rs"
    refine ⟨rd, _, dx2, _, .int (j : Int), rfl, h2, T.cl_Reader, T.a_Reader_at, rfl, ?_⟩
    walk_at "rs"
    refine ⟨(by rw [sizeLine_eq]; omega), ?_⟩
    walk_at "rs"
    refine ite2 (fun c1 => ?_) (fun c1 => ?_)
    · have c1 : j < z.length := by
        have := of_decide_eq_true c1
        omega
      obtain ⟨n, rfl⟩ : ∃ k, n = k + 1 := ⟨n - 1, by omega⟩
      obtain ⟨d, rest, ed⟩ : ∃ c rest, (TL.tl z).drop j = c :: rest := by
        cases e : (TL.tl z).drop j with
        | nil =>
          have := congrArg List.length e
          rw [List.length_drop, List.length_nil, ← TL.len_tl] at this
          omega
        | cons c rest => exact ⟨c, rest, rfl⟩
      refine ⟨fun σ' H' => ∃ (t : Addr) (x : Cm) (q : List Nat), cmdP ((TL.tl z).drop j) = some (x, q) ∧ q = (TL.tl z).drop (j + x.txt.length) ∧ j + x.txt.length ≤ z.length ∧ σ' = [some (.str z), some (.ref rd), some (.ref L)] ∧ RdAt a.C_Reader H' rd z (j + x.txt.length) ∧ H' L = some (.lst ((ps ++ [t]).map V.ref)) ∧ CmsAt H' (ps ++ [t]) (cs ++ [x]) ∧ Same H H', ?_, ?_⟩
      · rintro σ' H' ⟨t, x, q, e1, e2, e3, rfl, h4, hL4, hc4, s4⟩
        have lx : 0 < x.txt.length := by
          obtain ⟨c, r, e, _⟩ := txt_first x
          rw [TL.len_tl, e]
          exact Nat.succ_pos _
        refine ⟨z.length - (j + x.txt.length), by omega, j + x.txt.length, n, ps ++ [t], cs ++ [x], rfl, rfl, h4, e3, hL4, hc4, s4, by omega, by rw [List.length_append]; show cs.length + 1 ≤ _; omega, ?_⟩
        rw [er, ← e2]
        rw [ed] at e1 ⊢
        rw [cmdsP, e1]
        dsimp only
        cases cmdsP n q with
        | none => rfl
        | some xs => simp
      walk_at "rs"
      refine ⟨.inl ⟨rfl, _, SqL.of hL2⟩, ?_⟩
      walk_at "rs"
      refine ⟨rd, dx2, _, rfl, h2, rfl, ?_⟩
      have Lr : L ≠ rd := fun e => rL e.symm
      refine ⟨rd, z, j, rfl, ⟨dx2, h2⟩, lz, c1, fun x q e1 e2 e3 t H4 h4 kp ht ct => ?_, fun e H4 kp => ?_⟩
      · have s4 : Same H H4 := fun b o e => kp b o (fun q => by rw [q, hrd] at e; cases e) (s2 b o e)
        have tL : t ≠ L := fun e => by rw [e, hL2] at ht; cases ht
        walk_at "rs"
        refine ⟨L, _, _, rfl, rfl, kp _ _ Lr hL2, by rw [List.length_map, hc.1]; exact small1000 (by omega), ?_⟩
        refine ⟨t, x, q, e1, e2, e3, rfl, ?_, by rw [upd_same, List.map_append]; rfl, ?_, same_upd s4 hL0⟩
        · obtain ⟨d4, h4⟩ := h4
          exact ⟨d4, by rw [upd_ne rL]; exact h4⟩
        · have hne : ∀ {b : Addr} {y : Cm}, CmAt H2 b y → b ≠ rd ∧ b ≠ L := fun {b y} h => by
            have h : H2 b = some (.tup _) := h
            constructor
            · intro e
              rw [e, h2] at h
              cases h
            · intro e
              rw [e, hL2] at h
              cases h
          refine CmsAt.snoc ⟨hc.1, fun i hi => ?_⟩ ?_
          · have h := hc.2 i hi
            obtain ⟨n1, n2⟩ := hne h
            show upd H4 L _ _ = _
            rw [upd_ne n2]
            exact kp _ _ n1 h
          · show upd H4 L _ _ = _
            rw [upd_ne tL]
            exact ct
      · have s4 : Same H H4 := fun b o e => kp b o (fun q => by rw [q, hrd] at e; cases e) (s2 b o e)
        have eall : cmdsOf z = [] := by
          unfold cmdsOf
          rw [er]
          rw [ed] at e ⊢
          rw [cmdsP, e]
          rfl
        refine ⟨true, TE.exm_BadCommand_BadCommand, fun _ ex hex => ?_, fun z => nomatch z⟩
        walk_at "rs"
        refine ⟨(by show 0 ≤ sizeLine; decide), fun R hR => ?_⟩
        refine k R [] _ (s4.trans (same_new hR)) (s4.free hR) upd_same ?_
        rw [eall]
        exact ⟨rfl, fun i hi => absurd hi (Nat.not_lt_zero i)⟩
    · have c1 : j = z.length := by
        have : ¬ j < z.length := fun h => c1 (decide_eq_true (by omega))
        omega
      have eall : cmdsOf z = cs := by
        unfold cmdsOf
        rw [er, List.drop_of_length_le (by rw [← TL.len_tl]; omega)]
        cases n <;> simp [cmdsP]
      walk_at "rs"
      exact k L ps H2 s2 hL0 hL2 (by rw [eall]; exact hc)

theorem msgS (i : Int) (h0 : 0 ≤ i) (h1 : i < 1000000000) : (((Str.empty ++ ("no right line of a script at index " : Str)) ++ (toString i : Str)) : Str).length ≤ 1000 := by
  have a := (num_ok h0 h1).1
  have e : (((Str.empty ++ ("no right line of a script at index " : Str)) ++ (toString i : Str)) : Str).length = (Str.empty ++ ("no right line of a script at index " : Str)).length + (toString i : Str).length := by
    rw [TL.len_tl, TL.tl_append, List.length_append, ← TL.len_tl, ← TL.len_tl]
  rw [e]
  have c : (Str.empty ++ ("no right line of a script at index " : Str)).length = 35 := by decide +kernel
  omega
theorem ok_BadScript_init (TE : TxtE P w K mg a) (T : Txt K mg a) : ∃ fd, FnOk P w K mg base CX0 1 a.d_BadScript_init fd ["self", "at"] (spSup a.C_BadScript "at" fun v => ∃ i : Int, v = .int i ∧ 0 ≤ i ∧ i < 1000000000) ∧ Binds K fd ["self", "at"] [] := by
  obtain ⟨fd, S, b⟩ := TE.sup_BadScript
  have T0 : SupTxt "at" "at" s_BadScript_init _ _ _ _ _ _ _ _ _ _ := ⟨rfl, rfl, rfl, rfl, rfl, rfl, rfl, rfl, by decide +kernel, ⟨_, rfl, rfl⟩⟩
  refine ⟨fd, ok_sup S T0 (by decide +kernel) (by decide) (by decide) T.n_super ?_ (fun _ => rfl) (fun _ _ _ _ => rfl) (fun _ _ _ _ => rfl) (fun _ _ _ _ => rfl) _ (fun _ => rfl), b⟩
  rintro cd cc A outer s H E e v ⟨i, rfl, i0, i1⟩
  refine ⟨_, pa_cons (pe_joined (.cons pe_str (.cons (pe_fmt (pv 1)) .nil))) pa_nil, fun H1 Q q => ?_⟩
  have len := msgS i i0 i1
  refine ⟨_, rfl, by rw [sizeLine_eq]; decide +kernel, _, rfl, .inr ⟨i, rfl, log_small i0 i1, _, rfl, ?_, q _⟩⟩
  rw [sizeLine_eq]
  exact Nat.le_trans len (by decide)
theorem okh_BadScript_init (TE : TxtE P w K mg a) (T : Txt K mg a) : ∃ fd, L2H.FnH P w K mg base CX0 1 a.d_BadScript_init fd ["self", "at"] (spSup a.C_BadScript "at" fun v => ∃ i : Int, v = .int i ∧ 0 ≤ i ∧ i < 1000000000) ∧ Binds K fd ["self", "at"] [] := by
  obtain ⟨fd, S, b⟩ := TE.sup_BadScript
  have T0 : SupTxt "at" "at" s_BadScript_init _ _ _ _ _ _ _ _ _ _ := ⟨rfl, rfl, rfl, rfl, rfl, rfl, rfl, rfl, by decide +kernel, ⟨_, rfl, rfl⟩⟩
  refine ⟨fd, ok_supH S T0 (by decide +kernel) (by decide) (by decide) T.n_super ?_ (fun _ => rfl) (fun _ _ _ _ => rfl) (fun _ _ _ _ => rfl) (fun _ _ _ _ => rfl) _ (fun _ => rfl), b⟩
  rintro cd cc A outer s H E p e v ⟨i, rfl, i0, i1⟩
  refine ⟨_, pa_cons (pe_joined (.cons pe_str (.cons (pe_fmt (pv 1)) .nil))) pa_nil, fun H1 Q q => ?_⟩
  have len := msgS i i0 i1
  refine ⟨_, rfl, by rw [sizeLine_eq]; decide +kernel, _, rfl, .inr ⟨i, rfl, log_small i0 i1, _, rfl, ?_, q _⟩⟩
  rw [sizeLine_eq]
  exact Nat.le_trans len (by decide)
/-- a number of an event's line -/
def spRNum (K : PySem.W.Frag) (C : Addr) : Sp := fun vs H Q E => ∃ (z : Str) (k : Int), vs = [.str z, .int k] ∧ z.length ≤ 16777216 ∧ 0 ≤ k ∧ k < 1000000000 ∧ (numB z = false → ExR C H E k) ∧ (numB z = true → ∀ H', Same H H' → Q (.int (numV z)) H')
theorem ok_read_number (TE : TxtE P w K mg a) (T : Txt K mg a) : ∃ fd, FnOk P w K mg base (L2N.CX P w) 4 a.d_read_number fd ["word", "at"] (spRNum K a.C_BadScript) ∧ Binds K fd ["word", "at"] [] := by
  obtain ⟨fd, F, b⟩ := T.d_read_number.F
  obtain ⟨fd_is_number, G_is_number, b_is_number⟩ := ok_is_number (P := P) (w := w) (base := base) T
  obtain ⟨fd_BadScript_init, G_BadScript_init, b_BadScript_init⟩ := ok_BadScript_init (P := P) (w := w) (base := base) TE T
  refine ⟨fd, fun_okN F sc_read_number (fun vs H Q E h => ?_) (fun cdv A outer s H vs Q E hr h => ?_), b⟩
  · obtain ⟨_, _, rfl, _⟩ := h
    rfl
  · obtain ⟨z, k, rfl, lz, k0, k1, kf, kt⟩ := h
    refine ⟨_, (pss_cons (ps_if (pt_not (pt_val (pe_call G_is_number (hr.mono (by decide)) rfl T.d_is_number.g T.d_is_number.kp b_is_number .nil pass0 (pa_cons (pv 0) pa_nil))))
      (pss_one (L2N.ps_raise rfl (L2N.takes_of rfl rfl rfl rfl) (pmk_sup TE.oex_BadScript TE.iC_BadScript TE.tI_BadScript G_BadScript_init (hr.mono (by decide)) b_BadScript_init rfl TE.g_BadScript (pa_cons (pv 1) pa_nil))))
      pss_nil)
      (pss_one (ps_ret (pe_callTy call_int_str (by rfl) T.n_int (by decide +kernel) (pa_cons (pv 0) pa_nil))))), ?_⟩
    walk_at "rs"
    refine ⟨lz, fun H1 s1 => ?_⟩
    refine ⟨_, rfl, ?_⟩
    cases e : numB z with
    | false =>
      refine ite2 (fun _ => ?_) (fun c => absurd rfl c)
      walk_at "rs"
      refine ⟨⟨k, rfl, k0, k1⟩, fun d hd => ?_⟩
      exact kf e d _ (s1.trans (same_new hd)) upd_same
    | true =>
      refine ite2 (fun c => absurd c (by decide)) (fun _ => ?_)
      walk_at "rs"
      have nv := num_int e
      refine ⟨z, _, rfl, nv.1, Nat.le_trans nv.2 (by decide), ?_⟩
      exact kt e H1 s1
/-- a letter of an event's line -/
def spRLet (K : PySem.W.Frag) (C : Addr) : Sp := fun vs H Q E => ∃ (z : Str) (k : Int), vs = [.str z, .int k] ∧ z.length + 2 ≤ 16777216 ∧ 0 ≤ k ∧ k < 1000000000 ∧ (∀ e, readL z = .error e → ExR C H E k) ∧ (∀ x, readL z = .ok x → ∀ p H', Same H H' → LtAt H' p x → Q (.ref p) H')
theorem ok_u_read_letter (TE : TxtE P w K mg a) (T : Txt K mg a) : ∃ fd, FnOk P w K mg base (L2.CX P w) 8 a.d_u_read_letter fd ["line", "at"] (spRLet K a.C_BadScript) ∧ Binds K fd ["line", "at"] [] := by
  obtain ⟨fd, F, b⟩ := T.d_u_read_letter.F
  obtain ⟨fd_read_letter, G_read_letter, b_read_letter⟩ := ok_read_letter (P := P) (w := w) (base := base) TE T
  obtain ⟨fdH, GH_BadScript_init, bH⟩ := okh_BadScript_init (P := P) (w := w) (base := base) TE T
  refine ⟨fd, F.okX sc_u_read_letter (fun vs H Q E h => ?_) (fun cdv A outer s H vs Q E hr h => ?_), b⟩
  · obtain ⟨_, _, rfl, _⟩ := h
    rfl
  · obtain ⟨z, k, rfl, lz, k0, k1, kf, kt⟩ := h
    refine ⟨_, (pss_one (L2H.ps_try_onlyX rfl rfl ⟨rfl, by decide, .inl TE.g_BadLine⟩ (fun hd => L2H.passesAt_of rfl hd) (takes_of rfl rfl rfl rfl) (fun W pn xe tk tk2 po => (pss_one (ps_ret (pe_callS G_read_letter (hr.mono (by decide)) rfl T.d_read_letter.g T.d_read_letter.kp b_read_letter (fun σ => L2N.passAt tk σ) (pa_cons (pv 0) pa_nil))))) (fun ae oe cls d pn hz hf tkS hot => (pss_one (L2H.ps_raiseHN hot tkS (L2H.pmk5_oexH TE.oex_BadScript TE.iC_BadScript TE.tI_BadScript GH_BadScript_init ((L2H.roomH_mark hr _).mono (by decide)) hot bH pass0 rfl TE.g_BadScript (pa_cons (pv 1) pa_nil))))))), ?_⟩
    walk_at "rs"
    refine ⟨lz, fun e he => ?_, fun x hx p H1 s1 hp => kt x hx p H1 s1 hp⟩
    intro d H4 s4 hd
    refine ⟨true, TE.exm_BadLine_BadLine, fun _ ex hex => ?_, fun z => nomatch z⟩
    walk_at "rs"
    refine ⟨by show 1 ≤ 1000; decide, fun b hb => ⟨b, _, rfl, upd_same, ⟨k, rfl, k0, k1⟩, fun dx3 hdx3 ndx3 => ?_⟩⟩
    have fd : H4 dx3 = none := by rwa [upd_ne ndx3] at hdx3
    refine ⟨rfl, dx3, _, upd_same, by rw [upd_ne ndx3, upd_same], fd, ?_⟩
    rw [sup_heap hb ndx3]
    exact kf e he _ _ (s4.trans (same_new fd)) upd_same
/-- a command of an event's line -/
def spRCmd (C : Addr) : Sp := fun vs H Q E => ∃ (z : Str) (k : Int), vs = [.str z, .int k] ∧ z.length ≤ 1000 ∧ 0 ≤ k ∧ k < 1000000000 ∧ ((cmdsOf z).length ≠ 1 ∨ 60 < z.length → ExR C H E k) ∧ (∀ c, cmdsOf z = [c] → z.length ≤ 60 → ∀ p H', Same H H' → CmAt H' p c → Q (.ref p) H')
theorem ok_read_command (TE : TxtE P w K mg a) (T : Txt K mg a) : ∃ fd, FnOk P w K mg base (L2.CX P w) 9 a.d_read_command fd ["text", "at"] (spRCmd a.C_BadScript) ∧ Binds K fd ["text", "at"] [] := by
  obtain ⟨fd, F, b⟩ := T.d_read_command.F
  obtain ⟨fd_commands_of, G_commands_of, b_commands_of⟩ := ok_commands_of (P := P) (w := w) (base := base) TE T
  obtain ⟨fd_BadScript_init, G_BadScript_init, b_BadScript_init⟩ := ok_BadScript_init (P := P) (w := w) (base := base) TE T
  refine ⟨fd, F.okX sc_read_command (fun vs H Q E h => ?_) (fun cdv A outer s H vs Q E hr h => ?_), b⟩
  · obtain ⟨_, _, rfl, _⟩ := h
    rfl
  · obtain ⟨z, k, rfl, lz, k0, k1, kf, kt⟩ := h
    refine ⟨_, (pss_cons (ps_set (i := 2) sc_read_command.nd rfl (Or.inl rfl) (pe_call G_commands_of (hr.mono (by decide)) rfl T.d_commands_of.g T.d_commands_of.kp b_commands_of .nil pass0 (pa_cons (pv 0) pa_nil)))
      (pss_cons (ps_if (PW.pt (pw_or (pt_cmpR op_ne (pe_callB call_len_seq (by rfl) T.n_len PySem.boot_len (pa_cons (pv 2) pa_nil)) pe_int (nomark _)) (pw_or1 (pt_cmpR op_gt (pe_callB call_len_str (by rfl) T.n_len PySem.boot_len (pa_cons (pv 0) pa_nil)) (pe_glob (v := (.int 60)) rfl T.c_MOST_SIGNS.choose_spec ⟨_, rfl⟩) (nomark _)))))
      (pss_one (ps_raise rfl (takes_of rfl rfl rfl rfl) (pmk_weak (pmk_sup TE.oex_BadScript TE.iC_BadScript TE.tI_BadScript G_BadScript_init (hr.mono (by decide)) b_BadScript_init rfl TE.g_BadScript (pa_cons (pv 1) pa_nil)))))
      pss_nil)
      (pss_one (ps_ret (pe_ix ix_list (pv 2) pe_int (fun _ _ => rfl)))))), ?_⟩
    walk_at "rs"
    refine ⟨lz, fun u cps H1 s1 hu0 hu hcs => ?_⟩
    have np := hcs.1
    walk_at "rs"
    refine ⟨u, _, rfl, .inl (SqL.of hu), ?_⟩
    rw [List.length_map]
    walk_at "rs"
    refine ite2 (fun c1 => ?_) (fun c1 => ?_)
    · have c1 : (cmdsOf z).length ≠ 1 := fun e => by
        rw [np, e] at c1
        exact absurd c1 (by decide)
      walk_at "rs"
      refine ⟨⟨k, rfl, k0, k1⟩, fun d hd => ?_⟩
      exact kf (.inl c1) d _ (s1.trans (same_new hd)) upd_same
    · have c1 : (cmdsOf z).length = 1 := by
        rw [np] at c1
        by_cases e : (cmdsOf z).length = 1
        · exact e
        · refine absurd ?_ c1
          simp
          omega
      walk_at "rs"
      refine ⟨by rw [sizeLine_eq]; omega, ?_⟩
      walk_at "rs"
      refine ite2 (fun c2 => ?_) (fun c2 => ?_)
      · have c2 : (60 : Int) < z.length := by simpa using c2
        walk_at "rs"
        refine ⟨⟨k, rfl, k0, k1⟩, fun d hd => ?_⟩
        exact kf (.inr (by omega)) d _ (s1.trans (same_new hd)) upd_same
      · have c2 : ¬ (60 : Int) < z.length := by simpa using c2
        obtain ⟨c, ec⟩ := List.length_eq_one_iff.mp c1
        have hc0 := hcs.2 0 (by omega)
        rw [ec] at hc0 np
        obtain ⟨p0, ep⟩ := List.length_eq_one_iff.mp np
        rw [ep] at hc0 hu
        walk_at "rs"
        refine ⟨u, _, _, _, rfl, rfl, SqL.of hu, rfl, ?_⟩
        exact kt c ec (by omega) p0 H1 s1 hc0

theorem bindE_ok {α β : Type} {r : Except Int α} {f : α → Except Int β} {y : β} (h : bindE r f = .ok y) : ∃ x, r = .ok x ∧ f x = .ok y := by
  cases r with
  | error e => cases h
  | ok x => exact ⟨x, rfl, h⟩
theorem blockAt_ok {ws : List Str} {k : Nat} {d : Kd} {b : Option Str} (h : blockAt ws k d = .ok b) : (∀ x, b = some x → blkB x = true) ∧ (d = .prop → b ≠ none) := by
  unfold blockAt at h
  split at h
  · cases h
  · split at h
    · rename_i c
      cases h
      exact ⟨fun x z => (nomatch z), fun z => absurd z c.2⟩
    · split at h
      · rename_i c
        cases h
        exact ⟨fun x z => by cases z; exact c, fun _ z => nomatch z⟩
      · cases h
theorem digitsVal_lt : ∀ (l : List Nat) (a : Nat), (∀ c ∈ l, 48 ≤ c ∧ c ≤ 57) → l.foldl (fun acc c => acc * 10 + (c - 48)) a < (a + 1) * 10 ^ l.length
  | [], a, _ => by simp
  | c :: l, a, h => by
    have h1 := h c List.mem_cons_self
    have h2 := digitsVal_lt l (a * 10 + (c - 48)) fun d hd => h d (List.mem_cons_of_mem _ hd)
    rw [List.foldl_cons, List.length_cons, Nat.pow_succ]
    refine Nat.lt_of_lt_of_le h2 ?_
    rw [Nat.mul_comm (10 ^ l.length) 10, ← Nat.mul_assoc]
    exact Nat.mul_le_mul_right _ (by omega)
theorem numV_lt {w : Str} (h : numB w = true) : numV w < 1000000000 := by
  obtain ⟨h1, h2, h3⟩ := num_all h
  have := digitsVal_lt (TL.tl w) 0 h1
  have e : (10 : Nat) ^ (TL.tl w).length ≤ 10 ^ 9 := Nat.pow_le_pow_right (by decide) h3
  have v : numV w = (((TL.tl w).foldl (fun acc c => acc * 10 + (c - 48)) 0 : Nat) : Int) := rfl
  rw [v]
  omega
theorem numAt_ok {ws : List Str} {k : Nat} {n : Int} (h : numAt ws k = .ok n) : 0 ≤ n ∧ n < 1000000000 := by
  unfold numAt at h
  split at h
  · cases h
  · split at h
    · rename_i c
      cases h
      exact ⟨numV_nonneg _, numV_lt c⟩
    · cases h
theorem leanAt_ok {ws : List Str} {k : Nat} {t : Int} {l : Option Int} (h : leanAt ws k t = .ok l) : ∀ x, l = some x → 0 ≤ x ∧ x < t := by
  unfold leanAt at h
  split at h
  · cases h
  · split at h
    · cases h
      exact fun x z => nomatch z
    · split at h
      · split at h
        · rename_i c
          cases h
          exact fun x z => by cases z; exact ⟨numV_nonneg _, c⟩
        · cases h
      · cases h
theorem read_good {line : Str} {x : Lt} (h : readL line = .ok x) : GoodM x.m ∧ 0 ≤ x.w ∧ x.w < 1000000000 := by
  unfold readL readW at h
  obtain ⟨w, h1, h⟩ := bindE_ok h
  obtain ⟨k, h2, h⟩ := bindE_ok h
  obtain ⟨ht, h3, h⟩ := bindE_ok h
  obtain ⟨t, h4, h⟩ := bindE_ok h
  obtain ⟨b, h5, h⟩ := bindE_ok h
  have a3 := numAt_ok h3
  have a4 := numAt_ok h4
  have a5 := blockAt_ok h5
  unfold readEnd at h
  split at h
  · rename_i ek
    obtain ⟨l, h6, h⟩ := bindE_ok h
    obtain ⟨_, h7, h⟩ := bindE_ok h
    cases h
    exact ⟨⟨a3.1, a3.2, a4.1, a4.2, a5.1, fun z => (nomatch z), leanAt_ok h6, fun z => absurd rfl z⟩, numAt_ok h1⟩
  · rename_i ek
    obtain ⟨_, h7, h⟩ := bindE_ok h
    cases h
    exact ⟨⟨a3.1, a3.2, a4.1, a4.2, a5.1, a5.2, fun x z => (nomatch z), fun _ => rfl⟩, numAt_ok h1⟩

theorem join_len (y : Str) : ∀ parts : List Str, (Str.join y parts).length ≤ (parts.map (·.length)).sum + parts.length * y.length
  | [] => by show (Str.empty).length ≤ _; exact Nat.zero_le _
  | [x] => by
    show x.length ≤ _
    simp
  | x :: z :: r => by
    have h := join_len y (z :: r)
    have e : (Str.join y (x :: z :: r)).length = x.length + y.length + (Str.join y (z :: r)).length := by
      show ((x ++ y) ++ Str.join y (z :: r)).length = _
      rw [TL.len_tl, TL.tl_append, List.length_append, TL.tl_append, List.length_append, ← TL.len_tl, ← TL.len_tl, ← TL.len_tl]
    rw [e]
    simp only [List.map_cons, List.sum_cons, List.length_cons, Nat.add_mul, Nat.one_mul] at h ⊢
    omega
theorem line_len {who : Int} {m : Sm} (w0 : 0 ≤ who) (w1 : who < 1000000000) (h : SmallM m) : (lineS who m).length ≤ 1000 := by
  have l := vals_len m
  have s := sum_small (ys := (toString who : Str) :: m.vals.map wordV) fun y hy => by
    rcases List.mem_cons.mp hy with rfl | hy
    · exact (num_ok w0 w1).1
    · obtain ⟨v, hv, rfl⟩ := List.mem_map.mp hy
      exact (word_ok (h v hv)).1
  have e : (" " : Str).length = 1 := by decide +kernel
  unfold lineS
  rw [TL.join_eq]
  refine Nat.le_trans (join_len _ _) ?_
  simp only [List.length_cons, List.length_map] at s ⊢
  rw [e]
  omega
/-- what the words of a line that is read are -/
structure RWd (ws : List Str) (x : Lt) : Prop where
  n0 : numB (ws.getD 0 "") = true
  v0 : x.w = numV (ws.getD 0 "")
  k1 : ws.getD 1 "" = x.m.k.s
  n2 : numB (ws.getD 2 "") = true
  v2 : x.m.h = numV (ws.getD 2 "")
  n3 : numB (ws.getD 3 "") = true
  v3 : x.m.t = numV (ws.getD 3 "")
  b4 : (ws.getD 4 "" = "-" ∧ x.m.b = none) ∨ (¬ ws.getD 4 "" = "-" ∧ x.m.b = some (ws.getD 4 ""))
  pre : x.m.k = .pre → ws.length = 6 ∧ ((ws.getD 5 "" = "-" ∧ x.m.l = none) ∨ (¬ ws.getD 5 "" = "-" ∧ numB (ws.getD 5 "") = true ∧ x.m.l = some (numV (ws.getD 5 ""))))
  oth : x.m.k ≠ .pre → ws.length = 5
theorem wordAt_yes {ws : List Str} {k : Nat} {y : Str} (h : wordAt ws k = .ok y) : k < ws.length ∧ y = ws.getD k "" := by
  unfold wordAt at h
  split at h
  · cases h
    exact ⟨by assumption, rfl⟩
  · cases h
theorem numAt_yes {ws : List Str} {k : Nat} {n : Int} (h : numAt ws k = .ok n) : k < ws.length ∧ numB (ws.getD k "") = true ∧ n = numV (ws.getD k "") := by
  unfold numAt at h
  split at h
  · cases h
  · rename_i y e
    obtain ⟨a1, a2⟩ := wordAt_yes e
    split at h
    · rename_i c
      cases h
      rw [← a2]
      exact ⟨a1, c, rfl⟩
    · cases h
theorem read_words {ws : List Str} {x : Lt} (h : readW ws = .ok x) : RWd ws x := by
  unfold readW at h
  obtain ⟨w, h1, h⟩ := bindE_ok h
  obtain ⟨k, h2, h⟩ := bindE_ok h
  obtain ⟨ht, h3, h⟩ := bindE_ok h
  obtain ⟨t, h4, h⟩ := bindE_ok h
  obtain ⟨b, h5, h⟩ := bindE_ok h
  have a1 := numAt_yes h1
  have a3 := numAt_yes h3
  have a4 := numAt_yes h4
  have a2 : ws.getD 1 "" = k.s := by
    unfold kindAt at h2
    split at h2
    · cases h2
    · rename_i y e
      obtain ⟨_, e2⟩ := wordAt_yes e
      split at h2
      · rename_i d e3
        cases h2
        rw [← e2]
        exact kd_of e3
      · cases h2
  have a5 : 4 < ws.length ∧ ((ws.getD 4 "" = "-" ∧ b = none) ∨ (¬ ws.getD 4 "" = "-" ∧ b = some (ws.getD 4 ""))) := by
    unfold blockAt at h5
    split at h5
    · cases h5
    · rename_i y e
      obtain ⟨l4, e2⟩ := wordAt_yes e
      rw [← e2]
      refine ⟨l4, ?_⟩
      split at h5
      · rename_i c
        cases h5
        exact .inl ⟨c.1, rfl⟩
      · split at h5
        · rename_i c
          cases h5
          refine .inr ⟨fun z => ?_, rfl⟩
          rw [z, dash_blk] at c
          cases c
        · cases h5
  unfold readEnd at h
  split at h
  · rename_i ek
    obtain ⟨l, h6, h⟩ := bindE_ok h
    obtain ⟨_, h7, h⟩ := bindE_ok h
    have l7 : ¬ 6 < ws.length := by
      unfold endAt at h7
      split at h7
      · cases h7
      · assumption
    have a6 : 5 < ws.length ∧ ((ws.getD 5 "" = "-" ∧ l = none) ∨ (¬ ws.getD 5 "" = "-" ∧ numB (ws.getD 5 "") = true ∧ l = some (numV (ws.getD 5 "")))) := by
      unfold leanAt at h6
      split at h6
      · cases h6
      · rename_i y e
        obtain ⟨l5, e2⟩ := wordAt_yes e
        rw [← e2]
        refine ⟨l5, ?_⟩
        split at h6
        · rename_i c
          cases h6
          exact .inl ⟨c, rfl⟩
        · rename_i nd
          split at h6
          · rename_i c
            split at h6
            · cases h6
              exact .inr ⟨nd, c, rfl⟩
            · cases h6
          · cases h6
    cases h
    subst ek
    exact ⟨a1.2.1, a1.2.2, a2, a3.2.1, a3.2.2, a4.2.1, a4.2.2, a5.2, fun _ => ⟨by omega, a6.2⟩, fun z => absurd rfl z⟩
  · rename_i ek
    obtain ⟨_, h7, h⟩ := bindE_ok h
    have l7 : ¬ 5 < ws.length := by
      unfold endAt at h7
      split at h7
      · cases h7
      · assumption
    cases h
    exact ⟨a1.2.1, a1.2.2, a2, a3.2.1, a3.2.2, a4.2.1, a4.2.2, a5.2, fun z => absurd z ek, fun _ => by omega⟩

theorem right_ok {c : Cm} (g : c.right) (h : c.txt.length ≤ 200) : c.ok := by
  cases c with
  | p a b d => exact ⟨g.1.w, g.2.1.w, g.2.2.w⟩
  | w a b => exact ⟨g.1.w, g.2.w⟩
  | k a b d => exact ⟨g.1.w, g.2.1.w, g.2.2.w⟩
  | d a s =>
    refine ⟨g.1.w, ?_, g.2.ok⟩
    simp only [Cm.txt, PySem.Str.length_append] at h
    omega

/-! ### events -/
inductive Ev where
  | num (k : Str) (ns : List Int)
  | inj (x : Lt)
  | sub (who : Int) (c : Cm)
def nkL : List (Str × Int) := [("deliver", 2), ("timeout", 1), ("assist", 2), ("crash", 1)]
def Ev.wds : Ev → List Str
  | .num k ns => k :: ns.map fun n => (toString n : Str)
  | .inj x => "inject" :: (toString x.w : Str) :: x.m.vals.map wordV
  | .sub w c => ["submit", (toString w : Str), c.txt]
def Ev.line (e : Ev) : Str := Txt.join " " e.wds
def EvAt (H : Hp) (p : Addr) : Ev → Prop
  | .num k ns => H p = some (.tup (.str k :: ns.map V.int))
  | .inj x => ∃ q, H p = some (.tup [.str "inject", .ref q]) ∧ LtAt H q x
  | .sub w c => ∃ q, H p = some (.tup [.str "submit", .int w, .ref q]) ∧ CmAt H q c
theorem EvAt.same {H H' : Hp} {p : Addr} {e : Ev} (h : EvAt H p e) (s : Same H H') : EvAt H' p e := by
  cases e with
  | num k ns => exact s _ _ h
  | inj x =>
    obtain ⟨q, h1, h2⟩ := h
    exact ⟨q, s _ _ h1, h2.same s⟩
  | sub w c =>
    obtain ⟨q, h1, h2⟩ := h
    exact ⟨q, s _ _ h1, s _ _ h2⟩
def NumK (i : Int) : Prop := 0 ≤ i ∧ i < 1000000000
def Ev.good : Ev → Prop
  | .num k ns => nkL.lookup k = some (ns.length : Int) ∧ ∀ n ∈ ns, NumK n
  | .inj x => GoodM x.m ∧ NumK x.w
  | .sub w c => NumK w ∧ c.right ∧ c.txt.length ≤ 60
def readC (ws : List Str) : Option Ev := if numB (ws.getD 0 "") = true then (match cmdsOf (ws.getD 1 "") with
    | [c] => if (ws.getD 1 "").length ≤ 60 then some (.sub (numV (ws.getD 0 "")) c) else none
    | _ => none) else none
def readN (k : Str) (ws : List Str) : Option Ev := match nkL.lookup k with
  | none => none
  | some n => if (ws.length : Int) = n ∧ ws.all numB = true then some (.num k (ws.map numV)) else none
def readP (k rest : Str) : Option Ev :=
  if k = "inject" then (match readL rest with | .ok x => some (.inj x) | .error _ => none)
  else if k = "submit" ∧ (Txt.split rest " ").length = 2 then readC (Txt.split rest " ")
  else readN k (Txt.split rest " ")
def readE (z : Str) : Option Ev := readP (Txt.partition z " ").1 (Txt.partition z " ").2.2
theorem sp_tl : TL.tl (" " : Str) = [32] := by decide +kernel
theorem part_cases (z : Str) : (32 ∉ TL.tl z ∧ Txt.partition z " " = (z, Str.empty, Str.empty)) ∨ ∃ a b, 32 ∉ TL.tl a ∧ z = a ++ " " ++ b ∧ Txt.partition z " " = (a, (" " : Str), b) := by
  by_cases h : 32 ∈ TL.tl z
  · obtain ⟨as, bs, e, n⟩ := List.eq_append_cons_of_mem h
    have n1 : 32 ∉ TL.tl (⟨as.toArray⟩ : Str) := n
    have ez : z = (⟨as.toArray⟩ : Str) ++ " " ++ ⟨bs.toArray⟩ := TL.ext_tl (by
      rw [TL.tl_append, TL.tl_append, sp_tl, e]
      simp [TL.tl_mk])
    exact .inr ⟨_, _, n1, ez, by rw [ez]; exact TL.partition_app sp_tl n1⟩
  · exact .inl ⟨h, TL.partition_none sp_tl h⟩
theorem numL_back {v : List Nat} (l1 : 1 ≤ v.length) (d : NumText.AllDigits v) (h : v.length = 1 ∨ v.head? ≠ some 48) : TL.numL (NumText.digitsVal v) = v := by
  unfold TL.numL
  rw [NumText.toDigits_digitsVal (v.length - 1) v (by omega) d, digs_toNat d]
  rcases Nat.lt_or_ge 1 v.length with z | z
  · right
    cases v with
    | nil => simp at l1
    | cons c r =>
      refine ⟨c, r, rfl, ?_⟩
      have hc := d c List.mem_cons_self
      rcases Nat.lt_or_ge c 49 with y | y
      · exfalso
        rcases h with h | h
        · omega
        · refine h ?_
          have : c = 48 := by omega
          rw [this]
          rfl
      · exact y
  · left
    omega
theorem num_canon {w : Str} (h : numB w = true) : (toString (numV w) : Str) = w := by
  obtain ⟨h1, h2, h3⟩ := num_all h
  have h4 : w = "0" ∨ (TL.tl w).head? ≠ some 48 := by
    unfold numB at h
    simp only [Bool.and_eq_true, Bool.or_eq_true, decide_eq_true_eq] at h
    exact h.2.2.2
  refine TL.ext_tl ?_
  rw [tl_str (numV_nonneg w)]
  have e : (numV w).toNat = NumText.digitsVal (TL.tl w) := by
    unfold numV
    exact Int.toNat_natCast _
  rw [e]
  refine numL_back (List.length_pos_iff.mpr h2) h1 ?_
  rcases h4 with h4 | h4
  · refine .inl ?_
    rw [h4]
    decide +kernel
  · exact .inr h4
theorem num_kb {w : Str} (h : numB w = true) : NumK (numV w) := ⟨numV_nonneg w, numV_lt h⟩
theorem nums_canon : ∀ {ws : List Str}, ws.all numB = true → (ws.map numV).map (fun n => (toString n : Str)) = ws
  | [], _ => rfl
  | w :: ws, h => by
    rw [List.all_cons, Bool.and_eq_true] at h
    rw [List.map_cons, List.map_cons, num_canon h.1, nums_canon h.2]
theorem join_cons2 (k : Str) {ws : List Str} (h : ws ≠ []) : Txt.join " " (k :: ws) = k ++ " " ++ Txt.join " " ws := by
  rw [TL.join_eq, TL.join_eq]
  cases ws with
  | nil => exact absurd rfl h
  | cons a r => rfl
theorem join_one (k : Str) : Txt.join " " [k] = k := by
  rw [TL.join_eq]
  rfl
theorem split_ne (z : Str) : Txt.split z " " ≠ [] := fun e => by
  have := PyProof.Rows.split_pos z " "
  rw [e] at this
  simp at this
theorem join_spl (z : Str) : Txt.join " " (Txt.split z " ") = z := by
  rw [TL.join_eq]
  exact PySem.StrLaws.join_split z " "
theorem ws5 {ws : List Str} (h : ws.length = 5) : ws = [ws.getD 0 "", ws.getD 1 "", ws.getD 2 "", ws.getD 3 "", ws.getD 4 ""] := by
  match ws, h with
  | [_, _, _, _, _], _ => rfl
theorem ws6 {ws : List Str} (h : ws.length = 6) : ws = [ws.getD 0 "", ws.getD 1 "", ws.getD 2 "", ws.getD 3 "", ws.getD 4 "", ws.getD 5 ""] := by
  match ws, h with
  | [_, _, _, _, _, _], _ => rfl
/-- a line that is read is the line of its letter -/
theorem read_canon {z : Str} {x : Lt} (h : readL z = .ok x) : lineS x.w x.m = z := by
  have R := read_words (ws := Txt.split z " ") h
  refine Eq.trans ?_ (join_spl z)
  unfold lineS
  congr 1
  generalize Txt.split z " " = ws at R ⊢
  have hw : (toString x.w : Str) = ws.getD 0 "" := by rw [R.v0]; exact num_canon R.n0
  have hh : (toString x.m.h : Str) = ws.getD 2 "" := by rw [R.v2]; exact num_canon R.n2
  have ht : (toString x.m.t : Str) = ws.getD 3 "" := by rw [R.v3]; exact num_canon R.n3
  have hb : wordV (oS x.m.b) = ws.getD 4 "" := by
    rcases R.b4 with ⟨e1, e2⟩ | ⟨_, e2⟩
    · rw [e2, e1]
      rfl
    · rw [e2]
      rfl
  have hk := R.k1
  have good := read_good h
  obtain ⟨xw, mk, mh, mt, mb, ml⟩ := x
  dsimp only at hw hh ht hb hk
  have rp := R.pre
  have ro := R.oth
  dsimp only at rp ro
  cases mk with
  | pre =>
    obtain ⟨l6, hl⟩ := rp rfl
    have hl : wordV (oI ml) = ws.getD 5 "" := by
      rcases hl with ⟨e1, e2⟩ | ⟨_, n5, e2⟩
      · rw [e2, e1]
        rfl
      · rw [e2]
        exact num_canon n5
    rw [ws6 l6, ← hw, hk, ← hh, ← ht, ← hb, ← hl]
    rfl
  | prop =>
    rw [ws5 (ro (by decide)), ← hw, hk, ← hh, ← ht, ← hb]
    rfl
  | com =>
    rw [ws5 (ro (by decide)), ← hw, hk, ← hh, ← ht, ← hb]
    rfl
theorem split_empty : Txt.split Str.empty " " = [Str.empty] := by
  have e := TL.split_join (y := " ") (s := 32) (S := []) sp_tl (by decide +kernel) (parts := [Str.empty]) (List.cons_ne_nil _ _) (fun p hp => by
    rw [List.mem_singleton.mp hp]
    decide +kernel)
  rw [join_one] at e
  exact e
theorem read_empty (k : Str) : readP k Str.empty = none := by
  have n0 : numB Str.empty = false := by decide +kernel
  unfold readP
  rw [split_empty]
  split
  · have : readL Str.empty = .error 0 := by
      unfold readL
      rw [split_empty]
      unfold readW numAt wordAt
      simp [n0, bindE]
    rw [this]
  · split
    · rename_i c
      exact absurd c.2 (by decide)
    · unfold readN
      split
      · rfl
      · simp [n0]
theorem nk_len {k : Str} {n : Int} (h : nkL.lookup k = some n) : n = 1 ∨ n = 2 := by
  unfold nkL at h
  simp only [List.lookup] at h
  split at h
  · cases h; exact .inr rfl
  · split at h
    · cases h; exact .inl rfl
    · split at h
      · cases h; exact .inr rfl
      · split at h
        · cases h; exact .inl rfl
        · cases h
/-- what is read is written so -/
theorem read_ev {z : Str} {e : Ev} (h : readE z = some e) : e.line = z ∧ e.good := by
  unfold readE at h
  rcases part_cases z with ⟨_, ep⟩ | ⟨a, b, _, ez, ep⟩
  · rw [ep, read_empty] at h
    cases h
  · rw [ep] at h
    unfold readP at h
    dsimp only at h
    split at h
    · rename_i ek
      split at h
      · rename_i x er
        cases h
        refine ⟨?_, (read_good er).1, (read_good er).2⟩
        show Txt.join " " ("inject" :: _) = z
        rw [join_cons2 _ (List.cons_ne_nil _ _)]
        rw [ez, ek]
        congr 1
        exact read_canon er
      · cases h
    · split at h
      · rename_i c
        unfold readC at h
        split at h
        · rename_i n0
          split at h
          · rename_i cm ec
            split at h
            · rename_i l60
              cases h
              have et : cm.txt = (Txt.split b " ").getD 1 "" := by
                rcases cmdsOf_text (z := (Txt.split b " ").getD 1 "") with q | q
                · rw [ec] at q
                  cases q
                · rw [ec, cat_one] at q
                  exact q
              refine ⟨?_, num_kb n0, cmdsOf_right cm (by rw [ec]; exact List.mem_singleton.mpr rfl), by rw [et]; exact l60⟩
              show Txt.join " " ["submit", _, _] = z
              rw [join_cons2 _ (List.cons_ne_nil _ _), ez, c.1, et, num_canon n0]
              congr 1
              refine Eq.trans ?_ (join_spl b)
              congr 1
              have l2 := c.2
              generalize Txt.split b " " = ws at l2
              match ws, l2 with
              | [_, _], _ => rfl
            · cases h
          · cases h
        · cases h
      · unfold readN at h
        split at h
        · cases h
        · rename_i n en
          split at h
          · rename_i c
            cases h
            refine ⟨?_, by rw [List.length_map, c.1]; exact en, fun n hn => ?_⟩
            · show Txt.join " " (a :: _) = z
              rw [nums_canon c.2, join_cons2 _ (split_ne b), join_spl, ez]
            · obtain ⟨w, hw, rfl⟩ := List.mem_map.mp hn
              exact num_kb (List.all_eq_true.mp c.2 w hw)
          · cases h
theorem cm_free {c : Cm} (r : c.right) {s : Nat} (h1 : s < 48 ∨ 122 < s) : s ∉ TL.tl c.txt := by
  have nf : ∀ {i : Int}, NOk i → s ∉ TL.tl (nu i) := fun {i} o => by
    rw [nu_tl o]
    exact TL.numL_free (by omega)
  have lt : ∀ m : Str, (∀ c ∈ TL.tl m, 48 ≤ c ∧ c ≤ 122) → s ∉ TL.tl m := fun m hm q => by
    have := hm s q
    omega
  have hp := lt "p" (by decide +kernel)
  have hq := lt "q" (by decide +kernel)
  have hr := lt "r" (by decide +kernel)
  have hw := lt "w" (by decide +kernel)
  have hx := lt "x" (by decide +kernel)
  have hk := lt "k" (by decide +kernel)
  have hb := lt "b" (by decide +kernel)
  have hv := lt "v" (by decide +kernel)
  have hd := lt "d" (by decide +kernel)
  have hz := lt "z" (by decide +kernel)
  cases c with
  | p a b d =>
    have := nf r.1
    have := nf r.2.1
    have := nf r.2.2
    simp only [Cm.txt, TL.tl_append, List.mem_append, not_or]
    exact ⟨⟨⟨⟨⟨hp, by assumption⟩, hq⟩, by assumption⟩, hr⟩, by assumption⟩
  | w a b =>
    have := nf r.1
    have := nf r.2
    simp only [Cm.txt, TL.tl_append, List.mem_append, not_or]
    exact ⟨⟨⟨hw, by assumption⟩, hx⟩, by assumption⟩
  | k a b d =>
    have := nf r.1
    have := nf r.2.1
    have := nf r.2.2
    simp only [Cm.txt, TL.tl_append, List.mem_append, not_or]
    exact ⟨⟨⟨⟨⟨hk, by assumption⟩, hb⟩, by assumption⟩, hv⟩, by assumption⟩
  | d a code =>
    have := nf r.1
    have hc : s ∉ TL.tl code := fun q => by
      have := r.2 s q
      have all : ∀ c ∈ TL.tl "0123456789ginasmtcehlujfyo", 48 ≤ c ∧ c ≤ 122 := by decide +kernel
      have := all s this
      omega
    simp only [Cm.txt, TL.tl_append, List.mem_append, not_or]
    exact ⟨⟨⟨⟨hd, by assumption⟩, hz⟩, hc⟩, hz⟩
theorem cm_ne (c : Cm) : TL.tl c.txt ≠ [] := by
  obtain ⟨a, r, e, _⟩ := txt_first c
  rw [e]
  exact List.cons_ne_nil _ _
theorem nk_free {k : Str} {n : Int} (h : nkL.lookup k = some n) : 32 ∉ TL.tl k ∧ TL.tl k ≠ [] ∧ k ≠ "inject" ∧ k ≠ "submit" := by
  have key : k = "deliver" ∨ k = "timeout" ∨ k = "assist" ∨ k = "crash" := by
    unfold nkL at h
    simp only [List.lookup] at h
    split at h
    · rename_i e
      exact .inl (eq_of_beq e)
    · split at h
      · rename_i e
        exact .inr (.inl (eq_of_beq e))
      · split at h
        · rename_i e
          exact .inr (.inr (.inl (eq_of_beq e)))
        · split at h
          · rename_i e
            exact .inr (.inr (.inr (eq_of_beq e)))
          · cases h
  rcases key with rfl | rfl | rfl | rfl <;> decide +kernel
theorem num_wd {i : Int} (h : NumK i) : 32 ∉ TL.tl (toString i : Str) ∧ TL.tl (toString i : Str) ≠ [] := by
  refine ⟨num_free h.1 (.inl (by decide)), ?_⟩
  rw [tl_str h.1]
  exact TL.numL_ne _
theorem val_ne {m : Sm} (g : GoodM m) : ∀ v ∈ m.vals, TL.tl (wordV v) ≠ [] := by
  have hd : TL.tl (wordV V.non) ≠ [] := by decide +kernel
  have hk : TL.tl (wordV (.str m.k.s)) ≠ [] := by
    cases m.k <;> decide +kernel
  have hh : TL.tl (wordV (.int m.h)) ≠ [] := (num_wd ⟨g.h0, g.h1⟩).2
  have ht : TL.tl (wordV (.int m.t)) ≠ [] := (num_wd ⟨g.t0, g.t1⟩).2
  have hb : TL.tl (wordV (oS m.b)) ≠ [] := by
    cases e : m.b with
    | none => exact hd
    | some x =>
      have := g.b x e
      intro z
      unfold blkB at this
      have z : TL.tl x = [] := z
      rw [z] at this
      cases this
  have hl : TL.tl (wordV (oI m.l)) ≠ [] := by
    cases e : m.l with
    | none => exact hd
    | some x =>
      have := g.l x e
      have := g.t1
      exact (num_wd ⟨(g.l x e).1, by omega⟩).2
  intro v hv
  obtain ⟨mk, mh, mt, mb, ml⟩ := m
  cases mk <;> simp only [Sm.vals, List.mem_cons, List.not_mem_nil, or_false] at hv <;> (rcases hv with rfl | rfl | rfl | rfl | rfl <;> assumption) <;> skip
/-- the words of a good event -/
theorem wds_ok {e : Ev} (g : e.good) : ∀ w ∈ e.wds, 32 ∉ TL.tl w ∧ TL.tl w ≠ [] := by
  intro w hw
  cases e with
  | num k ns =>
    rcases List.mem_cons.mp hw with rfl | hw
    · exact ⟨(nk_free g.1).1, (nk_free g.1).2.1⟩
    · obtain ⟨n, hn, rfl⟩ := List.mem_map.mp hw
      exact num_wd (g.2 n hn)
  | inj x =>
    rcases List.mem_cons.mp hw with rfl | hw
    · decide +kernel
    · rcases List.mem_cons.mp hw with rfl | hw
      · exact num_wd g.2
      · obtain ⟨v, hv, rfl⟩ := List.mem_map.mp hw
        exact ⟨word_free g.1 v hv, val_ne g.1 v hv⟩
  | sub n c =>
    rcases List.mem_cons.mp hw with rfl | hw
    · decide +kernel
    · rcases List.mem_cons.mp hw with rfl | hw
      · exact num_wd g.1
      · rw [List.mem_singleton.mp hw]
        exact ⟨cm_free g.2.1 (.inl (by decide)), cm_ne c⟩
theorem join_head2 {S p : List Nat} {r : List (List Nat)} (h : p ≠ []) : (TL.joinL S (p :: r)).head? = p.head? := by
  cases p with
  | nil => exact absurd rfl h
  | cons a q => cases r <;> rfl
theorem join_last {S : List Nat} : ∀ {ps : List (List Nat)}, ps ≠ [] → (∀ p ∈ ps, p ≠ []) → ∃ p ∈ ps, (TL.joinL S ps).getLast? = p.getLast?
  | [], h, _ => absurd rfl h
  | [p], _, _ => ⟨p, List.mem_cons_self, rfl⟩
  | p :: q :: r, _, h => by
    obtain ⟨x, hx, e⟩ := join_last (S := S) (ps := q :: r) (List.cons_ne_nil _ _) fun y hy => h y (List.mem_cons_of_mem _ hy)
    refine ⟨x, List.mem_cons_of_mem _ hx, ?_⟩
    rw [← e]
    have ne : TL.joinL S (q :: r) ≠ [] := fun z => by
      rw [z] at e
      have := h x (List.mem_cons_of_mem _ hx)
      cases x with
      | nil => exact this rfl
      | cons a b => exact absurd (List.getLast?_eq_none_iff.mp e.symm) this
    show (p ++ (S ++ TL.joinL S (q :: r))).getLast? = _
    rw [List.getLast?_append, List.getLast?_append]
    cases e2 : (TL.joinL S (q :: r)).getLast? with
    | none => exact absurd (List.getLast?_eq_none_iff.mp e2) ne
    | some y => rfl
theorem wds_ne (e : Ev) : e.wds ≠ [] := by cases e <;> exact List.cons_ne_nil _ _
theorem line_tl (e : Ev) : TL.tl e.line = TL.joinL [32] (e.wds.map TL.tl) := by
  unfold Ev.line
  rw [TL.join_eq, TL.tl_join, sp_tl]
/-- a good event's line neither begins nor ends with a space -/
theorem line_ends {e : Ev} (g : e.good) : (TL.tl e.line).head? ≠ some 32 ∧ (TL.tl e.line).getLast? ≠ some 32 := by
  have ok := wds_ok g
  rw [line_tl]
  have mem : ∀ p ∈ e.wds.map TL.tl, 32 ∉ p ∧ p ≠ [] := fun p hp => by
    obtain ⟨w, hw, rfl⟩ := List.mem_map.mp hp
    exact ok w hw
  refine ⟨fun z => ?_, fun z => ?_⟩
  · have ne := wds_ne e
    cases q : e.wds with
    | nil => exact ne q
    | cons w r =>
      rw [q] at mem z
      have m0 := mem (TL.tl w) List.mem_cons_self
      rw [List.map_cons, join_head2 m0.2] at z
      exact m0.1 (List.mem_of_mem_head? z)
  · obtain ⟨p, hp, e2⟩ := join_last (S := [32]) (ps := e.wds.map TL.tl) (fun z => wds_ne e (List.map_eq_nil_iff.mp z)) fun p hp => (mem p hp).2
    rw [e2] at z
    exact (mem p hp).1 (List.mem_of_getLast? z)
theorem split_wds {ws : List Str} (h : ws ≠ []) (g : ∀ w ∈ ws, 32 ∉ TL.tl w) : Txt.split (Txt.join " " ws) " " = ws :=
  TL.split_join (y := " ") (s := 32) (S := []) sp_tl (by decide +kernel) h g
theorem read_first {k : Str} {ws : List Str} (h : ws ≠ []) (g : 32 ∉ TL.tl k) : readE (Txt.join " " (k :: ws)) = readP k (Txt.join " " ws) := by
  unfold readE
  rw [join_cons2 k h, TL.partition_app sp_tl g]
/-- a command's line, of any length -/
theorem read_sub {w : Int} {c : Cm} (g : NumK w) (r : c.right) : readE (Ev.sub w c).line = if c.txt.length ≤ 60 then some (.sub w c) else none := by
  have nw := num_wd g
  have f : ∀ y ∈ [(toString w : Str), c.txt], 32 ∉ TL.tl y := fun y hy => by
    rcases List.mem_cons.mp hy with rfl | hy
    · exact nw.1
    · rw [List.mem_singleton.mp hy]
      exact cm_free r (.inl (by decide))
  have ns := num_str g.1 g.2
  show readE (Txt.join " " ("submit" :: [(toString w : Str), c.txt])) = _
  rw [read_first (List.cons_ne_nil _ _) (by decide +kernel)]
  unfold readP
  rw [if_neg (by decide +kernel), split_wds (List.cons_ne_nil _ _) f, if_pos ⟨rfl, rfl⟩]
  unfold readC
  show (if numB (toString w : Str) = true then (match cmdsOf c.txt with | [c'] => if c.txt.length ≤ 60 then some (Ev.sub (numV (toString w : Str)) c') else none | _ => none) else none) = _
  rw [if_pos ns.1, cmdsOf_one r]
  dsimp only
  rw [ns.2]
/-- what is written is read back -/
theorem read_back {e : Ev} (g : e.good) : readE e.line = some e := by
  cases e with
  | num k ns =>
    have nk := nk_free g.1
    have ne : ns ≠ [] := fun z => by
      have := nk_len g.1
      rw [z] at this
      simp at this
    have ne2 : ns.map (fun n => (toString n : Str)) ≠ [] := fun z => ne (List.map_eq_nil_iff.mp z)
    have f : ∀ y ∈ ns.map (fun n => (toString n : Str)), 32 ∉ TL.tl y := fun y hy => by
      obtain ⟨n, hn, rfl⟩ := List.mem_map.mp hy
      exact (num_wd (g.2 n hn)).1
    show readE (Txt.join " " (k :: ns.map fun n => (toString n : Str))) = _
    rw [read_first ne2 nk.1]
    unfold readP
    rw [if_neg nk.2.2.1, split_wds ne2 f, if_neg fun z => nk.2.2.2 z.1]
    unfold readN
    rw [g.1]
    have all : (ns.map fun n => (toString n : Str)).all numB = true := List.all_eq_true.mpr fun y hy => by
      obtain ⟨n, hn, rfl⟩ := List.mem_map.mp hy
      exact (num_str (g.2 n hn).1 (g.2 n hn).2).1
    dsimp only
    rw [if_pos ⟨by rw [List.length_map], all⟩]
    congr 2
    rw [List.map_map]
    refine Eq.trans (List.map_congr_left (g := id) fun n hn => ?_) (List.map_id _)
    exact (num_str (g.2 n hn).1 (g.2 n hn).2).2
  | inj x =>
    show readE (Txt.join " " ("inject" :: ((toString x.w : Str) :: x.m.vals.map wordV))) = _
    rw [read_first (List.cons_ne_nil _ _) (by decide +kernel)]
    unfold readP
    rw [if_pos rfl]
    have e := read_line g.2.1 g.2.2 g.1
    unfold lineS at e
    rw [e]
  | sub w c => rw [read_sub g.1 g.2.1, if_pos g.2.2]
theorem read_sp1 (z : Str) : readE (z ++ " ") = none := by
  cases e : readE (z ++ " ") with
  | none => rfl
  | some x =>
    obtain ⟨e1, g⟩ := read_ev e
    refine absurd ?_ (line_ends g).2
    rw [e1, TL.tl_append, sp_tl, List.getLast?_append]
    rfl
theorem read_sp2 (z : Str) : readE (" " ++ z) = none := by
  cases e : readE (" " ++ z) with
  | none => rfl
  | some x =>
    obtain ⟨e1, g⟩ := read_ev e
    refine absurd ?_ (line_ends g).1
    rw [e1, TL.tl_append, sp_tl]
    rfl

theorem ExR.same {C : Addr} {H H1 : Hp} {E : XK} {e : Int} (h : ExR C H E e) (s : Same H H1) : ExR C H1 E e := fun d H' s' hd => h d H' (s.trans s') hd
/-- the line of an event -/
def spELine (K : PySem.W.Frag) : Sp := fun vs H Q _ => ∃ (p : Addr) (e : Ev), vs = [.ref p] ∧ EvAt H p e ∧ e.good ∧ ∀ H', Same H H' → Q (.str e.line) H'
theorem nk_small {k : Str} {n : Int} (h : nkL.lookup k = some n) : k.length ≤ 10 := by
  have key : k = "deliver" ∨ k = "timeout" ∨ k = "assist" ∨ k = "crash" := by
    unfold nkL at h
    simp only [List.lookup] at h
    split at h
    · rename_i e
      exact .inl (eq_of_beq e)
    · split at h
      · rename_i e
        exact .inr (.inl (eq_of_beq e))
      · split at h
        · rename_i e
          exact .inr (.inr (.inl (eq_of_beq e)))
        · split at h
          · rename_i e
            exact .inr (.inr (.inr (eq_of_beq e)))
          · cases h
  rcases key with rfl | rfl | rfl | rfl <;> decide +kernel
theorem sum_wd : ∀ {ns : List Int}, (∀ n ∈ ns, NumK n) → ((ns.map fun n => (toString n : Str)).map (·.length)).sum ≤ 60 * ns.length
  | [], _ => by simp
  | n :: ns, h => by
    have h1 := (num_ok (h n List.mem_cons_self).1 (h n List.mem_cons_self).2).1
    have h2 := sum_wd fun m hm => h m (List.mem_cons_of_mem _ hm)
    simp only [List.map_cons, List.sum_cons, List.length_cons]
    omega
theorem emp_app (x : Str) : Str.empty ++ x = x := TL.ext_tl (by rw [TL.tl_append]; rfl)
theorem inj_line {x : Lt} : (Str.empty ++ "inject" ++ " " ++ lineS x.w x.m : Str) = (Ev.inj x).line := by
  unfold Ev.line Ev.wds lineS
  rw [emp_app, join_cons2 _ (List.cons_ne_nil _ _)]
theorem sub_line {w : Int} {c : Cm} : (Str.empty ++ "submit" ++ " " ++ (toString w : Str) ++ " " ++ c.txt : Str) = (Ev.sub w c).line := by
  unfold Ev.line Ev.wds
  rw [emp_app, join_cons2 _ (List.cons_ne_nil _ _), join_cons2 _ (List.cons_ne_nil _ _), join_one]
  refine TL.ext_tl ?_
  simp only [TL.tl_append, List.append_assoc]
theorem ok_event_line (TE : TxtE P w K mg a) (T : Txt K mg a) : ∃ fd, FnOk P w K mg base CX0 3 a.d_event_line fd ["event"] (spELine K) ∧ Binds K fd ["event"] [] := by
  obtain ⟨fd, F, b⟩ := T.d_event_line.F
  obtain ⟨fd_letter_line, G_letter_line, b_letter_line⟩ := ok_letter_line (P := P) (w := w) (base := base) T
  obtain ⟨fd_command_text, G_command_text, b_command_text⟩ := ok_command_text (P := P) (w := w) (base := base) TE T
  refine ⟨fd, F.ok sc_event_line (fun vs H Q E h => ?_) (fun cdv A outer s H vs Q E hr h => ?_), b⟩
  · obtain ⟨_, _, rfl, _⟩ := h
    rfl
  · obtain ⟨p, e, rfl, he, g, k⟩ := h
    refine ⟨_, (pss_cons (ps_asg (pv 0) (pg_starT rfl (pgs_cons (pg_name (i := 1) sc_event_line.nd rfl (Or.inl rfl)) (pgs_cons (pg_name (i := 2) sc_event_line.nd rfl (Or.inl rfl)) pgs_nil))))
      (pss_cons (ps_if (pt_cmpR op_eq (pv 1) pe_str (nomark _))
      (pss_one (ps_ret (pe_joined (PJ.cons (pe_fmt (pv 1)) (PJ.cons pe_str (PJ.cons (pe_fmt (pe_call G_letter_line (hr.mono (by decide)) rfl T.d_letter_line.g T.d_letter_line.kp b_letter_line .nil pass0 (pa_cons (pe_ix ix_list (pv 2) pe_int (fun _ _ => rfl)) pa_nil))) PJ.nil))))))
      pss_nil)
      (pss_cons (ps_if (pt_cmpR op_eq (pv 1) pe_str (nomark _))
      (pss_one (ps_ret (pe_joined (PJ.cons (pe_fmt (pv 1)) (PJ.cons pe_str (PJ.cons (pe_fmt (pe_ix ix_list (pv 2) pe_int (fun _ _ => rfl))) (PJ.cons pe_str (PJ.cons (pe_fmt (pe_call G_command_text (hr.mono (by decide)) rfl T.d_command_text.g T.d_command_text.kp b_command_text .nil pass0 (pa_cons (pe_ix ix_list (pv 2) pe_int (fun _ _ => rfl)) pa_nil))) PJ.nil))))))))
      pss_nil)
      (pss_one (ps_ret (pe_join pe_str (pe_op op_cat (pe_lst (pa_cons (pv 1) pa_nil)) (pe_lc (own := [("part", 3)]) (g := (gName 3)) (tt := tYes) rfl sc_event_line.nd (pi_list (pv 2)) (blkOk_by (own := [("part", 3)]) (N := sc_event_line_N) (sc := defScope s_event_line) (by decide +kernel)) (fun _ _ _ _ _ => (pg_name (i := 3) sc_event_line.nd rfl (Or.inl rfl))) (fun _ _ _ _ _ => pts_nil) (fun _ _ _ _ _ => (pe_callTy cr_strA (by rfl) T.n_str (by decide +kernel) (pa_cons (pv 3) pa_nil))))))))))), ?_⟩
    cases e with
    | num kd ns =>
      have nk := nk_free g.1
      have ln := nk_len g.1
      have l3 : ns.length ≤ 2 := by omega
      have he' : H p = some (.tup (.str kd :: ns.map V.int)) := he
      walk_at "rs"
      refine ⟨p, _, _, rfl, SqT.of he', by rw [List.length_map]; omega, fun q hq => ?_⟩
      have s1 : Same H (upd H q (.lst (ns.map V.int))) := same_new hq
      have h1 : (upd H q (.lst (ns.map V.int))) q = some (.lst (ns.map V.int)) := upd_same
      generalize upd H q (.lst (ns.map V.int)) = H1 at s1 h1 ⊢
      refine ⟨_, _, rfl, _, _, rfl, rfl, ?_⟩
      dsimp only
      walk_at "rs"
      refine ite2 (fun c => absurd (by simpa using c) nk.2.2.1) (fun _ => ?_)
      walk_at "rs"
      refine ite2 (fun c => absurd (by simpa using c) nk.2.2.2) (fun _ => ?_)
      walk_at "rs"
      refine ⟨⟨_, rfl⟩, ?_⟩
      walk_at "rs"
      refine ⟨(by show 1 ≤ sizeLine; decide), fun l1 hl1 => ?_⟩
      have s2 := same_new (o := .lst [V.str kd]) hl1
      have h2 := (upd_same : (upd H1 l1 (.lst [V.str kd])) l1 = _)
      generalize upd H1 l1 (.lst [V.str kd]) = H2 at s2 h2 ⊢
      walk_at "rs"
      refine ⟨⟨_, SqL.of (s2 _ _ h1)⟩, fun D hD => ?_⟩
      refine lc_list (K := K) (a := q) (xs := ns.map V.int) (fun i H3 => Same H2 H3 ∧ H3 D = some (.lst (((ns.take i).map fun n => (toString n : Str)).map V.str))) ⟨same_new hD, by rw [upd_same]; simp⟩ (fun i H3 _ ⟨s3, _⟩ => SqL.of (s3 _ _ (s2 _ _ h1))) ?_ ?_
      · rintro i y H3 hy ⟨s3, hd⟩
        have hi : i < ns.length := by
          have := (List.getElem?_eq_some_iff.mp hy).1
          rwa [List.length_map] at this
        have ey : y = .int (ns.getD i 0) := by
          rw [List.getElem?_map, List.getElem?_eq_getElem hi] at hy
          rw [List.getD_eq_getElem?_getD, List.getElem?_eq_getElem hi]
          exact (Option.some.inj hy).symm
        subst ey
        have hn := g.2 _ (getD_mem2 (d := 0) hi)
        have et : ns.take (i + 1) = ns.take i ++ [ns.getD i 0] := take_succ_getD hi
        refine ⟨rfl, ?_⟩
        walk_at "rs"
        refine ⟨log_small hn.1 hn.2, ?_⟩
        refine ⟨_, hd, by rw [List.length_map, List.length_map, List.length_take]; exact small1000 (by omega), same_upd s3 hD, ?_⟩
        rw [upd_same, et]
        simp
      · rintro H3 ⟨s3, hd⟩
        rw [List.length_map, List.take_length] at hd
        refine ⟨l1, D, _, _, rfl, rfl, s3 _ _ h2, hd, by rw [List.length_map, List.length_map, sizeLine_eq]; simp; omega, fun l3 hl3 => ?_⟩
        have s4 := same_new (o := .lst ([V.str kd] ++ (ns.map fun n => (toString n : Str)).map V.str)) hl3
        refine ⟨_, l3, (Ev.num kd ns).wds, rfl, rfl, .inl (SqL.of upd_same), ?_, ?_⟩
        · have := sum_wd g.2
          have lk := nk_small g.1
          have e1 : (" " : Str).length = 1 := by decide +kernel
          simp only [Ev.wds, List.map_cons, List.sum_cons, List.length_cons, List.length_map, e1] at this ⊢
          omega
        · exact k _ (((s1.trans s2).trans s3).trans s4)
    | inj x =>
      obtain ⟨q0, h0, h00⟩ := id he
      walk_at "rs"
      refine ⟨p, _, _, rfl, SqT.of h0, (by show 1 ≤ 1000; decide), fun q hq => ?_⟩
      have s1 : Same H (upd H q (.lst [V.ref q0])) := same_new hq
      have h1 : (upd H q (.lst [V.ref q0])) q = some (.lst [V.ref q0]) := upd_same
      generalize upd H q (.lst [V.ref q0]) = H1 at s1 h1 ⊢
      refine ⟨_, _, rfl, _, _, rfl, rfl, ?_⟩
      dsimp only
      walk_at "rs"
      refine ⟨by rw [sizeLine_eq]; decide +kernel, _, rfl, by rw [sizeLine_eq]; decide +kernel, ?_⟩
      refine ⟨_, rfl, by rw [sizeLine_eq]; decide +kernel, ?_⟩
      walk_at "rs"
      refine ⟨q, _, _, _, rfl, rfl, SqL.of h1, rfl, ?_⟩
      walk_at "rs"
      refine ⟨q0, x, rfl, h00.same s1, g.2.1, g.2.2, g.1.small, fun H2 s2 => ?_⟩
      have ll := line_len g.2.1 g.2.2 g.1.small
      have e7 : (Str.empty ++ "inject" ++ " " : Str).length = 7 := by decide +kernel
      refine .inl ⟨_, rfl, by rw [sizeLine_eq]; omega, ?_⟩
      refine ⟨_, rfl, by rw [PySem.Str.length_append, e7, sizeLine_eq]; omega, ?_⟩
      have k2 := k _ (s1.trans s2)
      rw [← inj_line] at k2
      exact k2
    | sub n c =>
      obtain ⟨q0, h0, h00⟩ := id he
      walk_at "rs"
      refine ⟨p, _, _, rfl, SqT.of h0, (by show 2 ≤ 1000; decide), fun q hq => ?_⟩
      have s1 : Same H (upd H q (.lst [V.int n, V.ref q0])) := same_new hq
      have h1 : (upd H q (.lst [V.int n, V.ref q0])) q = some (.lst [V.int n, V.ref q0]) := upd_same
      generalize upd H q (.lst [V.int n, V.ref q0]) = H1 at s1 h1 ⊢
      refine ⟨_, _, rfl, _, _, rfl, rfl, ?_⟩
      dsimp only
      walk_at "rs"
      refine ⟨by rw [sizeLine_eq]; decide +kernel, _, rfl, by rw [sizeLine_eq]; decide +kernel, ?_⟩
      refine ⟨_, rfl, by rw [sizeLine_eq]; decide +kernel, ?_⟩
      walk_at "rs"
      refine ⟨q, _, _, _, rfl, rfl, SqL.of h1, rfl, ?_⟩
      have nl := (num_ok g.1.1 g.1.2).1
      have e7 : (Str.empty ++ "submit" ++ " " : Str).length = 7 := by decide +kernel
      have e1 : (" " : Str).length = 1 := by decide +kernel
      have l60 := g.2.2
      refine .inr ⟨n, rfl, log_small g.1.1 g.1.2, _, rfl, by rw [PySem.Str.length_append, e7, sizeLine_eq]; omega, ?_⟩
      refine ⟨_, rfl, by rw [PySem.Str.length_append, PySem.Str.length_append, e7, e1, sizeLine_eq]; omega, ?_⟩
      walk_at "rs"
      refine ⟨q, _, _, _, rfl, rfl, SqL.of h1, rfl, ?_⟩
      walk_at "rs"
      refine ⟨q0, c, rfl, s1 _ _ h00, right_ok g.2.1 (by omega), fun H2 s2 => ?_⟩
      refine .inl ⟨_, rfl, by rw [sizeLine_eq]; omega, ?_⟩
      refine ⟨_, rfl, by rw [PySem.Str.length_append, PySem.Str.length_append, PySem.Str.length_append, e7, e1, sizeLine_eq]; omega, ?_⟩
      have k2 := k _ (s1.trans s2)
      rw [← sub_line] at k2
      exact k2

/-- an event is read -/
def spREv (K : PySem.W.Frag) (C : Addr) : Sp := fun vs H Q E => ∃ (z : Str) (k : Int), vs = [.str z, .int k] ∧ z.length ≤ 1000 ∧ 0 ≤ k ∧ k < 1000000000 ∧ (readE z = none → ExR C H E k) ∧ (∀ e, readE z = some e → ∀ p H', Same H H' → EvAt H' p e → Q (.ref p) H')
theorem part_len (z : Str) : (Txt.partition z " ").1.length ≤ z.length ∧ (Txt.partition z " ").2.2.length ≤ z.length := by
  rcases part_cases z with ⟨_, e⟩ | ⟨a, b, _, ez, e⟩
  · rw [e]
    exact ⟨Nat.le_refl _, Nat.zero_le _⟩
  · rw [e, ez]
    simp only [PySem.Str.length_append]
    omega
theorem readC_no0 {w0 w1 : Str} (h : numB w0 = false) : readC [w0, w1] = none := by
  unfold readC
  exact if_neg (by show ¬ numB w0 = true; rw [h]; exact Bool.false_ne_true)
theorem readC_no1 {w0 w1 : Str} (h : (cmdsOf w1).length ≠ 1 ∨ 60 < w1.length) : readC [w0, w1] = none := by
  unfold readC
  show (if numB w0 = true then (match cmdsOf w1 with | [c] => if w1.length ≤ 60 then some (Ev.sub (numV w0) c) else none | _ => none) else none) = none
  split
  · split
    · rename_i c e
      rw [e] at h
      rw [if_neg (by rcases h with h | h <;> first | exact absurd rfl h | omega)]
    · rfl
  · rfl
theorem readC_yes {w0 w1 : Str} {c : Cm} (h : numB w0 = true) (e : cmdsOf w1 = [c]) (l : w1.length ≤ 60) : readC [w0, w1] = some (.sub (numV w0) c) := by
  unfold readC
  show (if numB w0 = true then (match cmdsOf w1 with | [c] => if w1.length ≤ 60 then some (Ev.sub (numV w0) c) else none | _ => none) else none) = _
  rw [if_pos h, e]
  exact if_pos l
theorem readN_no {k : Str} {ws : List Str} (h : nkL.lookup k = none) : readN k ws = none := by
  unfold readN
  rw [h]
theorem readN_len {k : Str} {ws : List Str} {n : Int} (h : nkL.lookup k = some n) (l : (ws.length : Int) ≠ n) : readN k ws = none := by
  unfold readN
  rw [h]
  exact if_neg fun z => l z.1
theorem readN_bad {k : Str} {ws : List Str} {w : Str} (hw : w ∈ ws) (l : numB w = false) : readN k ws = none := by
  unfold readN
  split
  · rfl
  · refine if_neg fun z => ?_
    rw [List.all_eq_true.mp z.2 w hw] at l
    cases l
theorem readN_yes {k : Str} {ws : List Str} {n : Int} (h : nkL.lookup k = some n) (l : (ws.length : Int) = n) (a : ws.all numB = true) : readN k ws = some (.num k (ws.map numV)) := by
  unfold readN
  rw [h]
  exact if_pos ⟨l, a⟩
theorem ok_read_event (TE : TxtE P w K mg a) (T : Txt K mg a) : ∃ fd, FnOk P w K mg base (L2.CX P w) 10 a.d_read_event fd ["line", "at"] (spREv K a.C_BadScript) ∧ Binds K fd ["line", "at"] [] := by
  obtain ⟨fd, F, b⟩ := T.d_read_event.F
  obtain ⟨fd_BadScript_init, G_BadScript_init, b_BadScript_init⟩ := ok_BadScript_init (P := P) (w := w) (base := base) TE T
  obtain ⟨fd_read_number, G_read_number, b_read_number⟩ := ok_read_number (P := P) (w := w) (base := base) TE T
  obtain ⟨fd_u_read_letter, G_u_read_letter, b_u_read_letter⟩ := ok_u_read_letter (P := P) (w := w) (base := base) TE T
  obtain ⟨fd_read_command, G_read_command, b_read_command⟩ := ok_read_command (P := P) (w := w) (base := base) TE T
  refine ⟨fd, F.okX sc_read_event (fun vs H Q E h => ?_) (fun cdv A outer s H vs Q E hr h => ?_), b⟩
  · obtain ⟨_, _, rfl, _⟩ := h
    rfl
  · obtain ⟨z, k, rfl, lz, k0, k1, kf, kt⟩ := h
    refine ⟨_, (pss_cons (ps_asg (pe_partition (pv 0) pe_str) (pg_tup rfl (pgs_cons (pg_name (i := 2) sc_read_event.nd rfl (Or.inl rfl)) (pgs_cons (pg_name (i := 3) sc_read_event.nd rfl (Or.inl rfl)) (pgs_cons (pg_name (i := 4) sc_read_event.nd rfl (Or.inl rfl)) pgs_nil)))))
      (pss_cons (ps_if (pt_cmpR op_eq (pv 2) pe_str (nomark _))
      (pss_one (ps_ret (pe_tup (pa_cons (pv 2) (pa_cons (pe_call G_u_read_letter (hr.mono (by decide)) rfl T.d_u_read_letter.g T.d_u_read_letter.kp b_u_read_letter .nil (L2.passes_call (W := fun c d _ H => E c d H) (E := E) (L2.takes_of rfl rfl rfl rfl) (fun _ _ _ _ h => h)) (pa_cons (pv 4) (pa_cons (pv 1) pa_nil))) pa_nil)))))
      pss_nil)
      (pss_cons (ps_set (i := 5) sc_read_event.nd rfl (Or.inl rfl) (pe_split (pv 4) pe_str))
      (C8.pss_cut (ps_if (PW.pt (pw_and (pt_cmpR op_eq (pv 2) pe_str (nomark _)) (pw_and1 (pt_cmpR op_eq (pe_callB call_len_seq (by rfl) T.n_len PySem.boot_len (pa_cons (pv 5) pa_nil)) pe_int (nomark _)))))
      (pss_one (ps_ret (pe_tup (pa_cons (pv 2) (pa_cons (pe_call G_read_number (hr.mono (by decide)) rfl T.d_read_number.g T.d_read_number.kp b_read_number .nil (L2N.passes_call (W := fun c d _ H => E c d H) (E := E) (takesN_of (takes_of rfl rfl rfl rfl)) (fun _ _ _ _ h => h)) (pa_cons (pe_ix ix_list (pv 5) pe_int (fun _ _ => rfl)) (pa_cons (pv 1) pa_nil))) (pa_cons (pe_call G_read_command (hr.mono (by decide)) rfl T.d_read_command.g T.d_read_command.kp b_read_command .nil (L2.passes_call (W := fun c d _ H => E c d H) (E := E) (L2.takes_of rfl rfl rfl rfl) (fun _ _ _ _ h => h)) (pa_cons (pe_ix ix_list (pv 5) pe_int (fun _ _ => rfl)) (pa_cons (pv 1) pa_nil))) pa_nil))))))
      pss_nil)
      (pss_cons (ps_if (PW.pt (pw_or (pt_cmpR op_notInKd (pv 2) (pe_glob (v := .ref a.P_NUMBERED) rfl TE.g_NUMBERED rfl) (by rfl)) (pw_or1 (pt_cmpR op_ne (pe_callB call_len_seq (by rfl) T.n_len PySem.boot_len (pa_cons (pv 5) pa_nil)) (pe_ix ix_kdict (pe_glob (v := .ref a.P_NUMBERED) rfl TE.g_NUMBERED rfl) (pv 2) (fun _ _ => rfl)) (nomark _)))))
      (pss_one (ps_raise rfl (takes_of rfl rfl rfl rfl) (pmk_weak (pmk_sup TE.oex_BadScript TE.iC_BadScript TE.tI_BadScript G_BadScript_init (hr.mono (by decide)) b_BadScript_init rfl TE.g_BadScript (pa_cons (pv 1) pa_nil)))))
      pss_nil)
      (pss_cons (ps_setLcX (i := 6) (own := [("word", 7)]) (g := (gName 7)) (E := E) rfl rfl (takesN_of (takes_of rfl rfl rfl rfl)) (fun _ _ _ _ z => z) rfl sc_read_event.nd rfl rfl (sw_true rfl rfl rfl (by decide +kernel)) (pi_list (pv 5)) (blkOk_by (own := [("word", 7)]) (N := sc_read_event_N) (sc := defScope s_read_event) (by decide +kernel)) (fun _ _ _ _ _ => (pg_name (i := 7) sc_read_event.nd rfl (Or.inl rfl)))
      (fun _ _ _ _ _ pn xe hx => (pe_call G_read_number (hr.mono (by decide)) rfl T.d_read_number.g T.d_read_number.kp b_read_number .nil hx (pa_cons (pv 7) (pa_cons (pv 1) pa_nil)))))
      (pss_one (ps_ret (pe_tup (pa_cons (pv 2) (StX.pa_star (pv 6) pa_nil))))))))))), ?_⟩
    have pl := part_len z
    have er : readE z = readP (Txt.partition z " ").1 (Txt.partition z " ").2.2 := rfl
    rw [er] at kf kt
    walk_at "rs"
    refine ⟨⟨_, rfl⟩, ?_⟩
    walk_at "rs"
    refine ⟨by rw [sizeLine_eq]; omega, fun t0 ht0 => ?_⟩
    have s1 := same_new (o := .tup [V.str (Txt.partition z " ").1, V.str (Txt.partition z " ").2.1, V.str (Txt.partition z " ").2.2]) ht0
    have h1 := (upd_same : (upd H t0 (.tup [V.str (Txt.partition z " ").1, V.str (Txt.partition z " ").2.1, V.str (Txt.partition z " ").2.2])) t0 = _)
    generalize upd H t0 (.tup [V.str (Txt.partition z " ").1, V.str (Txt.partition z " ").2.1, V.str (Txt.partition z " ").2.2]) = H1 at s1 h1 ⊢
    generalize (Txt.partition z " ").1 = kd at *
    generalize (Txt.partition z " ").2.2 = rest at *
    generalize (Txt.partition z " ").2.1 = mid at *
    refine ⟨t0, _, rfl, SqT.of h1, rfl, ?_⟩
    refine ⟨_, _, rfl, _, _, rfl, _, _, rfl, rfl, ?_⟩
    walk_at "rs"
    refine ite2 (fun c => ?_) (fun c => ?_)
    · have c : kd = "inject" := by simpa using c
      have ep1 : ∀ e, readL rest = .error e → readP kd rest = none := fun e he => by
        unfold readP
        rw [if_pos c, he]
      have ep2 : ∀ x, readL rest = .ok x → readP kd rest = some (.inj x) := fun x hx => by
        unfold readP
        rw [if_pos c, hx]
      walk_at "rs"
      refine ⟨rest, k, rfl, by omega, k0, k1, fun e he => (kf (ep1 e he)).same s1, fun x hx p H2 s2 hp => ?_⟩
      walk_at "rs"
      refine ⟨(by show 2 ≤ sizeLine; decide), fun t1 ht1 => ?_⟩
      have s3 := same_new (o := .tup [V.str kd, V.ref p]) ht1
      refine kt (.inj x) (ep2 x hx) t1 _ ((s1.trans s2).trans s3) ⟨p, ?_, hp.same s3⟩
      rw [upd_same, c]
    have c : kd ≠ "inject" := by simpa using c
    walk_at "rs"
    refine ⟨⟨_, rfl⟩, ?_⟩
    walk_at "rs"
    refine ⟨by rw [sizeLine_eq]; omega, fun W hW => ?_⟩
    have s2 := same_new (o := .lst ((Txt.split rest " ").map V.str)) hW
    have h2 := (upd_same : (upd H1 W (.lst ((Txt.split rest " ").map V.str))) W = _)
    generalize upd H1 W (.lst ((Txt.split rest " ").map V.str)) = H2 at s2 h2 ⊢
    have lw : (Txt.split rest " ").length ≤ rest.length + 2 := PyProof.Rows.split_le rest " "
    have sw : ∀ x ∈ Txt.split rest " ", x.length ≤ rest.length := fun x hx => PyProof.Rows.part_short hx
    have ep : readP kd rest = if kd = "submit" ∧ (Txt.split rest " ").length = 2 then readC (Txt.split rest " ") else readN kd (Txt.split rest " ") := by
      unfold readP
      rw [if_neg c]
    rw [ep] at kf kt
    generalize Txt.split rest " " = ws at *
    refine ⟨fun σ H' => σ = [some (.str z), some (.int k), some (.str kd), some (.str mid), some (.str rest), some (.ref W), none, none] ∧ H' = H2 ∧ ¬ (kd = "submit" ∧ ws.length = 2), ?_, ?_⟩
    · walk_at "rs"
      refine ite2 (fun c2 => ?_) (fun c2 => ?_)
      · have c2 : kd = "submit" := by simpa using c2
        walk_at "rs"
        refine ⟨W, _, rfl, .inl (SqL.of h2), ?_⟩
        rw [List.length_map]
        walk_at "rs"
        refine ite2 (fun c3 => ?_) (fun c3 => ?_)
        · have c3 : ws.length = 2 := by
            have := of_decide_eq_true c3
            have := V.int.inj this
            omega
          rw [if_pos ⟨c2, c3⟩] at kf kt
          match ws, c3 with
          | [w0, w1], _ =>
          have l0 := sw w0 List.mem_cons_self
          have l1 := sw w1 (List.mem_cons_of_mem _ List.mem_cons_self)
          walk_at "rs"
          refine ⟨W, _, _, _, rfl, rfl, SqL.of h2, rfl, ?_⟩
          walk_at "rs"
          refine ⟨w0, k, rfl, by omega, k0, k1, fun e0 => (kf (readC_no0 e0)).same (s1.trans s2), fun e0 H3 s3 => ?_⟩
          walk_at "rs"
          refine ⟨W, _, _, _, rfl, rfl, SqL.of (s3 _ _ h2), rfl, ?_⟩
          walk_at "rs"
          refine ⟨w1, k, rfl, by omega, k0, k1, fun e1 => (kf (readC_no1 e1)).same ((s1.trans s2).trans s3), fun cm ec l60 p H4 s4 hp => ?_⟩
          walk_at "rs"
          refine ⟨(by show 3 ≤ sizeLine; decide), fun t1 ht1 => ?_⟩
          have s5 := same_new (o := .tup [V.str kd, V.int (numV w0), V.ref p]) ht1
          refine kt (.sub (numV w0) cm) (readC_yes e0 ec l60) t1 _ ((((s1.trans s2).trans s3).trans s4).trans s5) ⟨p, ?_, s5 _ _ hp⟩
          rw [upd_same, c2]
        · walk_at "rs"
          intro q
          rw [q.2] at c3
          exact c3 rfl
      · have c2 : kd ≠ "submit" := by simpa using c2
        walk_at "rs"
        exact fun q => c2 q.1
    · rintro σ H' ⟨rfl, rfl, c2⟩
      rw [if_neg c2] at kf kt
      walk_at "rs"
      refine ⟨_, _, _, rfl, rfl, TE.tab_NUMBERED.has kd, ?_⟩
      refine ⟨_, rfl, ?_⟩
      have err := fun z => (kf z).same (s1.trans s2)
      cases en : nkL.lookup kd with
      | none =>
        have en2 : [(("deliver" : Str), (2 : Int)), ("timeout", 1), ("assist", 2), ("crash", 1)].lookup kd = none := en
        rw [en2]
        walk_at "rs"
        refine ⟨⟨k, rfl, k0, k1⟩, fun d hd => ?_⟩
        exact err (readN_no en) d _ (same_new hd) upd_same
      | some n =>
        have en2 : [(("deliver" : Str), (2 : Int)), ("timeout", 1), ("assist", 2), ("crash", 1)].lookup kd = some n := en
        rw [en2]
        walk_at "rs"
        refine ⟨W, _, rfl, .inl (SqL.of h2), ?_⟩
        rw [List.length_map]
        walk_at "rs"
        refine ⟨_, _, _, rfl, rfl, TE.tab_NUMBERED.get en2, ?_⟩
        walk_at "rs"
        refine ite2 (fun c3 => ?_) (fun c3 => ?_)
        · have c3 : (ws.length : Int) ≠ n := by simpa using c3
          walk_at "rs"
          refine ⟨⟨k, rfl, k0, k1⟩, fun d hd => ?_⟩
          exact err (readN_len en c3) d _ (same_new hd) upd_same
        have c3 : (ws.length : Int) = n := by simpa using c3
        have n2 := nk_len en
        walk_at "rs"
        refine ⟨⟨_, SqL.of h2⟩, fun D hD => ?_⟩
        refine lc_list (K := K) (a := W) (xs := ws.map V.str) (fun i H3 => Same H' H3 ∧ H3 D = some (.lst (((ws.take i).map numV).map V.int)) ∧ (ws.take i).all numB = true) ⟨same_new hD, by rw [upd_same]; simp, rfl⟩ (fun i H3 _ ⟨s3, _⟩ => SqL.of (s3 _ _ h2)) ?_ ?_
        · rintro i y H3 hy ⟨s3, hd, al⟩
          have hi : i < ws.length := by
            have := (List.getElem?_eq_some_iff.mp hy).1
            rwa [List.length_map] at this
          have ey : y = .str (ws.getD i "") := by
            rw [List.getElem?_map, List.getElem?_eq_getElem hi] at hy
            rw [List.getD_eq_getElem?_getD, List.getElem?_eq_getElem hi]
            exact (Option.some.inj hy).symm
          subst ey
          have mem : ws.getD i "" ∈ ws := getD_mem2 hi
          have lw1 := sw _ mem
          have et : ws.take (i + 1) = ws.take i ++ [ws.getD i ""] := take_succ_getD hi
          refine ⟨rfl, ?_⟩
          walk_at "rs"
          refine ⟨ws.getD i "", k, rfl, by omega, k0, k1, fun e0 => (err (readN_bad mem e0)).same s3, fun e0 H4 s4 => ?_⟩
          refine ⟨_, s4 _ _ hd, by rw [List.length_map, List.length_map, List.length_take]; exact small1000 (by omega), same_upd (s3.trans s4) hD, ?_, ?_⟩
          · rw [upd_same, et]
            simp
          · rw [et, List.all_append, al, List.all_cons, e0]
            rfl
        · rintro H3 ⟨s3, hd, al⟩
          rw [List.length_map, List.take_length] at hd al
          walk_at "rs"
          refine ⟨D, _, rfl, .inr (SqL.of hd), ?_⟩
          walk_at "rs"
          refine ⟨by rw [sizeLine_eq]; simp; omega, fun t1 ht1 => ?_⟩
          have s5 := same_new (o := .tup (V.str kd :: ((ws.map numV).map V.int ++ []))) ht1
          refine kt (.num kd (ws.map numV)) (readN_yes en c3 al) t1 _ (((s1.trans s2).trans s3).trans s5) ?_
          show upd H3 t1 _ t1 = _
          rw [upd_same]
          simp

theorem op_mulS {X : Cx} : OpR X (binaryOp .Mult) (fun x y H Q => ∃ (z : Str) (n : Int), x = .str z ∧ y = .int n ∧ MulOk z n ∧ Q (.str (Txt.mul z n)) H) := by
  intro pins s σ H x y v u Q I rx ry h
  obtain ⟨z, n, rfl, rfl, ok, q⟩ := h
  obtain ⟨t, rfl⟩ := rx
  obtain ⟨t', rfl⟩ := ry
  exact SB.mul ok fun t2 k => ⟨.str _, H, I.kept (t' := k) fun _ _ z => z, ⟨_, rfl⟩, q⟩
theorem in_joinL {S : List Nat} {c : Nat} {p : List Nat} : ∀ {parts : List (List Nat)}, p ∈ parts → c ∈ p → c ∈ TL.joinL S parts
  | [x], h, hc => by
    rw [List.mem_singleton.mp h] at hc
    exact hc
  | x :: z :: r, h, hc => by
    show c ∈ x ++ (S ++ TL.joinL S (z :: r))
    rcases List.mem_cons.mp h with rfl | h
    · exact List.mem_append_left _ hc
    · exact List.mem_append_right _ (List.mem_append_right _ (in_joinL h hc))
theorem strOk_all {x : Str} (h : PyData.strOk x = true) : ∀ c ∈ TL.tl x, c < 1114112 := fun c hc => by
  unfold PyData.strOk at h
  rw [← Array.all_toList] at h
  exact of_decide_eq_true (List.all_eq_true.mp h c hc)
theorem split_ok {line y : Str} (h : PyData.strOk line = true) : ∀ w ∈ Txt.split line y, PyData.strOk w = true := fun w hw => by
  refine strOk_of fun c hc => ?_
  have e := congrArg TL.tl (PySem.StrLaws.join_split line y)
  rw [TL.tl_join] at e
  refine strOk_all h c ?_
  rw [← e]
  exact in_joinL (List.mem_map.mpr ⟨w, hw, rfl⟩) hc
theorem sum_big {ys : List Str} (h : ∀ y ∈ ys, y.length ≤ 1000) : (ys.map (·.length)).sum ≤ 1000 * ys.length := by
  induction ys with
  | nil => simp
  | cons y ys ih =>
    have a1 := h y List.mem_cons_self
    have a2 := ih fun z hz => h z (List.mem_cons_of_mem _ hz)
    simp only [List.map_cons, List.sum_cons, List.length_cons]
    omega
/-- words that are short and few, joined -/
theorem joined {ys : List Str} (h : ∀ y ∈ ys, y.length ≤ 1000 ∧ PyData.strOk y = true) (n : ys.length ≤ 2000) :
    (ys.map (·.length)).sum + ys.length * (" " : Str).length ≤ 16777216 ∧ (Txt.join " " ys).length ≤ 10000000 ∧ PyData.strOk (Txt.join " " ys) = true := by
  have e : (" " : Str).length = 1 := by decide +kernel
  have s := sum_big fun y hy => (h y hy).1
  refine ⟨by rw [e]; omega, ?_, ?_⟩
  · rw [TL.join_eq]
    refine Nat.le_trans (join_len _ _) ?_
    rw [e]
    omega
  · rw [TL.join_eq]
    exact strOk_join (by decide +kernel) fun y hy => (h y hy).2
theorem strs_cat {xs ys : List Str} : xs.map V.str ++ ys.map V.str = (xs ++ ys).map V.str := (List.map_append ..).symm
theorem cutV_take' {xs : List Str} {i : Nat} : cutV (xs.map V.str) none (some (i : Int)) = (xs.take i).map V.str := by
  have e1 : HT.sIx (xs.map V.str).length (xs.map V.str).length (some (i : Int)) = min i (xs.map V.str).length := by
    show (if (i : Int) < 0 then ((i : Int) + ((xs.map V.str).length : Int)).toNat else min (i : Int).toNat (xs.map V.str).length) = _
    rw [if_neg (by omega), Int.toNat_natCast]
  unfold cutV
  rw [e1]
  show ((xs.map V.str).drop 0).take (min i (xs.map V.str).length - 0) = _
  rw [List.drop_zero, Nat.sub_zero, ← List.map_take]
  rcases Nat.le_total i xs.length with q | q
  · rw [List.length_map, Nat.min_eq_left q]
  · rw [List.length_map, Nat.min_eq_right q, List.take_of_length_le (Nat.le_refl _), List.take_of_length_le q]
theorem cutV_drop' {xs : List Str} {i : Nat} : cutV (xs.map V.str) (some (i : Int)) none = (xs.drop i).map V.str := by
  have e1 : HT.sIx (xs.map V.str).length 0 (some (i : Int)) = min i (xs.map V.str).length := by
    show (if (i : Int) < 0 then ((i : Int) + ((xs.map V.str).length : Int)).toNat else min (i : Int).toNat (xs.map V.str).length) = _
    rw [if_neg (by omega), Int.toNat_natCast]
  unfold cutV
  rw [e1]
  show ((xs.map V.str).drop (min i (xs.map V.str).length)).take ((xs.map V.str).length - min i (xs.map V.str).length) = _
  rw [← List.map_drop, ← List.map_take, List.length_map]
  rcases Nat.le_total i xs.length with q | q
  · rw [Nat.min_eq_left q, List.take_of_length_le (by rw [List.length_drop]; exact Nat.le_refl _)]
  · rw [Nat.min_eq_right q, List.drop_of_length_le (Nat.le_refl _), List.drop_of_length_le q, List.take_nil]


def spIsInt (K : PySem.W.Frag) : Sp := fun vs H Q _ => ∃ i : Int, vs = [.int i] ∧ Q (.bl true) H
def spStat3 (K : PySem.W.Frag) : Sp := fun vs H Q _ => ∃ (d h : Int), vs = [.int d, .int h] ∧ ∀ p m H', Same H H' → SmAt H' p m → (0 ≤ h → h < 1000000000 → GoodM m) → m.h = h → m.k ≠ .prop → m.t < 4 → Q (.ref p) H'
theorem ok_law_cell (T : Txt K mg a) : ∃ fd, FnOk P w K mg base CX0 1 a.d_law_cell fd ["script", "k"] (spCell K) ∧ Binds K fd ["script", "k"] [] := by
  obtain ⟨fd, F, b⟩ := T.d_law_cell.F
  refine ⟨fd, F.ok sc_law_cell (fun vs H Q E h => ?_) (fun cdv A outer s H vs Q E hr h => ?_), b⟩
  · obtain ⟨a, ns, k, rfl, _⟩ := h
    rfl
  · obtain ⟨l, ns, k, rfl, hS, hl, hk, q⟩ := h
    refine ⟨_, (pss_cons (ps_if (pt_cmpR op_lt (pv 1) (pe_callB call_len_seq (by rfl) T.n_len PySem.boot_len (pa_cons (pv 0) pa_nil)) (nomark _))
      (pss_one (ps_ret (pe_ix ix_list (pv 0) (pv 1) (fun _ _ => rfl))))
      pss_nil)
      (pss_one (ps_ret pe_int))), ?_⟩
    refine ⟨_, rfl, _, rfl, l, _, rfl, .inl hS, _, _, rfl, rfl, _, rfl, ?_⟩
    refine ite2 (fun hlt => ?_) (fun hge => ?_)
    · have hlt : k < ((ns.map V.int).length : Int) := of_decide_eq_true hlt
      rw [List.length_map] at hlt
      have hj : k.toNat < ns.length := by omega
      have e : ns.getD k.toNat 0 = ns[k.toNat] := by rw [List.getD_eq_getElem?_getD, List.getElem?_eq_getElem hj]; rfl
      rw [e] at q
      refine ⟨_, rfl, _, rfl, l, _, k, .int ns[k.toNat], rfl, rfl, hS, at_of (j := k.toNat) (by omega) (by rw [List.getElem?_map, List.getElem?_eq_getElem hj]; rfl), q⟩
    · have hge : ¬ k < ((ns.map V.int).length : Int) := fun e => hge (decide_eq_true e)
      rw [List.length_map] at hge
      have e : ns.getD k.toNat 0 = 0 := by rw [List.getD_eq_getElem?_getD, List.getElem?_eq_none (by omega)]; rfl
      rw [e] at q
      exact q

theorem ok_law_is_integer (T : Txt K mg a) : ∃ fd, FnOk P w K mg base CX0 1 a.d_law_is_integer fd ["actual"] (spIsInt K) ∧ Binds K fd ["actual"] [] := by
  obtain ⟨fd, F, b⟩ := T.d_law_is_integer.F
  refine ⟨fd, F.ok sc_law_is_integer (fun vs H Q E h => ?_) (fun cdv A outer s H vs Q E hr h => ?_), b⟩
  · obtain ⟨_, rfl, _⟩ := h
    rfl
  · obtain ⟨i, rfl, k⟩ := h
    refine ⟨_, (pss_one (ps_ret (pe_and (pe_callB call_isi (by rfl) T.n_isinstance (by decide +kernel) (pa_cons (pv 0) (pa_cons (pe_bltn (v := .ty "int") (u := .type "int") (by rfl) T.n_int (by decide +kernel) rfl) pa_nil))) (pe_one (pe_not (pe_callB call_isi (by rfl) T.n_isinstance (by decide +kernel) (pa_cons (pv 0) (pa_cons (pe_bltn (v := .ty "bool") (u := .type "bool") (by rfl) T.n_bool (by decide +kernel) rfl) pa_nil)))))))), ?_⟩
    walk_at "rs"
    refine ⟨_, _, .type "int", .type "int", true, rfl, .ty _, .base (.int _), kit_ty (by decide +kernel), ?_⟩
    walk_at "rs"
    refine ⟨_, _, .type "int", .type "bool", false, rfl, .ty _, .base (.int _), kit_ty (by decide +kernel), ?_⟩
    walk_at "rs"
    exact k

theorem ok_law_row (T : Txt K mg a) : ∃ fd, FnOk P w K mg base CX0 1 a.d_law_row fd ["cell", "count", "size"] (spRow K) ∧ Binds K fd ["cell", "count", "size"] [] := by
  obtain ⟨fd, F, b⟩ := T.d_law_row.F
  refine ⟨fd, F.ok sc_law_row (fun vs H Q E h => ?_) (fun cdv A outer s H vs Q E hr h => ?_), b⟩
  · obtain ⟨_, _, _, rfl, _⟩ := h
    rfl
  · obtain ⟨cell, count, size, rfl, c0, c1, z0, z1, k⟩ := h
    refine ⟨_, (pss_cons (ps_set (i := 3) sc_law_row.nd rfl (Or.inl rfl) (pv 0))
      (pss_cons (ps_set (i := 4) sc_law_row.nd rfl (Or.inl rfl) (pe_lst pa_nil))
      (pss_cons (ps_for PassesOwn.never rfl (pi_range1 rfl T.n_range (pa_cons (pv 1) pa_nil)) (pg_name (i := 5) sc_law_row.nd rfl (Or.inl rfl))
      (pss_one (ps_if (pt_cmpR op_ge (pv 0) (pe_op op_pow pe_int pe_int) (nomark _))
        (pss_cons (ps_expr (pe_bm PySem.F.plainAttrs_list PySem.F.slot_list_append PySem.F.type_list_append mt_append (pv 4) (pa_cons (pe_op op_mod (pe_callTy call_int1 (by rfl) T.n_int (by decide +kernel) (pa_cons (pv 3) pa_nil)) (pv 2)) pa_nil)))
          (pss_one (ps_set (i := 3) sc_law_row.nd rfl (Or.inl rfl) (pe_op op_fdivN (pv 3) (pv 2)))))
        (pss_cons (ps_set (i := 3) sc_law_row.nd rfl (Or.inl rfl) (pe_op op_mod (pe_callTy call_int1 (by rfl) T.n_int (by decide +kernel) (pa_cons (pe_op op_add (pe_op op_mul (pv 3) pe_int) pe_int) pa_nil)) pe_int))
          (pss_one (ps_expr (pe_bm PySem.F.plainAttrs_list PySem.F.slot_list_append PySem.F.type_list_append mt_append (pv 4) (pa_cons (pe_op op_mod (pe_op op_mod (pe_callTy call_int1 (by rfl) T.n_int (by decide +kernel) (pa_cons (pe_op op_add (pe_op op_mul (pv 3) pe_int) (pe_op op_mul (pv 5) pe_int)) pa_nil)) pe_int) (pv 2)) pa_nil))))))))
      (pss_one (ps_ret (pv 4)))))), ?_⟩
    walk_at "rs"
    refine ⟨(by show 0 ≤ sizeLine; decide), fun p hp => ?_⟩
    walk_at "rs"
    refine ⟨(by show -(2 ^ 62 : Int) ≤ _; omega), (by show _ < (2 ^ 62 : Int); omega), ?_⟩
    refine for_range (lo := 0) (n := count.toNat) (fun i σ H2 => ∃ (st : Int) (row : List Int) (v5 : Option V), σ = [some (.int cell), some (.int count), some (.int size), some (.int st), some (.ref p), v5] ∧ Same H H2 ∧
      H2 p = some (.lst (row.map V.int)) ∧ row.length = i ∧ ∀ x ∈ row, 0 ≤ x ∧ x < size) ⟨_, [], _, rfl, same_new hp, upd_same, rfl, fun x hx => nomatch hx⟩ ?_ ?_
    · rintro i σ H2 hi ⟨st, row, v5, rfl, s2, hrow, hlen, hb⟩
      have fit : (row.map V.int).length < sizeLine := by
        rw [List.length_map]
        exact small1000 (by omega)
      have grow : ∀ z : Int, 0 ≤ z → z < size → ∀ x ∈ row ++ [z], 0 ≤ x ∧ x < size := fun z h0 h1 x hx => by
        rcases List.mem_append.mp hx with hx | hx
        · exact hb x hx
        · rw [List.mem_singleton.mp hx]
          exact ⟨h0, h1⟩
      walk_at "rs"
      refine ite2 (fun c1 => ?_) (fun c1 => ?_)
      · walk_at "rs"
        refine ⟨.inl ⟨rfl, _, SqL.of hrow⟩, ?_⟩
        walk_at "rs"
        refine ⟨p, _, _, rfl, rfl, hrow, fit, ?_⟩
        walk_at "rs"
        refine ⟨(show CDivN _ _ from ⟨by omega, by omega⟩), ?_⟩
        exact ⟨_, row ++ [st % size], _, rfl, same_upd s2 hp, by rw [upd_same]; simp, by simp [hlen], grow _ (Int.emod_nonneg _ (by omega)) (Int.emod_lt_of_pos _ z0)⟩
      · walk_at "rs"
        refine ⟨.inl ⟨rfl, _, SqL.of hrow⟩, ?_⟩
        walk_at "rs"
        refine ⟨p, _, _, rfl, rfl, hrow, fit, ?_⟩
        exact ⟨_, row ++ [((st * 48271 + 12345) % 2147483647 * 69621 + (i : Int) * 7919) % 2147483647 % size], _, rfl, same_upd s2 hp, by rw [upd_same]; simp, by simp [hlen], grow _ (Int.emod_nonneg _ (by omega)) (Int.emod_lt_of_pos _ z0)⟩
    · rintro σ H2 ⟨st, row, v5, rfl, s2, hrow, hlen, hb⟩
      walk_at "rs"
      exact k p row H2 s2 hrow hlen hb hp

theorem pick5c {i : Int} (h0 : 0 ≤ i) (h5 : i < 5) : ∃ b : Option Str, atI [V.str "a", V.str "b", V.str "a", V.str "b", V.non] i = some (oS b) ∧ ∀ x, b = some x → blkB x = true := by
  have ha : ∀ x : Str, some ("a" : Str) = some x → blkB x = true := fun x e => by cases e; decide +kernel
  have hb : ∀ x : Str, some ("b" : Str) = some x → blkB x = true := fun x e => by cases e; decide +kernel
  have h : i = 0 ∨ i = 1 ∨ i = 2 ∨ i = 3 ∨ i = 4 := by omega
  rcases h with rfl | rfl | rfl | rfl | rfl
  · exact ⟨some "a", rfl, ha⟩
  · exact ⟨some "b", rfl, hb⟩
  · exact ⟨some "a", rfl, ha⟩
  · exact ⟨some "b", rfl, hb⟩
  · exact ⟨none, rfl, fun x e => nomatch e⟩
theorem ok_law_statement (T : Txt K mg a) : ∃ fd, FnOk P w K mg base CX0 1 a.d_law_statement fd ["digit", "height"] (spStat3 K) ∧ Binds K fd ["digit", "height"] [] := by
  obtain ⟨fd, F, b⟩ := T.d_law_statement.F
  refine ⟨fd, F.ok sc_law_statement (fun vs H Q E h => ?_) (fun cdv A outer s H vs Q E hr h => ?_), b⟩
  · obtain ⟨_, _, rfl, _⟩ := h
    rfl
  · obtain ⟨d, ht, rfl, k⟩ := h
    refine ⟨_, (pss_cons (ps_set (i := 2) sc_law_statement.nd rfl (Or.inl rfl) (pe_ix ix_tup (pe_tup (pa_cons pe_str (pa_cons pe_str (pa_cons pe_str (pa_cons pe_str (pa_cons pe_non pa_nil)))))) (pe_op op_mod (pe_callTy call_int1 (by rfl) T.n_int (by decide +kernel) (pa_cons (pv 0) pa_nil)) pe_int) (fun _ _ => rfl)))
      (pss_cons (ps_set (i := 3) sc_law_statement.nd rfl (Or.inl rfl) (pe_op op_mod (pe_op op_fdiv (pv 0) pe_int) pe_int))
      (pss_cons (ps_if (pt_cmpR op_eq (pe_op op_mod (pe_op op_fdiv (pv 0) pe_int) pe_int) pe_int (nomark _))
      (pss_one (ps_ret (pe_tup (pa_cons pe_str (pa_cons (pv 1) (pa_cons (pv 3) (pa_cons (pv 2) pa_nil)))))))
      pss_nil)
      (pss_cons (ps_set (i := 4) sc_law_statement.nd rfl (Or.inl rfl) pe_non)
      (pss_cons (ps_if (PW.pt (pw_and (pt_cmpR op_notN (pv 2) pe_non (nomark _)) (pw_and (pt_cmpR op_gt (pv 3) pe_int (nomark _)) (pw_and1 (pt_cmpR op_eq (pe_op op_mod (pe_op op_fdiv (pv 0) pe_int) pe_int) pe_int (nomark _))))))
      (pss_one (ps_set (i := 4) sc_law_statement.nd rfl (Or.inl rfl) (pe_op op_mod (pe_op op_fdiv (pv 0) pe_int) (pv 3))))
      pss_nil)
      (pss_one (ps_ret (pe_tup (pa_cons pe_str (pa_cons (pv 1) (pa_cons (pv 3) (pa_cons (pv 2) (pa_cons (pv 4) pa_nil))))))))))))), ?_⟩
    walk_at "rs"
    refine ⟨(by show 5 ≤ sizeLine; decide), fun p1 hp1 => ?_⟩
    obtain ⟨b1, hb1, lb1⟩ := pick5c (i := d % 5) (Int.emod_nonneg _ (by decide)) (Int.emod_lt_of_pos _ (by decide))
    have s1 : Same H (upd H p1 (.tup [V.str "a", V.str "b", V.str "a", V.str "b", V.non])) := same_new hp1
    have t0 : 0 ≤ d / 5 % 4 := Int.emod_nonneg _ (by decide)
    have t4 : d / 5 % 4 < 4 := Int.emod_lt_of_pos _ (by decide)
    walk_at "rs"
    refine ⟨p1, _, _, _, rfl, rfl, SqT.of upd_same, hb1, ?_⟩
    walk_at "rs"
    refine ite2 (fun c1 => ?_) (fun c1 => ?_)
    · walk_at "rs"
      refine ⟨(by show 4 ≤ sizeLine; decide), fun q hq => ?_⟩
      exact k q ⟨.com, _, _, b1, none⟩ _ (s1.trans (same_new hq)) upd_same (fun h0 h1 => ⟨h0, h1, t0, Int.lt_trans t4 (by decide), lb1, fun z => (nomatch z), fun x e => (nomatch e), fun _ => rfl⟩) rfl (fun z => nomatch z) t4
    walk_at "rs"
    refine ite2 (fun c2 => ?_) (fun c2 => ?_)
    · walk_at "rs"
      refine ite2 (fun c3 => ?_) (fun c3 => ?_)
      · have c3' := of_decide_eq_true c3
        walk_at "rs"
        refine ite2 (fun c4 => ?_) (fun c4 => ?_)
        · walk_at "rs"
          refine ⟨(by show 5 ≤ sizeLine; decide), fun q hq => ?_⟩
          refine k q ⟨.pre, _, _, b1, some _⟩ _ (s1.trans (same_new hq)) upd_same (fun h0 h1 => ⟨h0, h1, t0, Int.lt_trans t4 (by decide), lb1, fun z => (nomatch z), fun l e => ?_, fun z => absurd rfl z⟩) rfl (fun z => nomatch z) t4
          have e : d / 80 % (d / 5 % 4) = l := by injection e
          rw [← e]
          have g0 : 0 ≤ d / 80 % (d / 5 % 4) := Int.emod_nonneg _ (by omega)
          have g1 : d / 80 % (d / 5 % 4) < d / 5 % 4 := Int.emod_lt_of_pos _ (by omega)
          exact ⟨g0, g1⟩
        · walk_at "rs"
          refine ⟨(by show 5 ≤ sizeLine; decide), fun q hq => ?_⟩
          exact k q ⟨.pre, _, _, b1, none⟩ _ (s1.trans (same_new hq)) upd_same (fun h0 h1 => ⟨h0, h1, t0, Int.lt_trans t4 (by decide), lb1, fun z => (nomatch z), fun x e => (nomatch e), fun _ => rfl⟩) rfl (fun z => nomatch z) t4
      · walk_at "rs"
        refine ⟨(by show 5 ≤ sizeLine; decide), fun q hq => ?_⟩
        exact k q ⟨.pre, _, _, b1, none⟩ _ (s1.trans (same_new hq)) upd_same (fun h0 h1 => ⟨h0, h1, t0, Int.lt_trans t4 (by decide), lb1, fun z => (nomatch z), fun x e => (nomatch e), fun _ => rfl⟩) rfl (fun z => nomatch z) t4
    · walk_at "rs"
      refine ⟨(by show 5 ≤ sizeLine; decide), fun q hq => ?_⟩
      exact k q ⟨.pre, _, _, b1, none⟩ _ (s1.trans (same_new hq)) upd_same (fun h0 h1 => ⟨h0, h1, t0, Int.lt_trans t4 (by decide), lb1, fun z => (nomatch z), fun x e => (nomatch e), fun _ => rfl⟩) rfl (fun z => nomatch z) t4

theorem ok_law_number (T : Txt K mg a) : ∃ fd, FnOk P w K mg base CX0 1 a.d_law_number fd ["cell"] spNumber ∧ Binds K fd ["cell"] [] := by
  obtain ⟨fd, F, b⟩ := T.d_law_number.F
  refine ⟨fd, F.ok sc_law_number (fun vs H Q E h => ?_) (fun cdv A outer s H vs Q E hr h => ?_), b⟩
  · obtain ⟨_, rfl, _⟩ := h
    rfl
  · obtain ⟨c, rfl, k⟩ := h
    refine ⟨_, (pss_cons (ps_if (pt_cmpR op_eq (pe_op op_mod (pe_callTy call_int1 (by rfl) T.n_int (by decide +kernel) (pa_cons (pv 0) pa_nil)) pe_int) pe_int (nomark _))
      (pss_one (ps_ret (pe_op op_mod (pe_op op_fdiv (pv 0) pe_int) pe_int)))
      pss_nil)
      (pss_cons (ps_if (pt_cmpR op_eq (pe_op op_mod (pe_callTy call_int1 (by rfl) T.n_int (by decide +kernel) (pa_cons (pv 0) pa_nil)) pe_int) pe_int (nomark _))
      (pss_one (ps_ret (pe_op op_mod (pe_op op_fdiv (pv 0) pe_int) pe_int)))
      pss_nil)
      (pss_one (ps_ret (pe_op op_mod (pe_op op_fdiv (pv 0) pe_int) pe_int))))), ?_⟩
    have b1 := Int.emod_nonneg (c / 3) (show (6 : Int) ≠ 0 by decide)
    have b2 := Int.emod_lt_of_pos (c / 3) (show (0 : Int) < 6 by decide)
    have b3 := Int.emod_nonneg (c / 3) (show (1000 : Int) ≠ 0 by decide)
    have b4 := Int.emod_lt_of_pos (c / 3) (show (0 : Int) < 1000 by decide)
    have b5 := Int.emod_nonneg (c / 3) (show (1000000 : Int) ≠ 0 by decide)
    have b6 := Int.emod_lt_of_pos (c / 3) (show (0 : Int) < 1000000 by decide)
    walk_at "rs"
    refine ite2 (fun c1 => ?_) (fun c1 => ?_)
    · walk_at "rs"
      exact k _ ⟨b1, by omega⟩
    · walk_at "rs"
      refine ite2 (fun c1 => ?_) (fun c1 => ?_)
      · walk_at "rs"
        exact k _ ⟨b3, by omega⟩
      · walk_at "rs"
        exact k _ ⟨b5, by omega⟩
theorem ok_law_place (T : Txt K mg a) : ∃ fd, FnOk P w K mg base CX0 1 a.d_law_place fd ["cell"] spPlace ∧ Binds K fd ["cell"] [] := by
  obtain ⟨fd, F, b⟩ := T.d_law_place.F
  refine ⟨fd, F.ok sc_law_place (fun vs H Q E h => ?_) (fun cdv A outer s H vs Q E hr h => ?_), b⟩
  · obtain ⟨_, rfl, _⟩ := h
    rfl
  · obtain ⟨c, rfl, k⟩ := h
    refine ⟨_, (pss_cons (ps_if (pt_cmpR op_eq (pe_op op_mod (pe_op op_fdiv (pe_callTy call_int1 (by rfl) T.n_int (by decide +kernel) (pa_cons (pv 0) pa_nil)) pe_int) pe_int) pe_int (nomark _))
      (pss_one (ps_ret (pe_op op_add pe_int (pe_op op_mod (pe_op op_fdiv (pe_callTy call_int1 (by rfl) T.n_int (by decide +kernel) (pa_cons (pv 0) pa_nil)) pe_int) pe_int))))
      pss_nil)
      (pss_one (ps_ret (pe_op op_mod (pe_callTy call_int1 (by rfl) T.n_int (by decide +kernel) (pa_cons (pv 0) pa_nil)) pe_int)))), ?_⟩
    have b1 := Int.emod_nonneg c (show (6 : Int) ≠ 0 by decide)
    have b2 := Int.emod_lt_of_pos c (show (0 : Int) < 6 by decide)
    have b3 := Int.emod_nonneg (c / 30) (show (994 : Int) ≠ 0 by decide)
    have b4 := Int.emod_lt_of_pos (c / 30) (show (0 : Int) < 994 by decide)
    walk_at "rs"
    refine ite2 (fun c1 => ?_) (fun c1 => ?_)
    · walk_at "rs"
      exact k _ ⟨by omega, by omega⟩
    · walk_at "rs"
      exact k _ ⟨b1, by omega⟩
theorem sgn_ok : ∀ i : Fin 27, (TL.tl "0123456789gginasmtcehlujfyo").getD i.val 0 ∈ TL.tl "0123456789ginasmtcehlujfyo" := by decide +kernel
theorem sgn_len : (TL.tl "0123456789gginasmtcehlujfyo").length = 27 := by decide +kernel
theorem at_sign {l : List Nat} {i : Int} (h0 : 0 ≤ i) (h1 : i < l.length) : atI l i = some (l.getD i.toNat 0) := by
  have e : i = (i.toNat : Int) := by omega
  rw [e]
  refine atI_nat ?_
  rw [Int.toNat_natCast, List.getD_eq_getElem?_getD, List.getElem?_eq_getElem (by omega)]
  rfl
theorem ones_sum : ∀ {ys : List Str}, (∀ y ∈ ys, y.length = 1) → (ys.map fun x => x.length).sum = ys.length
  | [], _ => rfl
  | y :: ys, h => by
    rw [List.map_cons, List.sum_cons, ones_sum fun z hz => h z (List.mem_cons_of_mem _ hz), h y List.mem_cons_self, List.length_cons]
    omega
theorem join_sgn : ∀ {ys : List Str}, (∀ y ∈ ys, Sgn y) → ∀ n ∈ TL.joinL (TL.tl "") (ys.map TL.tl), n ∈ TL.tl "0123456789ginasmtcehlujfyo"
  | [], _, n, hn => by cases hn
  | [y], h, n, hn => h y List.mem_cons_self n hn
  | y :: z :: r, h, n, hn => by
    have hn : n ∈ TL.tl y ++ ([] ++ TL.joinL (TL.tl "") ((z :: r).map TL.tl)) := hn
    rw [List.nil_append] at hn
    rcases List.mem_append.mp hn with hn | hn
    · exact h y List.mem_cons_self n hn
    · exact join_sgn (fun u hu => h u (List.mem_cons_of_mem _ hu)) n hn
theorem ok_law_code (T : Txt K mg a) : ∃ fd, FnOk P w K mg base CX0 2 a.d_law_code fd ["cell"] spCode ∧ Binds K fd ["cell"] [] := by
  obtain ⟨fd, F, b⟩ := T.d_law_code.F
  obtain ⟨fd_law_row, G_law_row, b_law_row⟩ := ok_law_row (P := P) (w := w) (base := base) T
  refine ⟨fd, F.ok sc_law_code (fun vs H Q E h => ?_) (fun cdv A outer s H vs Q E hr h => ?_), b⟩
  · obtain ⟨_, rfl, _⟩ := h
    rfl
  · obtain ⟨c, rfl, k⟩ := h
    refine ⟨_, (pss_cons (ps_set (i := 1) sc_law_code.nd rfl (Or.inr rfl) pe_str)
      (pss_cons (ps_set (i := 2) sc_law_code.nd rfl (Or.inl rfl) (pe_call G_law_row (hr.mono (by decide)) rfl T.d_law_row.g T.d_law_row.kp b_law_row .nil pass0 (pa_cons (pe_op op_fdiv (pv 0) pe_int) (pa_cons (pe_op op_mod (pe_callTy call_int1 (by rfl) T.n_int (by decide +kernel) (pa_cons (pv 0) pa_nil)) pe_int) (pa_cons pe_int pa_nil)))))
      (pss_one (ps_ret (pe_join pe_str (pe_lc (own := [("digit", 3)]) (g := (gName 3)) (tt := tYes) rfl sc_law_code.nd (pi_list (pv 2)) (blkOk_by (own := [("digit", 3)]) (N := sc_law_code_N) (sc := defScope s_law_code) (by decide +kernel)) (fun _ _ _ _ _ => (pg_name (i := 3) sc_law_code.nd rfl (Or.inl rfl))) (fun _ _ _ _ _ => pts_nil) (fun _ _ _ _ _ => (pe_ix ix_str (pv 1) (pv 3) (fun _ _ => rfl))))))))), ?_⟩
    have b1 := Int.emod_nonneg c (show (13 : Int) ≠ 0 by decide)
    have b2 := Int.emod_lt_of_pos c (show (0 : Int) < 13 by decide)
    walk_at "rs"
    refine ⟨_, _, _, rfl, b1, by omega, by decide, by decide, fun D row H1 s1 hD lrow hrow _ => ?_⟩
    refine ⟨⟨_, rfl⟩, ?_⟩
    walk_at "rs"
    refine ⟨⟨_, SqL.of hD⟩, fun D2 hD2 => ?_⟩
    have lr : row.length ≤ 12 := by rw [lrow]; omega
    refine lc_list (K := K) (a := D) (xs := row.map V.int) (fun i H2 => Same H1 H2 ∧ ∃ ys : List Str, H2 D2 = some (.lst (ys.map V.str)) ∧ ys.length = i ∧ (∀ y ∈ ys, y.length = 1) ∧ ∀ y ∈ ys, Sgn y) ⟨same_new hD2, [], upd_same, rfl, fun y hy => absurd hy List.not_mem_nil, fun y hy => absurd hy List.not_mem_nil⟩ (fun i H2 _ ⟨s2, _⟩ => SqL.of (s2 _ _ hD)) ?_ ?_
    · rintro i y H2 hy ⟨s2, ys, hd, ly, l1, sg⟩
      have hi : i < row.length := by
        have e := (List.getElem?_eq_some_iff.mp hy).1
        rwa [List.length_map] at e
      rw [at_ints hi] at hy
      cases hy
      have hz := hrow _ (getD_mem hi)
      refine ⟨rfl, ?_⟩
      walk_at "rs"
      refine ⟨_, _, _, rfl, rfl, (by rw [sizeLine_eq]; decide +kernel), at_sign (l := TL.tl "0123456789gginasmtcehlujfyo") hz.1 (by rw [sgn_len]; omega), ?_⟩
      have hs := sgn_ok ⟨(row.getD i 0).toNat, by omega⟩
      refine ⟨_, hd, by rw [List.length_map]; exact small1000 (by omega), same_upd s2 hD2, ys ++ [⟨#[(TL.tl "0123456789gginasmtcehlujfyo").getD (row.getD i 0).toNat 0]⟩], by rw [upd_same, List.map_append]; rfl, by rw [List.length_append, ly]; rfl, fun y hy => ?_, fun y hy => ?_⟩
      · rcases List.mem_append.mp hy with hy | hy
        · exact l1 y hy
        · rw [List.mem_singleton.mp hy]
          rfl
      · rcases List.mem_append.mp hy with hy | hy
        · exact sg y hy
        · rw [List.mem_singleton.mp hy]
          intro n hn
          rw [TL.tl_mk, List.mem_singleton] at hn
          rw [hn]
          exact hs
    · rintro H2 ⟨s2, ys, hd, ly, l1, sg⟩
      walk_at "rs"
      refine ⟨_, _, ys, rfl, rfl, .inl (SqL.of hd), ?_, ?_⟩
      · have e : (ys.map fun x => x.length).sum = ys.length := ones_sum l1
        rw [List.length_map] at ly
        have l0 : ("" : Str).length = 0 := rfl
        rw [e, l0]
        omega
      · have e : (ys.map fun x => x.length).sum = ys.length := ones_sum l1
        rw [List.length_map] at ly
        refine k _ H2 (s1.trans s2) ?_ ?_
        · rw [TL.join_eq, join_nil_len, e]
          omega
        · intro n hn
          rw [TL.join_eq, TL.tl_join] at hn
          exact join_sgn sg n hn
theorem ok_law_command (T : Txt K mg a) : ∃ fd, FnOk P w K mg base CX0 3 a.d_law_command fd ["cell", "more"] spMake ∧ Binds K fd ["cell", "more"] [] := by
  obtain ⟨fd, F, b⟩ := T.d_law_command.F
  obtain ⟨fd_law_place, G_law_place, b_law_place⟩ := ok_law_place (P := P) (w := w) (base := base) T
  obtain ⟨fd_law_number, G_law_number, b_law_number⟩ := ok_law_number (P := P) (w := w) (base := base) T
  obtain ⟨fd_law_code, G_law_code, b_law_code⟩ := ok_law_code (P := P) (w := w) (base := base) T
  refine ⟨fd, F.ok sc_law_command (fun vs H Q E h => ?_) (fun cdv A outer s H vs Q E hr h => ?_), b⟩
  · obtain ⟨_, _, rfl, _⟩ := h
    rfl
  · obtain ⟨c, m, rfl, k⟩ := h
    refine ⟨_, (pss_cons (ps_set (i := 2) sc_law_command.nd rfl (Or.inl rfl) (pe_call G_law_place (hr.mono (by decide)) rfl T.d_law_place.g T.d_law_place.kp b_law_place .nil pass0 (pa_cons (pe_op op_fdiv (pv 0) pe_int) pa_nil)))
      (pss_cons (ps_if (pt_cmpR op_eq (pe_op op_mod (pe_callTy call_int1 (by rfl) T.n_int (by decide +kernel) (pa_cons (pv 0) pa_nil)) pe_int) pe_int (nomark _))
      (pss_one (ps_ret (pe_tup (pa_cons pe_str (pa_cons (pv 2) (pa_cons (pe_op op_mod (pe_callTy call_int1 (by rfl) T.n_int (by decide +kernel) (pa_cons (pv 1) pa_nil)) pe_int) pa_nil))))))
      pss_nil)
      (pss_cons (ps_if (pt_cmpR op_eq (pe_op op_mod (pe_callTy call_int1 (by rfl) T.n_int (by decide +kernel) (pa_cons (pv 0) pa_nil)) pe_int) pe_int (nomark _))
      (pss_one (ps_ret (pe_tup (pa_cons pe_str (pa_cons (pv 2) (pa_cons (pe_call G_law_code (hr.mono (by decide)) rfl T.d_law_code.g T.d_law_code.kp b_law_code .nil pass0 (pa_cons (pv 1) pa_nil)) pa_nil))))))
      pss_nil)
      (pss_cons (ps_if (pt_cmpR op_eq (pe_op op_mod (pe_callTy call_int1 (by rfl) T.n_int (by decide +kernel) (pa_cons (pv 0) pa_nil)) pe_int) pe_int (nomark _))
      (pss_one (ps_ret (pe_tup (pa_cons pe_str (pa_cons (pv 2) (pa_cons (pe_call G_law_place (hr.mono (by decide)) rfl T.d_law_place.g T.d_law_place.kp b_law_place .nil pass0 (pa_cons (pe_op op_fdiv (pv 0) pe_int) pa_nil)) (pa_cons (pe_call G_law_number (hr.mono (by decide)) rfl T.d_law_number.g T.d_law_number.kp b_law_number .nil pass0 (pa_cons (pv 1) pa_nil)) pa_nil)))))))
      pss_nil)
      (pss_one (ps_ret (pe_tup (pa_cons pe_str (pa_cons (pv 2) (pa_cons (pe_call G_law_place (hr.mono (by decide)) rfl T.d_law_place.g T.d_law_place.kp b_law_place .nil pass0 (pa_cons (pe_op op_fdiv (pv 0) pe_int) pa_nil)) (pa_cons (pe_call G_law_number (hr.mono (by decide)) rfl T.d_law_number.g T.d_law_number.kp b_law_number .nil pass0 (pa_cons (pv 1) pa_nil)) pa_nil))))))))))), ?_⟩
    have b1 := Int.emod_nonneg m (show (10 : Int) ≠ 0 by decide)
    have b2 := Int.emod_lt_of_pos m (show (0 : Int) < 10 by decide)
    walk_at "rs"
    intro one ho
    walk_at "rs"
    refine ite2 (fun c1 => ?_) (fun c1 => ?_)
    · walk_at "rs"
      refine ⟨(by show 3 ≤ sizeLine; decide), fun p hp => ?_⟩
      exact k p (.w one (m % 10)) _ (same_new hp) hp upd_same ⟨ho, b1, by omega⟩
    · walk_at "rs"
      refine ite2 (fun c2 => ?_) (fun c2 => ?_)
      · walk_at "rs"
        intro z H1 s1 lz sz
        walk_at "rs"
        refine ⟨(by show 3 ≤ sizeLine; decide), fun p hp => ?_⟩
        have hpH : H p = none := by
          cases e : H p with
          | none => rfl
          | some o => rw [s1 _ _ e] at hp; cases hp
        exact k p (.d one z) _ (same_upd s1 hpH) hpH upd_same ⟨ho, lz, sz⟩
      · walk_at "rs"
        refine ite2 (fun c3 => ?_) (fun c3 => ?_)
        · walk_at "rs"
          intro two ht
          walk_at "rs"
          intro n hn
          walk_at "rs"
          refine ⟨(by show 4 ≤ sizeLine; decide), fun p hp => ?_⟩
          exact k p (.k one two n) _ (same_new hp) hp upd_same ⟨ho, ht, hn⟩
        · walk_at "rs"
          intro two ht
          walk_at "rs"
          intro n hn
          walk_at "rs"
          refine ⟨(by show 4 ≤ sizeLine; decide), fun p hp => ?_⟩
          exact k p (.p one two n) _ (same_new hp) hp upd_same ⟨ho, ht, hn⟩
theorem ok_law_text (T : Txt K mg a) : ∃ fd, FnOk P w K mg base CX0 1 a.d_law_text fd ["command"] (spText K) ∧ Binds K fd ["command"] [] := by
  obtain ⟨fd, F, b⟩ := T.d_law_text.F
  refine ⟨fd, F.ok sc_law_text (fun vs H Q E h => ?_) (fun cdv A outer s H vs Q E hr h => ?_), b⟩
  · obtain ⟨_, _, rfl, _⟩ := h
    rfl
  · obtain ⟨p, c, rfl, hp, ok, k⟩ := h
    refine ⟨_, (pss_cons (ps_if (pt_cmpR op_eq (pe_ix ix_tup (pv 0) pe_int (fun _ _ => rfl)) pe_str (nomark _))
      (pss_one (ps_ret (pe_op op_add_str (pe_op op_add_str (pe_op op_add_str (pe_op op_add_str (pe_op op_add_str pe_str (pe_callTy cr_strA (by rfl) T.n_str (by decide +kernel) (pa_cons (pe_ix ix_tup (pv 0) pe_int (fun _ _ => rfl)) pa_nil))) pe_str) (pe_callTy cr_strA (by rfl) T.n_str (by decide +kernel) (pa_cons (pe_ix ix_tup (pv 0) pe_int (fun _ _ => rfl)) pa_nil))) pe_str) (pe_callTy cr_strA (by rfl) T.n_str (by decide +kernel) (pa_cons (pe_ix ix_tup (pv 0) pe_int (fun _ _ => rfl)) pa_nil)))))
      pss_nil)
      (pss_cons (ps_if (pt_cmpR op_eq (pe_ix ix_tup (pv 0) pe_int (fun _ _ => rfl)) pe_str (nomark _))
      (pss_one (ps_ret (pe_op op_add_str (pe_op op_add_str (pe_op op_add_str pe_str (pe_callTy cr_strA (by rfl) T.n_str (by decide +kernel) (pa_cons (pe_ix ix_tup (pv 0) pe_int (fun _ _ => rfl)) pa_nil))) pe_str) (pe_callTy cr_strA (by rfl) T.n_str (by decide +kernel) (pa_cons (pe_ix ix_tup (pv 0) pe_int (fun _ _ => rfl)) pa_nil)))))
      pss_nil)
      (pss_cons (ps_if (pt_cmpR op_eq (pe_ix ix_tup (pv 0) pe_int (fun _ _ => rfl)) pe_str (nomark _))
      (pss_one (ps_ret (pe_op op_add_str (pe_op op_add_str (pe_op op_add_str (pe_op op_add_str (pe_op op_add_str pe_str (pe_callTy cr_strA (by rfl) T.n_str (by decide +kernel) (pa_cons (pe_ix ix_tup (pv 0) pe_int (fun _ _ => rfl)) pa_nil))) pe_str) (pe_callTy cr_strA (by rfl) T.n_str (by decide +kernel) (pa_cons (pe_ix ix_tup (pv 0) pe_int (fun _ _ => rfl)) pa_nil))) pe_str) (pe_callTy cr_strA (by rfl) T.n_str (by decide +kernel) (pa_cons (pe_ix ix_tup (pv 0) pe_int (fun _ _ => rfl)) pa_nil)))))
      pss_nil)
      (pss_one (ps_ret (pe_op op_add_str (pe_op op_add_str (pe_op op_add_str (pe_op op_add_str pe_str (pe_callTy cr_strA (by rfl) T.n_str (by decide +kernel) (pa_cons (pe_ix ix_tup (pv 0) pe_int (fun _ _ => rfl)) pa_nil))) pe_str) (pe_ix ix_tup (pv 0) pe_int (fun _ _ => rfl))) pe_str)))))), ?_⟩
    cases c with
    | p x y z =>
      obtain ⟨o1, o2, o3⟩ := ok
      have hp' : H p = some (.tup [.str "p", .int x, .int y, .int z]) := hp
      have l0 : ("p" : Str).length = 1 := rfl
      have l1 : ("q" : Str).length = 1 := rfl
      have l2 : ("r" : Str).length = 1 := rfl
      have n0 : (Str.ofString (toString x)).length ≤ 7 := nu_len o1
      have n1 : (Str.ofString (toString y)).length ≤ 7 := nu_len o2
      have n2 : (Str.ofString (toString z)).length ≤ 7 := nu_len o3
      walk_at "rs"
      refine ⟨p, _, _, _, rfl, rfl, SqT.of hp', rfl, ?_⟩
      walk_at "rs"
      refine ⟨p, _, _, _, rfl, rfl, SqT.of hp', rfl, ?_⟩
      walk_at "rs"
      refine ⟨nu_log o1, ?_⟩
      walk_at "rs"
      refine ⟨(by rw [sizeLine_eq]; (try simp only [PySem.Str.length_append]); omega), ?_⟩
      walk_at "rs"
      refine ⟨(by rw [sizeLine_eq]; (try simp only [PySem.Str.length_append]); omega), ?_⟩
      walk_at "rs"
      refine ⟨p, _, _, _, rfl, rfl, SqT.of hp', rfl, ?_⟩
      walk_at "rs"
      refine ⟨nu_log o2, ?_⟩
      walk_at "rs"
      refine ⟨(by rw [sizeLine_eq]; (try simp only [PySem.Str.length_append]); omega), ?_⟩
      walk_at "rs"
      refine ⟨(by rw [sizeLine_eq]; (try simp only [PySem.Str.length_append]); omega), ?_⟩
      walk_at "rs"
      refine ⟨p, _, _, _, rfl, rfl, SqT.of hp', rfl, ?_⟩
      walk_at "rs"
      refine ⟨nu_log o3, ?_⟩
      walk_at "rs"
      refine ⟨(by rw [sizeLine_eq]; (try simp only [PySem.Str.length_append]); omega), ?_⟩
      walk_at "rs"
      exact k H (Same.refl H)
    | w x y =>
      obtain ⟨o1, o2⟩ := ok
      have hp' : H p = some (.tup [.str "w", .int x, .int y]) := hp
      have l0 : ("w" : Str).length = 1 := rfl
      have l1 : ("x" : Str).length = 1 := rfl
      have n0 : (Str.ofString (toString x)).length ≤ 7 := nu_len o1
      have n1 : (Str.ofString (toString y)).length ≤ 7 := nu_len o2
      walk_at "rs"
      refine ⟨p, _, _, _, rfl, rfl, SqT.of hp', rfl, ?_⟩
      walk_at "rs"
      refine ⟨p, _, _, _, rfl, rfl, SqT.of hp', rfl, ?_⟩
      walk_at "rs"
      refine ⟨p, _, _, _, rfl, rfl, SqT.of hp', rfl, ?_⟩
      walk_at "rs"
      refine ⟨nu_log o1, ?_⟩
      walk_at "rs"
      refine ⟨(by rw [sizeLine_eq]; (try simp only [PySem.Str.length_append]); omega), ?_⟩
      walk_at "rs"
      refine ⟨(by rw [sizeLine_eq]; (try simp only [PySem.Str.length_append]); omega), ?_⟩
      walk_at "rs"
      refine ⟨p, _, _, _, rfl, rfl, SqT.of hp', rfl, ?_⟩
      walk_at "rs"
      refine ⟨nu_log o2, ?_⟩
      walk_at "rs"
      refine ⟨(by rw [sizeLine_eq]; (try simp only [PySem.Str.length_append]); omega), ?_⟩
      walk_at "rs"
      exact k H (Same.refl H)
    | k x y z =>
      obtain ⟨o1, o2, o3⟩ := ok
      have hp' : H p = some (.tup [.str "k", .int x, .int y, .int z]) := hp
      have l0 : ("k" : Str).length = 1 := rfl
      have l1 : ("b" : Str).length = 1 := rfl
      have l2 : ("v" : Str).length = 1 := rfl
      have n0 : (Str.ofString (toString x)).length ≤ 7 := nu_len o1
      have n1 : (Str.ofString (toString y)).length ≤ 7 := nu_len o2
      have n2 : (Str.ofString (toString z)).length ≤ 7 := nu_len o3
      walk_at "rs"
      refine ⟨p, _, _, _, rfl, rfl, SqT.of hp', rfl, ?_⟩
      walk_at "rs"
      refine ⟨p, _, _, _, rfl, rfl, SqT.of hp', rfl, ?_⟩
      walk_at "rs"
      refine ⟨p, _, _, _, rfl, rfl, SqT.of hp', rfl, ?_⟩
      walk_at "rs"
      refine ⟨p, _, _, _, rfl, rfl, SqT.of hp', rfl, ?_⟩
      walk_at "rs"
      refine ⟨nu_log o1, ?_⟩
      walk_at "rs"
      refine ⟨(by rw [sizeLine_eq]; (try simp only [PySem.Str.length_append]); omega), ?_⟩
      walk_at "rs"
      refine ⟨(by rw [sizeLine_eq]; (try simp only [PySem.Str.length_append]); omega), ?_⟩
      walk_at "rs"
      refine ⟨p, _, _, _, rfl, rfl, SqT.of hp', rfl, ?_⟩
      walk_at "rs"
      refine ⟨nu_log o2, ?_⟩
      walk_at "rs"
      refine ⟨(by rw [sizeLine_eq]; (try simp only [PySem.Str.length_append]); omega), ?_⟩
      walk_at "rs"
      refine ⟨(by rw [sizeLine_eq]; (try simp only [PySem.Str.length_append]); omega), ?_⟩
      walk_at "rs"
      refine ⟨p, _, _, _, rfl, rfl, SqT.of hp', rfl, ?_⟩
      walk_at "rs"
      refine ⟨nu_log o3, ?_⟩
      walk_at "rs"
      refine ⟨(by rw [sizeLine_eq]; (try simp only [PySem.Str.length_append]); omega), ?_⟩
      walk_at "rs"
      exact k H (Same.refl H)
    | d x z =>
      obtain ⟨o1, o2, o3⟩ := ok
      have hp' : H p = some (.tup [.str "d", .int x, .str z]) := hp
      have l0 : ("d" : Str).length = 1 := rfl
      have l1 : ("z" : Str).length = 1 := rfl
      have n0 : (Str.ofString (toString x)).length ≤ 7 := nu_len o1
      walk_at "rs"
      refine ⟨p, _, _, _, rfl, rfl, SqT.of hp', rfl, ?_⟩
      walk_at "rs"
      refine ⟨p, _, _, _, rfl, rfl, SqT.of hp', rfl, ?_⟩
      walk_at "rs"
      refine ⟨p, _, _, _, rfl, rfl, SqT.of hp', rfl, ?_⟩
      walk_at "rs"
      refine ⟨p, _, _, _, rfl, rfl, SqT.of hp', rfl, ?_⟩
      walk_at "rs"
      refine ⟨nu_log o1, ?_⟩
      walk_at "rs"
      refine ⟨(by rw [sizeLine_eq]; (try simp only [PySem.Str.length_append]); omega), ?_⟩
      walk_at "rs"
      refine ⟨(by rw [sizeLine_eq]; (try simp only [PySem.Str.length_append]); omega), ?_⟩
      walk_at "rs"
      refine ⟨p, _, _, _, rfl, rfl, SqT.of hp', rfl, ?_⟩
      walk_at "rs"
      refine ⟨(by rw [sizeLine_eq]; (try simp only [PySem.Str.length_append]); omega), ?_⟩
      walk_at "rs"
      refine ⟨(by rw [sizeLine_eq]; (try simp only [PySem.Str.length_append]); omega), ?_⟩
      walk_at "rs"
      exact k H (Same.refl H)

theorem okw_law_is_integer (T : Txt K mg a) : ∃ fd, FnW P w K mg base 1 a.d_law_is_integer fd ["actual"] (spIsInt K) ∧ Binds K fd ["actual"] [] := by
  obtain ⟨fd, F, b⟩ := T.d_law_is_integer.F
  refine ⟨fd, fun_okW F sc_law_is_integer (fun vs H Q E h => ?_) (fun cdv A outer s H vs Q E p hr h => ?_), b⟩
  · obtain ⟨_, rfl, _⟩ := h
    rfl
  · obtain ⟨i, rfl, k⟩ := h
    refine ⟨_, (pss_one (ps_ret (pe_and (pe_callB call_isi (by rfl) T.n_isinstance (by decide +kernel) (pa_cons (pv 0) (pa_cons (pe_bltn (v := .ty "int") (u := .type "int") (by rfl) T.n_int (by decide +kernel) rfl) pa_nil))) (pe_one (pe_not (pe_callB call_isi (by rfl) T.n_isinstance (by decide +kernel) (pa_cons (pv 0) (pa_cons (pe_bltn (v := .ty "bool") (u := .type "bool") (by rfl) T.n_bool (by decide +kernel) rfl) pa_nil)))))))), ?_⟩
    walk_at "rs"
    refine ⟨_, _, .type "int", .type "int", true, rfl, .ty _, .base (.int _), kit_ty (by decide +kernel), ?_⟩
    walk_at "rs"
    refine ⟨_, _, .type "int", .type "bool", false, rfl, .ty _, .base (.int _), kit_ty (by decide +kernel), ?_⟩
    walk_at "rs"
    exact k

theorem good_len {c : Cm} (g : c.good) : c.txt.length ≤ 25 := by
  cases c with
  | p a b d =>
    obtain ⟨o1, o2, o3⟩ := g
    have := nu_len o1.w
    have := nu_len o2.w
    have := nu_len o3.w
    have l1 : ("p" : Str).length = 1 := rfl
    have l2 : ("q" : Str).length = 1 := rfl
    have l3 : ("r" : Str).length = 1 := rfl
    simp only [Cm.txt, PySem.Str.length_append]
    omega
  | w a b =>
    obtain ⟨o1, o2⟩ := g
    have := nu_len o1.w
    have := nu_len o2.w
    have l1 : ("w" : Str).length = 1 := rfl
    have l2 : ("x" : Str).length = 1 := rfl
    simp only [Cm.txt, PySem.Str.length_append]
    omega
  | k a b d =>
    obtain ⟨o1, o2, o3⟩ := g
    have := nu_len o1.w
    have := nu_len o2.w
    have := nu_len o3.w
    have l1 : ("k" : Str).length = 1 := rfl
    have l2 : ("b" : Str).length = 1 := rfl
    have l3 : ("v" : Str).length = 1 := rfl
    simp only [Cm.txt, PySem.Str.length_append]
    omega
  | d a s =>
    obtain ⟨o1, o2, _⟩ := g
    have := nu_len o1.w
    have l1 : ("d" : Str).length = 1 := rfl
    have l2 : ("z" : Str).length = 1 := rfl
    simp only [Cm.txt, PySem.Str.length_append]
    omega

/-! ### commands as data; checked_text -/
def vD : V → PyData
  | .int i => .int i
  | .str s => .str s
  | _ => .none
def Cm.dat (c : Cm) : PyData := .tuple (.str c.ki :: c.ps.map vD)
theorem dp_cm {H : Hp} {p : Addr} {c : Cm} (h : CmAt H p c) : Dp K H (.ref p) c.dat := by
  refine .tup (SqT.of h) ?_
  cases c with
  | p x y z => exact .cons (.str _) (.cons (.int _) (.cons (.int _) (.cons (.int _) .nil)))
  | w x y => exact .cons (.str _) (.cons (.int _) (.cons (.int _) .nil))
  | k x y z => exact .cons (.str _) (.cons (.int _) (.cons (.int _) (.cons (.int _) .nil)))
  | d x z => exact .cons (.str _) (.cons (.int _) (.cons (.str _) .nil))
theorem ki_ok (c : Cm) : PyData.strOk c.ki = true := by
  cases c
  · exact (by decide +kernel : PyData.strOk "p" = true)
  · exact (by decide +kernel : PyData.strOk "w" = true)
  · exact (by decide +kernel : PyData.strOk "k" = true)
  · exact (by decide +kernel : PyData.strOk "d" = true)
/-- its text may stand in a heap -/
def Cm.sok : Cm → Prop
  | .d _ s => PyData.strOk s = true
  | _ => True
theorem Cm.ok.sok : ∀ {c : Cm}, c.ok → c.sok
  | .p _ _ _, _ => trivial
  | .w _ _, _ => trivial
  | .k _ _ _, _ => trivial
  | .d _ _, h => h.2.2
theorem lay_cm {c : Cm} (h : c.sok) : PyData.canLay0 c.dat = true := by
  cases c <;> simp [Cm.dat, Cm.ps, vD, PyData.canLay0, PyData.canLayAll0, ki_ok]
  exact h
theorem depth_cm (c : Cm) : PyData.depth c.dat = 1 := by
  cases c <;> simp [Cm.dat, Cm.ps, vD, PyData.depth, PyData.depthAll]
theorem shaped_cm {c : Cm} (h : c.sok) : SeqAt.shaped c.dat = true := by
  unfold SeqAt.shaped
  rw [lay_cm h, depth_cm]
  rfl

/-- an event that the law makes -/
def spLEv : Sp := fun vs H Q _ => ∃ c m l : Int, vs = [.int c, .int m, .int l] ∧ 0 ≤ c ∧ 0 ≤ m ∧ 0 ≤ l ∧ ∀ (p : Addr) (e : Ev) H', Same H H' → EvAt H' p e → e.good → Q (.ref p) H'
theorem ok_law_event (T : Txt K mg a) : ∃ fd, FnOk P w K mg base CX0 4 a.d_law_event fd ["cell", "more", "last"] spLEv ∧ Binds K fd ["cell", "more", "last"] [] := by
  obtain ⟨fd, F, b⟩ := T.d_law_event.F
  obtain ⟨fd_law_command, G_law_command, b_law_command⟩ := ok_law_command (P := P) (w := w) (base := base) T
  obtain ⟨fd_law_statement, G_law_statement, b_law_statement⟩ := ok_law_statement (P := P) (w := w) (base := base) T
  refine ⟨fd, F.ok sc_law_event (fun vs H Q E h => ?_) (fun cdv A outer s H vs Q E hr h => ?_), b⟩
  · obtain ⟨_, _, _, rfl, _⟩ := h
    rfl
  · obtain ⟨c, m, l, rfl, c0, m0, l0, k⟩ := h
    refine ⟨_, (pss_cons (ps_set (i := 3) sc_law_event.nd rfl (Or.inl rfl) (pe_op op_mod (pe_callTy call_int1 (by rfl) T.n_int (by decide +kernel) (pa_cons (pv 1) pa_nil)) pe_int))
      (C8.pss_cut (ps_if (pt_cmpR op_eq (pe_op op_mod (pe_callTy call_int1 (by rfl) T.n_int (by decide +kernel) (pa_cons (pv 1) pa_nil)) pe_int) pe_int (nomark _))
      (pss_one (ps_set (i := 3) sc_law_event.nd rfl (Or.inl rfl) (pe_op op_mod (pe_callTy call_int1 (by rfl) T.n_int (by decide +kernel) (pa_cons (pv 1) pa_nil)) (pe_op op_pow pe_int pe_int))))
      pss_nil)
      (pss_cons (ps_if (pt_cmpR op_eq (pe_op op_mod (pe_callTy call_int1 (by rfl) T.n_int (by decide +kernel) (pa_cons (pv 0) pa_nil)) pe_int) pe_int (nomark _))
      (pss_one (ps_ret (pe_tup (pa_cons pe_str (pa_cons (pv 3) (pa_cons (pe_op op_mod (pe_callTy call_int1 (by rfl) T.n_int (by decide +kernel) (pa_cons (pv 2) pa_nil)) pe_int) pa_nil))))))
      pss_nil)
      (pss_cons (ps_if (pt_cmpR op_eq (pe_op op_mod (pe_callTy call_int1 (by rfl) T.n_int (by decide +kernel) (pa_cons (pv 0) pa_nil)) pe_int) pe_int (nomark _))
      (pss_one (ps_ret (pe_tup (pa_cons pe_str (pa_cons (pv 3) pa_nil)))))
      pss_nil)
      (pss_cons (ps_if (pt_cmpR op_eq (pe_op op_mod (pe_callTy call_int1 (by rfl) T.n_int (by decide +kernel) (pa_cons (pv 0) pa_nil)) pe_int) pe_int (nomark _))
      (pss_one (ps_ret (pe_tup (pa_cons pe_str (pa_cons (pe_tup (pa_cons (pv 3) (pa_cons (pe_call G_law_statement (hr.mono (by decide)) rfl T.d_law_statement.g T.d_law_statement.kp b_law_statement .nil pass0 (pa_cons (pv 2) (pa_cons (pe_op op_mod (pe_op op_fdiv (pv 0) pe_int) pe_int) pa_nil))) pa_nil))) pa_nil)))))
      pss_nil)
      (pss_cons (ps_if (pt_cmpR op_eq (pe_op op_mod (pe_callTy call_int1 (by rfl) T.n_int (by decide +kernel) (pa_cons (pv 0) pa_nil)) pe_int) pe_int (nomark _))
      (pss_one (ps_ret (pe_tup (pa_cons pe_str (pa_cons (pv 3) (pa_cons (pe_call G_law_command (hr.mono (by decide)) rfl T.d_law_command.g T.d_law_command.kp b_law_command .nil pass0 (pa_cons (pe_op op_fdiv (pv 0) pe_int) (pa_cons (pv 2) pa_nil))) pa_nil))))))
      pss_nil)
      (pss_cons (ps_if (pt_cmpR op_eq (pe_op op_mod (pe_callTy call_int1 (by rfl) T.n_int (by decide +kernel) (pa_cons (pv 0) pa_nil)) pe_int) pe_int (nomark _))
      (pss_one (ps_ret (pe_tup (pa_cons pe_str (pa_cons (pv 3) (pa_cons (pe_op op_mod (pe_callTy call_int1 (by rfl) T.n_int (by decide +kernel) (pa_cons (pv 2) pa_nil)) pe_int) pa_nil))))))
      pss_nil)
      (pss_one (ps_ret (pe_tup (pa_cons pe_str (pa_cons (pv 3) pa_nil)))))))))))), ?_⟩
    have b1 := Int.emod_nonneg m (show (1000 : Int) ≠ 0 by decide)
    have b2 := Int.emod_lt_of_pos m (show (0 : Int) < 1000 by decide)
    have b3 := Int.emod_nonneg m (show (1000000000 : Int) ≠ 0 by decide)
    have b4 := Int.emod_lt_of_pos m (show (0 : Int) < 1000000000 by decide)
    have q1 := Int.emod_nonneg l (show (20 : Int) ≠ 0 by decide)
    have q2 := Int.emod_lt_of_pos l (show (0 : Int) < 20 by decide)
    walk_at "rs"
    refine ⟨fun σ H' => ∃ g : Int, σ = [some (.int c), some (.int m), some (.int l), some (.int g)] ∧ NumK g ∧ H' = H, ?_, ?_⟩
    · walk_at "rs"
      refine ite2 (fun c1 => ?_) (fun c1 => ?_)
      · walk_at "rs"
        exact ⟨⟨b3, b4⟩, rfl⟩
      · walk_at "rs"
        exact ⟨⟨b1, by omega⟩, rfl⟩
    · rintro σ H' ⟨g, rfl, gk, rfl⟩
      walk_at "rs"
      refine ite2 (fun c1 => ?_) (fun c1 => ?_)
      · walk_at "rs"
        refine ⟨(by show 3 ≤ sizeLine; decide), fun p hp => ?_⟩
        refine k p (.num "deliver" [g, l % 20]) _ (same_new hp) upd_same ⟨rfl, fun n hn => ?_⟩
        rcases List.mem_cons.mp hn with rfl | hn
        · exact gk
        · rw [List.mem_singleton.mp hn]
          exact ⟨q1, by omega⟩
      walk_at "rs"
      refine ite2 (fun c1 => ?_) (fun c1 => ?_)
      · walk_at "rs"
        refine ⟨(by show 2 ≤ sizeLine; decide), fun p hp => ?_⟩
        refine k p (.num "timeout" [g]) _ (same_new hp) upd_same ⟨rfl, fun n hn => ?_⟩
        rw [List.mem_singleton.mp hn]
        exact gk
      walk_at "rs"
      refine ite2 (fun c1 => ?_) (fun c1 => ?_)
      · walk_at "rs"
        have h0 : 0 ≤ c / 6 % 9 := Int.emod_nonneg _ (by decide)
        have h9 : c / 6 % 9 < 9 := Int.emod_lt_of_pos _ (by decide)
        refine ⟨l, c / 6 % 9, rfl, fun q m2 H2 s2 hq gm eh _ _ => ?_⟩
        have gm := gm h0 (by omega)
        refine ⟨(by show 2 ≤ sizeLine; decide), fun q2 hq2 => ?_⟩
        have s3 := same_new (o := .tup [V.int g, V.ref q]) hq2
        have hl : LtAt (upd H2 q2 (.tup [V.int g, V.ref q])) q2 ⟨g, m2⟩ := ⟨q, upd_same, s3 _ _ hq⟩
        generalize upd H2 q2 (.tup [V.int g, V.ref q]) = H3 at s3 hl ⊢
        refine ⟨(by show 2 ≤ sizeLine; decide), fun p hp => ?_⟩
        have s4 := same_new (o := .tup [V.str "inject", V.ref q2]) hp
        exact k p (.inj ⟨g, m2⟩) _ ((s2.trans s3).trans s4) ⟨q2, upd_same, hl.same s4⟩ ⟨gm, gk⟩
      walk_at "rs"
      refine ite2 (fun c1 => ?_) (fun c1 => ?_)
      · walk_at "rs"
        refine ⟨_, _, rfl, fun q x H2 s2 nq hq gx => ?_⟩
        refine ⟨(by show 3 ≤ sizeLine; decide), fun p hp => ?_⟩
        have s4 := same_new (o := .tup [V.str "submit", V.int g, V.ref q]) hp
        have := good_len gx
        exact k p (.sub g x) _ (s2.trans s4) ⟨q, upd_same, s4 _ _ hq⟩ ⟨gk, gx.right, by omega⟩
      walk_at "rs"
      refine ite2 (fun c1 => ?_) (fun c1 => ?_)
      · walk_at "rs"
        refine ⟨(by show 3 ≤ sizeLine; decide), fun p hp => ?_⟩
        refine k p (.num "assist" [g, l % 20]) _ (same_new hp) upd_same ⟨rfl, fun n hn => ?_⟩
        rcases List.mem_cons.mp hn with rfl | hn
        · exact gk
        · rw [List.mem_singleton.mp hn]
          exact ⟨q1, by omega⟩
      walk_at "rs"
      refine ⟨(by show 2 ≤ sizeLine; decide), fun p hp => ?_⟩
      refine k p (.num "crash" [g]) _ (same_new hp) upd_same ⟨rfl, fun n hn => ?_⟩
      rw [List.mem_singleton.mp hn]
      exact gk
theorem at_first {α : Type} (v : α) (xs : List α) : atI (v :: xs) 0 = some v := by
  have := atI_nat (xs := v :: xs) (j := 0) (v := v) rfl
  exact this
theorem cutV_first (v : V) (xs : List V) : cutV (v :: xs) (some (1 : Int)) none = xs := by
  have e1 : HT.sIx (v :: xs).length 0 (some (1 : Int)) = 1 := by
    have := HT.sIx_nat (v :: xs).length 0 1
    rw [Int.natCast_one] at this
    rw [this, List.length_cons]
    omega
  unfold cutV
  rw [e1, HT.sIx_none]
  show xs.take _ = xs
  exact List.take_of_length_le (by simp)
/-- a part of an event's line -/
def WdV (v : V) : Prop := v = .non ∨ (∃ i : Int, v = .int i ∧ NumK i) ∨ ∃ x : Str, v = .str x ∧ x.length ≤ 60
theorem wds_len {e : Ev} (g : e.good) : (e.wds.map (·.length)).sum + e.wds.length * (" " : Str).length ≤ 400 ∧ e.line.length ≤ 400 := by
  have e1 : (" " : Str).length = 1 := by decide +kernel
  have key : (e.wds.map (·.length)).sum + e.wds.length ≤ 400 := by
    cases e with
    | num k ns =>
      have := sum_wd g.2
      have lk := nk_small g.1
      have ln := nk_len g.1
      simp only [Ev.wds, List.map_cons, List.sum_cons, List.length_cons, List.length_map] at this ⊢
      omega
    | inj x =>
      have l5 := vals_len x.m
      have s := sum_small (ys := (toString x.w : Str) :: x.m.vals.map wordV) fun y hy => by
        rcases List.mem_cons.mp hy with rfl | hy
        · exact (num_ok g.2.1 g.2.2).1
        · obtain ⟨v, hv, rfl⟩ := List.mem_map.mp hy
          exact (word_ok (g.1.small v hv)).1
      have e6 : ("inject" : Str).length = 6 := by decide +kernel
      simp only [Ev.wds, List.map_cons, List.sum_cons, List.length_cons, List.length_map, e6] at s ⊢
      omega
    | sub n c =>
      have := (num_ok g.1.1 g.1.2).1
      have := g.2.2
      have e6 : ("submit" : Str).length = 6 := by decide +kernel
      simp only [Ev.wds, List.map_cons, List.map_nil, List.sum_cons, List.sum_nil, List.length_cons, List.length_nil, e6]
      omega
  refine ⟨by rw [e1]; omega, ?_⟩
  unfold Ev.line
  rw [TL.join_eq]
  refine Nat.le_trans (join_len _ _) ?_
  rw [e1]
  omega
/-- the line of an event, composed -/
theorem ok_law_line (T : Txt K mg a) : ∃ fd, FnOk P w K mg base CX0 2 a.d_law_line fd ["event"] (spELine K) ∧ Binds K fd ["event"] [] := by
  obtain ⟨fd, F, b⟩ := T.d_law_line.F
  obtain ⟨fd_law_text, G_law_text, b_law_text⟩ := ok_law_text (P := P) (w := w) (base := base) T
  refine ⟨fd, F.ok sc_law_line (fun vs H Q E h => ?_) (fun cdv A outer s H vs Q E hr h => ?_), b⟩
  · obtain ⟨_, _, rfl, _⟩ := h
    rfl
  · obtain ⟨p, e, rfl, he, g, k⟩ := h
    refine ⟨_, (pss_cons (ps_set (i := 1) sc_law_line.nd rfl (Or.inl rfl) (pe_lst (pa_cons (pe_ix ix_tup (pv 0) pe_int (fun _ _ => rfl)) pa_nil)))
      (pss_cons (ps_set (i := 2) sc_law_line.nd rfl (Or.inl rfl) (pe_slice sl_tup (pv 0) (po_some pe_int) po_none))
      (C8.pss_cut (ps_if (pt_cmpR op_eq (pe_ix ix_tup (pv 0) pe_int (fun _ _ => rfl)) pe_str (nomark _))
      (pss_one (ps_set (i := 2) sc_law_line.nd rfl (Or.inl rfl) (pe_op op_catA (pe_tup (pa_cons (pe_ix ix_tup (pe_ix ix_tup (pv 0) pe_int (fun _ _ => rfl)) pe_int (fun _ _ => rfl)) pa_nil)) (pe_ix ix_tup (pe_ix ix_tup (pv 0) pe_int (fun _ _ => rfl)) pe_int (fun _ _ => rfl)))))
      pss_nil)
      (C8.pss_cut (ps_if (pt_cmpR op_eq (pe_ix ix_tup (pv 0) pe_int (fun _ _ => rfl)) pe_str (nomark _))
      (pss_one (ps_set (i := 2) sc_law_line.nd rfl (Or.inl rfl) (pe_tup (pa_cons (pe_ix ix_tup (pv 0) pe_int (fun _ _ => rfl)) (pa_cons (pe_call G_law_text (hr.mono (by decide)) rfl T.d_law_text.g T.d_law_text.kp b_law_text .nil pass0 (pa_cons (pe_ix ix_tup (pv 0) pe_int (fun _ _ => rfl)) pa_nil)) pa_nil)))))
      pss_nil)
      (pss_cons (ps_for PassesOwn.never rfl (pi_tup (pv 2)) (pg_name (i := 3) sc_law_line.nd rfl (Or.inl rfl))
      (pss_one (ps_if (pt_cmpR op_isN (pv 3) pe_non (nomark _))
        (pss_one (ps_expr (pe_bm PySem.F.plainAttrs_list PySem.F.slot_list_append PySem.F.type_list_append mt_append (pv 1) (pa_cons pe_str pa_nil))))
        (pss_one (ps_expr (pe_bm PySem.F.plainAttrs_list PySem.F.slot_list_append PySem.F.type_list_append mt_append (pv 1) (pa_cons (pe_callTy cr_strA (by rfl) T.n_str (by decide +kernel) (pa_cons (pv 3) pa_nil)) pa_nil)))))))
      (pss_one (ps_ret (pe_join pe_str (pv 1))))))))), ?_⟩
    obtain ⟨k0, xs, hp⟩ : ∃ k0 xs, H p = some (.tup (.str k0 :: xs)) ∧ xs.length ≤ 3 := by
      cases e with
      | num kd ns => exact ⟨_, _, he, by rw [List.length_map]; have := nk_len g.1; omega⟩
      | inj x =>
        obtain ⟨q, h0, _⟩ := he
        exact ⟨_, _, h0, by show 1 ≤ 3; decide⟩
      | sub n c =>
        obtain ⟨q, h0, _⟩ := he
        exact ⟨_, _, h0, by show 2 ≤ 3; decide⟩
    have lx := hp.2
    have hp := hp.1
    walk_at "rs"
    refine ⟨p, _, _, _, rfl, rfl, SqT.of hp, at_first _ _, ?_⟩
    refine ⟨(by show 1 ≤ sizeLine; decide), fun wl hwl => ?_⟩
    have s1 := same_new (o := .lst [V.str k0]) hwl
    have h1 := (upd_same : (upd H wl (.lst [V.str k0])) wl = _)
    generalize upd H wl (.lst [V.str k0]) = H1 at s1 h1 ⊢
    have hp1 := s1 _ _ hp
    walk_at "rs"
    refine ⟨p, _, rfl, SqT.of hp1, fun z => ?_, fun q hq => ?_⟩
    · have : HT.sIx (V.str k0 :: xs).length 0 (some (1 : Int)) = 1 := by
        have := HT.sIx_nat (V.str k0 :: xs).length 0 1
        rw [Int.natCast_one] at this
        rw [this, List.length_cons]
        omega
      rw [this] at z
      exact absurd z.1 (by decide)
    rw [cutV_first]
    have s2 := same_new (o := .tup xs) hq
    have h2 := (upd_same : (upd H1 q (.tup xs)) q = _)
    generalize upd H1 q (.tup xs) = H2 at s2 h2 ⊢
    have hp2 := s2 _ _ hp1
    have hw2 := s2 _ _ h1
    have he2 := he.same (s1.trans s2)
    have s12 := s1.trans s2
    -- what is due at the end
    let Fin : List V → Prop := fun ys => (∀ v ∈ ys, WdV v) ∧ V.str k0 = .str (e.wds.headD "") ∧ ys.map wordV = e.wds.tail ∧ ys.length ≤ 6
    refine ⟨fun σ H' => ∃ pp ys, σ = [some (.ref p), some (.ref wl), some (.ref pp), none] ∧ Same H2 H' ∧ H' pp = some (.tup ys) ∧ ((∃ n c, e = .sub n c) ∨ Fin ys), ?_, ?_⟩
    · walk_at "rs"
      refine ⟨p, _, _, _, rfl, rfl, SqT.of hp2, at_first _ _, ?_⟩
      walk_at "rs"
      cases e with
      | num kd ns =>
        have nk := nk_free g.1
        have hk := he2.symm.trans hp2
        cases hk
        refine ite2 (fun c => absurd (by simpa using c) nk.2.2.1) (fun _ => ?_)
        have e1 : (ns.map V.int).map wordV = ns.map fun n => (toString n : Str) := by
          rw [List.map_map]
          rfl
        refine ⟨q, ns.map V.int, rfl, Same.refl _, h2, .inr ⟨fun v hv => ?_, rfl, e1, by omega⟩⟩
        obtain ⟨n, hn, rfl⟩ := List.mem_map.mp hv
        exact .inr (.inl ⟨n, rfl, g.2 n hn⟩)
      | inj x =>
        obtain ⟨q0, h0, h00⟩ := he2
        have hk := h0.symm.trans hp2
        cases hk
        obtain ⟨sq, hl, hm⟩ := id h00
        have hm : H2 sq = some (.tup x.m.vals) := hm
        walk_at "rs"
        refine ⟨p, _, _, _, rfl, rfl, SqT.of hp2, rfl, ?_⟩
        walk_at "rs"
        refine ⟨q0, _, _, _, rfl, rfl, SqT.of hl, rfl, ?_⟩
        refine ⟨(by show 1 ≤ sizeLine; decide), fun t1 ht1 => ?_⟩
        have s3 := same_new (o := .tup [V.int x.w]) ht1
        have h3 := (upd_same : (upd H2 t1 (.tup [V.int x.w])) t1 = _)
        generalize upd H2 t1 (.tup [V.int x.w]) = H3 at s3 h3 ⊢
        walk_at "rs"
        refine ⟨p, _, _, _, rfl, rfl, SqT.of (s3 _ _ hp2), rfl, ?_⟩
        walk_at "rs"
        refine ⟨q0, _, _, _, rfl, rfl, SqT.of (s3 _ _ hl), rfl, ?_⟩
        have vl := vals_len x.m
        have vne : x.m.vals ≠ [] := fun z => by
          have := at0 x.m
          rw [z] at this
          cases this
        refine ⟨t1, sq, _, _, rfl, rfl, SqT.of h3, SqT.of (s3 _ _ hm), by rw [sizeLine_eq]; show 1 + _ ≤ _; omega, (fun z => nomatch z), fun _ z => absurd z vne, fun _ _ pp hpp => ?_⟩
        have s4 := same_new (o := .tup ([V.int x.w] ++ x.m.vals)) hpp
        refine ⟨pp, [V.int x.w] ++ x.m.vals, rfl, s3.trans s4, upd_same, .inr ⟨fun v hv => ?_, rfl, rfl, by rw [List.length_append, List.length_singleton]; omega⟩⟩
        rcases List.mem_append.mp hv with hv | hv
        · rw [List.mem_singleton.mp hv]
          exact .inr (.inl ⟨_, rfl, g.2⟩)
        · rcases g.1.small v hv with z | ⟨i, z, i0, i1⟩ | ⟨y, z, l, _⟩
          · exact .inl z
          · exact .inr (.inl ⟨i, z, i0, i1⟩)
          · exact .inr (.inr ⟨y, z, l⟩)
      | sub n c =>
        obtain ⟨q0, h0, h00⟩ := he2
        have hk := h0.symm.trans hp2
        cases hk
        refine ite2 (fun z => absurd z (by decide +kernel)) (fun _ => ?_)
        exact ⟨q, _, rfl, Same.refl _, h2, .inl ⟨n, c, rfl⟩⟩
    · rintro σ H' ⟨pp, ys, rfl, s3, hpp, fin⟩
      have hp3 := s3 _ _ hp2
      have he3 := he2.same s3
      have hw3 := s3 _ _ hw2
      refine ⟨fun σ H4 => ∃ pp ys, σ = [some (.ref p), some (.ref wl), some (.ref pp), none] ∧ Same H2 H4 ∧ H4 pp = some (.tup ys) ∧ Fin ys, ?_, ?_⟩
      · walk_at "rs"
        refine ⟨p, _, _, _, rfl, rfl, SqT.of hp3, at_first _ _, ?_⟩
        walk_at "rs"
        cases e with
        | num kd ns =>
          have nk := nk_free g.1
          have hk := he3.symm.trans hp3
          cases hk
          refine ite2 (fun c => absurd (by simpa using c) nk.2.2.2) (fun _ => ?_)
          rcases fin with ⟨_, _, z⟩ | fin
          · cases z
          · exact ⟨pp, ys, rfl, s3, hpp, fin⟩
        | inj x =>
          obtain ⟨q0, h0, h00⟩ := he3
          have hk := h0.symm.trans hp3
          cases hk
          refine ite2 (fun z => absurd z (by decide +kernel)) (fun _ => ?_)
          rcases fin with ⟨_, _, z⟩ | fin
          · cases z
          · exact ⟨pp, ys, rfl, s3, hpp, fin⟩
        | sub n c =>
          obtain ⟨q0, h0, h00⟩ := he3
          have hk := h0.symm.trans hp3
          cases hk
          refine ite2 (fun _ => ?_) (fun z => absurd (by decide +kernel) z)
          have l60 := g.2.2
          walk_at "rs"
          refine ⟨p, _, _, _, rfl, rfl, SqT.of hp3, rfl, ?_⟩
          walk_at "rs"
          refine ⟨p, _, _, _, rfl, rfl, SqT.of hp3, rfl, ?_⟩
          walk_at "rs"
          refine ⟨q0, c, rfl, h00, right_ok g.2.1 (by omega), fun H5 s5 => ?_⟩
          refine ⟨(by show 2 ≤ sizeLine; decide), fun pp2 hpp2 => ?_⟩
          have s6 := same_new (o := .tup [V.int n, V.str c.txt]) hpp2
          refine ⟨pp2, [V.int n, V.str c.txt], rfl, (s3.trans s5).trans s6, upd_same, fun v hv => ?_, rfl, rfl, by show 2 ≤ 6; decide⟩
          rcases List.mem_cons.mp hv with rfl | hv
          · exact .inr (.inl ⟨_, rfl, g.1⟩)
          · rw [List.mem_singleton.mp hv]
            exact .inr (.inr ⟨_, rfl, l60⟩)
      · rintro σ H4 ⟨pp, ys, rfl, s3, hpp, f1, f2, f3, f4⟩
        have hw4 := s3 _ _ hw2
        walk_at "rs"
        refine ⟨⟨_, SqT.of hpp⟩, ?_⟩
        have ew : e.wds = k0 :: ys.map wordV := by
          have ne := wds_ne e
          rw [f3]
          cases q : e.wds with
          | nil => exact absurd q ne
          | cons w r =>
            rw [q] at f2
            have := V.str.inj f2
            rw [this]
            rfl
        have s4 : Same H H4 := s12.trans s3
        refine for_tup (K := K) (a := pp) (xs := ys) (fun i σ H5 => ∃ v, σ = [some (.ref p), some (.ref wl), some (.ref pp), v] ∧ Same H H5 ∧ H5 pp = some (.tup ys) ∧ H5 wl = some (.lst ((k0 :: (ys.take i).map wordV).map V.str))) ⟨_, rfl, s4, hpp, hw4⟩ (fun i σ H5 _ ⟨v, _, _, h, _⟩ => SqT.of h) ?_ ?_
        · rintro i y σ H5 hy ⟨v, rfl, s5, hpp5, hw5⟩
          have hi : i < ys.length := (List.getElem?_eq_some_iff.mp hy).1
          have et : ys.take (i + 1) = ys.take i ++ [y] := by rw [List.take_add_one, hy]; rfl
          have hv := f1 y (List.mem_of_getElem? hy)
          have nwp : pp ≠ wl := fun z => by
            rw [z, hw5] at hpp5
            cases hpp5
          have f5 : (upd H5 wl (.lst ((k0 :: (ys.take i).map wordV).map V.str ++ [V.str (wordV y)]))) wl = some (.lst ((k0 :: (ys.take (i + 1)).map wordV).map V.str)) := by
            rw [upd_same, et]
            simp
          have p5 : (upd H5 wl (.lst ((k0 :: (ys.take i).map wordV).map V.str ++ [V.str (wordV y)]))) pp = some (.tup ys) := by rw [upd_ne nwp]; exact hpp5
          have s6 : Same H (upd H5 wl (.lst ((k0 :: (ys.take i).map wordV).map V.str ++ [V.str (wordV y)]))) := same_upd s5 hwl
          have sz : ((k0 :: (ys.take i).map wordV).map V.str).length < sizeLine := by
            rw [List.length_map, List.length_cons, List.length_map, List.length_take]
            exact small1000 (by omega)
          walk_at "rs"
          refine ite2 (fun c => ?_) (fun c => ?_)
          · have c : y = .non := of_decide_eq_true c
            subst c
            walk_at "rs"
            refine ⟨.inl ⟨rfl, _, SqL.of hw5⟩, ?_⟩
            walk_at "rs"
            exact ⟨wl, _, _, rfl, rfl, hw5, sz, _, rfl, s6, p5, f5⟩
          · have c : ¬ y = .non := fun z => c (decide_eq_true z)
            walk_at "rs"
            refine ⟨.inl ⟨rfl, _, SqL.of hw5⟩, ?_⟩
            rcases hv with z | ⟨n, rfl, hn⟩ | ⟨x, rfl, lx⟩
            · exact absurd z c
            · walk_at "rs"
              refine ⟨log_small hn.1 hn.2, ?_⟩
              exact ⟨wl, _, _, rfl, rfl, hw5, sz, _, rfl, s6, p5, f5⟩
            · walk_at "rs"
              refine .inr ⟨x, rfl, ?_⟩
              exact ⟨wl, _, _, rfl, rfl, hw5, sz, _, rfl, s6, p5, f5⟩
        · rintro σ H5 ⟨v, rfl, s5, hpp5, hw5⟩
          rw [List.take_length, ← ew] at hw5
          walk_at "rs"
          refine ⟨⟨_, rfl⟩, ?_⟩
          walk_at "rs"
          have le := wds_len g
          refine ⟨_, wl, e.wds, rfl, rfl, .inl (SqL.of hw5), ?_, ?_⟩
          · omega
          · exact k _ s5
theorem odd_at {i : Int} (h0 : 0 ≤ i) (h4 : i < 4) : ∃ z : Str, atI [V.str "01", V.str "1234567890", V.str "1_0", V.str "+5"] i = some (.str z) ∧ z.length ≤ 10 := by
  have h : i = 0 ∨ i = 1 ∨ i = 2 ∨ i = 3 := by omega
  rcases h with rfl | rfl | rfl | rfl
  · exact ⟨_, rfl, by decide +kernel⟩
  · exact ⟨_, rfl, by decide +kernel⟩
  · exact ⟨_, rfl, by decide +kernel⟩
  · exact ⟨_, rfl, by decide +kernel⟩
theorem cut_len (ws : List Str) (n : Nat) : ((ws.take n ++ ws.drop (n + 1)).map (·.length)).sum + (ws.take n ++ ws.drop (n + 1)).length ≤ (ws.map (·.length)).sum + ws.length := by
  have h : ws = ws.take n ++ ws.drop n := (List.take_append_drop n ws).symm
  have h2 : ((ws.drop (n + 1)).map (·.length)).sum + (ws.drop (n + 1)).length ≤ ((ws.drop n).map (·.length)).sum + (ws.drop n).length := by
    rw [← List.drop_drop]
    cases ws.drop n with
    | nil => simp
    | cons a r => simp only [List.drop_succ_cons, List.drop_zero, List.map_cons, List.sum_cons, List.length_cons]; omega
  have h3 := congrArg (fun l : List Str => (l.map (·.length)).sum + l.length) h
  simp only [List.map_append, List.sum_append, List.length_append] at h3 ⊢
  omega
/-- a line changed -/
def spLCh : Sp := fun vs H Q _ => ∃ (z : Str) (y : Int), vs = [.str z, .int y] ∧ 0 ≤ y ∧ z.length ≤ 500 ∧ ∀ (z2 : Str) H', Same H H' → z2.length ≤ 1000 → (y % 5 = 1 ∨ y % 5 = 2 → readE z2 = none) → Q (.str z2) H'
theorem ok_law_changed (T : Txt K mg a) : ∃ fd, FnOk P w K mg base CX0 1 a.d_law_changed fd ["line", "way"] spLCh ∧ Binds K fd ["line", "way"] [] := by
  obtain ⟨fd, F, b⟩ := T.d_law_changed.F
  refine ⟨fd, F.ok sc_law_changed (fun vs H Q E h => ?_) (fun cdv A outer s H vs Q E hr h => ?_), b⟩
  · obtain ⟨_, _, rfl, _⟩ := h
    rfl
  · obtain ⟨line, way, rfl, y0, ll, k⟩ := h
    refine ⟨_, (pss_cons (ps_set (i := 2) sc_law_changed.nd rfl (Or.inl rfl) (pe_split (pv 0) pe_str))
      (pss_cons (ps_set (i := 3) sc_law_changed.nd rfl (Or.inl rfl) (pe_op op_mod (pe_op op_fdiv (pv 1) pe_int) (pe_callB call_len_seq (by rfl) T.n_len PySem.boot_len (pa_cons (pv 2) pa_nil))))
      (pss_cons (ps_if (pt_cmpR op_eq (pe_op op_mod (pe_callTy call_int1 (by rfl) T.n_int (by decide +kernel) (pa_cons (pv 1) pa_nil)) pe_int) pe_int (nomark _))
      (pss_one (ps_ret (pe_join pe_str (pe_op op_cat (pe_slice sl_list (pv 2) po_none (po_some (pv 3))) (pe_slice sl_list (pv 2) (po_some (pe_op op_add (pv 3) pe_int)) po_none)))))
      pss_nil)
      (pss_cons (ps_if (pt_cmpR op_eq (pe_op op_mod (pe_callTy call_int1 (by rfl) T.n_int (by decide +kernel) (pa_cons (pv 1) pa_nil)) pe_int) pe_int (nomark _))
      (pss_one (ps_ret (pe_op op_add_str (pv 0) pe_str)))
      pss_nil)
      (pss_cons (ps_if (pt_cmpR op_eq (pe_op op_mod (pe_callTy call_int1 (by rfl) T.n_int (by decide +kernel) (pa_cons (pv 1) pa_nil)) pe_int) pe_int (nomark _))
      (pss_one (ps_ret (pe_op op_add_str pe_str (pv 0))))
      pss_nil)
      (pss_cons (ps_if (pt_cmpR op_eq (pe_op op_mod (pe_callTy call_int1 (by rfl) T.n_int (by decide +kernel) (pa_cons (pv 1) pa_nil)) pe_int) pe_int (nomark _))
      (pss_one (ps_ret (pe_join pe_str (pe_op op_cat (pe_op op_cat (pe_slice sl_list (pv 2) po_none (po_some (pv 3))) (pe_lst (pa_cons (pe_ix ix_tup (pe_tup (pa_cons pe_str (pa_cons pe_str (pa_cons pe_str (pa_cons pe_str pa_nil))))) (pe_op op_mod (pe_op op_fdiv (pv 1) pe_int) pe_int) (fun _ _ => rfl)) pa_nil))) (pe_slice sl_list (pv 2) (po_some (pe_op op_add (pv 3) pe_int)) po_none)))))
      pss_nil)
      (pss_one (ps_ret (pe_op op_add_str (pv 0) pe_str))))))))), ?_⟩
    walk_at "rs"
    refine ⟨⟨_, rfl⟩, ?_⟩
    walk_at "rs"
    refine ⟨by rw [sizeLine_eq]; omega, fun W hW0 => ?_⟩
    have s0 := same_new (o := .lst ((Txt.split line " ").map V.str)) hW0
    have hW := (upd_same : upd H W (.lst ((Txt.split line " ").map V.str)) W = _)
    have lw : (Txt.split line " ").length ≤ 502 := Nat.le_trans (PyProof.Rows.split_le line " ") (by omega)
    have lp : 1 ≤ (Txt.split line " ").length := PyProof.Rows.split_pos line " "
    have e1 : (" " : Str).length = 1 := by decide +kernel
    have wt : ((Txt.split line " ").map (·.length)).sum + (Txt.split line " ").length ≤ line.length + 1 := PyProof.Rows.split_weight line " " (by omega)
    generalize upd H W (.lst ((Txt.split line " ").map V.str)) = H0 at s0 hW ⊢
    generalize Txt.split line " " = ws at hW lw lp wt
    walk_at "rs"
    refine ⟨W, _, rfl, .inl (SqL.of hW), ?_⟩
    have hN : ((ws.map V.str).length : Int) = ws.length := by rw [List.length_map]
    rw [hN]
    obtain ⟨n, en, hn⟩ : ∃ n : Nat, way / 5 % (ws.length : Int) = n ∧ n < ws.length := by
      have a0 := Int.emod_nonneg (way / 5) (show (ws.length : Int) ≠ 0 by omega)
      have a1 := Int.emod_lt_of_pos (way / 5) (show (0 : Int) < ws.length by omega)
      exact ⟨(way / 5 % (ws.length : Int)).toNat, by omega, by omega⟩
    refine ⟨_, _, rfl, rfl, (by show (0 : Int) < _; omega), ?_⟩
    show gName 3 (V.int (way / 5 % (ws.length : Int))) _ _ _
    rw [en]
    clear en
    have e2 : ((n : Int) + 1) = ((n + 1 : Nat) : Int) := by omega
    walk_at "rs"
    refine ite2 (fun c1 => ?_) (fun c1 => ?_)
    · have c1 : way % 5 = 0 := by simpa using c1
      walk_at "rs"
      refine ⟨⟨_, rfl⟩, ?_⟩
      walk_at "rs"
      refine ⟨W, _, rfl, SqL.of hW, fun a1 ha1 => ?_⟩
      rw [cutV_take']
      have t1 := same_new (o := .lst ((ws.take n).map V.str)) ha1
      have f1 := (upd_same : (upd H0 a1 (.lst ((ws.take n).map V.str))) a1 = _)
      generalize upd H0 a1 (.lst ((ws.take n).map V.str)) = H1 at t1 f1 ⊢
      walk_at "rs"
      refine ⟨W, _, rfl, SqL.of (t1 _ _ hW), fun a2 ha2 => ?_⟩
      rw [e2, cutV_drop']
      have t2 := same_new (o := .lst ((ws.drop (n + 1)).map V.str)) ha2
      have f2 := (upd_same : (upd H1 a2 (.lst ((ws.drop (n + 1)).map V.str))) a2 = _)
      generalize upd H1 a2 (.lst ((ws.drop (n + 1)).map V.str)) = H2 at t2 f2 ⊢
      refine ⟨a1, a2, _, _, rfl, rfl, t2 _ _ f1, f2, by rw [sizeLine_eq, List.length_map, List.length_map, List.length_take, List.length_drop]; omega, fun a3 ha3 => ?_⟩
      rw [strs_cat]
      have t3 := same_new (o := .lst ((ws.take n ++ ws.drop (n + 1)).map V.str)) ha3
      have cl := cut_len ws n
      have jl : (Txt.join " " (ws.take n ++ ws.drop (n + 1))).length ≤ 1000 := by
        rw [TL.join_eq]
        refine Nat.le_trans (join_len _ _) ?_
        rw [e1]
        omega
      refine ⟨_, a3, _, rfl, rfl, .inl (SqL.of upd_same), by rw [e1]; omega, ?_⟩
      exact k _ _ (((s0.trans t1).trans t2).trans t3) jl (fun z => by rcases z with z | z <;> omega)
    have c1 : ¬ way % 5 = 0 := by simpa using c1
    walk_at "rs"
    refine ite2 (fun c2 => ?_) (fun c2 => ?_)
    · have c2 : way % 5 = 1 := by simpa using c2
      walk_at "rs"
      refine ⟨by show line.length + 1 ≤ 16777216; omega, ?_⟩
      exact k _ _ s0 (by rw [PySem.Str.length_append, e1]; omega) fun _ => read_sp1 line
    have c2 : ¬ way % 5 = 1 := by simpa using c2
    walk_at "rs"
    refine ite2 (fun c3 => ?_) (fun c3 => ?_)
    · have c3 : way % 5 = 2 := by simpa using c3
      walk_at "rs"
      refine ⟨by show 1 + line.length ≤ 16777216; omega, ?_⟩
      exact k _ _ s0 (by rw [PySem.Str.length_append, e1]; omega) fun _ => read_sp2 line
    have c3 : ¬ way % 5 = 2 := by simpa using c3
    walk_at "rs"
    refine ite2 (fun c4 => ?_) (fun c4 => ?_)
    · walk_at "rs"
      refine ⟨⟨_, rfl⟩, ?_⟩
      walk_at "rs"
      refine ⟨W, _, rfl, SqL.of hW, fun a1 ha1 => ?_⟩
      rw [cutV_take']
      have t1 := same_new (o := .lst ((ws.take n).map V.str)) ha1
      have f1 := (upd_same : (upd H0 a1 (.lst ((ws.take n).map V.str))) a1 = _)
      generalize upd H0 a1 (.lst ((ws.take n).map V.str)) = H1 at t1 f1 ⊢
      walk_at "rs"
      refine ⟨(by show 4 ≤ sizeLine; decide), fun g1 hg1 => ?_⟩
      have t1' := same_new (o := .tup [V.str "01", V.str "1234567890", V.str "1_0", V.str "+5"]) hg1
      have f1' := (upd_same : (upd H1 g1 (.tup [V.str "01", V.str "1234567890", V.str "1_0", V.str "+5"])) g1 = _)
      generalize upd H1 g1 (.tup [V.str "01", V.str "1234567890", V.str "1_0", V.str "+5"]) = H1' at t1' f1' ⊢
      obtain ⟨z, hz, lz⟩ := odd_at (i := way / 500 % 4) (Int.emod_nonneg _ (by decide)) (Int.emod_lt_of_pos _ (by decide))
      walk_at "rs"
      refine ⟨g1, _, _, _, rfl, rfl, SqT.of f1', hz, ?_⟩
      refine ⟨(by show 1 ≤ sizeLine; decide), fun b1 hb1 => ?_⟩
      have t2' := same_new (o := .lst [V.str z]) hb1
      have f2' := (upd_same : (upd H1' b1 (.lst [V.str z])) b1 = _)
      generalize upd H1' b1 (.lst [V.str z]) = H2' at t2' f2' ⊢
      refine ⟨a1, b1, _, _, rfl, rfl, t2' _ _ (t1' _ _ f1), f2', by rw [sizeLine_eq, List.length_map, List.length_take]; show _ + 1 ≤ _; omega, fun a4 ha4 => ?_⟩
      have e7 : (ws.take n).map V.str ++ [V.str z] = (ws.take n ++ [z]).map V.str := by rw [List.map_append]; rfl
      rw [e7]
      have t4 := same_new (o := .lst ((ws.take n ++ [z]).map V.str)) ha4
      have f4 := (upd_same : (upd H2' a4 (.lst ((ws.take n ++ [z]).map V.str))) a4 = _)
      generalize upd H2' a4 (.lst ((ws.take n ++ [z]).map V.str)) = H2 at t4 f4 ⊢
      have t14 := ((t1.trans t1').trans t2').trans t4
      walk_at "rs"
      refine ⟨W, _, rfl, SqL.of (t14 _ _ hW), fun a2 ha2 => ?_⟩
      rw [e2, cutV_drop']
      have t2 := same_new (o := .lst ((ws.drop (n + 1)).map V.str)) ha2
      have f2 := (upd_same : (upd H2 a2 (.lst ((ws.drop (n + 1)).map V.str))) a2 = _)
      generalize upd H2 a2 (.lst ((ws.drop (n + 1)).map V.str)) = H3 at t2 f2 ⊢
      refine ⟨a4, a2, _, _, rfl, rfl, t2 _ _ f4, f2, by rw [sizeLine_eq, List.length_map, List.length_map, List.length_append, List.length_take, List.length_drop, List.length_singleton]; omega, fun a3 ha3 => ?_⟩
      rw [strs_cat]
      have t3 := same_new (o := .lst (((ws.take n ++ [z]) ++ ws.drop (n + 1)).map V.str)) ha3
      have cl := cut_len ws n
      have cl2 : (((ws.take n ++ [z]) ++ ws.drop (n + 1)).map (·.length)).sum + ((ws.take n ++ [z]) ++ ws.drop (n + 1)).length ≤ 900 := by
        simp only [List.map_append, List.sum_append, List.length_append, List.map_cons, List.map_nil, List.sum_cons, List.sum_nil, List.length_cons, List.length_nil] at cl ⊢
        omega
      have jl : (Txt.join " " ((ws.take n ++ [z]) ++ ws.drop (n + 1))).length ≤ 1000 := by
        rw [TL.join_eq]
        refine Nat.le_trans (join_len _ _) ?_
        rw [e1]
        omega
      refine ⟨_, a3, _, rfl, rfl, .inl (SqL.of upd_same), by rw [e1]; omega, ?_⟩
      exact k _ _ (((s0.trans t14).trans t2).trans t3) jl (fun z => by rcases z with z | z <;> omega)
    walk_at "rs"
    refine ⟨by show line.length + 2 ≤ 16777216; omega, ?_⟩
    have e3 : (" 7" : Str).length = 2 := by decide +kernel
    exact k _ _ s0 (by rw [PySem.Str.length_append, e3]; omega) (fun z => by rcases z with z | z <;> omega)

def spLRd : Sp := fun vs H Q _ => ∃ (z : Str) (k : Int), vs = [.str z, .int k] ∧ z.length ≤ 1000 ∧ 0 ≤ k ∧ k < 1000000000 ∧ ∀ H', Same H H' → Q (.bl true) H'
theorem ok_law_reads (TE : TxtE P w K mg a) (T : Txt K mg a) : ∃ fd, FnOk P w K mg base CX0 11 a.d_law_reads fd ["line", "at"] spLRd ∧ Binds K fd ["line", "at"] [] := by
  obtain ⟨fd, F, b⟩ := T.d_law_reads.F
  obtain ⟨fd_read_event, G_read_event, b_read_event⟩ := ok_read_event (P := P) (w := w) (base := base) TE T
  obtain ⟨fd_event_line, G_event_line, b_event_line⟩ := ok_event_line (P := P) (w := w) (base := base) TE T
  obtain ⟨fd_law_is_integer, G_law_is_integer, b_law_is_integer⟩ := ok_law_is_integer (P := P) (w := w) (base := base) T
  obtain ⟨fdS, SupS, bS⟩ := TE.sup_BadScript
  have nof := SupS.nof
  obtain ⟨fdW, GW, bW⟩ := okw_law_is_integer (P := P) (w := w) (base := base) T
  refine ⟨fd, F.ok sc_law_reads (fun vs H Q E h => ?_) (fun cdv A outer s H vs Q E hr h => ?_), b⟩
  · obtain ⟨_, _, rfl, _⟩ := h
    rfl
  · obtain ⟨z, k, rfl, lz, k0, k1, kk⟩ := h
    refine ⟨_, (pss_cons (ps_try_as (i := 3) rfl rfl sc_law_reads.nd rfl rfl ⟨rfl, by decide, .inl TE.g_TribunalError⟩ takes0 (fun W pn xe tk _ => (pss_one (ps_set (i := 2) sc_law_reads.nd rfl (Or.inl rfl) (pe_callS G_read_event (hr.mono (by decide)) rfl T.d_read_event.g T.d_read_event.kp b_read_event (fun σ => passAt tk σ) (pa_cons (pv 0) (pa_cons (pv 1) pa_nil)))))) (fun ae oe cls d pn hz hf => (pss_cons (ps_if (pt_val (pe_callB (call_isXT hz hf) (by rfl) T.n_isinstance (by decide +kernel) (pa_cons (pv 3) (pa_cons (pe_tup (pa_cons (pe_glob (v := .ref a.C_BadCommand) rfl TE.g_BadCommand rfl) (pa_cons (pe_glob (v := .ref a.C_BadLine) rfl TE.g_BadLine rfl) pa_nil))) pa_nil)))) (pss_one (ps_ret pe_bl)) pss_nil) (pss_one (ps_ret (pe_and (pe_callB (call_isX hz hf) (by rfl) T.n_isinstance (by decide +kernel) (pa_cons (pv 3) (pa_cons (pe_glob (v := .ref a.C_BadScript) rfl TE.g_BadScript rfl) pa_nil))) (pe_and (pe_callW (p := (ae, oe)) GW ((L2H.roomH_mark hr _).mono (by decide)) List.mem_cons_self rfl T.d_law_is_integer.g T.d_law_is_integer.kp bW (pa_cons (pe_xf ⟨TE.xc_BadScript.ga, TE.xc_BadScript.gt, TE.xc_BadScript.sub, TE.xc_BadScript.has⟩ nof hz hf (pv 3)) pa_nil)) (pe_one (pe_cmpR op_eq (pe_xf ⟨TE.xc_BadScript.ga, TE.xc_BadScript.gt, TE.xc_BadScript.sub, TE.xc_BadScript.has⟩ nof hz hf (pv 3)) (pv 1) (nomark _))))))))))
      (pss_one (ps_ret (pe_cmpR op_eq (pe_call G_event_line (hr.mono (by decide)) rfl T.d_event_line.g T.d_event_line.kp b_event_line .nil pass0 (pa_cons (pv 2) pa_nil)) (pv 0) (nomark _))))), ?_⟩
    walk_at "rs"
    refine ⟨z, k, rfl, lz, k0, k1, fun er d H2 s2 hd => ?_, fun e he p H2 s2 hp => ?_⟩
    · refine ⟨true, TE.exm_TribunalError_BadScript, fun _ ex hex => ?_, fun z => nomatch z⟩
      walk_at "rs"
      refine ⟨(by show 2 ≤ sizeLine; decide), fun tp htp => ?_⟩
      have s3 := same_new (o := .tup [V.ref a.C_BadCommand, V.ref a.C_BadLine]) htp
      have hd3 := s3 _ _ hd
      refine ⟨a.C_BadScript, d, tp, _, _, false, _, rfl, rfl, rfl, TE.xc_BadScript, upd_same, .cons (.own _) (.cons (.own _) .nil), hd3, TE.kta_BadScript_BadCommand_BadLine, ?_⟩
      generalize upd H2 tp (.tup [V.ref a.C_BadCommand, V.ref a.C_BadLine]) = H3 at s3 hd3 ⊢
      walk_at "rs"
      refine ⟨a.C_BadScript, d, .ref a.C_BadScript, .ref a.C_BadScript, true, _, rfl, rfl, rfl, TE.xc_BadScript, .own _, hd3, TE.kt_BadScript_BadScript, ?_⟩
      walk_at "rs"
      refine ⟨d, _, _, rfl, hd3, (by rfl : List.lookup ("at" : Str) [(("at" : Str), V.int k)] = some (.int k)), ?_⟩
      walk_at "rs"
      refine ⟨d, _, _, rfl, hd3, (by rfl : List.lookup ("at" : Str) [(("at" : Str), V.int k)] = some (.int k)), ?_⟩
      walk_at "rs"
      show Q (V.bl (decide (V.int k = V.int k))) H3
      rw [decide_eq_true rfl]
      exact kk _ (s2.trans s3)
    · obtain ⟨el, eg⟩ := read_ev he
      walk_at "rs"
      refine ⟨p, e, rfl, hp, eg, fun H3 s3 => ?_⟩
      rw [el]
      walk_at "rs"
      rw [decide_eq_true rfl]
      exact kk _ (s2.trans s3)
/-- an event as data -/
def Ev.dat : Ev → PyData
  | .num k ns => .tuple (.str k :: ns.map PyData.int)
  | .inj x => .tuple [.str "inject", x.dat]
  | .sub w c => .tuple [.str "submit", .int w, c.dat]
theorem dp_ints {H : Hp} : ∀ ns : List Int, DpAll K H (ns.map V.int) (ns.map PyData.int)
  | [] => .nil
  | n :: ns => .cons (.int n) (dp_ints ns)
theorem dp_ev {H : Hp} {p : Addr} {e : Ev} (h : EvAt H p e) : Dp K H (.ref p) e.dat := by
  cases e with
  | num k ns => exact .tup (SqT.of h) (.cons (.str _) (dp_ints ns))
  | inj x =>
    obtain ⟨q, h1, h2⟩ := h
    exact .tup (SqT.of h1) (.cons (.str _) (.cons (dp_lt h2) .nil))
  | sub w c =>
    obtain ⟨q, h1, h2⟩ := h
    exact .tup (SqT.of h1) (.cons (.str _) (.cons (.int _) (.cons (dp_cm h2) .nil)))
theorem lay_ints : ∀ ns : List Int, PyData.canLayAll0 (ns.map PyData.int) = true
  | [] => by simp [PyData.canLayAll0]
  | n :: ns => by simp only [List.map_cons, PyData.canLayAll0, PyData.canLay0, lay_ints ns]; rfl
theorem depth_ints : ∀ ns : List Int, PyData.depthAll (ns.map PyData.int) = 0
  | [] => by simp [PyData.depthAll]
  | n :: ns => by simp only [List.map_cons, PyData.depthAll, PyData.depth, depth_ints ns]; rfl
theorem nk_str {k : Str} {n : Int} (h : nkL.lookup k = some n) : PyData.strOk k = true := by
  have key : k = "deliver" ∨ k = "timeout" ∨ k = "assist" ∨ k = "crash" := by
    unfold nkL at h
    simp only [List.lookup] at h
    split at h
    · rename_i e
      exact .inl (eq_of_beq e)
    · split at h
      · rename_i e
        exact .inr (.inl (eq_of_beq e))
      · split at h
        · rename_i e
          exact .inr (.inr (.inl (eq_of_beq e)))
        · split at h
          · rename_i e
            exact .inr (.inr (.inr (eq_of_beq e)))
          · cases h
  rcases key with rfl | rfl | rfl | rfl <;> decide +kernel
theorem right_sok {c : Cm} (g : c.right) (h : c.txt.length ≤ 200) : c.sok := (right_ok g h).sok
theorem lay_ev {e : Ev} (g : e.good) : PyData.canLay0 e.dat = true ∧ PyData.depth e.dat ≤ 4 := by
  have i1 : PyData.strOk "inject" = true := by decide +kernel
  have i2 : PyData.strOk "submit" = true := by decide +kernel
  cases e with
  | num k ns =>
    have d := depth_ints ns
    refine ⟨?_, ?_⟩
    · simp only [Ev.dat, PyData.canLay0, PyData.canLayAll0, nk_str g.1, lay_ints ns]
      rfl
    · simp only [Ev.dat, PyData.depth, PyData.depthAll, d]
      decide
  | inj x =>
    have d := depth_lt x
    refine ⟨?_, ?_⟩
    · simp only [Ev.dat, PyData.canLay0, PyData.canLayAll0, i1, lay_lt g.1.ok]
      rfl
    · simp only [Ev.dat, PyData.depth, PyData.depthAll, d]
      decide
  | sub w c =>
    have d := depth_cm c
    have l60 := g.2.2
    refine ⟨?_, ?_⟩
    · simp only [Ev.dat, PyData.canLay0, PyData.canLayAll0, i2, lay_cm (right_sok g.2.1 (by omega))]
      rfl
    · simp only [Ev.dat, PyData.depth, PyData.depthAll, d]
      decide
theorem shaped_ev {e : Ev} (g : e.good) : SeqAt.shaped e.dat = true := by
  unfold SeqAt.shaped
  have := (lay_ev g).2
  rw [(lay_ev g).1, decide_eq_true (by omega)]
  rfl
theorem eqv_ev {e : Ev} (g : e.good) : PyData.eqv e.dat e.dat = true := SeqAt.eqv_refl _ (lay_ev g).1
theorem mul100 : ∀ i : _root_.Fin 100, MulOk "1" ((i.val : Nat) : Int) := by
  unfold MulOk
  decide +kernel
theorem mul_ones : ∀ i : _root_.Fin 100, (Txt.mul "1" ((i.val : Nat) : Int)).length = i.val ∧ (TL.tl (Txt.mul "1" ((i.val : Nat) : Int))).all (fun c => decide (c = 49)) = true := by decide +kernel
def spLLong : Sp := fun vs H Q _ => ∃ (n k : Int), vs = [.int n, .int k] ∧ 0 ≤ n ∧ n < 100 ∧ 0 ≤ k ∧ k < 1000000000 ∧ ∀ H', Same H H' → Q (.bl true) H'
theorem ok_law_long (TE : TxtE P w K mg a) (T : Txt K mg a) : ∃ fd, FnOk P w K mg base CX0 11 a.d_law_long fd ["size", "at"] spLLong ∧ Binds K fd ["size", "at"] [] := by
  obtain ⟨fd, F, b⟩ := T.d_law_long.F
  obtain ⟨fd_read_event, G_read_event, b_read_event⟩ := ok_read_event (P := P) (w := w) (base := base) TE T
  refine ⟨fd, F.ok sc_law_long (fun vs H Q E h => ?_) (fun cdv A outer s H vs Q E hr h => ?_), b⟩
  · obtain ⟨_, _, rfl, _⟩ := h
    rfl
  · obtain ⟨n, k, rfl, n0, n1, k0, k1, kk⟩ := h
    refine ⟨_, (pss_cons (ps_set (i := 2) sc_law_long.nd rfl (Or.inl rfl) (pe_op op_add_str (pe_op op_add_str pe_str (pe_op op_mulS pe_str (pv 0))) pe_str))
      (pss_cons (ps_try_only rfl rfl ⟨rfl, by decide, .inl TE.g_BadScript⟩ takes0 (fun W pn xe tk po => (pss_one (ps_set (i := 3) sc_law_long.nd rfl (Or.inl rfl) (pe_callS G_read_event (hr.mono (by decide)) rfl T.d_read_event.g T.d_read_event.kp b_read_event (fun σ => passAt tk σ) (pa_cons (pv 2) (pa_cons (pv 1) pa_nil)))))) (fun ae oe cls d pn hz hf => (pss_one (ps_ret (pe_cmpR op_gt (pv 0) pe_int (nomark _))))))
      (pss_one (ps_ret (pe_and (pe_cmpR op_le (pv 0) pe_int (nomark _)) (pe_one (pe_cmpR (op_eqD hr.units) (pv 3) (pe_tup (pa_cons pe_str (pa_cons pe_int (pa_cons (pe_tup (pa_cons pe_str (pa_cons pe_int (pa_cons (pe_op op_mulS pe_str (pv 0)) pa_nil)))) pa_nil)))) (nomark _)))))))), ?_⟩
    obtain ⟨i, rfl⟩ : ∃ i : _root_.Fin 100, n = ((i.val : Nat) : Int) := ⟨⟨n.toNat, by omega⟩, by show n = (n.toNat : Int); omega⟩
    have mo := mul100 i
    obtain ⟨ml, ma⟩ := mul_ones i
    generalize em : Txt.mul "1" ((i.val : Nat) : Int) = m at ml ma
    have sg : Sgn m := fun c hc => by
      have := of_decide_eq_true (List.all_eq_true.mp ma c hc)
      rw [this]
      decide +kernel
    have right : (Cm.d 0 m).right := ⟨⟨by decide, by decide⟩, sg⟩
    have el : (("submit 3 d0z" : Str) ++ m ++ "z") = (Ev.sub 3 (.d 0 m)).line := by
      unfold Ev.line Ev.wds
      rw [join_cons2 _ (List.cons_ne_nil _ _), join_cons2 _ (List.cons_ne_nil _ _), join_one]
      refine TL.ext_tl ?_
      have e1 : TL.tl ("submit 3 d0z" : Str) = TL.tl ("submit" : Str) ++ (TL.tl (" " : Str) ++ (TL.tl (toString (3 : Int) : Str) ++ (TL.tl (" " : Str) ++ (TL.tl ("d" : Str) ++ (TL.tl (nu 0) ++ TL.tl ("z" : Str)))))) := by decide +kernel
      simp only [Cm.txt, TL.tl_append, e1, List.append_assoc]
    have l3 : ("submit 3 d0z" : Str).length = 12 := by decide +kernel
    have l1 : ("z" : Str).length = 1 := by decide +kernel
    have lt : (Cm.d 0 m).txt.length = i.val + 4 := by
      have ld : ("d" : Str).length = 1 := by decide +kernel
      have l0 : (nu 0).length = 1 := by decide +kernel
      simp only [Cm.txt, PySem.Str.length_append, ld, l0, l1, ml]
      omega
    have rd := read_sub (w := 3) (c := .d 0 m) ⟨by decide, by decide⟩ right
    have hi := i.isLt
    walk_at "rs"
    refine ⟨mo, ?_⟩
    rw [em]
    refine ⟨_, _, rfl, rfl, by rw [l3, ml, sizeLine_eq]; omega, ?_⟩
    refine ⟨_, _, rfl, rfl, by rw [PySem.Str.length_append, l3, ml, l1, sizeLine_eq]; omega, ?_⟩
    rw [el]
    have ll : (Ev.sub 3 (.d 0 m)).line.length ≤ 1000 := by
      rw [← el, PySem.Str.length_append, PySem.Str.length_append, l3, ml, l1]
      omega
    walk_at "rs"
    refine ⟨_, k, rfl, ll, k0, k1, fun er d H2 s2 hd => ?_, fun e he p H2 s2 hp => ?_⟩
    · rw [rd, lt] at er
      have big : ¬ i.val + 4 ≤ 60 := fun z => by
        rw [if_pos z] at er
        cases er
      refine ⟨true, TE.exm_BadScript_BadScript, fun _ ex hex => ?_, fun z => nomatch z⟩
      walk_at "rs"
      show Q (V.bl (decide ((56 : Int) < ((i.val : Nat) : Int)))) H2
      rw [decide_eq_true (show (56 : Int) < ((i.val : Nat) : Int) by omega)]
      exact kk _ s2
    · rw [rd, lt] at he
      have big : i.val + 4 ≤ 60 := by
        by_cases z : i.val + 4 ≤ 60
        · exact z
        · rw [if_neg z] at he
          cases he
      rw [if_pos big] at he
      cases he
      have gd : (Ev.sub 3 (.d 0 m)).good := ⟨⟨by decide, by decide⟩, right, by omega⟩
      walk_at "rs"
      rw [decide_eq_true (show ((i.val : Nat) : Int) ≤ 56 by omega), if_pos rfl]
      walk_at "rs"
      refine ⟨mo, ?_⟩
      rw [em]
      refine ⟨(by show 3 ≤ sizeLine; decide), fun q1 hq1 => ?_⟩
      have s3 := same_new (o := .tup [V.str "d", V.int 0, V.str m]) hq1
      have h3 := (upd_same : (upd H2 q1 (.tup [V.str "d", V.int 0, V.str m])) q1 = _)
      generalize upd H2 q1 (.tup [V.str "d", V.int 0, V.str m]) = H3 at s3 h3 ⊢
      refine ⟨(by show 3 ≤ sizeLine; decide), fun q2 hq2 => ?_⟩
      have s4 := same_new (o := .tup [V.str "submit", V.int 3, V.ref q1]) hq2
      have h4 := (upd_same : (upd H3 q2 (.tup [V.str "submit", V.int 3, V.ref q1])) q2 = _)
      generalize upd H3 q2 (.tup [V.str "submit", V.int 3, V.ref q1]) = H4 at s4 h4 ⊢
      have ev2 : EvAt H4 q2 (.sub 3 (.d 0 m)) := ⟨q1, h4, s4 _ _ h3⟩
      refine ⟨_, _, dp_ev (hp.same (s3.trans s4)), dp_ev ev2, shaped_ev gd, shaped_ev gd, ?_⟩
      rw [eqv_ev gd]
      exact kk _ ((s2.trans s3).trans s4)
theorem three {xs : List Int} (h : xs.length = 3) : ∃ a b c, xs = [a, b, c] := by
  match xs, h with
  | [a, b, c], _ => exact ⟨a, b, c, rfl⟩
theorem in124 {x : Int} (h : inV (.int x) [V.int 1, V.int 2, V.int 4] = true) : x = 1 ∨ x = 2 ∨ x = 4 := by
  unfold inV at h
  have e : ∀ y : Int, eqV (.int y) (.int x) = decide (y = x) := fun y => by
    show (y == x) = _
    rw [Bool.eq_iff_iff]
    simp
  simp only [List.any_cons, List.any_nil, e, Bool.or_false, Bool.or_eq_true, decide_eq_true_eq] at h
  omega
theorem ok_law {f : Addr} {fd : FuncData} (F : Fun K "law" "law" s_law f fd) (TE : TxtE P w K mg a) (T : Txt K mg a) : FnOk P w K mg base CX0 12 f fd ["script"] (spLaw K) := by
  obtain ⟨fd_law_event, G_law_event, b_law_event⟩ := ok_law_event (P := P) (w := w) (base := base) T
  obtain ⟨fd_law_line, G_law_line, b_law_line⟩ := ok_law_line (P := P) (w := w) (base := base) T
  obtain ⟨fd_law_changed, G_law_changed, b_law_changed⟩ := ok_law_changed (P := P) (w := w) (base := base) T
  obtain ⟨fd_law_long, G_law_long, b_law_long⟩ := ok_law_long (P := P) (w := w) (base := base) TE T
  obtain ⟨fd_law_reads, G_law_reads, b_law_reads⟩ := ok_law_reads (P := P) (w := w) (base := base) TE T
  obtain ⟨fd_law_cell, G_law_cell, b_law_cell⟩ := ok_law_cell (P := P) (w := w) (base := base) T
  obtain ⟨fd_event_line, G_event_line, b_event_line⟩ := ok_event_line (P := P) (w := w) (base := base) TE T
  obtain ⟨fd_read_event, G_read_event, b_read_event⟩ := ok_read_event (P := P) (w := w) (base := base) TE T
  refine F.ok sc_law (fun vs H Q E h => ?_) (fun cdv A outer s H vs Q E hr h => ?_)
  · obtain ⟨_, _, rfl, _⟩ := h
    rfl
  · obtain ⟨l, ns, rfl, hS, hl, k⟩ := h
    refine ⟨_, (pss_cons (ps_for PassesOwn.never rfl (pi_range1 rfl T.n_range (pa_cons (pe_op op_fdiv (pe_op op_add (pe_callB call_len_seq (by rfl) T.n_len PySem.boot_len (pa_cons (pv 0) pa_nil)) pe_int) pe_int) pa_nil)) (pg_name (i := 1) sc_law.nd rfl (Or.inr rfl))
      (pss_cons (ps_setLc (i := 2) (own := [("at", 6)]) (g := (gName 6)) (tt := tYes) rfl sc_law.nd rfl rfl (sw_true rfl rfl rfl (by decide +kernel)) (pi_range1 rfl T.n_range (pa_cons pe_int pa_nil)) (blkOk_by (own := [("at", 6)]) (N := sc_law_N) (sc := defScope s_law) (by decide +kernel)) (fun _ _ _ _ _ => (pg_name (i := 6) sc_law.nd rfl (Or.inl rfl))) (fun _ _ _ _ _ => pts_nil) (fun _ _ _ _ _ => (pe_callB call_abs (by rfl) T.n_abs (by decide +kernel) (pa_cons (pe_call G_law_cell (hr.mono (by decide)) rfl T.d_law_cell.g T.d_law_cell.kp b_law_cell .nil pass0 (pa_cons (pv 0) (pa_cons (pe_op op_add (pe_op op_mul pe_int (pv 1)) (pv 6)) pa_nil))) pa_nil))))
        (pss_cons (ps_if (pt_not (pt_val (pe_call G_law_long (hr.mono (by decide)) rfl T.d_law_long.g T.d_law_long.kp b_law_long .nil pass0 (pa_cons (pe_op op_sub (pe_op op_add pe_int (pe_op op_mod (pe_callTy call_int1 (by rfl) T.n_int (by decide +kernel) (pa_cons (pe_ix ix_list (pv 2) pe_int (fun _ _ => rfl)) pa_nil)) pe_int)) (pe_op op_mul (pe_op op_mod (pe_op op_fdiv (pe_callTy call_int1 (by rfl) T.n_int (by decide +kernel) (pa_cons (pe_ix ix_list (pv 2) pe_int (fun _ _ => rfl)) pa_nil)) pe_int) pe_int) pe_int)) (pa_cons (pv 1) pa_nil)))))
        (pss_one (ps_ret pe_bl))
        pss_nil)
        (pss_cons (ps_set (i := 3) sc_law.nd rfl (Or.inl rfl) (pe_call G_law_event (hr.mono (by decide)) rfl T.d_law_event.g T.d_law_event.kp b_law_event .nil pass0 (pa_cons (pe_ix ix_list (pv 2) pe_int (fun _ _ => rfl)) (pa_cons (pe_ix ix_list (pv 2) pe_int (fun _ _ => rfl)) (pa_cons (pe_ix ix_list (pv 2) pe_int (fun _ _ => rfl)) pa_nil)))))
        (pss_cons (ps_set (i := 4) sc_law.nd rfl (Or.inl rfl) (pe_call G_law_line (hr.mono (by decide)) rfl T.d_law_line.g T.d_law_line.kp b_law_line .nil pass0 (pa_cons (pv 3) pa_nil)))
        (pss_cons (ps_if (PW.pt (pw_or (pt_cmpR op_ne (pe_call G_event_line (hr.mono (by decide)) rfl T.d_event_line.g T.d_event_line.kp b_event_line .nil pass0 (pa_cons (pv 3) pa_nil)) (pv 4) (nomark _)) (pw_or1 (pt_cmpR (op_neD hr.units) (pe_call G_read_event (hr.mono (by decide)) rfl T.d_read_event.g T.d_read_event.kp b_read_event .nil (passes_call (E := fun _ _ _ => False) takes0 (fun _ _ _ _ h => h)) (pa_cons (pv 4) (pa_cons (pv 1) pa_nil))) (pv 3) (nomark _)))))
        (pss_one (ps_ret pe_bl))
        pss_nil)
        (pss_cons (ps_set (i := 5) sc_law.nd rfl (Or.inl rfl) (pe_call G_law_changed (hr.mono (by decide)) rfl T.d_law_changed.g T.d_law_changed.kp b_law_changed .nil pass0 (pa_cons (pv 4) (pa_cons (pe_op op_fdiv (pe_ix ix_list (pv 2) pe_int (fun _ _ => rfl)) pe_int) pa_nil))))
        (pss_cons (ps_if (pt_not (pt_val (pe_call G_law_reads (hr.mono (by decide)) rfl T.d_law_reads.g T.d_law_reads.kp b_law_reads .nil pass0 (pa_cons (pv 5) (pa_cons (pv 1) pa_nil)))))
        (pss_one (ps_ret pe_bl))
        pss_nil)
        (pss_one (ps_if (pt_cmpR op_in_seq (pe_op op_mod (pe_op op_fdiv (pe_ix ix_list (pv 2) pe_int (fun _ _ => rfl)) pe_int) pe_int) (pe_tup (pa_cons pe_int (pa_cons pe_int (pa_cons pe_int pa_nil)))) (by rfl))
        (pss_cons (ps_try_only rfl rfl ⟨rfl, by decide, .inl TE.g_BadScript⟩ takes0 (fun W pn xe tk po => (pss_one (ps_expr (pe_callS G_read_event (hr.mono (by decide)) rfl T.d_read_event.g T.d_read_event.kp b_read_event (fun σ => passAt tk σ) (pa_cons (pv 5) (pa_cons (pv 1) pa_nil)))))) (fun ae oe cls d pn hz hf => (pss_one ps_continue)))
          (pss_one (ps_if (pt_cmpR op_lt (pe_op op_mod (pe_op op_fdiv (pe_ix ix_list (pv 2) pe_int (fun _ _ => rfl)) pe_int) pe_int) pe_int (nomark _))
          (pss_one (ps_ret pe_bl))
          pss_nil)))
        pss_nil))))))))))
      (pss_one (ps_ret pe_bl))), ?_⟩
    walk_at "rs"
    refine ⟨l, _, rfl, .inl hS, ?_⟩
    have hN : ((ns.map V.int).length : Int) = ns.length := by rw [List.length_map]
    rw [hN]
    walk_at "rs"
    refine ⟨(by show -(2 ^ 62 : Int) ≤ _; omega), (by show _ < (2 ^ 62 : Int); omega), ?_⟩
    refine for_range (lo := 0) (n := (((ns.length : Int) + 2) / 3).toNat) (fun i σ H2 => ∃ v1 v2 v3 v4 v5, σ = [some (.ref l), v1, v2, v3, v4, v5, none] ∧ Same H H2) ⟨_, _, _, _, _, rfl, Same.refl H⟩ ?_ ?_
    · rintro i σ H2 hi ⟨v1, v2, v3, v4, v5, rfl, s2⟩
      have e0 : (0 : Int) + (i : Int) = (i : Int) := Int.zero_add _
      rw [e0]
      have ib : (i : Int) < 1000 := by omega
      walk_at "rs"
      refine ⟨by decide, by decide, fun D hD => ?_⟩
      refine lc_range (lo := 0) (n := 3) (fun j H3 => Same H2 H3 ∧ ∃ xs : List Int, xs.length = j ∧ (∀ x ∈ xs, 0 ≤ x) ∧ H3 D = some (.lst (xs.map V.int))) ⟨same_new hD, [], rfl, fun _ z => (nomatch z), upd_same⟩ ?_ ?_
      · rintro j H3 hj ⟨s3, xs, ex, px, hd⟩
        refine ⟨rfl, ?_⟩
        walk_at "rs"
        refine ⟨l, ns, 3 * (i : Int) + (0 + (j : Int)), rfl, s3.seq (s2.seq hS), hl, by omega, ?_⟩
        walk_at "rs"
        refine ⟨_, hd, by rw [List.length_map]; exact small1000 (by omega), same_upd s3 hD, ?_⟩
        generalize ns.getD (3 * (i : Int) + (0 + (j : Int))).toNat 0 = v
        refine ⟨xs ++ [if v < 0 then -v else v], by rw [List.length_append, ex]; rfl, fun x hx => ?_, by rw [upd_same]; simp⟩
        rcases List.mem_append.mp hx with hx | hx
        · exact px x hx
        · rw [List.mem_singleton.mp hx]
          split <;> omega
      · rintro H3 ⟨s3, xs, ex, px, hd⟩
        obtain ⟨x0, x1, x2, rfl⟩ := three ex
        have p0 := px x0 (by simp)
        have p1 := px x1 (by simp)
        have p2 := px x2 (by simp)
        have s23 := s2.trans s3
        have m20 := Int.emod_nonneg x0 (show (20 : Int) ≠ 0 by decide)
        have m20' := Int.emod_lt_of_pos x0 (show (0 : Int) < 20 by decide)
        have m2 := Int.emod_nonneg (x0 / 20) (show (2 : Int) ≠ 0 by decide)
        have m2' := Int.emod_lt_of_pos (x0 / 20) (show (0 : Int) < 2 by decide)
        walk_at "rs"
        refine ⟨D, _, _, _, rfl, rfl, SqL.of hd, rfl, ?_⟩
        walk_at "rs"
        refine ⟨D, _, _, _, rfl, rfl, SqL.of hd, rfl, ?_⟩
        walk_at "rs"
        refine ⟨_, (i : Int), rfl, by omega, by omega, by omega, by omega, fun H4 s4 => ?_⟩
        have hd4 := s4 _ _ hd
        walk_at "rs"
        refine ⟨D, _, _, _, rfl, rfl, SqL.of hd4, rfl, ?_⟩
        walk_at "rs"
        refine ⟨D, _, _, _, rfl, rfl, SqL.of hd4, rfl, ?_⟩
        walk_at "rs"
        refine ⟨D, _, _, _, rfl, rfl, SqL.of hd4, rfl, ?_⟩
        walk_at "rs"
        refine ⟨x0, x1, x2, rfl, p0, p1, p2, fun p e H5 s5 hp eg => ?_⟩
        have hd5 := s5 _ _ hd4
        walk_at "rs"
        refine ⟨p, e, rfl, hp, eg, fun H6 s6 => ?_⟩
        walk_at "rs"
        refine ⟨p, e, rfl, hp.same s6, eg, fun H7 s7 => ?_⟩
        have ll := (wds_len eg).2
        walk_at "rs"
        refine ite2 (fun c => ?_) (fun _ => ?_)
        · exfalso
          simp at c
        walk_at "rs"
        refine ⟨e.line, (i : Int), rfl, by omega, by omega, by omega, fun er => ?_, fun e2 he2 p2 H8 s8 hp2 => ?_⟩
        · rw [read_back eg] at er
          cases er
        rw [read_back eg] at he2
        cases he2
        have hp8 := hp.same ((s6.trans s7).trans s8)
        walk_at "rs"
        refine ⟨_, _, dp_ev hp2, dp_ev hp8, shaped_ev eg, shaped_ev eg, ?_⟩
        rw [eqv_ev eg]
        have hd8 := s8 _ _ (s7 _ _ (s6 _ _ hd5))
        have s28 := ((((s23.trans s4).trans s5).trans s6).trans s7).trans s8
        walk_at "rs"
        refine ⟨D, _, _, _, rfl, rfl, SqL.of hd8, rfl, ?_⟩
        walk_at "rs"
        refine ⟨e.line, x2 / 7, rfl, by omega, by omega, fun z H9 s9 lz er => ?_⟩
        have hd9 := s9 _ _ hd8
        walk_at "rs"
        refine ⟨z, (i : Int), rfl, lz, by omega, by omega, fun H10 s10 => ?_⟩
        have hd10 := s10 _ _ hd9
        have s210 := (s28.trans s9).trans s10
        walk_at "rs"
        refine ⟨D, _, _, _, rfl, rfl, SqL.of hd10, rfl, ?_⟩
        walk_at "rs"
        refine ⟨(by show 3 ≤ sizeLine; decide), fun tq htq => ?_⟩
        have s11 := same_new (o := .tup [V.int 1, V.int 2, V.int 4]) htq
        have h11 := (upd_same : (upd H10 tq (.tup [V.int 1, V.int 2, V.int 4])) tq = _)
        generalize upd H10 tq (.tup [V.int 1, V.int 2, V.int 4]) = H11 at s11 h11 ⊢
        have hd11 := s11 _ _ hd10
        have s211 := s210.trans s11
        refine ⟨tq, _, rfl, .inr (SqT.of h11), rfl, rfl, _, rfl, ?_⟩
        refine ite2 (fun c => ?_) (fun c => ?_)
        · have c := in124 c
          walk_at "rs"
          refine ⟨z, (i : Int), rfl, lz, by omega, by omega, fun er2 d H12 s12 hd12 => ?_, fun e3 he3 p3 H12 s12 hp3 => ?_⟩
          · refine ⟨true, TE.exm_BadScript_BadScript, fun _ ex hex => ?_, fun z => nomatch z⟩
            walk_at "rs"
            exact ⟨_, _, _, _, _, rfl, s211.trans s12⟩
          · have hd12 := s12 _ _ hd11
            walk_at "rs"
            refine ⟨D, _, _, _, rfl, rfl, SqL.of hd12, rfl, ?_⟩
            walk_at "rs"
            refine ite2 (fun c2 => ?_) (fun c2 => ?_)
            · have c2 : x2 / 7 % 5 < 3 := by simpa using c2
              rw [er (by omega)] at he3
              cases he3
            walk_at "rs"
            exact ⟨_, _, _, _, _, rfl, s211.trans s12⟩
        · walk_at "rs"
          exact ⟨_, _, _, _, _, rfl, s211⟩
    · rintro σ H2 ⟨v1, v2, v3, v4, v5, rfl, s2⟩
      walk_at "rs"
      exact k _

end

theorem all_mk {l : PySem.W.OpenLaw} {w : World} {K : PySem.W.Frag} {h : Heap} {mg : Str → Option Value} {fa : Addr} (X : K.In h) (G : h.Ns mainGlobals mg) (hfa : mg "law" = some (.ref fa))
    {t_SIGNS : Tok} {t_DIGITS : Tok} {t_LETTERS : Tok} {t_BLOCK_SIGNS : Tok} {t_NONE : Tok} {t_MOST_DIGITS_wire : Tok} {t_MOST_SIGNS : Tok} {t_MOST_DIGITS_commands : Tok} {t_CODE_END : Tok} {C_Reader : Addr} {f_proposal : Addr} {od_proposal an_proposal : Option Addr} {sl_proposal : Array (Option Value)} {oc_proposal kV_proposal dc_proposal pm_proposal cd_proposal ct_proposal : Value} {f_prevote : Addr} {od_prevote an_prevote : Option Addr} {sl_prevote : Array (Option Value)} {oc_prevote kV_prevote dc_prevote pm_prevote cd_prevote ct_prevote : Value} {f_precommit : Addr} {od_precommit an_precommit : Option Addr} {sl_precommit : Array (Option Value)} {oc_precommit kV_precommit dc_precommit pm_precommit cd_precommit ct_precommit : Value} {f_is_number : Addr} {od_is_number an_is_number : Option Addr} {sl_is_number : Array (Option Value)} {oc_is_number kV_is_number dc_is_number pm_is_number cd_is_number ct_is_number : Value} {f_is_block : Addr} {od_is_block an_is_block : Option Addr} {sl_is_block : Array (Option Value)} {oc_is_block kV_is_block dc_is_block pm_is_block cd_is_block ct_is_block : Value} {f_word_at : Addr} {od_word_at an_word_at : Option Addr} {sl_word_at : Array (Option Value)} {oc_word_at kV_word_at dc_word_at pm_word_at cd_word_at ct_word_at : Value} {f_number_at : Addr} {od_number_at an_number_at : Option Addr} {sl_number_at : Array (Option Value)} {oc_number_at kV_number_at dc_number_at pm_number_at cd_number_at ct_number_at : Value} {f_kind_at : Addr} {od_kind_at an_kind_at : Option Addr} {sl_kind_at : Array (Option Value)} {oc_kind_at kV_kind_at dc_kind_at pm_kind_at cd_kind_at ct_kind_at : Value} {f_block_at : Addr} {od_block_at an_block_at : Option Addr} {sl_block_at : Array (Option Value)} {oc_block_at kV_block_at dc_block_at pm_block_at cd_block_at ct_block_at : Value} {f_lean_at : Addr} {od_lean_at an_lean_at : Option Addr} {sl_lean_at : Array (Option Value)} {oc_lean_at kV_lean_at dc_lean_at pm_lean_at cd_lean_at ct_lean_at : Value} {f_end_at : Addr} {od_end_at an_end_at : Option Addr} {sl_end_at : Array (Option Value)} {oc_end_at kV_end_at dc_end_at pm_end_at cd_end_at ct_end_at : Value} {f_read_letter : Addr} {od_read_letter an_read_letter : Option Addr} {sl_read_letter : Array (Option Value)} {oc_read_letter kV_read_letter dc_read_letter pm_read_letter cd_read_letter ct_read_letter : Value} {f_word : Addr} {od_word an_word : Option Addr} {sl_word : Array (Option Value)} {oc_word kV_word dc_word pm_word cd_word ct_word : Value} {f_letter_line : Addr} {od_letter_line an_letter_line : Option Addr} {sl_letter_line : Array (Option Value)} {oc_letter_line kV_letter_line dc_letter_line pm_letter_line cd_letter_line ct_letter_line : Value} {f_command_text : Addr} {od_command_text an_command_text : Option Addr} {sl_command_text : Array (Option Value)} {oc_command_text kV_command_text dc_command_text pm_command_text cd_command_text ct_command_text : Value} {f_Reader_init : Addr} {od_Reader_init an_Reader_init : Option Addr} {sl_Reader_init : Array (Option Value)} {oc_Reader_init kV_Reader_init dc_Reader_init pm_Reader_init cd_Reader_init ct_Reader_init : Value} {f_Reader_read_signs : Addr} {od_Reader_read_signs an_Reader_read_signs : Option Addr} {sl_Reader_read_signs : Array (Option Value)} {oc_Reader_read_signs kV_Reader_read_signs dc_Reader_read_signs pm_Reader_read_signs cd_Reader_read_signs ct_Reader_read_signs : Value} {f_Reader_skip : Addr} {od_Reader_skip an_Reader_skip : Option Addr} {sl_Reader_skip : Array (Option Value)} {oc_Reader_skip kV_Reader_skip dc_Reader_skip pm_Reader_skip cd_Reader_skip ct_Reader_skip : Value} {f_Reader_read_number : Addr} {od_Reader_read_number an_Reader_read_number : Option Addr} {sl_Reader_read_number : Array (Option Value)} {oc_Reader_read_number kV_Reader_read_number dc_Reader_read_number pm_Reader_read_number cd_Reader_read_number ct_Reader_read_number : Value} {f_Reader_read_code : Addr} {od_Reader_read_code an_Reader_read_code : Option Addr} {sl_Reader_read_code : Array (Option Value)} {oc_Reader_read_code kV_Reader_read_code dc_Reader_read_code pm_Reader_read_code cd_Reader_read_code ct_Reader_read_code : Value} {f_Reader_read_command : Addr} {od_Reader_read_command an_Reader_read_command : Option Addr} {sl_Reader_read_command : Array (Option Value)} {oc_Reader_read_command kV_Reader_read_command dc_Reader_read_command pm_Reader_read_command cd_Reader_read_command ct_Reader_read_command : Value} {f_commands_of : Addr} {od_commands_of an_commands_of : Option Addr} {sl_commands_of : Array (Option Value)} {oc_commands_of kV_commands_of dc_commands_of pm_commands_of cd_commands_of ct_commands_of : Value} {f_law_cell : Addr} {od_law_cell an_law_cell : Option Addr} {sl_law_cell : Array (Option Value)} {oc_law_cell kV_law_cell dc_law_cell pm_law_cell cd_law_cell ct_law_cell : Value} {f_law_row : Addr} {od_law_row an_law_row : Option Addr} {sl_law_row : Array (Option Value)} {oc_law_row kV_law_row dc_law_row pm_law_row cd_law_row ct_law_row : Value} {f_law_number : Addr} {od_law_number an_law_number : Option Addr} {sl_law_number : Array (Option Value)} {oc_law_number kV_law_number dc_law_number pm_law_number cd_law_number ct_law_number : Value} {f_law_code : Addr} {od_law_code an_law_code : Option Addr} {sl_law_code : Array (Option Value)} {oc_law_code kV_law_code dc_law_code pm_law_code cd_law_code ct_law_code : Value} {f_law_place : Addr} {od_law_place an_law_place : Option Addr} {sl_law_place : Array (Option Value)} {oc_law_place kV_law_place dc_law_place pm_law_place cd_law_place ct_law_place : Value} {f_law_command : Addr} {od_law_command an_law_command : Option Addr} {sl_law_command : Array (Option Value)} {oc_law_command kV_law_command dc_law_command pm_law_command cd_law_command ct_law_command : Value} {f_law_text : Addr} {od_law_text an_law_text : Option Addr} {sl_law_text : Array (Option Value)} {oc_law_text kV_law_text dc_law_text pm_law_text cd_law_text ct_law_text : Value} {f_read_number : Addr} {od_read_number an_read_number : Option Addr} {sl_read_number : Array (Option Value)} {oc_read_number kV_read_number dc_read_number pm_read_number cd_read_number ct_read_number : Value} {f_u_read_letter : Addr} {od_u_read_letter an_u_read_letter : Option Addr} {sl_u_read_letter : Array (Option Value)} {oc_u_read_letter kV_u_read_letter dc_u_read_letter pm_u_read_letter cd_u_read_letter ct_u_read_letter : Value} {f_read_command : Addr} {od_read_command an_read_command : Option Addr} {sl_read_command : Array (Option Value)} {oc_read_command kV_read_command dc_read_command pm_read_command cd_read_command ct_read_command : Value} {f_event_line : Addr} {od_event_line an_event_line : Option Addr} {sl_event_line : Array (Option Value)} {oc_event_line kV_event_line dc_event_line pm_event_line cd_event_line ct_event_line : Value} {f_read_event : Addr} {od_read_event an_read_event : Option Addr} {sl_read_event : Array (Option Value)} {oc_read_event kV_read_event dc_read_event pm_read_event cd_read_event ct_read_event : Value} {f_law_is_integer : Addr} {od_law_is_integer an_law_is_integer : Option Addr} {sl_law_is_integer : Array (Option Value)} {oc_law_is_integer kV_law_is_integer dc_law_is_integer pm_law_is_integer cd_law_is_integer ct_law_is_integer : Value} {f_law_statement : Addr} {od_law_statement an_law_statement : Option Addr} {sl_law_statement : Array (Option Value)} {oc_law_statement kV_law_statement dc_law_statement pm_law_statement cd_law_statement ct_law_statement : Value} {f_law_event : Addr} {od_law_event an_law_event : Option Addr} {sl_law_event : Array (Option Value)} {oc_law_event kV_law_event dc_law_event pm_law_event cd_law_event ct_law_event : Value} {f_law_line : Addr} {od_law_line an_law_line : Option Addr} {sl_law_line : Array (Option Value)} {oc_law_line kV_law_line dc_law_line pm_law_line cd_law_line ct_law_line : Value} {f_law_changed : Addr} {od_law_changed an_law_changed : Option Addr} {sl_law_changed : Array (Option Value)} {oc_law_changed kV_law_changed dc_law_changed pm_law_changed cd_law_changed ct_law_changed : Value} {f_law_reads : Addr} {od_law_reads an_law_reads : Option Addr} {sl_law_reads : Array (Option Value)} {oc_law_reads kV_law_reads dc_law_reads pm_law_reads cd_law_reads ct_law_reads : Value} {f_law_long : Addr} {od_law_long an_law_long : Option Addr} {sl_law_long : Array (Option Value)} {oc_law_long kV_law_long dc_law_long pm_law_long cd_law_long ct_law_long : Value} {f_law : Addr} {od_law an_law : Option Addr} {sl_law : Array (Option Value)} {oc_law kV_law dc_law pm_law cd_law ct_law : Value} {P_MARKS M_MARKS_p M_MARKS_w M_MARKS_d M_MARKS_k : Addr} {n_MARKS : Nat} {h_MARKS_p h_MARKS_w h_MARKS_d h_MARKS_k : Int} {t_MARKS_p t_MARKS_w t_MARKS_d t_MARKS_k : Tok} {od_MARKS_p : Option Addr} {sl_MARKS_p : Array (Option Value)} {n_MARKS_p : Nat} {t0_MARKS_p t1_MARKS_p t2_MARKS_p : Tok} {od_MARKS_w : Option Addr} {sl_MARKS_w : Array (Option Value)} {n_MARKS_w : Nat} {t0_MARKS_w t1_MARKS_w : Tok} {od_MARKS_d : Option Addr} {sl_MARKS_d : Array (Option Value)} {n_MARKS_d : Nat} {t0_MARKS_d t1_MARKS_d : Tok} {od_MARKS_k : Option Addr} {sl_MARKS_k : Array (Option Value)} {n_MARKS_k : Nat} {t0_MARKS_k t1_MARKS_k t2_MARKS_k : Tok} {C_BadCommand : Addr} {C_BadLine f_BadLine_init : Addr} {nm_BadLine q_BadLine : Str} {N_BadLine : Addr} {bs_BadLine bm_BadLine : List Value} {sn_BadLine : List Str} {sub_BadLine : List Value} {ab_BadLine : Bool} {col_BadLine : Option Bool} {dd_BadLine : Option Addr} {k0_BadLine k1_BadLine k2_BadLine k3_BadLine k5_BadLine : Option Value} {od_BadLine_init an_BadLine_init : Option Addr} {sl_BadLine_init : Array (Option Value)} {oc_BadLine_init kV_BadLine_init dc_BadLine_init pm_BadLine_init ct_BadLine_init : Value} {cda_BadLine_init cc_BadLine_init : Addr} {cl_BadLine_init ccl_BadLine_init : Value} {cld_BadLine_init cdd_BadLine_init : Option Addr} {csl_BadLine_init ccs_BadLine_init : Array (Option Value)} {vs_BadLine_init : Array Value} {file_BadLine_init : Str} {tf_BadLine_init : Tok} {C_BadScript f_BadScript_init : Addr} {nm_BadScript q_BadScript : Str} {N_BadScript : Addr} {bs_BadScript bm_BadScript : List Value} {sn_BadScript : List Str} {sub_BadScript : List Value} {ab_BadScript : Bool} {col_BadScript : Option Bool} {dd_BadScript : Option Addr} {k0_BadScript k1_BadScript k2_BadScript k3_BadScript k5_BadScript : Option Value} {od_BadScript_init an_BadScript_init : Option Addr} {sl_BadScript_init : Array (Option Value)} {oc_BadScript_init kV_BadScript_init dc_BadScript_init pm_BadScript_init ct_BadScript_init : Value} {cda_BadScript_init cc_BadScript_init : Addr} {cl_BadScript_init ccl_BadScript_init : Value} {cld_BadScript_init cdd_BadScript_init : Option Addr} {csl_BadScript_init ccs_BadScript_init : Array (Option Value)} {vs_BadScript_init : Array Value} {file_BadScript_init : Str} {tf_BadScript_init : Tok} {P_KINDS : Addr} {od_KINDS : Option Addr} {sl_KINDS : Array (Option Value)} {n_KINDS : Nat} {t0_KINDS : Tok} {t1_KINDS : Tok} {t2_KINDS : Tok} {P_NUMBERED : Addr} {n_NUMBERED : Nat} {h_NUMBERED_deliver h_NUMBERED_timeout h_NUMBERED_assist h_NUMBERED_crash : Int} {t_NUMBERED_deliver u_NUMBERED_deliver t_NUMBERED_timeout u_NUMBERED_timeout t_NUMBERED_assist u_NUMBERED_assist t_NUMBERED_crash u_NUMBERED_crash : Tok} {C_TribunalError : Addr}
    (c_SIGNS : PySem.W.nsIn K mainGlobals "SIGNS" = some (some (.str "0123456789ginasmtcehlujfyo" t_SIGNS)))
    (c_DIGITS : PySem.W.nsIn K mainGlobals "DIGITS" = some (some (.str "0123456789" t_DIGITS)))
    (c_LETTERS : PySem.W.nsIn K mainGlobals "LETTERS" = some (some (.str "abcdefghijklmnopqrstuvwxyz" t_LETTERS)))
    (c_BLOCK_SIGNS : PySem.W.nsIn K mainGlobals "BLOCK_SIGNS" = some (some (.str "abcdefghijklmnopqrstuvwxyz0123456789" t_BLOCK_SIGNS)))
    (c_NONE : PySem.W.nsIn K mainGlobals "NONE" = some (some (.str "-" t_NONE)))
    (c_MOST_DIGITS_wire : PySem.W.nsIn K mainGlobals "MOST_DIGITS_wire" = some (some (.int 9 t_MOST_DIGITS_wire)))
    (c_MOST_SIGNS : PySem.W.nsIn K mainGlobals "MOST_SIGNS" = some (some (.int 60 t_MOST_SIGNS)))
    (c_MOST_DIGITS_commands : PySem.W.nsIn K mainGlobals "MOST_DIGITS_commands" = some (some (.int 6 t_MOST_DIGITS_commands)))
    (c_CODE_END : PySem.W.nsIn K mainGlobals "CODE_END" = some (some (.str "z" t_CODE_END)))
    (n_len : PySem.W.nsIn K mainGlobals "len" = some none)
    (n_range : PySem.W.nsIn K mainGlobals "range" = some none)
    (n_isinstance : PySem.W.nsIn K mainGlobals "isinstance" = some none)
    (n_int : PySem.W.nsIn K mainGlobals "int" = some none)
    (n_bool : PySem.W.nsIn K mainGlobals "bool" = some none)
    (n_list : PySem.W.nsIn K mainGlobals "list" = some none)
    (n_tuple : PySem.W.nsIn K mainGlobals "tuple" = some none)
    (n_str : PySem.W.nsIn K mainGlobals "str" = some none)
    (n_zip : PySem.W.nsIn K mainGlobals "zip" = some none)
    (n_enumerate : PySem.W.nsIn K mainGlobals "enumerate" = some none)
    (n_max : PySem.W.nsIn K mainGlobals "max" = some none)
    (n_abs : PySem.W.nsIn K mainGlobals "abs" = some none)
    (n_super : PySem.W.nsIn K mainGlobals "super" = some none)
    (n_ValueError : PySem.W.nsIn K mainGlobals "ValueError" = some none)
    (n_all : PySem.W.nsIn K mainGlobals "all" = some none)
    (g_Reader : PySem.W.nsIn K mainGlobals "Reader" = some (some (.ref C_Reader)))
    (a_proposal : PySem.W.nsIn K mainGlobals "proposal" = some (some (.ref f_proposal)))
    (l_proposal : K.lookup f_proposal = some ⟨oc_proposal, od_proposal, .func (PySem.W.fnOf "proposal" "proposal" (defArgs s_proposal) (defBody s_proposal) (defScope s_proposal) .none kV_proposal dc_proposal pm_proposal an_proposal cd_proposal ct_proposal), sl_proposal⟩)
    (q_proposal : PySem.W.codeIn K cd_proposal "proposal" = true)
    (k_proposal : PySem.W.keepIn K (.ref f_proposal) = true)
    (a_prevote : PySem.W.nsIn K mainGlobals "prevote" = some (some (.ref f_prevote)))
    (l_prevote : K.lookup f_prevote = some ⟨oc_prevote, od_prevote, .func (PySem.W.fnOf "prevote" "prevote" (defArgs s_prevote) (defBody s_prevote) (defScope s_prevote) .none kV_prevote dc_prevote pm_prevote an_prevote cd_prevote ct_prevote), sl_prevote⟩)
    (q_prevote : PySem.W.codeIn K cd_prevote "prevote" = true)
    (k_prevote : PySem.W.keepIn K (.ref f_prevote) = true)
    (a_precommit : PySem.W.nsIn K mainGlobals "precommit" = some (some (.ref f_precommit)))
    (l_precommit : K.lookup f_precommit = some ⟨oc_precommit, od_precommit, .func (PySem.W.fnOf "precommit" "precommit" (defArgs s_precommit) (defBody s_precommit) (defScope s_precommit) .none kV_precommit dc_precommit pm_precommit an_precommit cd_precommit ct_precommit), sl_precommit⟩)
    (q_precommit : PySem.W.codeIn K cd_precommit "precommit" = true)
    (k_precommit : PySem.W.keepIn K (.ref f_precommit) = true)
    (a_is_number : PySem.W.nsIn K mainGlobals "is_number" = some (some (.ref f_is_number)))
    (l_is_number : K.lookup f_is_number = some ⟨oc_is_number, od_is_number, .func (PySem.W.fnOf "is_number" "is_number" (defArgs s_is_number) (defBody s_is_number) (defScope s_is_number) .none kV_is_number dc_is_number pm_is_number an_is_number cd_is_number ct_is_number), sl_is_number⟩)
    (q_is_number : PySem.W.codeIn K cd_is_number "is_number" = true)
    (k_is_number : PySem.W.keepIn K (.ref f_is_number) = true)
    (a_is_block : PySem.W.nsIn K mainGlobals "is_block" = some (some (.ref f_is_block)))
    (l_is_block : K.lookup f_is_block = some ⟨oc_is_block, od_is_block, .func (PySem.W.fnOf "is_block" "is_block" (defArgs s_is_block) (defBody s_is_block) (defScope s_is_block) .none kV_is_block dc_is_block pm_is_block an_is_block cd_is_block ct_is_block), sl_is_block⟩)
    (q_is_block : PySem.W.codeIn K cd_is_block "is_block" = true)
    (k_is_block : PySem.W.keepIn K (.ref f_is_block) = true)
    (a_word_at : PySem.W.nsIn K mainGlobals "_word_at" = some (some (.ref f_word_at)))
    (l_word_at : K.lookup f_word_at = some ⟨oc_word_at, od_word_at, .func (PySem.W.fnOf "_word_at" "_word_at" (defArgs s_word_at) (defBody s_word_at) (defScope s_word_at) .none kV_word_at dc_word_at pm_word_at an_word_at cd_word_at ct_word_at), sl_word_at⟩)
    (q_word_at : PySem.W.codeIn K cd_word_at "_word_at" = true)
    (k_word_at : PySem.W.keepIn K (.ref f_word_at) = true)
    (a_number_at : PySem.W.nsIn K mainGlobals "_number_at" = some (some (.ref f_number_at)))
    (l_number_at : K.lookup f_number_at = some ⟨oc_number_at, od_number_at, .func (PySem.W.fnOf "_number_at" "_number_at" (defArgs s_number_at) (defBody s_number_at) (defScope s_number_at) .none kV_number_at dc_number_at pm_number_at an_number_at cd_number_at ct_number_at), sl_number_at⟩)
    (q_number_at : PySem.W.codeIn K cd_number_at "_number_at" = true)
    (k_number_at : PySem.W.keepIn K (.ref f_number_at) = true)
    (a_kind_at : PySem.W.nsIn K mainGlobals "_kind_at" = some (some (.ref f_kind_at)))
    (l_kind_at : K.lookup f_kind_at = some ⟨oc_kind_at, od_kind_at, .func (PySem.W.fnOf "_kind_at" "_kind_at" (defArgs s_kind_at) (defBody s_kind_at) (defScope s_kind_at) .none kV_kind_at dc_kind_at pm_kind_at an_kind_at cd_kind_at ct_kind_at), sl_kind_at⟩)
    (q_kind_at : PySem.W.codeIn K cd_kind_at "_kind_at" = true)
    (k_kind_at : PySem.W.keepIn K (.ref f_kind_at) = true)
    (a_block_at : PySem.W.nsIn K mainGlobals "_block_at" = some (some (.ref f_block_at)))
    (l_block_at : K.lookup f_block_at = some ⟨oc_block_at, od_block_at, .func (PySem.W.fnOf "_block_at" "_block_at" (defArgs s_block_at) (defBody s_block_at) (defScope s_block_at) .none kV_block_at dc_block_at pm_block_at an_block_at cd_block_at ct_block_at), sl_block_at⟩)
    (q_block_at : PySem.W.codeIn K cd_block_at "_block_at" = true)
    (k_block_at : PySem.W.keepIn K (.ref f_block_at) = true)
    (a_lean_at : PySem.W.nsIn K mainGlobals "_lean_at" = some (some (.ref f_lean_at)))
    (l_lean_at : K.lookup f_lean_at = some ⟨oc_lean_at, od_lean_at, .func (PySem.W.fnOf "_lean_at" "_lean_at" (defArgs s_lean_at) (defBody s_lean_at) (defScope s_lean_at) .none kV_lean_at dc_lean_at pm_lean_at an_lean_at cd_lean_at ct_lean_at), sl_lean_at⟩)
    (q_lean_at : PySem.W.codeIn K cd_lean_at "_lean_at" = true)
    (k_lean_at : PySem.W.keepIn K (.ref f_lean_at) = true)
    (a_end_at : PySem.W.nsIn K mainGlobals "_end_at" = some (some (.ref f_end_at)))
    (l_end_at : K.lookup f_end_at = some ⟨oc_end_at, od_end_at, .func (PySem.W.fnOf "_end_at" "_end_at" (defArgs s_end_at) (defBody s_end_at) (defScope s_end_at) .none kV_end_at dc_end_at pm_end_at an_end_at cd_end_at ct_end_at), sl_end_at⟩)
    (q_end_at : PySem.W.codeIn K cd_end_at "_end_at" = true)
    (k_end_at : PySem.W.keepIn K (.ref f_end_at) = true)
    (a_read_letter : PySem.W.nsIn K mainGlobals "read_letter" = some (some (.ref f_read_letter)))
    (l_read_letter : K.lookup f_read_letter = some ⟨oc_read_letter, od_read_letter, .func (PySem.W.fnOf "read_letter" "read_letter" (defArgs s_read_letter) (defBody s_read_letter) (defScope s_read_letter) .none kV_read_letter dc_read_letter pm_read_letter an_read_letter cd_read_letter ct_read_letter), sl_read_letter⟩)
    (q_read_letter : PySem.W.codeIn K cd_read_letter "read_letter" = true)
    (k_read_letter : PySem.W.keepIn K (.ref f_read_letter) = true)
    (a_word : PySem.W.nsIn K mainGlobals "_word" = some (some (.ref f_word)))
    (l_word : K.lookup f_word = some ⟨oc_word, od_word, .func (PySem.W.fnOf "_word" "_word" (defArgs s_word) (defBody s_word) (defScope s_word) .none kV_word dc_word pm_word an_word cd_word ct_word), sl_word⟩)
    (q_word : PySem.W.codeIn K cd_word "_word" = true)
    (k_word : PySem.W.keepIn K (.ref f_word) = true)
    (a_letter_line : PySem.W.nsIn K mainGlobals "letter_line" = some (some (.ref f_letter_line)))
    (l_letter_line : K.lookup f_letter_line = some ⟨oc_letter_line, od_letter_line, .func (PySem.W.fnOf "letter_line" "letter_line" (defArgs s_letter_line) (defBody s_letter_line) (defScope s_letter_line) .none kV_letter_line dc_letter_line pm_letter_line an_letter_line cd_letter_line ct_letter_line), sl_letter_line⟩)
    (q_letter_line : PySem.W.codeIn K cd_letter_line "letter_line" = true)
    (k_letter_line : PySem.W.keepIn K (.ref f_letter_line) = true)
    (a_command_text : PySem.W.nsIn K mainGlobals "command_text" = some (some (.ref f_command_text)))
    (l_command_text : K.lookup f_command_text = some ⟨oc_command_text, od_command_text, .func (PySem.W.fnOf "command_text" "command_text" (defArgs s_command_text) (defBody s_command_text) (defScope s_command_text) .none kV_command_text dc_command_text pm_command_text an_command_text cd_command_text ct_command_text), sl_command_text⟩)
    (q_command_text : PySem.W.codeIn K cd_command_text "command_text" = true)
    (k_command_text : PySem.W.keepIn K (.ref f_command_text) = true)
    (a_Reader_init : PySem.W.findIn K (.ref C_Reader) "__init__" = some (some (.ref f_Reader_init)))
    (i_Reader_init : PySem.W.isFn K (.ref f_Reader_init) = true)
    (l_Reader_init : K.lookup f_Reader_init = some ⟨oc_Reader_init, od_Reader_init, .func (PySem.W.fnOf "__init__" "Reader.__init__" (defArgs s_Reader_init) (defBody s_Reader_init) (defScope s_Reader_init) .none kV_Reader_init dc_Reader_init pm_Reader_init an_Reader_init cd_Reader_init ct_Reader_init), sl_Reader_init⟩)
    (q_Reader_init : PySem.W.codeIn K cd_Reader_init "Reader.__init__" = true)
    (k_Reader_init : PySem.W.keepIn K (.ref f_Reader_init) = true)
    (a_Reader_read_signs : PySem.W.findIn K (.ref C_Reader) "read_signs" = some (some (.ref f_Reader_read_signs)))
    (i_Reader_read_signs : PySem.W.isFn K (.ref f_Reader_read_signs) = true)
    (l_Reader_read_signs : K.lookup f_Reader_read_signs = some ⟨oc_Reader_read_signs, od_Reader_read_signs, .func (PySem.W.fnOf "read_signs" "Reader.read_signs" (defArgs s_Reader_read_signs) (defBody s_Reader_read_signs) (defScope s_Reader_read_signs) .none kV_Reader_read_signs dc_Reader_read_signs pm_Reader_read_signs an_Reader_read_signs cd_Reader_read_signs ct_Reader_read_signs), sl_Reader_read_signs⟩)
    (q_Reader_read_signs : PySem.W.codeIn K cd_Reader_read_signs "Reader.read_signs" = true)
    (k_Reader_read_signs : PySem.W.keepIn K (.ref f_Reader_read_signs) = true)
    (a_Reader_skip : PySem.W.findIn K (.ref C_Reader) "skip" = some (some (.ref f_Reader_skip)))
    (i_Reader_skip : PySem.W.isFn K (.ref f_Reader_skip) = true)
    (l_Reader_skip : K.lookup f_Reader_skip = some ⟨oc_Reader_skip, od_Reader_skip, .func (PySem.W.fnOf "skip" "Reader.skip" (defArgs s_Reader_skip) (defBody s_Reader_skip) (defScope s_Reader_skip) .none kV_Reader_skip dc_Reader_skip pm_Reader_skip an_Reader_skip cd_Reader_skip ct_Reader_skip), sl_Reader_skip⟩)
    (q_Reader_skip : PySem.W.codeIn K cd_Reader_skip "Reader.skip" = true)
    (k_Reader_skip : PySem.W.keepIn K (.ref f_Reader_skip) = true)
    (a_Reader_read_number : PySem.W.findIn K (.ref C_Reader) "read_number" = some (some (.ref f_Reader_read_number)))
    (i_Reader_read_number : PySem.W.isFn K (.ref f_Reader_read_number) = true)
    (l_Reader_read_number : K.lookup f_Reader_read_number = some ⟨oc_Reader_read_number, od_Reader_read_number, .func (PySem.W.fnOf "read_number" "Reader.read_number" (defArgs s_Reader_read_number) (defBody s_Reader_read_number) (defScope s_Reader_read_number) .none kV_Reader_read_number dc_Reader_read_number pm_Reader_read_number an_Reader_read_number cd_Reader_read_number ct_Reader_read_number), sl_Reader_read_number⟩)
    (q_Reader_read_number : PySem.W.codeIn K cd_Reader_read_number "Reader.read_number" = true)
    (k_Reader_read_number : PySem.W.keepIn K (.ref f_Reader_read_number) = true)
    (a_Reader_read_code : PySem.W.findIn K (.ref C_Reader) "read_code" = some (some (.ref f_Reader_read_code)))
    (i_Reader_read_code : PySem.W.isFn K (.ref f_Reader_read_code) = true)
    (l_Reader_read_code : K.lookup f_Reader_read_code = some ⟨oc_Reader_read_code, od_Reader_read_code, .func (PySem.W.fnOf "read_code" "Reader.read_code" (defArgs s_Reader_read_code) (defBody s_Reader_read_code) (defScope s_Reader_read_code) .none kV_Reader_read_code dc_Reader_read_code pm_Reader_read_code an_Reader_read_code cd_Reader_read_code ct_Reader_read_code), sl_Reader_read_code⟩)
    (q_Reader_read_code : PySem.W.codeIn K cd_Reader_read_code "Reader.read_code" = true)
    (k_Reader_read_code : PySem.W.keepIn K (.ref f_Reader_read_code) = true)
    (a_Reader_read_command : PySem.W.findIn K (.ref C_Reader) "read_command" = some (some (.ref f_Reader_read_command)))
    (i_Reader_read_command : PySem.W.isFn K (.ref f_Reader_read_command) = true)
    (l_Reader_read_command : K.lookup f_Reader_read_command = some ⟨oc_Reader_read_command, od_Reader_read_command, .func (PySem.W.fnOf "read_command" "Reader.read_command" (defArgs s_Reader_read_command) (defBody s_Reader_read_command) (defScope s_Reader_read_command) .none kV_Reader_read_command dc_Reader_read_command pm_Reader_read_command an_Reader_read_command cd_Reader_read_command ct_Reader_read_command), sl_Reader_read_command⟩)
    (q_Reader_read_command : PySem.W.codeIn K cd_Reader_read_command "Reader.read_command" = true)
    (k_Reader_read_command : PySem.W.keepIn K (.ref f_Reader_read_command) = true)
    (a_commands_of : PySem.W.nsIn K mainGlobals "commands_of" = some (some (.ref f_commands_of)))
    (l_commands_of : K.lookup f_commands_of = some ⟨oc_commands_of, od_commands_of, .func (PySem.W.fnOf "commands_of" "commands_of" (defArgs s_commands_of) (defBody s_commands_of) (defScope s_commands_of) .none kV_commands_of dc_commands_of pm_commands_of an_commands_of cd_commands_of ct_commands_of), sl_commands_of⟩)
    (q_commands_of : PySem.W.codeIn K cd_commands_of "commands_of" = true)
    (k_commands_of : PySem.W.keepIn K (.ref f_commands_of) = true)
    (a_law_cell : PySem.W.nsIn K mainGlobals "_law_cell" = some (some (.ref f_law_cell)))
    (l_law_cell : K.lookup f_law_cell = some ⟨oc_law_cell, od_law_cell, .func (PySem.W.fnOf "_law_cell" "_law_cell" (defArgs s_law_cell) (defBody s_law_cell) (defScope s_law_cell) .none kV_law_cell dc_law_cell pm_law_cell an_law_cell cd_law_cell ct_law_cell), sl_law_cell⟩)
    (q_law_cell : PySem.W.codeIn K cd_law_cell "_law_cell" = true)
    (k_law_cell : PySem.W.keepIn K (.ref f_law_cell) = true)
    (a_law_row : PySem.W.nsIn K mainGlobals "_law_row" = some (some (.ref f_law_row)))
    (l_law_row : K.lookup f_law_row = some ⟨oc_law_row, od_law_row, .func (PySem.W.fnOf "_law_row" "_law_row" (defArgs s_law_row) (defBody s_law_row) (defScope s_law_row) .none kV_law_row dc_law_row pm_law_row an_law_row cd_law_row ct_law_row), sl_law_row⟩)
    (q_law_row : PySem.W.codeIn K cd_law_row "_law_row" = true)
    (k_law_row : PySem.W.keepIn K (.ref f_law_row) = true)
    (a_law_number : PySem.W.nsIn K mainGlobals "_law_number" = some (some (.ref f_law_number)))
    (l_law_number : K.lookup f_law_number = some ⟨oc_law_number, od_law_number, .func (PySem.W.fnOf "_law_number" "_law_number" (defArgs s_law_number) (defBody s_law_number) (defScope s_law_number) .none kV_law_number dc_law_number pm_law_number an_law_number cd_law_number ct_law_number), sl_law_number⟩)
    (q_law_number : PySem.W.codeIn K cd_law_number "_law_number" = true)
    (k_law_number : PySem.W.keepIn K (.ref f_law_number) = true)
    (a_law_code : PySem.W.nsIn K mainGlobals "_law_code" = some (some (.ref f_law_code)))
    (l_law_code : K.lookup f_law_code = some ⟨oc_law_code, od_law_code, .func (PySem.W.fnOf "_law_code" "_law_code" (defArgs s_law_code) (defBody s_law_code) (defScope s_law_code) .none kV_law_code dc_law_code pm_law_code an_law_code cd_law_code ct_law_code), sl_law_code⟩)
    (q_law_code : PySem.W.codeIn K cd_law_code "_law_code" = true)
    (k_law_code : PySem.W.keepIn K (.ref f_law_code) = true)
    (a_law_place : PySem.W.nsIn K mainGlobals "_law_place" = some (some (.ref f_law_place)))
    (l_law_place : K.lookup f_law_place = some ⟨oc_law_place, od_law_place, .func (PySem.W.fnOf "_law_place" "_law_place" (defArgs s_law_place) (defBody s_law_place) (defScope s_law_place) .none kV_law_place dc_law_place pm_law_place an_law_place cd_law_place ct_law_place), sl_law_place⟩)
    (q_law_place : PySem.W.codeIn K cd_law_place "_law_place" = true)
    (k_law_place : PySem.W.keepIn K (.ref f_law_place) = true)
    (a_law_command : PySem.W.nsIn K mainGlobals "_law_command" = some (some (.ref f_law_command)))
    (l_law_command : K.lookup f_law_command = some ⟨oc_law_command, od_law_command, .func (PySem.W.fnOf "_law_command" "_law_command" (defArgs s_law_command) (defBody s_law_command) (defScope s_law_command) .none kV_law_command dc_law_command pm_law_command an_law_command cd_law_command ct_law_command), sl_law_command⟩)
    (q_law_command : PySem.W.codeIn K cd_law_command "_law_command" = true)
    (k_law_command : PySem.W.keepIn K (.ref f_law_command) = true)
    (a_law_text : PySem.W.nsIn K mainGlobals "_law_text" = some (some (.ref f_law_text)))
    (l_law_text : K.lookup f_law_text = some ⟨oc_law_text, od_law_text, .func (PySem.W.fnOf "_law_text" "_law_text" (defArgs s_law_text) (defBody s_law_text) (defScope s_law_text) .none kV_law_text dc_law_text pm_law_text an_law_text cd_law_text ct_law_text), sl_law_text⟩)
    (q_law_text : PySem.W.codeIn K cd_law_text "_law_text" = true)
    (k_law_text : PySem.W.keepIn K (.ref f_law_text) = true)
    (a_read_number : PySem.W.nsIn K mainGlobals "_read_number" = some (some (.ref f_read_number)))
    (l_read_number : K.lookup f_read_number = some ⟨oc_read_number, od_read_number, .func (PySem.W.fnOf "_read_number" "_read_number" (defArgs s_read_number) (defBody s_read_number) (defScope s_read_number) .none kV_read_number dc_read_number pm_read_number an_read_number cd_read_number ct_read_number), sl_read_number⟩)
    (q_read_number : PySem.W.codeIn K cd_read_number "_read_number" = true)
    (k_read_number : PySem.W.keepIn K (.ref f_read_number) = true)
    (a_u_read_letter : PySem.W.nsIn K mainGlobals "_read_letter" = some (some (.ref f_u_read_letter)))
    (l_u_read_letter : K.lookup f_u_read_letter = some ⟨oc_u_read_letter, od_u_read_letter, .func (PySem.W.fnOf "_read_letter" "_read_letter" (defArgs s_u_read_letter) (defBody s_u_read_letter) (defScope s_u_read_letter) .none kV_u_read_letter dc_u_read_letter pm_u_read_letter an_u_read_letter cd_u_read_letter ct_u_read_letter), sl_u_read_letter⟩)
    (q_u_read_letter : PySem.W.codeIn K cd_u_read_letter "_read_letter" = true)
    (k_u_read_letter : PySem.W.keepIn K (.ref f_u_read_letter) = true)
    (a_read_command : PySem.W.nsIn K mainGlobals "_read_command" = some (some (.ref f_read_command)))
    (l_read_command : K.lookup f_read_command = some ⟨oc_read_command, od_read_command, .func (PySem.W.fnOf "_read_command" "_read_command" (defArgs s_read_command) (defBody s_read_command) (defScope s_read_command) .none kV_read_command dc_read_command pm_read_command an_read_command cd_read_command ct_read_command), sl_read_command⟩)
    (q_read_command : PySem.W.codeIn K cd_read_command "_read_command" = true)
    (k_read_command : PySem.W.keepIn K (.ref f_read_command) = true)
    (a_event_line : PySem.W.nsIn K mainGlobals "event_line" = some (some (.ref f_event_line)))
    (l_event_line : K.lookup f_event_line = some ⟨oc_event_line, od_event_line, .func (PySem.W.fnOf "event_line" "event_line" (defArgs s_event_line) (defBody s_event_line) (defScope s_event_line) .none kV_event_line dc_event_line pm_event_line an_event_line cd_event_line ct_event_line), sl_event_line⟩)
    (q_event_line : PySem.W.codeIn K cd_event_line "event_line" = true)
    (k_event_line : PySem.W.keepIn K (.ref f_event_line) = true)
    (a_read_event : PySem.W.nsIn K mainGlobals "read_event" = some (some (.ref f_read_event)))
    (l_read_event : K.lookup f_read_event = some ⟨oc_read_event, od_read_event, .func (PySem.W.fnOf "read_event" "read_event" (defArgs s_read_event) (defBody s_read_event) (defScope s_read_event) .none kV_read_event dc_read_event pm_read_event an_read_event cd_read_event ct_read_event), sl_read_event⟩)
    (q_read_event : PySem.W.codeIn K cd_read_event "read_event" = true)
    (k_read_event : PySem.W.keepIn K (.ref f_read_event) = true)
    (a_law_is_integer : PySem.W.nsIn K mainGlobals "_law_is_integer" = some (some (.ref f_law_is_integer)))
    (l_law_is_integer : K.lookup f_law_is_integer = some ⟨oc_law_is_integer, od_law_is_integer, .func (PySem.W.fnOf "_law_is_integer" "_law_is_integer" (defArgs s_law_is_integer) (defBody s_law_is_integer) (defScope s_law_is_integer) .none kV_law_is_integer dc_law_is_integer pm_law_is_integer an_law_is_integer cd_law_is_integer ct_law_is_integer), sl_law_is_integer⟩)
    (q_law_is_integer : PySem.W.codeIn K cd_law_is_integer "_law_is_integer" = true)
    (k_law_is_integer : PySem.W.keepIn K (.ref f_law_is_integer) = true)
    (a_law_statement : PySem.W.nsIn K mainGlobals "_law_statement" = some (some (.ref f_law_statement)))
    (l_law_statement : K.lookup f_law_statement = some ⟨oc_law_statement, od_law_statement, .func (PySem.W.fnOf "_law_statement" "_law_statement" (defArgs s_law_statement) (defBody s_law_statement) (defScope s_law_statement) .none kV_law_statement dc_law_statement pm_law_statement an_law_statement cd_law_statement ct_law_statement), sl_law_statement⟩)
    (q_law_statement : PySem.W.codeIn K cd_law_statement "_law_statement" = true)
    (k_law_statement : PySem.W.keepIn K (.ref f_law_statement) = true)
    (a_law_event : PySem.W.nsIn K mainGlobals "_law_event" = some (some (.ref f_law_event)))
    (l_law_event : K.lookup f_law_event = some ⟨oc_law_event, od_law_event, .func (PySem.W.fnOf "_law_event" "_law_event" (defArgs s_law_event) (defBody s_law_event) (defScope s_law_event) .none kV_law_event dc_law_event pm_law_event an_law_event cd_law_event ct_law_event), sl_law_event⟩)
    (q_law_event : PySem.W.codeIn K cd_law_event "_law_event" = true)
    (k_law_event : PySem.W.keepIn K (.ref f_law_event) = true)
    (a_law_line : PySem.W.nsIn K mainGlobals "_law_line" = some (some (.ref f_law_line)))
    (l_law_line : K.lookup f_law_line = some ⟨oc_law_line, od_law_line, .func (PySem.W.fnOf "_law_line" "_law_line" (defArgs s_law_line) (defBody s_law_line) (defScope s_law_line) .none kV_law_line dc_law_line pm_law_line an_law_line cd_law_line ct_law_line), sl_law_line⟩)
    (q_law_line : PySem.W.codeIn K cd_law_line "_law_line" = true)
    (k_law_line : PySem.W.keepIn K (.ref f_law_line) = true)
    (a_law_changed : PySem.W.nsIn K mainGlobals "_law_changed" = some (some (.ref f_law_changed)))
    (l_law_changed : K.lookup f_law_changed = some ⟨oc_law_changed, od_law_changed, .func (PySem.W.fnOf "_law_changed" "_law_changed" (defArgs s_law_changed) (defBody s_law_changed) (defScope s_law_changed) .none kV_law_changed dc_law_changed pm_law_changed an_law_changed cd_law_changed ct_law_changed), sl_law_changed⟩)
    (q_law_changed : PySem.W.codeIn K cd_law_changed "_law_changed" = true)
    (k_law_changed : PySem.W.keepIn K (.ref f_law_changed) = true)
    (a_law_reads : PySem.W.nsIn K mainGlobals "_law_reads" = some (some (.ref f_law_reads)))
    (l_law_reads : K.lookup f_law_reads = some ⟨oc_law_reads, od_law_reads, .func (PySem.W.fnOf "_law_reads" "_law_reads" (defArgs s_law_reads) (defBody s_law_reads) (defScope s_law_reads) .none kV_law_reads dc_law_reads pm_law_reads an_law_reads cd_law_reads ct_law_reads), sl_law_reads⟩)
    (q_law_reads : PySem.W.codeIn K cd_law_reads "_law_reads" = true)
    (k_law_reads : PySem.W.keepIn K (.ref f_law_reads) = true)
    (a_law_long : PySem.W.nsIn K mainGlobals "_law_long" = some (some (.ref f_law_long)))
    (l_law_long : K.lookup f_law_long = some ⟨oc_law_long, od_law_long, .func (PySem.W.fnOf "_law_long" "_law_long" (defArgs s_law_long) (defBody s_law_long) (defScope s_law_long) .none kV_law_long dc_law_long pm_law_long an_law_long cd_law_long ct_law_long), sl_law_long⟩)
    (q_law_long : PySem.W.codeIn K cd_law_long "_law_long" = true)
    (k_law_long : PySem.W.keepIn K (.ref f_law_long) = true)
    (a_law : PySem.W.nsIn K mainGlobals "law" = some (some (.ref f_law)))
    (l_law : K.lookup f_law = some ⟨oc_law, od_law, .func (PySem.W.fnOf "law" "law" (defArgs s_law) (defBody s_law) (defScope s_law) .none kV_law dc_law pm_law an_law cd_law ct_law), sl_law⟩)
    (q_law : PySem.W.codeIn K cd_law "law" = true)
    (k_law : PySem.W.keepIn K (.ref f_law) = true)
    (pg_Reader : PySem.W.plainGet K C_Reader Str.empty = true)
    (hd_Reader : PySem.W.hasDictIn K C_Reader = true)
    (po_Reader : PySem.W.plainOver K C_Reader = true)
    (sa_Reader : PySem.W.findIn K (.ref C_Reader) "__setattr__" = some (some (.builtin "object.__setattr__")))
    (mk_Reader : PySem.W.makesIn K C_Reader = true)
    (kc_Reader : PySem.W.keepIn K (.ref C_Reader) = true)
    (no_Reader_text : PySem.W.findIn K (.ref C_Reader) "text" = some none)
    (no_Reader_at : PySem.W.findIn K (.ref C_Reader) "at" = some none)
    (g_MARKS : PySem.W.nsIn K mainGlobals "MARKS" = some (some (.ref P_MARKS)))
    (l_MARKS : K.lookup P_MARKS = some ⟨.type "dict", none, .dict #[⟨h_MARKS_p, .str "p" t_MARKS_p, .ref M_MARKS_p⟩, ⟨h_MARKS_w, .str "w" t_MARKS_w, .ref M_MARKS_w⟩, ⟨h_MARKS_d, .str "d" t_MARKS_d, .ref M_MARKS_d⟩, ⟨h_MARKS_k, .str "k" t_MARKS_k, .ref M_MARKS_k⟩] n_MARKS, #[]⟩)
    (kl_MARKS : PySem.W.KeysLit w.params [⟨h_MARKS_p, .str "p" t_MARKS_p, .ref M_MARKS_p⟩, ⟨h_MARKS_w, .str "w" t_MARKS_w, .ref M_MARKS_w⟩, ⟨h_MARKS_d, .str "d" t_MARKS_d, .ref M_MARKS_d⟩, ⟨h_MARKS_k, .str "k" t_MARKS_k, .ref M_MARKS_k⟩])
    (lo_MARKS : (P_MARKS == sysModules) = false)
    (l_MARKS_p : K.lookup M_MARKS_p = some ⟨.type "tuple", od_MARKS_p, .seq #[.str "p" t0_MARKS_p, .str "q" t1_MARKS_p, .str "r" t2_MARKS_p] n_MARKS_p, sl_MARKS_p⟩)
    (l_MARKS_w : K.lookup M_MARKS_w = some ⟨.type "tuple", od_MARKS_w, .seq #[.str "w" t0_MARKS_w, .str "x" t1_MARKS_w] n_MARKS_w, sl_MARKS_w⟩)
    (l_MARKS_d : K.lookup M_MARKS_d = some ⟨.type "tuple", od_MARKS_d, .seq #[.str "d" t0_MARKS_d, .str "z" t1_MARKS_d] n_MARKS_d, sl_MARKS_d⟩)
    (l_MARKS_k : K.lookup M_MARKS_k = some ⟨.type "tuple", od_MARKS_k, .seq #[.str "k" t0_MARKS_k, .str "b" t1_MARKS_k, .str "v" t2_MARKS_k] n_MARKS_k, sl_MARKS_k⟩)
    (g_BadCommand : PySem.W.nsIn K mainGlobals "BadCommand" = some (some (.ref C_BadCommand)))
    (x_BadCommand : PySem.W.excIn K C_BadCommand [.type "ValueError", .type "Exception", .type "BaseException", .type "object"] "ValueError.__new__" = true)
    (kc_BadCommand : PySem.W.keepIn K (.ref C_BadCommand) = true)
    (b_BadCommand : PySem.W.subIn K (.ref C_BadCommand) (.type "BaseException") = some true)
    (t_BadCommand : PySem.W.typeIn K (.ref C_BadCommand) = some (.type "type"))
    (xga_BadCommand : PySem.W.findIn K (.ref C_BadCommand) "__getattribute__" = some (some (.builtin "BaseException.__getattribute__")))
    (xgt_BadCommand : PySem.W.findIn K (.ref C_BadCommand) "__getattr__" = some none)
    (xhd_BadCommand : PySem.W.hasDictIn K C_BadCommand = true)
    (xcc_BadCommand : PySem.W.findIn K (.ref C_BadCommand) "__class__" = some (some (.builtin "object.__class__")))
    (xsp_BadCommand : PySem.W.specialIn K (.builtin "object.__class__") "__get__" = some (some (.builtin "getset_descriptor.__get__")))
    (xtk_BadCommand : PySem.W.takesIn K (.builtin "object.__class__") = some true)
    (xmo_BadCommand : PySem.W.mroIn K C_BadCommand (.type "object") = some true)
    (te1_BadCommand : PySem.W.subIn K (.ref C_BadCommand) (.type "BaseException") = some true)
    (te2_BadCommand : PySem.W.hasDictIn K C_BadCommand = true)
    (te3_BadCommand : PySem.W.typeIn K (.ref C_BadCommand) = some (.type "type"))
    (te4_BadCommand_BadCommand : PySem.W.subIn K (.ref C_BadCommand) (.ref C_BadCommand) = some true)
    (g_BadLine : PySem.W.nsIn K mainGlobals "BadLine" = some (some (.ref C_BadLine)))
    (lc_BadLine : K.lookup C_BadLine = some (excClassObj nm_BadLine q_BadLine C_BadLine N_BadLine bs_BadLine bm_BadLine true sn_BadLine sub_BadLine ab_BadLine col_BadLine dd_BadLine k0_BadLine k1_BadLine k2_BadLine k3_BadLine k5_BadLine "ValueError.__new__"))
    (rb_BadLine : PySem.HandSPX.refsVE bm_BadLine = true)
    (sa_BadLine : PySem.W.findIn K (.ref C_BadLine) "__setattr__" = some (some (.builtin "object.__setattr__")))
    (eb_BadLine : PySem.W.subIn K (.ref C_BadLine) (.type "BaseException") = some true)
    (ty_BadLine : PySem.W.typeIn K (.ref C_BadLine) = some (.type "type"))
    (kc_BadLine : PySem.W.keepIn K (.ref C_BadLine) = true)
    (a_BadLine_init : PySem.W.findIn K (.ref C_BadLine) "__init__" = some (some (.ref f_BadLine_init)))
    (tI_BadLine_init : PySem.W.typeIn K (.ref f_BadLine_init) = some (.type "function"))
    (l_BadLine_init : K.lookup f_BadLine_init = some ⟨oc_BadLine_init, od_BadLine_init, .func (PySem.W.ksFn "__init__" "BadLine.__init__" (defArgs s_BadLine_init) (defBody s_BadLine_init) (defScope s_BadLine_init) .none kV_BadLine_init dc_BadLine_init pm_BadLine_init an_BadLine_init (.ref cda_BadLine_init) ct_BadLine_init cc_BadLine_init), sl_BadLine_init⟩)
    (q_BadLine_init : PySem.W.codeIn K (.ref cda_BadLine_init) "BadLine.__init__" = true)
    (ce_BadLine_init : K.lookup cc_BadLine_init = some ⟨cl_BadLine_init, cld_BadLine_init, .cell (some (.ref C_BadLine)), csl_BadLine_init⟩)
    (co_BadLine_init : K.lookup cda_BadLine_init = some ⟨ccl_BadLine_init, cdd_BadLine_init, .fields vs_BadLine_init, ccs_BadLine_init⟩)
    (v2_BadLine_init : vs_BadLine_init[2]? = some (.str file_BadLine_init tf_BadLine_init))
    (fi_BadLine_init : ((l.prog.main.file : Str) == file_BadLine_init) = true)
    (su_BadLine : PySem.W.ks_superIn K C_BadLine C_BadLine "__init__" = some (some (.builtin "ValueError.__init__")))
    (op_BadLine : PySem.W.nsIn K cStatics "thirdparty.any" = some none)
    (sv_BadLine : PySem.W.subIn K (.ref C_BadLine) (.type "ValueError") = some true)
    (mc_BadLine : PySem.W.mroIn K C_BadLine (.ref C_BadLine) = some true)
    (nf_BadLine : PySem.W.findIn K (.ref C_BadLine) "at" = some none)
    (ts_BadLine : (l.prog.main.scope.names.lookup ("super" : Str)).isSome = false)
    (xga_BadLine : PySem.W.findIn K (.ref C_BadLine) "__getattribute__" = some (some (.builtin "BaseException.__getattribute__")))
    (xgt_BadLine : PySem.W.findIn K (.ref C_BadLine) "__getattr__" = some none)
    (xhd_BadLine : PySem.W.hasDictIn K C_BadLine = true)
    (xcc_BadLine : PySem.W.findIn K (.ref C_BadLine) "__class__" = some (some (.builtin "object.__class__")))
    (xsp_BadLine : PySem.W.specialIn K (.builtin "object.__class__") "__get__" = some (some (.builtin "getset_descriptor.__get__")))
    (xtk_BadLine : PySem.W.takesIn K (.builtin "object.__class__") = some true)
    (xmo_BadLine : PySem.W.mroIn K C_BadLine (.type "object") = some true)
    (g_BadScript : PySem.W.nsIn K mainGlobals "BadScript" = some (some (.ref C_BadScript)))
    (lc_BadScript : K.lookup C_BadScript = some (excClassObj nm_BadScript q_BadScript C_BadScript N_BadScript bs_BadScript bm_BadScript true sn_BadScript sub_BadScript ab_BadScript col_BadScript dd_BadScript k0_BadScript k1_BadScript k2_BadScript k3_BadScript k5_BadScript "ValueError.__new__"))
    (rb_BadScript : PySem.HandSPX.refsVE bm_BadScript = true)
    (sa_BadScript : PySem.W.findIn K (.ref C_BadScript) "__setattr__" = some (some (.builtin "object.__setattr__")))
    (eb_BadScript : PySem.W.subIn K (.ref C_BadScript) (.type "BaseException") = some true)
    (ty_BadScript : PySem.W.typeIn K (.ref C_BadScript) = some (.type "type"))
    (kc_BadScript : PySem.W.keepIn K (.ref C_BadScript) = true)
    (a_BadScript_init : PySem.W.findIn K (.ref C_BadScript) "__init__" = some (some (.ref f_BadScript_init)))
    (tI_BadScript_init : PySem.W.typeIn K (.ref f_BadScript_init) = some (.type "function"))
    (l_BadScript_init : K.lookup f_BadScript_init = some ⟨oc_BadScript_init, od_BadScript_init, .func (PySem.W.ksFn "__init__" "BadScript.__init__" (defArgs s_BadScript_init) (defBody s_BadScript_init) (defScope s_BadScript_init) .none kV_BadScript_init dc_BadScript_init pm_BadScript_init an_BadScript_init (.ref cda_BadScript_init) ct_BadScript_init cc_BadScript_init), sl_BadScript_init⟩)
    (q_BadScript_init : PySem.W.codeIn K (.ref cda_BadScript_init) "BadScript.__init__" = true)
    (ce_BadScript_init : K.lookup cc_BadScript_init = some ⟨cl_BadScript_init, cld_BadScript_init, .cell (some (.ref C_BadScript)), csl_BadScript_init⟩)
    (co_BadScript_init : K.lookup cda_BadScript_init = some ⟨ccl_BadScript_init, cdd_BadScript_init, .fields vs_BadScript_init, ccs_BadScript_init⟩)
    (v2_BadScript_init : vs_BadScript_init[2]? = some (.str file_BadScript_init tf_BadScript_init))
    (fi_BadScript_init : ((l.prog.main.file : Str) == file_BadScript_init) = true)
    (su_BadScript : PySem.W.ks_superIn K C_BadScript C_BadScript "__init__" = some (some (.builtin "ValueError.__init__")))
    (op_BadScript : PySem.W.nsIn K cStatics "thirdparty.any" = some none)
    (sv_BadScript : PySem.W.subIn K (.ref C_BadScript) (.type "ValueError") = some true)
    (mc_BadScript : PySem.W.mroIn K C_BadScript (.ref C_BadScript) = some true)
    (nf_BadScript : PySem.W.findIn K (.ref C_BadScript) "at" = some none)
    (ts_BadScript : (l.prog.main.scope.names.lookup ("super" : Str)).isSome = false)
    (xga_BadScript : PySem.W.findIn K (.ref C_BadScript) "__getattribute__" = some (some (.builtin "BaseException.__getattribute__")))
    (xgt_BadScript : PySem.W.findIn K (.ref C_BadScript) "__getattr__" = some none)
    (xhd_BadScript : PySem.W.hasDictIn K C_BadScript = true)
    (xcc_BadScript : PySem.W.findIn K (.ref C_BadScript) "__class__" = some (some (.builtin "object.__class__")))
    (xsp_BadScript : PySem.W.specialIn K (.builtin "object.__class__") "__get__" = some (some (.builtin "getset_descriptor.__get__")))
    (xtk_BadScript : PySem.W.takesIn K (.builtin "object.__class__") = some true)
    (xmo_BadScript : PySem.W.mroIn K C_BadScript (.type "object") = some true)
    (g_KINDS : PySem.W.nsIn K mainGlobals "KINDS" = some (some (.ref P_KINDS)))
    (l_KINDS : K.lookup P_KINDS = some ⟨.type "tuple", od_KINDS, .seq #[.str "proposal" t0_KINDS, .str "prevote" t1_KINDS, .str "precommit" t2_KINDS] n_KINDS, sl_KINDS⟩)
    (te1_BadLine : PySem.W.subIn K (.ref C_BadLine) (.type "BaseException") = some true)
    (te2_BadLine : PySem.W.hasDictIn K C_BadLine = true)
    (te3_BadLine : PySem.W.typeIn K (.ref C_BadLine) = some (.type "type"))
    (te4_BadLine_BadLine : PySem.W.subIn K (.ref C_BadLine) (.ref C_BadLine) = some true)
    (g_NUMBERED : PySem.W.nsIn K mainGlobals "NUMBERED" = some (some (.ref P_NUMBERED)))
    (l_NUMBERED : K.lookup P_NUMBERED = some ⟨.type "dict", none, .dict #[⟨h_NUMBERED_deliver, .str "deliver" t_NUMBERED_deliver, .int 2 u_NUMBERED_deliver⟩, ⟨h_NUMBERED_timeout, .str "timeout" t_NUMBERED_timeout, .int 1 u_NUMBERED_timeout⟩, ⟨h_NUMBERED_assist, .str "assist" t_NUMBERED_assist, .int 2 u_NUMBERED_assist⟩, ⟨h_NUMBERED_crash, .str "crash" t_NUMBERED_crash, .int 1 u_NUMBERED_crash⟩] n_NUMBERED, #[]⟩)
    (kl_NUMBERED : PySem.W.KeysLit w.params [⟨h_NUMBERED_deliver, .str "deliver" t_NUMBERED_deliver, .int 2 u_NUMBERED_deliver⟩, ⟨h_NUMBERED_timeout, .str "timeout" t_NUMBERED_timeout, .int 1 u_NUMBERED_timeout⟩, ⟨h_NUMBERED_assist, .str "assist" t_NUMBERED_assist, .int 2 u_NUMBERED_assist⟩, ⟨h_NUMBERED_crash, .str "crash" t_NUMBERED_crash, .int 1 u_NUMBERED_crash⟩])
    (lo_NUMBERED : (P_NUMBERED == sysModules) = false)
    (g_TribunalError : PySem.W.nsIn K mainGlobals "TribunalError" = some (some (.ref C_TribunalError)))
    (te1_TribunalError : PySem.W.subIn K (.ref C_TribunalError) (.type "BaseException") = some true)
    (te2_TribunalError : PySem.W.hasDictIn K C_TribunalError = true)
    (te3_TribunalError : PySem.W.typeIn K (.ref C_TribunalError) = some (.type "type"))
    (te4_TribunalError_BadScript : PySem.W.subIn K (.ref C_BadScript) (.ref C_TribunalError) = some true)
    (te1_BadScript : PySem.W.subIn K (.ref C_BadScript) (.type "BaseException") = some true)
    (te2_BadScript : PySem.W.hasDictIn K C_BadScript = true)
    (te3_BadScript : PySem.W.typeIn K (.ref C_BadScript) = some (.type "type"))
    (te4_BadScript_BadScript : PySem.W.subIn K (.ref C_BadScript) (.ref C_BadScript) = some true)
    (kta_BadScript_BadCommand_BadLine : PySem.W.kitAny K (.ref C_BadScript) [.ref C_BadCommand, .ref C_BadLine] = some false)
    (kt_BadScript_BadScript : PySem.W.kitOne K (.ref C_BadScript) (.ref C_BadScript) = some true) :
    ∃ fd : FuncData, (∀ (s : Shared) (v : Value), BindsTo s fd ⟨[v], []⟩ [("script", v)]) ∧ ∀ base : Heap, K.In base → base.Ns mainGlobals mg → FnOk l.prog w K mg base CX0 12 fa fd ["script"] (spLaw K) := by
  have e := hfa.symm.trans (PySem.W.mg_of X G a_law)
  cases e
  have T : Txt K mg ⟨C_Reader, f_proposal, f_prevote, f_precommit, f_is_number, f_is_block, f_word_at, f_number_at, f_kind_at, f_block_at, f_lean_at, f_end_at, f_read_letter, f_word, f_letter_line, f_command_text, f_Reader_init, f_Reader_read_signs, f_Reader_skip, f_Reader_read_number, f_Reader_read_code, f_Reader_read_command, f_commands_of, f_law_cell, f_law_row, f_law_number, f_law_code, f_law_place, f_law_command, f_law_text, f_read_number, f_u_read_letter, f_read_command, f_event_line, f_read_event, f_law_is_integer, f_law_statement, f_law_event, f_law_line, f_law_changed, f_law_reads, f_law_long, P_MARKS, M_MARKS_p, M_MARKS_w, M_MARKS_d, M_MARKS_k, C_BadCommand, C_BadLine, f_BadLine_init, C_BadScript, f_BadScript_init, P_KINDS, P_NUMBERED, C_TribunalError⟩ := {
    n_len := mg_no X G n_len
    n_range := mg_no X G n_range
    n_isinstance := mg_no X G n_isinstance
    n_int := mg_no X G n_int
    n_bool := mg_no X G n_bool
    n_list := mg_no X G n_list
    n_tuple := mg_no X G n_tuple
    n_str := mg_no X G n_str
    n_zip := mg_no X G n_zip
    n_enumerate := mg_no X G n_enumerate
    n_max := mg_no X G n_max
    n_abs := mg_no X G n_abs
    n_super := mg_no X G n_super
    n_ValueError := mg_no X G n_ValueError
    n_all := mg_no X G n_all
    c_SIGNS := ⟨_, PySem.W.mg_of X G c_SIGNS⟩
    c_DIGITS := ⟨_, PySem.W.mg_of X G c_DIGITS⟩
    c_LETTERS := ⟨_, PySem.W.mg_of X G c_LETTERS⟩
    c_BLOCK_SIGNS := ⟨_, PySem.W.mg_of X G c_BLOCK_SIGNS⟩
    c_NONE := ⟨_, PySem.W.mg_of X G c_NONE⟩
    c_MOST_DIGITS_wire := ⟨_, PySem.W.mg_of X G c_MOST_DIGITS_wire⟩
    c_MOST_SIGNS := ⟨_, PySem.W.mg_of X G c_MOST_SIGNS⟩
    c_MOST_DIGITS_commands := ⟨_, PySem.W.mg_of X G c_MOST_DIGITS_commands⟩
    c_CODE_END := ⟨_, PySem.W.mg_of X G c_CODE_END⟩
    g_Reader := PySem.W.mg_of X G g_Reader
    cl_Reader := ⟨pg_Reader, hd_Reader, po_Reader, sa_Reader⟩
    kc_Reader := kc_Reader
    mk_Reader := mk_Reader
    a_Reader_text := no_Reader_text
    a_Reader_at := no_Reader_at
    d_proposal := ⟨def_mk l_proposal q_proposal k_proposal (fun _ _ _ _ _ _ us hl => match us, hl with | [_, _, _], _ => rfl), PySem.W.mg_of X G a_proposal, k_proposal⟩
    d_prevote := ⟨def_mk l_prevote q_prevote k_prevote (fun _ _ _ _ _ _ us hl => match us, hl with | [_, _, _, _], _ => rfl), PySem.W.mg_of X G a_prevote, k_prevote⟩
    d_precommit := ⟨def_mk l_precommit q_precommit k_precommit (fun _ _ _ _ _ _ us hl => match us, hl with | [_, _, _], _ => rfl), PySem.W.mg_of X G a_precommit, k_precommit⟩
    d_is_number := ⟨def_mk l_is_number q_is_number k_is_number (fun _ _ _ _ _ _ us hl => match us, hl with | [_], _ => rfl), PySem.W.mg_of X G a_is_number, k_is_number⟩
    d_is_block := ⟨def_mk l_is_block q_is_block k_is_block (fun _ _ _ _ _ _ us hl => match us, hl with | [_], _ => rfl), PySem.W.mg_of X G a_is_block, k_is_block⟩
    d_word_at := ⟨def_mk l_word_at q_word_at k_word_at (fun _ _ _ _ _ _ us hl => match us, hl with | [_, _], _ => rfl), PySem.W.mg_of X G a_word_at, k_word_at⟩
    d_number_at := ⟨def_mk l_number_at q_number_at k_number_at (fun _ _ _ _ _ _ us hl => match us, hl with | [_, _], _ => rfl), PySem.W.mg_of X G a_number_at, k_number_at⟩
    d_kind_at := ⟨def_mk l_kind_at q_kind_at k_kind_at (fun _ _ _ _ _ _ us hl => match us, hl with | [_, _], _ => rfl), PySem.W.mg_of X G a_kind_at, k_kind_at⟩
    d_block_at := ⟨def_mk l_block_at q_block_at k_block_at (fun _ _ _ _ _ _ us hl => match us, hl with | [_, _, _], _ => rfl), PySem.W.mg_of X G a_block_at, k_block_at⟩
    d_lean_at := ⟨def_mk l_lean_at q_lean_at k_lean_at (fun _ _ _ _ _ _ us hl => match us, hl with | [_, _, _], _ => rfl), PySem.W.mg_of X G a_lean_at, k_lean_at⟩
    d_end_at := ⟨def_mk l_end_at q_end_at k_end_at (fun _ _ _ _ _ _ us hl => match us, hl with | [_, _], _ => rfl), PySem.W.mg_of X G a_end_at, k_end_at⟩
    d_read_letter := ⟨def_mk l_read_letter q_read_letter k_read_letter (fun _ _ _ _ _ _ us hl => match us, hl with | [_], _ => rfl), PySem.W.mg_of X G a_read_letter, k_read_letter⟩
    d_word := ⟨def_mk l_word q_word k_word (fun _ _ _ _ _ _ us hl => match us, hl with | [_], _ => rfl), PySem.W.mg_of X G a_word, k_word⟩
    d_letter_line := ⟨def_mk l_letter_line q_letter_line k_letter_line (fun _ _ _ _ _ _ us hl => match us, hl with | [_], _ => rfl), PySem.W.mg_of X G a_letter_line, k_letter_line⟩
    d_command_text := ⟨def_mk l_command_text q_command_text k_command_text (fun _ _ _ _ _ _ us hl => match us, hl with | [_], _ => rfl), PySem.W.mg_of X G a_command_text, k_command_text⟩
    d_Reader_init := ⟨def_mk l_Reader_init q_Reader_init k_Reader_init (fun _ _ _ _ _ _ us hl => match us, hl with | [_, _], _ => rfl), a_Reader_init, i_Reader_init, k_Reader_init⟩
    d_Reader_read_signs := ⟨def_mk l_Reader_read_signs q_Reader_read_signs k_Reader_read_signs (fun _ _ _ _ _ _ us hl => match us, hl with | [_, _], _ => rfl), a_Reader_read_signs, i_Reader_read_signs, k_Reader_read_signs⟩
    d_Reader_skip := ⟨def_mk l_Reader_skip q_Reader_skip k_Reader_skip (fun _ _ _ _ _ _ us hl => match us, hl with | [_, _], _ => rfl), a_Reader_skip, i_Reader_skip, k_Reader_skip⟩
    d_Reader_read_number := ⟨def_mk l_Reader_read_number q_Reader_read_number k_Reader_read_number (fun _ _ _ _ _ _ us hl => match us, hl with | [_], _ => rfl), a_Reader_read_number, i_Reader_read_number, k_Reader_read_number⟩
    d_Reader_read_code := ⟨def_mk l_Reader_read_code q_Reader_read_code k_Reader_read_code (fun _ _ _ _ _ _ us hl => match us, hl with | [_], _ => rfl), a_Reader_read_code, i_Reader_read_code, k_Reader_read_code⟩
    d_Reader_read_command := ⟨def_mk l_Reader_read_command q_Reader_read_command k_Reader_read_command (fun _ _ _ _ _ _ us hl => match us, hl with | [_], _ => rfl), a_Reader_read_command, i_Reader_read_command, k_Reader_read_command⟩
    d_commands_of := ⟨def_mk l_commands_of q_commands_of k_commands_of (fun _ _ _ _ _ _ us hl => match us, hl with | [_], _ => rfl), PySem.W.mg_of X G a_commands_of, k_commands_of⟩
    d_law_cell := ⟨def_mk l_law_cell q_law_cell k_law_cell (fun _ _ _ _ _ _ us hl => match us, hl with | [_, _], _ => rfl), PySem.W.mg_of X G a_law_cell, k_law_cell⟩
    d_law_row := ⟨def_mk l_law_row q_law_row k_law_row (fun _ _ _ _ _ _ us hl => match us, hl with | [_, _, _], _ => rfl), PySem.W.mg_of X G a_law_row, k_law_row⟩
    d_law_number := ⟨def_mk l_law_number q_law_number k_law_number (fun _ _ _ _ _ _ us hl => match us, hl with | [_], _ => rfl), PySem.W.mg_of X G a_law_number, k_law_number⟩
    d_law_code := ⟨def_mk l_law_code q_law_code k_law_code (fun _ _ _ _ _ _ us hl => match us, hl with | [_], _ => rfl), PySem.W.mg_of X G a_law_code, k_law_code⟩
    d_law_place := ⟨def_mk l_law_place q_law_place k_law_place (fun _ _ _ _ _ _ us hl => match us, hl with | [_], _ => rfl), PySem.W.mg_of X G a_law_place, k_law_place⟩
    d_law_command := ⟨def_mk l_law_command q_law_command k_law_command (fun _ _ _ _ _ _ us hl => match us, hl with | [_, _], _ => rfl), PySem.W.mg_of X G a_law_command, k_law_command⟩
    d_law_text := ⟨def_mk l_law_text q_law_text k_law_text (fun _ _ _ _ _ _ us hl => match us, hl with | [_], _ => rfl), PySem.W.mg_of X G a_law_text, k_law_text⟩
    d_read_number := ⟨def_mk l_read_number q_read_number k_read_number (fun _ _ _ _ _ _ us hl => match us, hl with | [_, _], _ => rfl), PySem.W.mg_of X G a_read_number, k_read_number⟩
    d_u_read_letter := ⟨def_mk l_u_read_letter q_u_read_letter k_u_read_letter (fun _ _ _ _ _ _ us hl => match us, hl with | [_, _], _ => rfl), PySem.W.mg_of X G a_u_read_letter, k_u_read_letter⟩
    d_read_command := ⟨def_mk l_read_command q_read_command k_read_command (fun _ _ _ _ _ _ us hl => match us, hl with | [_, _], _ => rfl), PySem.W.mg_of X G a_read_command, k_read_command⟩
    d_event_line := ⟨def_mk l_event_line q_event_line k_event_line (fun _ _ _ _ _ _ us hl => match us, hl with | [_], _ => rfl), PySem.W.mg_of X G a_event_line, k_event_line⟩
    d_read_event := ⟨def_mk l_read_event q_read_event k_read_event (fun _ _ _ _ _ _ us hl => match us, hl with | [_, _], _ => rfl), PySem.W.mg_of X G a_read_event, k_read_event⟩
    d_law_is_integer := ⟨def_mk l_law_is_integer q_law_is_integer k_law_is_integer (fun _ _ _ _ _ _ us hl => match us, hl with | [_], _ => rfl), PySem.W.mg_of X G a_law_is_integer, k_law_is_integer⟩
    d_law_statement := ⟨def_mk l_law_statement q_law_statement k_law_statement (fun _ _ _ _ _ _ us hl => match us, hl with | [_, _], _ => rfl), PySem.W.mg_of X G a_law_statement, k_law_statement⟩
    d_law_event := ⟨def_mk l_law_event q_law_event k_law_event (fun _ _ _ _ _ _ us hl => match us, hl with | [_, _, _], _ => rfl), PySem.W.mg_of X G a_law_event, k_law_event⟩
    d_law_line := ⟨def_mk l_law_line q_law_line k_law_line (fun _ _ _ _ _ _ us hl => match us, hl with | [_], _ => rfl), PySem.W.mg_of X G a_law_line, k_law_line⟩
    d_law_changed := ⟨def_mk l_law_changed q_law_changed k_law_changed (fun _ _ _ _ _ _ us hl => match us, hl with | [_, _], _ => rfl), PySem.W.mg_of X G a_law_changed, k_law_changed⟩
    d_law_reads := ⟨def_mk l_law_reads q_law_reads k_law_reads (fun _ _ _ _ _ _ us hl => match us, hl with | [_, _], _ => rfl), PySem.W.mg_of X G a_law_reads, k_law_reads⟩
    d_law_long := ⟨def_mk l_law_long q_law_long k_law_long (fun _ _ _ _ _ _ us hl => match us, hl with | [_, _], _ => rfl), PySem.W.mg_of X G a_law_long, k_law_long⟩ }
  have TE : TxtE l.prog w K mg ⟨C_Reader, f_proposal, f_prevote, f_precommit, f_is_number, f_is_block, f_word_at, f_number_at, f_kind_at, f_block_at, f_lean_at, f_end_at, f_read_letter, f_word, f_letter_line, f_command_text, f_Reader_init, f_Reader_read_signs, f_Reader_skip, f_Reader_read_number, f_Reader_read_code, f_Reader_read_command, f_commands_of, f_law_cell, f_law_row, f_law_number, f_law_code, f_law_place, f_law_command, f_law_text, f_read_number, f_u_read_letter, f_read_command, f_event_line, f_read_event, f_law_is_integer, f_law_statement, f_law_event, f_law_line, f_law_changed, f_law_reads, f_law_long, P_MARKS, M_MARKS_p, M_MARKS_w, M_MARKS_d, M_MARKS_k, C_BadCommand, C_BadLine, f_BadLine_init, C_BadScript, f_BadScript_init, P_KINDS, P_NUMBERED, C_TribunalError⟩ := {
    g_MARKS := PySem.W.mg_of X G g_MARKS
    tab_MARKS := ktab_mk l_MARKS kl_MARKS lo_MARKS ⟨⟨_, rfl, rfl⟩, ⟨_, rfl, rfl⟩, ⟨_, rfl, rfl⟩, ⟨_, rfl, rfl⟩, trivial⟩
    s_MARKS_p := fun H => .inr ⟨_, _, _, l_MARKS_p, rfl, rfl, (by show 3 ≤ sizeLine; decide), (.cons ⟨_, rfl⟩ (.cons ⟨_, rfl⟩ (.cons ⟨_, rfl⟩ .nil)))⟩
    s_MARKS_w := fun H => .inr ⟨_, _, _, l_MARKS_w, rfl, rfl, (by show 2 ≤ sizeLine; decide), (.cons ⟨_, rfl⟩ (.cons ⟨_, rfl⟩ .nil))⟩
    s_MARKS_d := fun H => .inr ⟨_, _, _, l_MARKS_d, rfl, rfl, (by show 2 ≤ sizeLine; decide), (.cons ⟨_, rfl⟩ (.cons ⟨_, rfl⟩ .nil))⟩
    s_MARKS_k := fun H => .inr ⟨_, _, _, l_MARKS_k, rfl, rfl, (by show 3 ≤ sizeLine; decide), (.cons ⟨_, rfl⟩ (.cons ⟨_, rfl⟩ (.cons ⟨_, rfl⟩ .nil)))⟩
    g_BadCommand := PySem.W.mg_of X G g_BadCommand
    x_BadCommand := x_BadCommand
    kc_BadCommand := kc_BadCommand
    b_BadCommand := b_BadCommand
    t_BadCommand := t_BadCommand
    xc_BadCommand := ⟨(PySem.W.any_some xhd_BadCommand).elim fun cd h => by rw [h.1]; rfl, xga_BadCommand, xgt_BadCommand, b_BadCommand, xhd_BadCommand, xcc_BadCommand, xsp_BadCommand, xtk_BadCommand, xmo_BadCommand⟩
    exm_BadCommand_BadCommand := PySem.W.exm_ref te1_BadCommand te2_BadCommand te3_BadCommand te4_BadCommand_BadCommand
    g_BadLine := PySem.W.mg_of X G g_BadLine
    sup_BadLine := ⟨_, { fn := ⟨_, _, _, _, _, _, _, _, _, _, _, _, _, _, _, _, _, _, _, rfl, l_BadLine_init, q_BadLine_init, ce_BadLine_init, co_BadLine_init, v2_BadLine_init, fi_BadLine_init⟩, oex := ⟨⟨_, _, _, _, _, _, _, _, _, _, _, _, _, _, _, lc_BadLine, rb_BadLine⟩, sa_BadLine, eb_BadLine, ty_BadLine, kc_BadLine⟩, sup := su_BadLine, opq := op_BadLine, subV := sv_BadLine, mroC := mc_BadLine, nof := nf_BadLine, topS := ts_BadLine }, .all fun us hl => match us, hl with | [_, _], _ => rfl⟩
    iC_BadLine := a_BadLine_init
    tI_BadLine := tI_BadLine_init
    oex_BadLine := ⟨⟨_, _, _, _, _, _, _, _, _, _, _, _, _, _, _, lc_BadLine, rb_BadLine⟩, sa_BadLine, eb_BadLine, ty_BadLine, kc_BadLine⟩
    xc_BadLine := ⟨by unfold PySem.W.clsIn; rw [lc_BadLine]; rfl, xga_BadLine, xgt_BadLine, eb_BadLine, xhd_BadLine, xcc_BadLine, xsp_BadLine, xtk_BadLine, xmo_BadLine⟩
    g_BadScript := PySem.W.mg_of X G g_BadScript
    sup_BadScript := ⟨_, { fn := ⟨_, _, _, _, _, _, _, _, _, _, _, _, _, _, _, _, _, _, _, rfl, l_BadScript_init, q_BadScript_init, ce_BadScript_init, co_BadScript_init, v2_BadScript_init, fi_BadScript_init⟩, oex := ⟨⟨_, _, _, _, _, _, _, _, _, _, _, _, _, _, _, lc_BadScript, rb_BadScript⟩, sa_BadScript, eb_BadScript, ty_BadScript, kc_BadScript⟩, sup := su_BadScript, opq := op_BadScript, subV := sv_BadScript, mroC := mc_BadScript, nof := nf_BadScript, topS := ts_BadScript }, .all fun us hl => match us, hl with | [_, _], _ => rfl⟩
    iC_BadScript := a_BadScript_init
    tI_BadScript := tI_BadScript_init
    oex_BadScript := ⟨⟨_, _, _, _, _, _, _, _, _, _, _, _, _, _, _, lc_BadScript, rb_BadScript⟩, sa_BadScript, eb_BadScript, ty_BadScript, kc_BadScript⟩
    xc_BadScript := ⟨by unfold PySem.W.clsIn; rw [lc_BadScript]; rfl, xga_BadScript, xgt_BadScript, eb_BadScript, xhd_BadScript, xcc_BadScript, xsp_BadScript, xtk_BadScript, xmo_BadScript⟩
    g_KINDS := PySem.W.mg_of X G g_KINDS
    s_KINDS := fun H => .inr ⟨_, _, _, l_KINDS, rfl, rfl, (by show 3 ≤ sizeLine; decide), (.cons ⟨_, rfl⟩ (.cons ⟨_, rfl⟩ (.cons ⟨_, rfl⟩ .nil)))⟩
    exm_BadLine_BadLine := PySem.W.exm_ref te1_BadLine te2_BadLine te3_BadLine te4_BadLine_BadLine
    g_NUMBERED := PySem.W.mg_of X G g_NUMBERED
    tab_NUMBERED := ktabi_mk l_NUMBERED kl_NUMBERED lo_NUMBERED ⟨⟨_, _, rfl, rfl⟩, ⟨_, _, rfl, rfl⟩, ⟨_, _, rfl, rfl⟩, ⟨_, _, rfl, rfl⟩, trivial⟩
    g_TribunalError := PySem.W.mg_of X G g_TribunalError
    exm_TribunalError_BadScript := PySem.W.exm_ref te1_TribunalError te2_TribunalError te3_TribunalError te4_TribunalError_BadScript
    exm_BadScript_BadScript := PySem.W.exm_ref te1_BadScript te2_BadScript te3_BadScript te4_BadScript_BadScript
    kta_BadScript_BadCommand_BadLine := kta_BadScript_BadCommand_BadLine
    kt_BadScript_BadScript := kt_BadScript_BadScript }
  have F5 := fun_mk (st := s_law) l_law q_law k_law
  exact ⟨PySem.W.fnOf "law" "law" (defArgs s_law) (defBody s_law) (defScope s_law) .none kV_law dc_law pm_law an_law cd_law ct_law, fun s v => .of_eq rfl, fun base _ _ => ok_law F5 TE T⟩
theorem walk {l : PySem.W.OpenLaw} {q : Program} {loose : List Str} {XP : (Str → Option Value) → Heap → Prop} {YP : World → Heap → Prop} {d : DefRec} {K : Params → PySem.W.Frag} (hn : l.most = some 63) (hdf : d.params.defaults = [])
    (hY : ∀ (w : World) (h : Heap), YP w h → (K w.params).In h)
    (F : ∀ (w : World) (mg : Str → Option Value) (fa : Addr) (h : Heap), (K w.params).In h → h.Ns mainGlobals mg → mg d.name = some (.ref fa) →
      ∃ fd : FuncData, (∀ (s : Shared) (u : Value), BindsTo s fd ⟨[u], []⟩ [("script", u)]) ∧ ∀ base : Heap, (K w.params).In base → base.Ns mainGlobals mg → FnOk l.prog w (K w.params) mg base CX0 12 fa fd ["script"] (spLaw (K w.params))) :
    PySem.W.WalkO q loose XP YP l.row.toRowW d [] (fun f vs => PySem.call f vs) :=
  L2.walk_of (n := 63) (k := 12) (x := "script") (CX := fun _ => CX0) (sp := fun w => spLaw (K w.params)) hn (by decide) hdf ⟨rfl, by decide, by decide⟩ hY F (fun _ _ a ns hl _ hS => ⟨a, ns, rfl, hS, hl, fun _ => rfl⟩) fun _ _ _ _ _ z => z
end Toy
namespace PySem.W.Fast
theorem tw505555960201941129 : True := trivial
theorem tw10353630625925982843 : True := trivial
theorem tw9064271805763022792 : True := trivial
theorem tw5144048879186284029 : True := trivial
theorem tw13745140341308582965 : True := trivial
theorem tw582377485500074062 : True := trivial
theorem tw15212506692897651833 : True := trivial
theorem tw16753032083219786154 : True := trivial
theorem tw2872521310888447095 : True := trivial
theorem tw16730479012930129244 : True := trivial
theorem tw1286441365727873540 : True := trivial
theorem tw7444915605024682572 : True := trivial
theorem tw13534903671048208237 : True := trivial
theorem tw16971858245251805776 : True := trivial
theorem tw8628189197158322053 : True := trivial
theorem tw5456201523196991027 : True := trivial
theorem tw15729801820750487316 : True := trivial
theorem tw16199769303850752393 : True := trivial
theorem tw8379950722782840941 : True := trivial
theorem tw5427999999090431956 : True := trivial
theorem tw1646583412869330561 : True := trivial
theorem tw437456466610151120 : True := trivial
theorem tw9233137172118738749 : True := trivial
theorem tw15418368130534356639 : True := trivial
theorem tw2661983842669186378 : True := trivial
theorem tw6495948387379871187 : True := trivial
theorem tw8438923252630924859 : True := trivial
theorem tw3312586608156159307 : True := trivial
theorem tw16022344474314476721 : True := trivial
theorem tw7207103505330250773 : True := trivial
theorem tw15428361623362867680 : True := trivial
theorem tw14382373543692819781 : True := trivial
theorem tw7021716371856444443 : True := trivial
theorem tw9918445146960663450 : True := trivial
theorem tw17848344476518217364 : True := trivial
theorem tw351336666827141618 : True := trivial
theorem tw2579455872846683588 : True := trivial
theorem tw7625600776826610099 : True := trivial
theorem tw11368419701020035091 : True := trivial
theorem tw11985835662575137752 : True := trivial
theorem tw13034873341528595069 : True := trivial
theorem tw11701560906920367019 : True := trivial
theorem tw6516499788182722725 : True := trivial
theorem tw15842202750688934486 : True := trivial
theorem tw6964804728888811307 : True := trivial
theorem tw9437301540304508290 : True := trivial
theorem tw11680309410773966982 : True := trivial
theorem tw1035593612481886985 : True := trivial
theorem tw4351690349753803975 : True := trivial
theorem tw13356710150693635089 : True := trivial
theorem tw15746311210239003661 : True := trivial
theorem tw15050173837656328187 : True := trivial
theorem tw5553621841359914006 : True := trivial
theorem tw6241533007560159830 : True := trivial
theorem tw5671456859587220231 : True := trivial
theorem tw14594332730515147726 : True := trivial
theorem tw9562841431483817903 : True := trivial
theorem tw851133099753160167 : True := trivial
theorem tw333279707702420824 : True := trivial
theorem tw9391966105965509133 : True := trivial
theorem tw13631598908667784424 : True := trivial
theorem tw5240338924989821596 : True := trivial
theorem tw11967903559430419974 : True := trivial
theorem tw757759777278302281 : True := trivial
theorem tw17577721932559643571 : True := trivial
theorem tw13908711979013460056 : True := trivial
theorem tw14119958054114401737 : True := trivial
theorem tw16442336131871201824 : True := trivial
theorem tw12397453770365960117 : True := trivial
theorem tw5070789061333410418 : True := trivial
theorem tw11606408915242515301 : True := trivial
theorem tw16395561158062140313 : True := trivial
theorem tw9637968925211572259 : True := trivial
theorem tw10400000546735707858 : True := trivial
theorem tw4505664622353483840 : True := trivial
theorem tw14903011378684526593 : True := trivial
theorem tw4208659872466889925 : True := trivial
theorem tw2224993845086377094 : True := trivial
theorem tw13969865263497680003 : True := trivial
theorem tw582331930626553205 : True := trivial
theorem tw3268068869411190555 : True := trivial
theorem tw1218113516458978572 : True := trivial
theorem tw12623213048902846526 : True := trivial
theorem tw12966649474186935373 : True := trivial
theorem tw13011516853335777587 : True := trivial
theorem tw14163466952166791709 : True := trivial
theorem tw10379040587905782035 : True := trivial
theorem tw16358612025050698110 : True := trivial
theorem tw15260445481272413065 : True := trivial
theorem tw16912444675918768360 : True := trivial
theorem tw6890186761671094831 : True := trivial
theorem tw6050836654702077567 : True := trivial
theorem tw3596541129940104871 : True := trivial
theorem tw8116368136252770006 : True := trivial
theorem tw18148586683052258008 : True := trivial
theorem tw8737442008372568288 : True := trivial
theorem tw2540611231196077275 : True := trivial
theorem tw3090197054506385551 : True := trivial
theorem tw1173391895064223045 : True := trivial
theorem tw13119326071472221367 : True := trivial
theorem tw2045242020357047345 : True := trivial
theorem tw2633674563765702112 : True := trivial
theorem tw3303773294336495844 : True := trivial
theorem tw5462286757386102165 : True := trivial
theorem tw13874612609686830870 : True := trivial
theorem tw5346334737627937983 : True := trivial
theorem tw10316068705941353667 : True := trivial
theorem tw551927758054572950 : True := trivial
theorem tw7579734577061123259 : True := trivial
theorem tw13637195181908053730 : True := trivial
theorem tw3304498519113196273 : True := trivial
theorem tw13890306472025523416 : True := trivial
theorem tw16069006903947883945 : True := trivial
theorem tw1073862867867336240 : True := trivial
theorem tw12236340661380248284 : True := trivial
theorem tw10379846511046331200 : True := trivial
theorem tw10798977298110672144 : True := trivial
theorem tw13846996258790009313 : True := trivial
theorem tw9478388087240206631 : True := trivial
theorem tw9392533421343147314 : True := trivial
theorem tw15904846633565956581 : True := trivial
theorem tw12125162642704603653 : True := trivial
theorem tw9792440332379224099 : True := trivial
theorem tw16727087854453745019 : True := trivial
theorem tw6075563427072822250 : True := trivial
theorem tw3829611595238981548 : True := trivial
theorem tw6522521083089582701 : True := trivial
theorem tw11198585568455101906 : True := trivial
theorem tw14773923298274530710 : True := trivial
theorem tw11656176250686000727 : True := trivial
theorem tw8606693802438949377 : True := trivial
theorem tw8576158606354455294 : True := trivial
theorem tw11499039376537983652 : True := trivial
theorem tw12059000441188376439 : True := trivial
theorem tw17441739848444402682 : True := trivial
theorem tw17343725616921803665 : True := trivial
theorem tw6477155854877733940 : True := trivial
theorem tw17746749540608224911 : True := trivial
theorem tw11506999710576891813 : True := trivial
theorem tw5707568460551747161 : True := trivial
theorem tw14740293344703567048 : True := trivial
theorem tw18391549328842296672 : True := trivial
theorem tw11086786399823400600 : True := trivial
theorem tw12452884187199859502 : True := trivial
theorem tw6128267436296087658 : True := trivial
theorem tw4647770705850053343 : True := trivial
theorem tw898854562318700857 : True := trivial
theorem tw3272903046160044771 : True := trivial
theorem tw4358361669455271851 : True := trivial
theorem tw14150075721756919630 : True := trivial
theorem tw15633365546826948889 : True := trivial
theorem tw15891620071244612870 : True := trivial
theorem tw950049244263787574 : True := trivial
theorem tw4107059508300218712 : True := trivial
theorem tw6886859710644139783 : True := trivial
theorem tw14332532928019818575 : True := trivial
theorem tw17909925759064266622 : True := trivial
theorem tw18126714466367147253 : True := trivial
theorem tw4641819248801292530 : True := trivial
theorem tw7831529107693380900 : True := trivial
theorem tw5274364130530698351 : True := trivial
theorem tw6051738148720942187 : True := trivial
theorem tw10531330071530513004 : True := trivial
theorem tw4690559188089662074 : True := trivial
theorem tw4824746494054425190 : True := trivial
theorem tw10556084540647591733 : True := trivial
theorem tw4449725475400538942 : True := trivial
theorem tw307054572625139397 : True := trivial
theorem tw13014685550507052763 : True := trivial
theorem tw312281083269817242 : True := trivial
theorem tw4000283101000152757 : True := trivial
theorem tw3334616980603071804 : True := trivial
theorem tw14248941934980271119 : True := trivial
theorem tw17526219570600075175 : True := trivial
theorem tw14588900732626316675 : True := trivial
theorem tw2775967378329309502 : True := trivial
theorem tw2593424796252909105 : True := trivial
theorem tw8661813100310400301 : True := trivial
theorem tw8682801458683698395 : True := trivial
theorem tw11172994946701719671 : True := trivial
theorem tw1171181194489961587 : True := trivial
theorem tw6712707482903994499 : True := trivial
theorem tw13856376780814162495 : True := trivial
theorem tw1704283244453387432 : True := trivial
theorem tw8950761624271001172 : True := trivial
theorem tw6002073846815805853 : True := trivial
theorem tw12922664572567667206 : True := trivial
theorem tw11408822454345957855 : True := trivial
theorem tw10486058775685960171 : True := trivial
theorem tw3944046448534579674 : True := trivial
theorem tw2130051480448926109 : True := trivial
theorem tw10973066129185049758 : True := trivial
theorem tw18390492671983553911 : True := trivial
theorem tw6198166763152156785 : True := trivial
theorem tw11574699143155330034 : True := trivial
theorem tw14283372255046915611 : True := trivial
theorem tw4911894769813076127 : True := trivial
theorem tw11669297171509893670 : True := trivial
theorem tw4437476408360974764 : True := trivial
theorem tw4390404748261213219 : True := trivial
theorem tw10381499389248614081 : True := trivial
theorem tw8780843307534976617 : True := trivial
theorem tw4862877873295864353 : True := trivial
theorem tw5112878488962691777 : True := trivial
theorem tw7395418002107811338 : True := trivial
theorem tw17756072916838616664 : True := trivial
theorem tw11711498178898920238 : True := trivial
theorem tw4460638735774163801 : True := trivial
theorem tw4507725884484085315 : True := trivial
theorem tw490685329314361920 : True := trivial
theorem tw15828862268299949746 : True := trivial
theorem tw13307528027803312698 : True := trivial
theorem tw12915832953890336899 : True := trivial
theorem tw18233011515979433904 : True := trivial
theorem tw12914623180846096696 : True := trivial
theorem tw5159176854162576360 : True := trivial
theorem tw4467118920841319183 : True := trivial
theorem tw4578106464730200498 : True := trivial
theorem tw1674467226691997242 : True := trivial
theorem tw6533098811120946648 : True := trivial
theorem tw11243353472989628652 : True := trivial
theorem tw113317372606021062 : True := trivial
theorem tw10457095655295333761 : True := trivial
theorem tw10880304542361292726 : True := trivial
theorem tw11450495283559623717 : True := trivial
theorem tw7522095846645503909 : True := trivial
theorem tw3165306803137954465 : True := trivial
theorem tw15073274556019612342 : True := trivial
theorem tw15705958672961758288 : True := trivial
theorem tw293824498329759676 : True := trivial
theorem tw4866912981907435946 : True := trivial
theorem tw2942464983879412862 : True := trivial
theorem tw1363254232307311849 : True := trivial
theorem tw5033310669939868339 : True := trivial
theorem tw4182634366332699795 : True := trivial
theorem tw14648117434396503821 : True := trivial
theorem tw15522368476301774763 : True := trivial
theorem tw12773297883582191527 : True := trivial
theorem tw10439891086700195172 : True := trivial
theorem tw14528214824121573451 : True := trivial
theorem tw2664943661177252618 : True := trivial
theorem tw5157151634024306130 : True := trivial
theorem tw1475524678115787454 : True := trivial
theorem tw17814062627509398987 : True := trivial
theorem tw3427679083053494506 : True := trivial
theorem tw17982702236418045610 : True := trivial
theorem tw6407638254633830574 : True := trivial
theorem tw17478294633544643458 : True := trivial
theorem tw14402948544011355660 : True := trivial
theorem tw13643030151984883482 : True := trivial
theorem tw11652421678601848296 : True := trivial
theorem tw5923577188206040503 : True := trivial
theorem tw13221456600780987909 : True := trivial
theorem tw1249552139319658137 : True := trivial
theorem tw10513465739232899402 : True := trivial
theorem tw17118370966101633206 : True := trivial
theorem tw9966867142573497374 : True := trivial
theorem tw14381064791352572871 : True := trivial
theorem tw3853766403448415244 : True := trivial
theorem tw12963885529079684234 : True := trivial
theorem tw14697157759472512626 : True := trivial
theorem tw11267640075659470547 : True := trivial
theorem tw3103035099077548384 : True := trivial
theorem tw1243294839223530832 : True := trivial
theorem tw17331525821293144931 : True := trivial
theorem tw10328039514287781794 : True := trivial
theorem tw2371267957511676048 : True := trivial
theorem tw5612735529931711011 : True := trivial
theorem tw6581577098107875844 : True := trivial
theorem tw8801661910464230376 : True := trivial
theorem tw15836211642684169279 : True := trivial
theorem tw10170088378626984633 : True := trivial
theorem tw9679571432329825467 : True := trivial
theorem tw1320950151487254803 : True := trivial
theorem tw1688785846090605350 : True := trivial
theorem tw17006537734969583636 : True := trivial
theorem tw8166129787217325622 : True := trivial
theorem tw8541822011863629445 : True := trivial
theorem tw13095450071031255861 : True := trivial
theorem tw8914532027634866779 : True := trivial
theorem tw600944821964246005 : True := trivial
theorem tw1968230398478165812 : True := trivial
theorem tw16049820863774690928 : True := trivial
theorem tw1589414077027665246 : True := trivial
theorem tw17646435754751191693 : True := trivial
theorem tw9347172739213031765 : True := trivial
theorem tw12467250553970981308 : True := trivial
theorem tw4129135423165427363 : True := trivial
theorem tw16204608831589202807 : True := trivial
theorem tw4729220963275549913 : True := trivial
theorem tw11675837930943925061 : True := trivial
theorem tw9156861837295016186 : True := trivial
theorem tw14567909263452424642 : True := trivial
theorem tw14867848229504795671 : True := trivial
theorem tw11745412293217905362 : True := trivial
theorem tw4656839176360278848 : True := trivial
theorem tw8150457735578946325 : True := trivial
theorem tw7517858804514447873 : True := trivial
theorem tw18099225887679545464 : True := trivial
theorem tw12723791705957259584 : True := trivial
theorem tw11208080772948073997 : True := trivial
theorem tw13332230091574266084 : True := trivial
theorem tw15738267172239147091 : True := trivial
theorem tw15089514307639373577 : True := trivial
theorem tw10557685109776325496 : True := trivial
theorem tw13844894733261864230 : True := trivial
theorem tw17095229650953650149 : True := trivial
theorem tw11107748669137064601 : True := trivial
theorem tw2664727658524369422 : True := trivial
theorem tw12435022338902903904 : True := trivial
theorem tw10539175979558363131 : True := trivial
theorem tw16202235600974823963 : True := trivial
theorem tw9156677837289849941 : True := trivial
theorem tw5975302542718348982 : True := trivial
theorem tw16896911248608555043 : True := trivial
theorem tw720411035414587647 : True := trivial
theorem tw18350195873461049797 : True := trivial
theorem tw6376199049957066851 : True := trivial
theorem tw1668345145920746896 : True := trivial
theorem tw18328571104592300514 : True := trivial
theorem tw10632610421552479234 : True := trivial
theorem tw8456433711723525405 : True := trivial
theorem tw9231393912052008496 : True := trivial
theorem tw2737210927872924780 : True := trivial
theorem tw2124279397419556229 : True := trivial
theorem tw8059765738321287147 : True := trivial
theorem tw1911893933220374731 : True := trivial
theorem tw16450514544547742953 : True := trivial
theorem tw17422996543159735483 : True := trivial
theorem tw14073481277900879198 : True := trivial
theorem tw2462453342295198873 : True := trivial
theorem tw13303650988010405668 : True := trivial
theorem tw10690909075736565008 : True := trivial
theorem tw16750146460442948412 : True := trivial
theorem tw17047666779491558902 : True := trivial
theorem tw5240912706808345701 : True := trivial
theorem tw5780363942075092234 : True := trivial
theorem tw17293141506882755874 : True := trivial
theorem tw16558792184884733407 : True := trivial
theorem tw12864740275111390393 : True := trivial
theorem tw930616213996474929 : True := trivial
theorem tw15720915315351762246 : True := trivial
theorem tw7920667118143321140 : True := trivial
theorem tw1165199837798597181 : True := trivial
theorem tw13846490336601253230 : True := trivial
theorem tw2256321428490005998 : True := trivial
theorem tw9236029932139364681 : True := trivial
theorem tw12879081955379059262 : True := trivial
theorem tw6571485318417335300 : True := trivial
theorem tw15668855368255217141 : True := trivial
theorem tw11877832799225959066 : True := trivial
theorem tw14179869461236413657 : True := trivial
theorem tw17854018180798102225 : True := trivial
theorem tw8469645057052792625 : True := trivial
theorem tw5819429406771094717 : True := trivial
theorem tw17743718908794350530 : True := trivial
theorem tw14964574752316753356 : True := trivial
theorem tw2155674126638386584 : True := trivial
theorem tw10748092619499176949 : True := trivial
theorem tw10202177886869850961 : True := trivial
theorem tw8819052941462970461 : True := trivial
theorem tw1631967094370740733 : True := trivial
theorem tw4402990331552563612 : True := trivial
theorem tw9107628742931647352 : True := trivial
theorem tw8905398856625046316 : True := trivial
theorem tw7547031192760370222 : True := trivial
theorem tw15162589717652294864 : True := trivial
theorem tw10538469718034815309 : True := trivial
theorem tw8660820007626088186 : True := trivial
theorem tw1835957198169140207 : True := trivial
theorem tw2419930460874100602 : True := trivial
theorem tw10974315814317623355 : True := trivial
theorem tw18318936200394091788 : True := trivial
theorem tw7657515789541841440 : True := trivial
theorem tw11241814371476999558 : True := trivial
theorem tw10201566858758153189 : True := trivial
theorem tw12870950345131336560 : True := trivial
theorem tw2692719608972954605 : True := trivial
theorem tw16461126595490266606 : True := trivial
theorem tw11885266334497825885 : True := trivial
theorem tw2692520634366757380 : True := trivial
theorem tw15088610591913013629 : True := trivial
theorem tw220617650182634846 : True := trivial
theorem tw2641011688984421831 : True := trivial
theorem tw9509628574481528504 : True := trivial
theorem tw17055145226330300885 : True := trivial
theorem tw12295484142506617458 : True := trivial
theorem tw15144519170752939548 : True := trivial
theorem tw5493611122465412920 : True := trivial
theorem tw763321383938454444 : True := trivial
theorem tw2839235377038670988 : True := trivial
theorem tw8641747041945839597 : True := trivial
theorem tw14364087487281109759 : True := trivial
theorem tw14633174919434973682 : True := trivial
theorem tw8943544332177968717 : True := trivial
theorem tw14905616270958928862 : True := trivial
theorem tw16064092307791502583 : True := trivial
theorem tw10882195025890258266 : True := trivial
theorem tw13878740172012916444 : True := trivial
theorem tw10928933636777193828 : True := trivial
theorem tw1394323895431140314 : True := trivial
theorem tw7280103955891087116 : True := trivial
theorem tw16681165521545507941 : True := trivial
theorem tw16938328449850586581 : True := trivial
theorem tw17324408244028272072 : True := trivial
theorem tw16006506567060789111 : True := trivial
theorem tw758499499984257494 : True := trivial
theorem tw17874974669388782589 : True := trivial
theorem tw11490497035598488816 : True := trivial
theorem tw6207733787062176786 : True := trivial
theorem tw12313064935583113413 : True := trivial
theorem tw1939067550176100983 : True := trivial
theorem tw2079273592338479131 : True := trivial
theorem tw9514694177288880051 : True := trivial
theorem tw9138263694788988726 : True := trivial
theorem tw4102266736604075654 : True := trivial
theorem tw9304898035231566633 : True := trivial
theorem tw17465497988155808791 : True := trivial
theorem tw12384124972924231733 : True := trivial
theorem tw13239213450160265839 : True := trivial
theorem tw8788967462527359295 : True := trivial
theorem tw15793623080984685518 : True := trivial
theorem tw4008153711476264075 : True := trivial
theorem tw14019321225755204004 : True := trivial
theorem tw10593675278901412754 : True := trivial
theorem tw891313877010221491 : True := trivial
theorem tw18013406775795164865 : True := trivial
theorem tw10893997824147260696 : True := trivial
theorem tw11264862639827226562 : True := trivial
theorem tw4942278938568275029 : True := trivial
theorem tw16932796658988667963 : True := trivial
theorem tw8112352906019763480 : True := trivial
theorem tw2941149598198659519 : True := trivial
theorem tw15181754196406619756 : True := trivial
theorem tw17648243300217552352 : True := trivial
theorem tw17254044951454255190 : True := trivial
theorem tw12568476263722674619 : True := trivial
theorem tw15404661989812515164 : True := trivial
theorem tw13017594632681701581 : True := trivial
theorem tw12685350827138134429 : True := trivial
theorem tw14809199096305714199 : True := trivial
theorem tw9816958230286674413 : True := trivial
theorem tw11902588304478996903 : True := trivial
theorem tw10370582062290142743 : True := trivial
theorem tw1178308259119971160 : True := trivial
theorem tw9949073998697882165 : True := trivial
theorem tw15826063320808176957 : True := trivial
theorem tw16688586494763954019 : True := trivial
theorem tw7277573505519703666 : True := trivial
theorem tw5840611246259000262 : True := trivial
theorem tw14095459012320762767 : True := trivial
theorem tw10066157149151680870 : True := trivial
theorem tw16817412926703785286 : True := trivial
theorem tw8084801955125397228 : True := trivial
theorem tw3589776470814290310 : True := trivial
theorem tw16959492493883731968 : True := trivial
theorem tw12071802432160145904 : True := trivial
theorem tw17395895382398063305 : True := trivial
theorem tw7308426594790800027 : True := trivial
theorem tw12416694961846953284 : True := trivial
theorem tw2227064403833083906 : True := trivial
theorem tw14850476495301570887 : True := trivial
theorem tw7627528853803868205 : True := trivial
theorem tw12162880127951291683 : True := trivial
theorem tw1189661865481079188 : True := trivial
theorem tw2822419163986143183 : True := trivial
theorem tw13595757308510949537 : True := trivial
theorem tw18214557872955055960 : True := trivial
theorem tw14780455809381561160 : True := trivial
theorem tw8053408787752940108 : True := trivial
theorem tw8668784880170377813 : True := trivial
theorem tw3358501537056153236 : True := trivial
theorem tw17269740313737973833 : True := trivial
theorem tw9246666589681612681 : True := trivial
theorem tw5285747457432936875 : True := trivial
theorem tw16505550855779490976 : True := trivial
theorem tw682056329680631222 : True := trivial
theorem tw15942786264617626662 : True := trivial
theorem tw8608222259337508161 : True := trivial
theorem tw11213833293263019399 : True := trivial
theorem tw1827736834524828121 : True := trivial
theorem tw5406753983670178134 : True := trivial
theorem tw18324882377599690251 : True := trivial
theorem tw9867788075470015138 : True := trivial
theorem tw2985571896481607993 : True := trivial
theorem tw14255137204662011077 : True := trivial
theorem tw8251133597416027047 : True := trivial
theorem tw17999875962796664776 : True := trivial
theorem tw15731589936342859985 : True := trivial
theorem tw10860724891077368759 : True := trivial
theorem tw3697134576534558540 : True := trivial
theorem tw3679687675561540957 : True := trivial
theorem tw13365178820684327833 : True := trivial
theorem tw15791318003129338405 : True := trivial
theorem tw16839709803881460148 : True := trivial
theorem tw15669687939247379852 : True := trivial
theorem tw8210743538814538439 : True := trivial
theorem tw15177142171223732354 : True := trivial
theorem tw12258117021238465476 : True := trivial
theorem tw385632695243267677 : True := trivial
theorem tw15766604216581376235 : True := trivial
theorem tw17112286480942115125 : True := trivial
theorem tw18092147840214321665 : True := trivial
theorem tw5298455106845678680 : True := trivial
theorem tw6552071568812976777 : True := trivial
theorem tw13869563599150990880 : True := trivial
theorem tw6405826277414998134 : True := trivial
theorem tw2707763630144083103 : True := trivial
theorem tw6524504779762161468 : True := trivial
theorem tw2770805144469574925 : True := trivial
theorem tw2808226112669797254 : True := trivial
theorem tw3285892325872335303 : True := trivial
theorem tw3391018728381791568 : True := trivial
theorem tw17618083105101343255 : True := trivial
theorem tw5137295804489054456 : True := trivial
theorem tw10983773040756609600 : True := trivial
theorem tw2467896378765029760 : True := trivial
theorem tw8088448315574985058 : True := trivial
theorem tw4861080805903498884 : True := trivial
theorem tw13515356528195504055 : True := trivial
theorem tw5487676675642355788 : True := trivial
theorem tw18108191110770960759 : True := trivial
theorem tw17936983950098744020 : True := trivial
theorem tw12524065759571999050 : True := trivial
theorem tw10442062532416986055 : True := trivial
theorem tw4291466742002022293 : True := trivial
theorem tw1423946115440554751 : True := trivial
theorem tw6059076829018887117 : True := trivial
theorem tw9434547879107303270 : True := trivial
theorem tw14468281530195577349 : True := trivial
theorem tw14821918715258232731 : True := trivial
theorem tw1847487196824835868 : True := trivial
theorem tw8829906467673311690 : True := trivial
theorem tw4012137033640483477 : True := trivial
theorem tw6530007451883843338 : True := trivial
theorem tw3704200251866562143 : True := trivial
theorem tw11976293461031051620 : True := trivial
theorem tw12470176860202007054 : True := trivial
theorem tw16212500932950520407 : True := trivial
theorem tw3880188850534174576 : True := trivial
theorem tw14460884222242555790 : True := trivial
theorem tw4187166929620689237 : True := trivial
theorem tw18167878494118466517 : True := trivial
theorem tw459535482658817331 : True := trivial
theorem tw5667230345256225296 : True := trivial
theorem tw18227365328928599124 : True := trivial
theorem tw15961037554219673588 : True := trivial
theorem tw6345138156639169389 : True := trivial
theorem tw11135174020393859372 : True := trivial
theorem tw11330205530728782180 : True := trivial
theorem tw3889921423611451005 : True := trivial
theorem tw12449517396013445905 : True := trivial
theorem tw1673567123504140058 : True := trivial
theorem tw9995683255164685302 : True := trivial
theorem tw8184892817347947503 : True := trivial
theorem tw13851453558335516325 : True := trivial
theorem tw8270498760908569846 : True := trivial
theorem tw8862852549115220257 : True := trivial
theorem tw2380008302571514554 : True := trivial
theorem tw15406342713722692386 : True := trivial
theorem tw11194219836860987388 : True := trivial
theorem tw3407001190457744995 : True := trivial
theorem tw18407946829887370253 : True := trivial
theorem tw10366577168629733234 : True := trivial
theorem tw4327369523965558358 : True := trivial
theorem tw3294768382956716455 : True := trivial
theorem tw605790428493915673 : True := trivial
theorem tw12903817283134141788 : True := trivial
theorem tw15661038003411780626 : True := trivial
theorem tw7799335147593404894 : True := trivial
theorem tw9652860165374930615 : True := trivial
theorem tw6722436548203457023 : True := trivial
theorem tw8530854580899220782 : True := trivial
theorem tw12165039084598876136 : True := trivial
theorem tw10421198788257549407 : True := trivial
theorem tw7703925081880969737 : True := trivial
theorem tw15506791964516812250 : True := trivial
theorem tw10234378126882425651 : True := trivial
theorem tw16146610201622485690 : True := trivial
theorem tw17446724260227513255 : True := trivial
theorem tw11657453996120813838 : True := trivial
theorem tw3855848207249463670 : True := trivial
theorem tw10417313104035576803 : True := trivial
theorem tw9050537570567598050 : True := trivial
theorem tw175796511107288933 : True := trivial
theorem tw10415174963713488894 : True := trivial
theorem tw1707283851986823570 : True := trivial
theorem tw5402441175305871299 : True := trivial
theorem tw4241925199521040749 : True := trivial
theorem tw9279799999982401565 : True := trivial
theorem tw13308968360763624539 : True := trivial
theorem tw12583996438323096814 : True := trivial
theorem tw7714664801638530434 : True := trivial
theorem tw11361664385639180177 : True := trivial
theorem tw7986527320991407613 : True := trivial
theorem tw319846033620705759 : True := trivial
theorem tw10848150746089368412 : True := trivial
theorem tw3643681716137825496 : True := trivial
theorem tw8040612810614556080 : True := trivial
theorem tw12639842917975338842 : True := trivial
theorem tw17119436595745408803 : True := trivial
theorem tw12568391558072600427 : True := trivial
theorem tw14353319149745801805 : True := trivial
theorem tw474235452157836331 : True := trivial
theorem tw13206938692499155783 : True := trivial
theorem tw4366935464439274305 : True := trivial
theorem tw818076567562562056 : True := trivial
theorem tw9090886530913458671 : True := trivial
theorem tw2577898876913069413 : True := trivial
theorem tw17677043777341703206 : True := trivial
theorem tw12503259458962322205 : True := trivial
theorem tw7130914279901266280 : True := trivial
theorem tw9995466474255384410 : True := trivial
theorem tw1785692979474390420 : True := trivial
theorem tw593477247248128080 : True := trivial
theorem tw8887741225082547385 : True := trivial
theorem tw5963785856008921912 : True := trivial
theorem tw544437612982301502 : True := trivial
theorem tw14509139443691869267 : True := trivial
theorem tw12363046973093614602 : True := trivial
theorem tw3448856984054925342 : True := trivial
theorem tw11948767954781810337 : True := trivial
theorem tw13664090876185055511 : True := trivial
theorem tw14345719175031555916 : True := trivial
theorem tw16418501825877556812 : True := trivial
theorem tw9430896417522831450 : True := trivial
theorem tw4845647596763232235 : True := trivial
theorem tw4598912031380415978 : True := trivial
theorem tw13547456149545570686 : True := trivial
theorem tw14462906802959067087 : True := trivial
theorem tw7386717537584678917 : True := trivial
theorem tw4583390959525023650 : True := trivial
theorem tw2520719951449569130 : True := trivial
theorem tw15917702395630004392 : True := trivial
theorem tw12025200030464148136 : True := trivial
theorem tw15672128360927129562 : True := trivial
theorem tw5249402739360744472 : True := trivial
theorem tw17400391821293237201 : True := trivial
theorem tw7080698767983997302 : True := trivial
theorem tw53938114834378701 : True := trivial
theorem tw10501512784883285705 : True := trivial
theorem tw13123105312181999853 : True := trivial
theorem tw4769789039788705926 : True := trivial
theorem tw17378413174131582233 : True := trivial
theorem tw1764797743739231938 : True := trivial
theorem tw4991152447269159105 : True := trivial
theorem tw8065893790447633719 : True := trivial
theorem tw11957546387037526806 : True := trivial
theorem tw15711403811702131980 : True := trivial
theorem tw14511889930412727815 : True := trivial
theorem tw756438969520069866 : True := trivial
theorem tw1247287723970901030 : True := trivial
theorem tw16986225287116746810 : True := trivial
theorem tw6039210882022600329 : True := trivial
theorem tw12894777500116390403 : True := trivial
theorem tw1081678941279256166 : True := trivial
theorem tw4542876373326034271 : True := trivial
theorem tw15412815953742663061 : True := trivial
theorem tw9025010658091698587 : True := trivial
theorem tw14127290990844133626 : True := trivial
theorem tw8393278388789622930 : True := trivial
theorem tw9391255726435755476 : True := trivial
theorem tw14932100872415142567 : True := trivial
theorem tw5746296526003735350 : True := trivial
theorem tw15891753678452291665 : True := trivial
theorem tw559377640833348826 : True := trivial
theorem tw14505092984697948145 : True := trivial
theorem tw7183925360732365038 : True := trivial
theorem tw17827783779920116559 : True := trivial
theorem tw196020505765711521 : True := trivial
theorem tw8821262173075875164 : True := trivial
theorem tw14766789736489310857 : True := trivial
theorem tw14216364794125791212 : True := trivial
theorem tw16240653104078369472 : True := trivial
theorem tw6845107706620763188 : True := trivial
theorem tw8363286337101347157 : True := trivial
theorem tw4489457040872592610 : True := trivial
theorem tw3063418047265207712 : True := trivial
theorem tw4725964917845125825 : True := trivial
theorem tw4985154461940211524 : True := trivial
theorem tw7058045600241000338 : True := trivial
theorem tw1876157687199389361 : True := trivial
theorem tw2851136010953211403 : True := trivial
theorem tw5267524944464297356 : True := trivial
theorem tw15548175440522048921 : True := trivial
theorem tw8041518114685849359 : True := trivial
theorem tw7434752682438302318 : True := trivial
theorem tw16658897191496450 : True := trivial
theorem tw17166370913269299539 : True := trivial
theorem tw7809161759662362930 : True := trivial
theorem tw14099457587263001056 : True := trivial
theorem tw12382848334254986141 : True := trivial
theorem tw6706801342134387710 : True := trivial
theorem tw16440415875847812803 : True := trivial
theorem tw7850530101325790653 : True := trivial
theorem tw4795354534028528190 : True := trivial
theorem tw5546598585294010404 : True := trivial
theorem tw16036807069813192948 : True := trivial
theorem tw4861944815563790026 : True := trivial
theorem tw2538947792899590961 : True := trivial
theorem tw11739122114944192725 : True := trivial
theorem tw14826480634534307080 : True := trivial
theorem tw10155909572012228129 : True := trivial
theorem tw11340207936345701505 : True := trivial
theorem tw15095395221179473421 : True := trivial
theorem tw6636839687000341927 : True := trivial
theorem tw4351047887363264141 : True := trivial
theorem tw468969770025082471 : True := trivial
theorem tw12373619898420010621 : True := trivial
theorem tw3816254566989090840 : True := trivial
theorem tw1476337703552084765 : True := trivial
theorem tw2368391269044981334 : True := trivial
theorem tw17140221030601356965 : True := trivial
theorem tw1970891854668222644 : True := trivial
theorem tw3087525636633288915 : True := trivial
theorem tw15448039831032031522 : True := trivial
theorem tw10640236219200822885 : True := trivial
theorem tw12965300893372259453 : True := trivial
theorem tw14495938169455373216 : True := trivial
theorem tw3546022370022143659 : True := trivial
theorem tw17223819326765212922 : True := trivial
theorem tw12290793229459302322 : True := trivial
theorem tw12888272230504167853 : True := trivial
theorem tw7168541339307326860 : True := trivial
theorem tw8363552973431956418 : True := trivial
theorem tw14073628404799339971 : True := trivial
theorem tw17596265389995397329 : True := trivial
theorem tw8608564304443364253 : True := trivial
theorem tw4079294948832840759 : True := trivial
theorem tw12910080220089057388 : True := trivial
theorem tw486816372122358235 : True := trivial
theorem tw1150313381972236145 : True := trivial
theorem tw8720038599745854142 : True := trivial
theorem tw133848885637412211 : True := trivial
theorem tw15229084618036536545 : True := trivial
theorem tw2390034226404295396 : True := trivial
theorem tw6388737146751179938 : True := trivial
theorem tw6238474233035214652 : True := trivial
theorem tw9473838357081848369 : True := trivial
theorem tw14156455903513314538 : True := trivial
theorem tw7087216327393969142 : True := trivial
theorem tw4079370774611527134 : True := trivial
theorem tw12764616026951005130 : True := trivial
theorem tw17476751853423961447 : True := trivial
theorem tw6319549801449589707 : True := trivial
theorem tw7302210845590839671 : True := trivial
theorem tw11303781735198519639 : True := trivial
theorem tw8201307837088858984 : True := trivial
theorem tw187409011956098273 : True := trivial
theorem tw4411554412412561222 : True := trivial
theorem tw9641994386349761202 : True := trivial
theorem tw8418581436641747718 : True := trivial
theorem tw1587547085878403404 : True := trivial
theorem tw11078496647140890958 : True := trivial
theorem tw748389774763211031 : True := trivial
theorem tw14512790076788889999 : True := trivial
theorem tw5692143256818354024 : True := trivial
theorem tw2551733464341636781 : True := trivial
theorem tw13242083380136078419 : True := trivial
theorem tw10246552860793388182 : True := trivial
theorem tw86994788462538839 : True := trivial
theorem tw8620973554960895744 : True := trivial
theorem tw17708283481808742477 : True := trivial
theorem tw7552918303508881545 : True := trivial
theorem tw14549605439129474347 : True := trivial
theorem tw13446762947718533027 : True := trivial
theorem tw4140606203059030567 : True := trivial
theorem tw11187035547556193825 : True := trivial
theorem tw12560216631642924501 : True := trivial
theorem tw7401792779337280967 : True := trivial
theorem tw5773603716992468676 : True := trivial
theorem tw17608175955225319316 : True := trivial
theorem tw8244417713192845566 : True := trivial
theorem tw10838749233102304040 : True := trivial
theorem tw1379168233520652985 : True := trivial
theorem tw9219224511660167306 : True := trivial
theorem tw12689403474453553107 : True := trivial
theorem tw15282182938972419782 : True := trivial
theorem tw2209417708168647105 : True := trivial
theorem tw9540953347841030209 : True := trivial
theorem tw1150148245195858645 : True := trivial
theorem tw4144219400657798508 : True := trivial
theorem tw701288389691809317 : True := trivial
theorem tw12664279416267300166 : True := trivial
theorem tw6679567662189133290 : True := trivial
theorem tw5373262903431316968 : True := trivial
theorem tw2587970302057251177 : True := trivial
theorem tw5260262152009874473 : True := trivial
theorem tw761546130743869523 : True := trivial
theorem tw3767068545749518216 : True := trivial
theorem tw4067425445970867266 : True := trivial
theorem tw12512261315906860694 : True := trivial
theorem tw17173173726154454212 : True := trivial
theorem tw6221939125665567001 : True := trivial
theorem tw15421116813771601529 : True := trivial
theorem tw14188984869198606195 : True := trivial
theorem tw7717850972431544624 : True := trivial
theorem tw4619607639742869977 : True := trivial
theorem tw5192213822634829095 : True := trivial
theorem tw13079928061522831077 : True := trivial
theorem tw3496729594787214868 : True := trivial
theorem tw17991209996412405371 : True := trivial
theorem tw5689761571037621181 : True := trivial
theorem tw156460226725981267 : True := trivial
theorem tw1348783598539527509 : True := trivial
theorem tw17323012554464428498 : True := trivial
theorem tw861380425577293712 : True := trivial
theorem tw2732419264477846162 : True := trivial
theorem tw13874376184129186745 : True := trivial
theorem tw5670223923955584303 : True := trivial
theorem tw18286453411307995714 : True := trivial
theorem tw12973913355180684304 : True := trivial
theorem tw15731101303429976933 : True := trivial
theorem tw12570735319111875469 : True := trivial
theorem tw13186461492227718748 : True := trivial
theorem tw3200593855590367106 : True := trivial
theorem tw17431880941982130485 : True := trivial
theorem tw6182189946773325285 : True := trivial
theorem tw13386002736202686874 : True := trivial
theorem tw10967496798887062024 : True := trivial
theorem tw4488563704549734250 : True := trivial
theorem tw13853337850292360866 : True := trivial
theorem tw4191662160646315440 : True := trivial
theorem tw1467000705241127281 : True := trivial
theorem tw2529681552136092981 : True := trivial
theorem tw1229482651347234434 : True := trivial
theorem tw1649379122694951329 : True := trivial
theorem tw3233380280457675961 : True := trivial
theorem tw8975243169569920750 : True := trivial
theorem tw4931231502093363544 : True := trivial
theorem tw18167079832533742600 : True := trivial
theorem tw15154957047232531992 : True := trivial
theorem tw10937771999866776874 : True := trivial
theorem tw11795759786865015437 : True := trivial
theorem tw17166016411697660472 : True := trivial
theorem tw12725789976077090174 : True := trivial
theorem tw3593726029410232970 : True := trivial
theorem tw14364949248696961625 : True := trivial
theorem tw2925065749546880648 : True := trivial
theorem tw13552923007669135174 : True := trivial
theorem tw4516684051462679467 : True := trivial
theorem tw15170672012766460217 : True := trivial
theorem tw15711372978504992368 : True := trivial
theorem tw7026275289663878721 : True := trivial
theorem tw16133016242379330682 : True := trivial
theorem tw14075740327225693809 : True := trivial
theorem tw4655566637262896458 : True := trivial
theorem tw15830629047525054269 : True := trivial
theorem tw4475162717052397008 : True := trivial
theorem tw16183746874285903499 : True := trivial
theorem tw11542649112572235337 : True := trivial
theorem tw11029178440031871585 : True := trivial
theorem tw8446841702220192300 : True := trivial
theorem tw14089362767608107112 : True := trivial
theorem tw9333016668223543806 : True := trivial
theorem tw5675541034929506850 : True := trivial
theorem tw17034861862212099506 : True := trivial
theorem tw2728782871208311579 : True := trivial
theorem tw16009275942414467821 : True := trivial
theorem tw9821662078903366192 : True := trivial
theorem tw4832200948533419498 : True := trivial
theorem tw731882282958163066 : True := trivial
theorem tw420696903545218293 : True := trivial
theorem tw10336747338760945208 : True := trivial
theorem tw16595836375390514786 : True := trivial
theorem tw158720386198722990 : True := trivial
theorem tw9515746853516544290 : True := trivial
theorem tw2762292672685333668 : True := trivial
theorem tw11167014159709345939 : True := trivial
theorem tw13490282274361368316 : True := trivial
theorem tw287071452041885702 : True := trivial
theorem tw6475701577970402935 : True := trivial
theorem tw13189210493241763284 : True := trivial
theorem tw1381595398379281258 : True := trivial
theorem tw1435513890199223520 : True := trivial
theorem tw6777201892175009498 : True := trivial
theorem tw14952397272873357284 : True := trivial
theorem tw16229818380652586251 : True := trivial
theorem tw6514137298047247044 : True := trivial
theorem tw7874756023159374187 : True := trivial
theorem tw15071309125948909910 : True := trivial
theorem tw16464338804278745979 : True := trivial
theorem tw8580609687521516756 : True := trivial
theorem tw7047573440769330535 : True := trivial
theorem tw10118845466579484077 : True := trivial
theorem tw15824413560786563211 : True := trivial
theorem tw5244416761480176691 : True := trivial
theorem tw17008011166360792843 : True := trivial
theorem tw13953890071001750200 : True := trivial
theorem tw7435341662540310298 : True := trivial
theorem tw6528016521918224624 : True := trivial
theorem tw4525032473548539361 : True := trivial
theorem tw17413362953569117858 : True := trivial
theorem tw8325107865186282583 : True := trivial
theorem tw4801385869155033199 : True := trivial
theorem tw14529858041406909985 : True := trivial
theorem tw3827020688010194078 : True := trivial
theorem tw18141399019468516885 : True := trivial
theorem tw16879655591271819350 : True := trivial
theorem tw11668859278399934829 : True := trivial
theorem tw18060891026054276303 : True := trivial
theorem tw13540288240871098362 : True := trivial
theorem tw182975494747114026 : True := trivial
theorem tw15364908225166057513 : True := trivial
theorem tw8229696264896807468 : True := trivial
theorem tw2742526474205132914 : True := trivial
theorem tw5560290358816687134 : True := trivial
theorem tw11575944045530547493 : True := trivial
theorem tw2122710874512202278 : True := trivial
theorem tw12172845040083031559 : True := trivial
theorem tw12557672243883704352 : True := trivial
theorem tw5025029606484752339 : True := trivial
theorem tw18076438509694167444 : True := trivial
theorem tw4614998078891530803 : True := trivial
theorem tw14907068586128900155 : True := trivial
theorem tw10950729493787668043 : True := trivial
theorem tw7141553282929234944 : True := trivial
theorem tw247480993573064602 : True := trivial
theorem tw4494695879211121508 : True := trivial
theorem tw3483311908935935951 : True := trivial
theorem tw9270554719635712257 : True := trivial
theorem tw6453896097944328628 : True := trivial
theorem tw10677833114357929049 : True := trivial
theorem tw14157869891920236392 : True := trivial
theorem tw6184063439608065763 : True := trivial
theorem tw1683999275290351175 : True := trivial
theorem tw1607059006274135962 : True := trivial
theorem tw16687669300593770614 : True := trivial
theorem tw11926083325066099337 : True := trivial
theorem tw8023291880612428268 : True := trivial
theorem tw3054007635602283102 : True := trivial
theorem tw4727703459435258335 : True := trivial
theorem tw12827476804543205681 : True := trivial
theorem tw1974935244108657836 : True := trivial
theorem tw15076733099780052369 : True := trivial
theorem tw153620431304614444 : True := trivial
theorem tw657736778620261703 : True := trivial
theorem tw13302664067377085244 : True := trivial
theorem tw11094445213582290431 : True := trivial
theorem tw15654524873595003604 : True := trivial
theorem tw11909711198797464722 : True := trivial
theorem tw12911115867377074203 : True := trivial
theorem tw1061097900469242498 : True := trivial
theorem tw11358913994940972225 : True := trivial
theorem tw14893132889871179430 : True := trivial
theorem tw15424660927013942717 : True := trivial
theorem tw3266525576933891456 : True := trivial
theorem tw496707974548595065 : True := trivial
theorem tw6862991511559071003 : True := trivial
theorem tw6091196841796699396 : True := trivial
theorem tw17946890076691811544 : True := trivial
theorem tw5423521292041053035 : True := trivial
theorem tw12281278112673082572 : True := trivial
theorem tw15153171459022773550 : True := trivial
theorem tw16989621485461380756 : True := trivial
theorem tw16814853066844483555 : True := trivial
theorem tw14113050250235776423 : True := trivial
theorem tw16687439471177731188 : True := trivial
theorem tw11210608441183093327 : True := trivial
theorem tw1861642450978199905 : True := trivial
theorem tw17872015176371525507 : True := trivial
theorem tw13160564318422872208 : True := trivial
theorem tw13136856945269001790 : True := trivial
theorem tw5710370017571771134 : True := trivial
theorem tw4866053346223699568 : True := trivial
theorem tw945938962948260103 : True := trivial
theorem tw14778251831468275342 : True := trivial
theorem tw16827516070936260690 : True := trivial
theorem tw921886064118569293 : True := trivial
theorem tw143007174553866335 : True := trivial
theorem tw2588847957545565853 : True := trivial
theorem tw9155530105348382399 : True := trivial
theorem tw4332272070486951716 : True := trivial
theorem tw5072236738275308439 : True := trivial
theorem tw8353801924016088328 : True := trivial
theorem tw18351654924785553343 : True := trivial
theorem tw15388669760096268731 : True := trivial
theorem tw9408351209233156666 : True := trivial
theorem tw15655375215783090371 : True := trivial
theorem tw15736717364836818592 : True := trivial
theorem tw14704403307492326432 : True := trivial
theorem tw16511194275368020283 : True := trivial
theorem tw16639836436771491052 : True := trivial
theorem tw13254390227748988521 : True := trivial
theorem tw11275289192244478467 : True := trivial
theorem tw18443027320624680803 : True := trivial
theorem tw7577264842473361192 : True := trivial
theorem tw5927511212576771610 : True := trivial
theorem tw10123656378672274315 : True := trivial
theorem tw12144803202600398679 : True := trivial
theorem tw10668470391692397918 : True := trivial
theorem tw17513087595734549814 : True := trivial
theorem tw16266322849740306489 : True := trivial
theorem tw18062556948288922225 : True := trivial
theorem tw6379862713830148454 : True := trivial
theorem tw14805355508718353875 : True := trivial
theorem tw9680837644190700632 : True := trivial
theorem tw17090798148231055301 : True := trivial
theorem tw14467476414190552082 : True := trivial
theorem tw6695066210032660566 : True := trivial
theorem tw7548343247993239238 : True := trivial
theorem tw12610447741599855264 : True := trivial
theorem tw18424397029577203472 : True := trivial
theorem tw8224019114172812451 : True := trivial
theorem tw8136659061853638196 : True := trivial
theorem tw3158276479370868980 : True := trivial
theorem tw7377817156674832096 : True := trivial
theorem tw7947460546557526521 : True := trivial
theorem tw12674118613763085485 : True := trivial
theorem tw5218846599275962807 : True := trivial
theorem tw8861593439445507226 : True := trivial
theorem tw4136132746200637512 : True := trivial
theorem tw3819473531916845274 : True := trivial
theorem tw12515239731152904222 : True := trivial
theorem tw16893862715049477911 : True := trivial
theorem tw17612883154339537336 : True := trivial
theorem tw351685297348754537 : True := trivial
theorem tw9553587715121243661 : True := trivial
theorem tw12607040166566319612 : True := trivial
theorem tw5265236423605340236 : True := trivial
theorem tw12825482567298656222 : True := trivial
theorem tw16013892438839423949 : True := trivial
theorem tw1755723915731776985 : True := trivial
theorem tw17991368806774806486 : True := trivial
theorem tw3701709577216930301 : True := trivial
theorem tw7696577080991965952 : True := trivial
theorem tw1445347199146630343 : True := trivial
theorem tw18096123180551607689 : True := trivial
theorem tw10162712450634957967 : True := trivial
theorem tw15603552169707272196 : True := trivial
theorem tw6887120920420654844 : True := trivial
theorem tw11893538459544106473 : True := trivial
theorem tw17454915763854010658 : True := trivial
theorem tw7936889192722477853 : True := trivial
theorem tw5280978307387955502 : True := trivial
theorem tw17825785842937711667 : True := trivial
theorem tw15425161459957554727 : True := trivial
theorem tw3698124065740142862 : True := trivial
theorem tw3266388977434777221 : True := trivial
theorem tw3016566542108903380 : True := trivial
theorem tw5287623805775645421 : True := trivial
theorem tw11535986667264085230 : True := trivial
theorem tw4740338807092624654 : True := trivial
theorem tw14004830890601909476 : True := trivial
theorem tw2344943348165520786 : True := trivial
theorem tw14662595261315125260 : True := trivial
theorem tw16556683181849581197 : True := trivial
theorem tw1759111659547180035 : True := trivial
theorem tw15782650114342078046 : True := trivial
theorem tw6764092162796676074 : True := trivial
theorem tw10353823547409458910 : True := trivial
theorem tw14043996024620134232 : True := trivial
theorem tw3569291046877792822 : True := trivial
theorem tw8532500193269992702 : True := trivial
theorem tw13807440147830280578 : True := trivial
theorem tw13152052159279126560 : True := trivial
theorem tw7966445162503706544 : True := trivial
theorem tw1803365673176263770 : True := trivial
theorem tw11750349210847237378 : True := trivial
theorem tw9519134374299313020 : True := trivial
theorem tw15741402778962349033 : True := trivial
theorem tw16797027378707188492 : True := trivial
theorem tw9253985362093709267 : True := trivial
theorem tw8745430397247649773 : True := trivial
theorem tw2994577301117791012 : True := trivial
theorem tw3484899258945006085 : True := trivial
theorem tw1530609502308730849 : True := trivial
theorem tw9598072086872855487 : True := trivial
theorem tw3394372568327741075 : True := trivial
theorem tw17037633531440025299 : True := trivial
theorem tw3991834259742900340 : True := trivial
theorem tw10395790253220706076 : True := trivial
theorem tw8112319349553113516 : True := trivial
theorem tw17662356034030394819 : True := trivial
theorem tw11425015740084453098 : True := trivial
theorem tw14474463323479110557 : True := trivial
theorem tw5254723363673427507 : True := trivial
theorem tw12017017816599807747 : True := trivial
theorem tw2083619310572434922 : True := trivial
theorem tw13253435140396487466 : True := trivial
theorem tw14330013702480885287 : True := trivial
theorem tw14652892229862833789 : True := trivial
theorem tw8986408575202317555 : True := trivial
theorem tw16390002039881371135 : True := trivial
theorem tw1809658800847149494 : True := trivial
theorem tw13245585471994878826 : True := trivial
theorem tw2895362174639585214 : True := trivial
theorem tw11012123621080624413 : True := trivial
theorem tw1936273051358643459 : True := trivial
theorem tw11356807445583790645 : True := trivial
theorem tw1666455933707772200 : True := trivial
theorem tw9260051180350530319 : True := trivial
theorem tw10001499260962297063 : True := trivial
theorem tw13867361989484989739 : True := trivial
theorem tw3491434847153818636 : True := trivial
theorem tw12947750554935887483 : True := trivial
theorem tw8439942934416406804 : True := trivial
theorem tw7743897238099216737 : True := trivial
theorem tw7469204173521074721 : True := trivial
theorem tw12680460896121622614 : True := trivial
theorem tw11016079576257894241 : True := trivial
theorem tw16111370406556847325 : True := trivial
theorem tw13994920916942228883 : True := trivial
theorem tw666977287159066067 : True := trivial
theorem tw5375592278038077236 : True := trivial
theorem tw5657994197592806564 : True := trivial
theorem tw17782843201492817740 : True := trivial
theorem tw4290868095430789708 : True := trivial
theorem tw17616924878514010787 : True := trivial
theorem tw9479685439912118273 : True := trivial
theorem tw2602467662902251051 : True := trivial
theorem tw4429659212097880809 : True := trivial
theorem tw16062863867540747916 : True := trivial
theorem tw298554616650754132 : True := trivial
theorem tw17616309036292085379 : True := trivial
theorem tw13367838466828116515 : True := trivial
theorem tw1421051112691326153 : True := trivial
theorem tw3983686579906312500 : True := trivial
theorem tw3441565095229280854 : True := trivial
theorem tw12767650980646742378 : True := trivial
theorem tw5013575475766130848 : True := trivial
theorem tw2045488943762701734 : True := trivial
theorem tw6964321490271907007 : True := trivial
theorem tw15344633273965443771 : True := trivial
theorem tw3213621688884674329 : True := trivial
theorem tw6218596216596958578 : True := trivial
theorem tw540844624790845967 : True := trivial
theorem tw1599719865271691214 : True := trivial
theorem tw9872348405797827128 : True := trivial
theorem tw9188088915819048308 : True := trivial
theorem tw4846600506248681741 : True := trivial
theorem tw8900694454997239548 : True := trivial
theorem tw7929585888299985212 : True := trivial
theorem tw1731027142498609543 : True := trivial
theorem tw17192453092706596564 : True := trivial
theorem tw15229756480794915757 : True := trivial
theorem tw4711441921609626558 : True := trivial
theorem tw12380570257862391381 : True := trivial
theorem tw9632216396275532366 : True := trivial
theorem tw2446145613018369581 : True := trivial
theorem tw7342333619930991186 : True := trivial
theorem tw1449175124126792485 : True := trivial
theorem tw321897457359193495 : True := trivial
theorem tw17918541414969180282 : True := trivial
theorem tw7758070013339976161 : True := trivial
theorem tw15435793997799770670 : True := trivial
theorem tw9516506242788359887 : True := trivial
theorem tw10639579531748091392 : True := trivial
theorem tw7668300932003264816 : True := trivial
theorem tw14688970089168713143 : True := trivial
theorem tw10350012270465472444 : True := trivial
theorem tw10680019080186640778 : True := trivial
theorem tw95640794673974032 : True := trivial
theorem tw9845713674818589684 : True := trivial
theorem tw8661310903858048572 : True := trivial
theorem tw1286118565474302596 : True := trivial
theorem tw10689975304549349846 : True := trivial
theorem tw7730609406305668663 : True := trivial
theorem tw18141551135808805544 : True := trivial
theorem tw7184891700690789136 : True := trivial
theorem tw9043401370616686109 : True := trivial
theorem tw15092139399105761683 : True := trivial
theorem tw16344195661032678780 : True := trivial
theorem tw16062190910458758884 : True := trivial
theorem tw1183478685163395129 : True := trivial
theorem tw16239641413756040081 : True := trivial
theorem tw7394225508627548723 : True := trivial
theorem tw4357053202602947028 : True := trivial
theorem tw5408867944983166170 : True := trivial
theorem tw16130091746642940087 : True := trivial
theorem tw18318134759351231804 : True := trivial
theorem tw8199934101408610416 : True := trivial
theorem tw3586053211584976133 : True := trivial
theorem tw14706318341768410933 : True := trivial
theorem tw1342231446881200849 : True := trivial
theorem tw11997135299415385903 : True := trivial
theorem tw273963435535402009 : True := trivial
theorem tw3597885650439558076 : True := trivial
theorem tw6550315944606098411 : True := trivial
theorem tw9901228484861736900 : True := trivial
theorem tw10497122751552913725 : True := trivial
theorem tw7948518410497301729 : True := trivial
theorem tw6092736316809598168 : True := trivial
theorem tw16216268399466011689 : True := trivial
theorem tw12299255402586789812 : True := trivial
theorem tw3335262347034622934 : True := trivial
theorem tw6091859346409074582 : True := trivial
theorem tw16948319852280552413 : True := trivial
theorem tw3271815105476129360 : True := trivial
theorem tw9794000427278897015 : True := trivial
theorem tw2604189665770204607 : True := trivial
theorem tw16197984979828619955 : True := trivial
theorem tw2153958882655387609 : True := trivial
theorem tw10775721702772521895 : True := trivial
theorem tw6006712921902068716 : True := trivial
theorem tw18383681042293192757 : True := trivial
theorem tw15490348933874429578 : True := trivial
theorem tw9496344456402344391 : True := trivial
theorem tw16838046714301854330 : True := trivial
theorem tw13475475854224027680 : True := trivial
theorem tw2278042620087728250 : True := trivial
theorem tw4648033558638412259 : True := trivial
theorem tw13320442737017237075 : True := trivial
theorem tw3235929948709273028 : True := trivial
theorem tw6505637087951402667 : True := trivial
theorem tw11310375313113489293 : True := trivial
theorem tw18177011649810834484 : True := trivial
theorem tw9211433028293542917 : True := trivial
theorem tw12213839703699529449 : True := trivial
theorem tw17369832869712011107 : True := trivial
theorem tw16886284060646435881 : True := trivial
theorem tw457755557412555414 : True := trivial
theorem tw1419089403476919780 : True := trivial
theorem tw4027789941495432685 : True := trivial
theorem tw2131299989175878088 : True := trivial
theorem tw10160102818126646839 : True := trivial
theorem tw17591216885087059022 : True := trivial
theorem tw3804716239739100798 : True := trivial
theorem tw7245744642425156660 : True := trivial
theorem tw67986264097767352 : True := trivial
theorem tw12540337367482220444 : True := trivial
theorem tw3549999879712377747 : True := trivial
theorem tw2426878586869997581 : True := trivial
theorem tw5742006081425300540 : True := trivial
theorem tw4287138696371869906 : True := trivial
theorem tw8383623167624713628 : True := trivial
theorem tw16286528511723546909 : True := trivial
theorem tw9992415072464153140 : True := trivial
theorem tw8072489167543712632 : True := trivial
theorem tw2055054444422519830 : True := trivial
theorem tw17736472470991282982 : True := trivial
theorem tw735919203619331647 : True := trivial
theorem tw12343486609370620877 : True := trivial
theorem tw13712037446412497524 : True := trivial
theorem tw2229947997040843618 : True := trivial
theorem tw8198708589845861319 : True := trivial
theorem tw18104647432686310671 : True := trivial
theorem tw12044587654517701191 : True := trivial
theorem tw15694317075498354497 : True := trivial
theorem tw12076018615627358494 : True := trivial
theorem tw1662000762132931995 : True := trivial
theorem tw11425908013468151009 : True := trivial
theorem tw1779089244993713362 : True := trivial
theorem tw5436752460492604208 : True := trivial
theorem tw17585910322651861897 : True := trivial
theorem tw8848010914855585270 : True := trivial
theorem tw1289999338376637465 : True := trivial
theorem tw15901665300402874351 : True := trivial
theorem tw15380253824249557708 : True := trivial
theorem tw10110395614797407385 : True := trivial
theorem tw15036248544306977845 : True := trivial
theorem tw4857650863090410008 : True := trivial
theorem tw17217529877406931075 : True := trivial
theorem tw4624117873850958799 : True := trivial
theorem tw10134801774547175962 : True := trivial
theorem tw980176023972281386 : True := trivial
theorem tw5553044206364437205 : True := trivial
theorem tw17992156305940513599 : True := trivial
theorem tw2039678345027774626 : True := trivial
theorem tw9849650253370167601 : True := trivial
theorem tw17025207336744469683 : True := trivial
theorem tw912795792263032875 : True := trivial
theorem tw12618857015513001340 : True := trivial
theorem tw1057622483532200487 : True := trivial
theorem tw14181359583862205989 : True := trivial
theorem tw8136011313028267995 : True := trivial
theorem tw9286087817945260986 : True := trivial
theorem tw15182297699464669237 : True := trivial
theorem tw16303306693772644426 : True := trivial
theorem tw904691371959209550 : True := trivial
theorem tw4614058557229985378 : True := trivial
theorem tw16533282166606535265 : True := trivial
theorem tw11334404643513666866 : True := trivial
theorem tw14631077433070025115 : True := trivial
theorem tw13175535033279845219 : True := trivial
theorem tw4602191565779214328 : True := trivial
theorem tw4594949478889563445 : True := trivial
theorem tw1813919121055331073 : True := trivial
theorem tw6976392887500915597 : True := trivial
theorem tw10778954184507001499 : True := trivial
theorem tw18316783668064635577 : True := trivial
theorem tw11752895730275313177 : True := trivial
theorem tw10953191149931682356 : True := trivial
theorem tw8129237482327009464 : True := trivial
theorem tw7529955364212544705 : True := trivial
theorem tw12171718521774623495 : True := trivial
theorem tw15075003002573511880 : True := trivial
theorem tw15379789464007960137 : True := trivial
theorem tw1929542243317053219 : True := trivial
theorem tw11422212713913113026 : True := trivial
theorem tw1290516764848301765 : True := trivial
theorem tw17524707913344790619 : True := trivial
theorem tw6103727768482116679 : True := trivial
theorem tw11590243462062186418 : True := trivial
theorem tw15027909612668144787 : True := trivial
theorem tw2440945099530224132 : True := trivial
theorem tw11621663887602356445 : True := trivial
theorem tw17055115772755257440 : True := trivial
theorem tw3330038630695622268 : True := trivial
theorem tw11840043956999026407 : True := trivial
theorem tw380245531390114576 : True := trivial
theorem tw8717585296638228164 : True := trivial
theorem tw7508435992633339072 : True := trivial
theorem tw6129764583986696497 : True := trivial
theorem tw12030777186314879939 : True := trivial
theorem tw40415143033255606 : True := trivial
theorem tw17526551342738271130 : True := trivial
theorem tw8271197843466929873 : True := trivial
theorem tw6104495723613795608 : True := trivial
theorem tw2499431976098045626 : True := trivial
theorem tw2349981117736048781 : True := trivial
theorem tw3473760008519566386 : True := trivial
theorem tw2321267720685895526 : True := trivial
theorem tw9854103810108105280 : True := trivial
theorem tw6975966975492769137 : True := trivial
theorem tw1779872121672724510 : True := trivial
theorem tw15949997398634113898 : True := trivial
theorem tw14470223575581917287 : True := trivial
theorem tw9004233056601778004 : True := trivial
theorem tw17258677721768108100 : True := trivial
theorem tw2906468327048117973 : True := trivial
theorem tw12880692433886998780 : True := trivial
theorem tw3859781143499688430 : True := trivial
theorem tw3811586909964214543 : True := trivial
theorem tw6656446038723179009 : True := trivial
theorem tw1724049270133016534 : True := trivial
theorem tw3163553537537668729 : True := trivial
theorem tw7144859197420815948 : True := trivial
theorem tw9022709338690558941 : True := trivial
theorem tw4771639914883764093 : True := trivial
theorem tw3728258504101144375 : True := trivial
theorem tw4500432355918099229 : True := trivial
theorem tw7039327645512810481 : True := trivial
theorem tw5316310767766669395 : True := trivial
theorem tw10665718916383638049 : True := trivial
theorem tw6295264769394860810 : True := trivial
theorem tw13415444844047571416 : True := trivial
theorem tw6079591724699763892 : True := trivial
theorem tw3483896300171199058 : True := trivial
theorem tw16408510617110181253 : True := trivial
theorem tw6970171333576111438 : True := trivial
theorem tw9390195862638564563 : True := trivial
theorem tw13935689026278522012 : True := trivial
theorem tw15822728614910885659 : True := trivial
theorem tw14200373471992628644 : True := trivial
theorem tw10139631949672191088 : True := trivial
theorem tw18439912903463416876 : True := trivial
theorem tw14423496868537604941 : True := trivial
theorem tw4053268500095091239 : True := trivial
theorem tw15062171565274981505 : True := trivial
theorem tw15138155319337864520 : True := trivial
theorem tw7921857141305097642 : True := trivial
theorem tw820591204928314016 : True := trivial
theorem tw1330317984671802018 : True := trivial
theorem tw11211799683902923313 : True := trivial
theorem tw11369380586468909335 : True := trivial
theorem tw8117409331983506401 : True := trivial
theorem tw15352694763445623361 : True := trivial
theorem tw439444575664664614 : True := trivial
theorem tw1141412506451236685 : True := trivial
theorem tw2963316721719111030 : True := trivial
theorem tw8111323932984627199 : True := trivial
theorem tw16591952948684118052 : True := trivial
theorem tw16551929947728246028 : True := trivial
theorem tw8266681207687621472 : True := trivial
theorem tw3058402537501782882 : True := trivial
theorem tw17762599865104422966 : True := trivial
theorem tw4336175225039114462 : True := trivial
theorem tw15563737801116599389 : True := trivial
theorem tw8496077043660080848 : True := trivial
theorem tw14822432827018848704 : True := trivial
theorem tw16673284213489153026 : True := trivial
theorem tw16227387086993080690 : True := trivial
theorem tw7606191077395586130 : True := trivial
theorem tw11126404736915721511 : True := trivial
theorem tw13742598078185483177 : True := trivial
theorem tw14994249428080140434 : True := trivial
theorem tw2747747657114356478 : True := trivial
theorem tw7786001953845156769 : True := trivial
theorem tw3970828041423149333 : True := trivial
theorem tw13015901451143424904 : True := trivial
theorem tw3677291940936415669 : True := trivial
theorem tw2600826163429132111 : True := trivial
theorem tw16572356863789607006 : True := trivial
theorem tw7632802476394977083 : True := trivial
theorem tw18016336639202591472 : True := trivial
theorem tw4203733140298086665 : True := trivial
theorem tw16568337604008407618 : True := trivial
theorem tw8816891476445543097 : True := trivial
theorem tw6381941232674486673 : True := trivial
theorem tw7229739378552905372 : True := trivial
theorem tw1396591460399355670 : True := trivial
theorem tw21232764603620871 : True := trivial
theorem tw6098833499794334540 : True := trivial
theorem tw6780305767927275248 : True := trivial
theorem tw16339919989707970007 : True := trivial
theorem tw4726083717383641098 : True := trivial
theorem tw11889225110217749222 : True := trivial
theorem tw6512848079111926590 : True := trivial
theorem tw2111307160528175209 : True := trivial
theorem tw9841058783125333127 : True := trivial
theorem tw136162970960858292 : True := trivial
theorem tw14431627695961175221 : True := trivial
theorem tw9769837124426866875 : True := trivial
theorem tw16051639854040079200 : True := trivial
theorem tw444131932876501539 : True := trivial
theorem tw16135497650149480123 : True := trivial
theorem tw13479890881480498011 : True := trivial
theorem tw12372583614347617386 : True := trivial
theorem tw15762209057368587406 : True := trivial
theorem tw6514699717143688824 : True := trivial
theorem tw6542969397146744079 : True := trivial
theorem tw7206616353665927112 : True := trivial
theorem tw16296446964240034042 : True := trivial
theorem tw16840752510586115709 : True := trivial
theorem tw14134238699590554097 : True := trivial
theorem tw13225684083501245378 : True := trivial
theorem tw15339524720790210125 : True := trivial
theorem tw12340898704219070298 : True := trivial
theorem tw8240391866341877187 : True := trivial
theorem tw6887619227326285557 : True := trivial
theorem tw13373773909491779168 : True := trivial
theorem tw14908688925017031762 : True := trivial
theorem tw16015678652601828423 : True := trivial
theorem tw13732745198140925019 : True := trivial
theorem tw13509133630918608858 : True := trivial
theorem tw14969373071369309593 : True := trivial
theorem tw6385706674567787843 : True := trivial
theorem tw3719845572869434709 : True := trivial
theorem tw3459555683523256389 : True := trivial
theorem tw5157549176655671494 : True := trivial
theorem tw4630100667902777383 : True := trivial
theorem tw6857452122649643343 : True := trivial
theorem tw9887452099997623166 : True := trivial
theorem tw3619490273407455238 : True := trivial
theorem tw4672471582461557603 : True := trivial
theorem tw9247666447169484908 : True := trivial
theorem tw9040831584102924070 : True := trivial
theorem tw6059336054388440248 : True := trivial
theorem tw14112723060755476468 : True := trivial
theorem tw5390957386511500917 : True := trivial
theorem tw8069047586387396033 : True := trivial
theorem tw4207425898710158652 : True := trivial
theorem tw12027779762078044676 : True := trivial
theorem tw15069136219028717261 : True := trivial
theorem tw5297253482558835619 : True := trivial
theorem tw12844718352718110187 : True := trivial
theorem tw6392205636283024062 : True := trivial
theorem tw937903279568974972 : True := trivial
theorem tw3112279574788660145 : True := trivial
theorem tw8796567385706520865 : True := trivial
theorem tw7678526342294166858 : True := trivial
theorem tw14814846570348133938 : True := trivial
theorem tw6338103865137336568 : True := trivial
theorem tw17865269028885432637 : True := trivial
theorem tw14647596489566250775 : True := trivial
theorem tw6097256499479063357 : True := trivial
theorem tw12316034629365121491 : True := trivial
theorem tw8636649285270008747 : True := trivial
theorem tw12926300337627993275 : True := trivial
theorem tw8375418953392445130 : True := trivial
theorem tw6204470175482257687 : True := trivial
theorem tw13527921663950006441 : True := trivial
theorem tw1966767339426103173 : True := trivial
theorem tw4513763683548650405 : True := trivial
theorem tw1094013535550928709 : True := trivial
theorem tw141042880126022139 : True := trivial
theorem tw157637229436766278 : True := trivial
theorem tw12088710240136557217 : True := trivial
theorem tw13290672309460138655 : True := trivial
theorem tw12234802415307774317 : True := trivial
theorem tw13479936945073825107 : True := trivial
theorem tw8683451731065949562 : True := trivial
theorem tw6955560656074453570 : True := trivial
theorem tw1291554901342906880 : True := trivial
theorem tw12482084120119778815 : True := trivial
theorem tw12045249601452961016 : True := trivial
theorem tw17012805240558736180 : True := trivial
theorem tw8504013115158818610 : True := trivial
theorem tw9849642904339760426 : True := trivial
theorem tw2815138075090883342 : True := trivial
theorem tw16400293364193780533 : True := trivial
theorem tw4474046707414842045 : True := trivial
theorem tw17422905282279538186 : True := trivial
theorem tw5897631100889248070 : True := trivial
theorem tw17624893256759160597 : True := trivial
theorem tw14012539118004843562 : True := trivial
theorem tw599705605103049615 : True := trivial
theorem tw13504923974898822055 : True := trivial
theorem tw12807965299688063415 : True := trivial
theorem tw5906395345110490416 : True := trivial
theorem tw7756750797417760100 : True := trivial
theorem tw6123737310371002344 : True := trivial
theorem tw14346390668484482500 : True := trivial
theorem tw13491521733501394444 : True := trivial
theorem tw16939162423800474970 : True := trivial
theorem tw6833163712910394204 : True := trivial
theorem tw116671692728616040 : True := trivial
theorem tw17656647409823759722 : True := trivial
theorem tw12532683965669484242 : True := trivial
theorem tw12163199365249483404 : True := trivial
theorem tw9265464918718727806 : True := trivial
theorem tw7188190317084251261 : True := trivial
theorem tw9859573255418495400 : True := trivial
theorem tw3951873590820278452 : True := trivial
theorem tw12400700940963856539 : True := trivial
theorem tw11568951846718930266 : True := trivial
theorem tw10667587031325053743 : True := trivial
theorem tw18174033956317653020 : True := trivial
theorem tw10311074684868448564 : True := trivial
theorem tw17251565953369283006 : True := trivial
theorem tw4349657363751045067 : True := trivial
theorem tw13054194284929469132 : True := trivial
theorem tw17802207179856844185 : True := trivial
theorem tw6438139459240414755 : True := trivial
theorem tw17803203051384441975 : True := trivial
theorem tw12186482528677097260 : True := trivial
theorem tw2845875246908251680 : True := trivial
theorem tw1935246223133086228 : True := trivial
theorem tw9534324817585655064 : True := trivial
theorem tw7793366571546216497 : True := trivial
theorem tw8929595150923230485 : True := trivial
theorem tw6967649668497222609 : True := trivial
theorem tw4364145331131333903 : True := trivial
theorem tw5842018270035245626 : True := trivial
theorem tw8766829226303698689 : True := trivial
theorem tw14206671935455520812 : True := trivial
theorem tw7057133790980159302 : True := trivial
theorem tw3774740354855942916 : True := trivial
theorem tw2688518836668679386 : True := trivial
theorem tw9123431403112596056 : True := trivial
theorem tw15149586026504416048 : True := trivial
theorem tw16857430018468328775 : True := trivial
theorem tw4867663328729943211 : True := trivial
theorem tw17607433701892200729 : True := trivial
theorem tw269610065386541892 : True := trivial
theorem tw2480811959986181094 : True := trivial
theorem tw13356561868760210498 : True := trivial
theorem tw4744380037547738660 : True := trivial
theorem tw183148368892845958 : True := trivial
theorem tw410770150590763059 : True := trivial
theorem tw3674378175695844240 : True := trivial
theorem tw17603966451082276129 : True := trivial
theorem tw1074754313491257359 : True := trivial
theorem tw10848834231933809162 : True := trivial
theorem tw16911037037191355794 : True := trivial
theorem tw2674409947443939878 : True := trivial
theorem tw6247493931328158525 : True := trivial
theorem tw15638288317660878456 : True := trivial
theorem tw8650911853066052323 : True := trivial
theorem tw12504347391798323359 : True := trivial
theorem tw9442141456841329404 : True := trivial
theorem tw279416297858539731 : True := trivial
theorem tw16478295531739814544 : True := trivial
theorem tw17207030473023395009 : True := trivial
theorem tw5111501506796348053 : True := trivial
theorem tw7371562105109849623 : True := trivial
theorem tw8672113595959491473 : True := trivial
theorem tw5600923510055312821 : True := trivial
theorem tw9730183067503254421 : True := trivial
theorem tw10740355548515063906 : True := trivial
theorem tw16082073937832246634 : True := trivial
theorem tw4475415816056850034 : True := trivial
theorem tw5965166096437276728 : True := trivial
theorem tw17053497150875458958 : True := trivial
theorem tw3272696544804450490 : True := trivial
theorem tw16627192940521922917 : True := trivial
theorem tw3492758111718293767 : True := trivial
theorem tw4087799780544623943 : True := trivial
theorem tw17700241116653270747 : True := trivial
theorem tw13453709033872489993 : True := trivial
theorem tw13181502013150036284 : True := trivial
theorem tw4190491670681821885 : True := trivial
theorem tw12093733669263940282 : True := trivial
theorem tw664335435339516028 : True := trivial
theorem tw618196568338182623 : True := trivial
theorem tw15292035291286290986 : True := trivial
theorem tw10933862279939037735 : True := trivial
theorem tw3066391556348200058 : True := trivial
theorem tw7088435427756508046 : True := trivial
theorem tw7772250409436055484 : True := trivial
theorem tw1530654867672260164 : True := trivial
theorem tw4417673337848225443 : True := trivial
theorem tw14668075977810364421 : True := trivial
theorem tw256002805720001006 : True := trivial
theorem tw15071176899280914629 : True := trivial
theorem tw15398435529786270518 : True := trivial
theorem tw3990085196414377357 : True := trivial
theorem tw14503621499475556546 : True := trivial
theorem tw9275996416916438571 : True := trivial
theorem tw17105274100932514589 : True := trivial
theorem tw7381788253803378371 : True := trivial
theorem tw10851029093081357137 : True := trivial
theorem tw8493506557271003707 : True := trivial
theorem tw9922445520357833840 : True := trivial
theorem tw3082566669427092439 : True := trivial
theorem tw4850675597546355633 : True := trivial
theorem tw10156522523582181200 : True := trivial
theorem tw15912390690630195082 : True := trivial
theorem tw12335805054562385774 : True := trivial
theorem tw10424627392325461140 : True := trivial
theorem tw16418258187310796176 : True := trivial
theorem tw2435546300141191239 : True := trivial
theorem tw1135522785873677193 : True := trivial
theorem tw5462621135121397549 : True := trivial
theorem tw7986780965980316339 : True := trivial
theorem tw14712935814078792224 : True := trivial
theorem tw837458331155709352 : True := trivial
theorem tw15062786067041845771 : True := trivial
theorem tw7631594383375322608 : True := trivial
theorem tw7406367809394912908 : True := trivial
theorem tw1157744901107969435 : True := trivial
theorem tw6583004348601525299 : True := trivial
theorem tw2108312680648529329 : True := trivial
theorem tw615691660460872742 : True := trivial
theorem tw4092162064887324590 : True := trivial
theorem tw3354920772286203156 : True := trivial
theorem tw3222892441551557096 : True := trivial
theorem tw11090116554033269854 : True := trivial
theorem tw6921847294046767060 : True := trivial
theorem tw9328297870184966251 : True := trivial
theorem tw13509553155330991755 : True := trivial
theorem tw17890193709469371257 : True := trivial
theorem tw16058707185498476353 : True := trivial
theorem tw7494689306172694651 : True := trivial
theorem tw17346284971557309176 : True := trivial
theorem tw10745446526472054383 : True := trivial
theorem tw2209552256376369168 : True := trivial
theorem tw12178922910923186972 : True := trivial
theorem tw6561592625667825936 : True := trivial
theorem tw8030671270908611278 : True := trivial
theorem tw9017989422011971202 : True := trivial
theorem tw3456376192018387501 : True := trivial
theorem tw13849689086446062200 : True := trivial
theorem tw13884804563205596282 : True := trivial
theorem tw5725882090408362514 : True := trivial
theorem tw6552241326454354823 : True := trivial
theorem tw11916112083554891225 : True := trivial
theorem tw7832483280425460551 : True := trivial
theorem tw3522771164537694867 : True := trivial
theorem tw6591909397437081482 : True := trivial
theorem tw2858184779009783792 : True := trivial
theorem tw11245826728593072398 : True := trivial
theorem tw8324102076155824224 : True := trivial
theorem tw6112306696484016603 : True := trivial
theorem tw14202092530608616223 : True := trivial
theorem tw15680377528851917400 : True := trivial
theorem tw7728531525670825058 : True := trivial
theorem tw4251182143130119383 : True := trivial
theorem tw10734367649460305360 : True := trivial
theorem tw3709178996859881263 : True := trivial
theorem tw15133225410663552478 : True := trivial
theorem tw2019507102537879938 : True := trivial
theorem tw2618742600254808429 : True := trivial
theorem tw16904601210486601431 : True := trivial
theorem tw1701002580011456251 : True := trivial
theorem tw17367353014064150834 : True := trivial
theorem tw8153337079396679721 : True := trivial
theorem tw11937538107554029481 : True := trivial
theorem tw1332791696940553335 : True := trivial
theorem tw16640199677927483600 : True := trivial
theorem tw15416626755399007468 : True := trivial
theorem tw8659095127490768077 : True := trivial
theorem tw10854658397322698669 : True := trivial
theorem tw16684900374809814425 : True := trivial
theorem tw3628896170001237138 : True := trivial
theorem tw10470017376560852726 : True := trivial
theorem tw17404667889245879653 : True := trivial
theorem tw8707683494155304105 : True := trivial
theorem tw16102757529288287761 : True := trivial
theorem tw2226485425915302344 : True := trivial
theorem tw2118757480448815665 : True := trivial
theorem tw5433781725109367449 : True := trivial
theorem tw5326322269477949736 : True := trivial
theorem tw11453203033664685723 : True := trivial
theorem tw11431055938984304726 : True := trivial
theorem tw11569969924992124890 : True := trivial
theorem tw15964590396113040455 : True := trivial
theorem tw9927399391160447166 : True := trivial
theorem tw5470477012498272535 : True := trivial
theorem tw4960162576814127123 : True := trivial
theorem tw12125992676167346082 : True := trivial
theorem tw9998582581063804146 : True := trivial
theorem tw10584030545724280639 : True := trivial
theorem tw16059143841812439507 : True := trivial
theorem tw12706172656387839675 : True := trivial
theorem tw11902464770687702332 : True := trivial
theorem tw353068891584498387 : True := trivial
theorem tw2409035829821433825 : True := trivial
theorem tw10763686915898724685 : True := trivial
theorem tw10333578902290333299 : True := trivial
theorem tw13029825428926146791 : True := trivial
theorem tw12537190796236702183 : True := trivial
theorem tw15248419912745985834 : True := trivial
theorem tw13486050053657513125 : True := trivial
theorem tw13117341098128420061 : True := trivial
theorem tw15121507791066626753 : True := trivial
theorem tw13767573229191358412 : True := trivial
theorem tw17893516061534736905 : True := trivial
theorem tw10419884205609628610 : True := trivial
theorem tw561269341290579509 : True := trivial
theorem tw6207977526556649039 : True := trivial
theorem tw14880341833971304824 : True := trivial
theorem tw17094293593507803483 : True := trivial
theorem tw13548927643856620928 : True := trivial
theorem tw16477616543598443026 : True := trivial
theorem tw6816454685869776728 : True := trivial
theorem tw11413127790801631465 : True := trivial
theorem tw14475232615102448159 : True := trivial
theorem tw5736001810254558138 : True := trivial
theorem tw1263464466868083439 : True := trivial
theorem tw1378944246898103035 : True := trivial
theorem tw12122860318999768073 : True := trivial
theorem tw16953553044145132592 : True := trivial
theorem tw3681149553041594861 : True := trivial
theorem tw16172212924098000677 : True := trivial
theorem tw15947665062809647408 : True := trivial
theorem tw17175417208895579727 : True := trivial
theorem tw2832477590916249756 : True := trivial
theorem tw6403569538297402957 : True := trivial
theorem tw15525073305892102229 : True := trivial
theorem tw13804698367155349779 : True := trivial
theorem tw13726938824129603104 : True := trivial
theorem tw14658186735111015237 : True := trivial
theorem tw7294794095439706342 : True := trivial
theorem tw18405536444303394158 : True := trivial
theorem tw12538550679951767188 : True := trivial
theorem tw17481974080652564222 : True := trivial
theorem tw10295835475632300399 : True := trivial
theorem tw18283857605117145112 : True := trivial
theorem tw15468843634026294595 : True := trivial
theorem tw5170474754712458407 : True := trivial
theorem tw14094798006884714558 : True := trivial
theorem tw13547159685459432524 : True := trivial
theorem tw16694263654464594022 : True := trivial
theorem tw17203535408934428150 : True := trivial
theorem tw15099836530041812832 : True := trivial
theorem tw10418290526532770978 : True := trivial
theorem tw11895992248537587958 : True := trivial
theorem tw8554237238406164785 : True := trivial
theorem tw9528394289751145894 : True := trivial
theorem tw10492978011224333721 : True := trivial
theorem tw15260148302450091032 : True := trivial
theorem tw5324000515471419172 : True := trivial
theorem tw14246312458298064161 : True := trivial
theorem tw14355143746103828797 : True := trivial
theorem tw4041966454204485995 : True := trivial
theorem tw16732061370160683566 : True := trivial
theorem tw2667666913439874657 : True := trivial
theorem tw8770189741843692483 : True := trivial
theorem tw3571122017694003575 : True := trivial
theorem tw2203749671755990548 : True := trivial
theorem tw13331393070989382009 : True := trivial
theorem tw3861864808090331291 : True := trivial
theorem tw12750402531273115781 : True := trivial
theorem tw302649302617538933 : True := trivial
theorem tw18039990399621198328 : True := trivial
theorem tw9664726541447707528 : True := trivial
theorem tw5238178787627758604 : True := trivial
theorem tw14566440812530379861 : True := trivial
theorem tw524976825525766779 : True := trivial
theorem tw12355071191619672938 : True := trivial
theorem tw9152399552648626010 : True := trivial
theorem tw10523580161979406468 : True := trivial
theorem tw10458659218777591134 : True := trivial
theorem tw12178328717693625148 : True := trivial
theorem tw18325792807626727802 : True := trivial
theorem tw8164951852735698256 : True := trivial
theorem tw3465390295125302380 : True := trivial
theorem tw9306877452675568326 : True := trivial
theorem tw8620262374348827217 : True := trivial
theorem tw15234597781594797941 : True := trivial
theorem tw10615476199936341656 : True := trivial
theorem tw14304313624147801128 : True := trivial
theorem tw9471718201291922729 : True := trivial
theorem tw13445282996959690454 : True := trivial
theorem tw12296015363213957647 : True := trivial
theorem tw8648709018971417674 : True := trivial
theorem tw6939788902967584281 : True := trivial
theorem tw11334828385451502005 : True := trivial
theorem tw18225747759691307625 : True := trivial
theorem tw8006512328211899609 : True := trivial
theorem tw15551427551441855630 : True := trivial
theorem tw7919741782477342008 : True := trivial
theorem tw13654439183377462930 : True := trivial
theorem tw15605510350886429751 : True := trivial
theorem tw10704524338294492673 : True := trivial
theorem tw7421558067415599524 : True := trivial
theorem tw18164659139988895873 : True := trivial
theorem tw986183590896260799 : True := trivial
theorem tw14787910867502079380 : True := trivial
theorem tw2646614672618216982 : True := trivial
theorem tw1149576100454326674 : True := trivial
theorem tw11250566808082653142 : True := trivial
theorem tw4126325031485420993 : True := trivial
theorem tw13422698371988952768 : True := trivial
theorem tw13966294174786444733 : True := trivial
theorem tw3832796317158727119 : True := trivial
theorem tw7711118334908071871 : True := trivial
theorem tw14758997666357490703 : True := trivial
theorem tw16854551752191828624 : True := trivial
theorem tw10203339146304071390 : True := trivial
theorem tw11591574093650454039 : True := trivial
theorem tw4446374133965384386 : True := trivial
theorem tw10123622444682715852 : True := trivial
theorem tw10399241047940311477 : True := trivial
theorem tw11501072532798602287 : True := trivial
theorem tw10688072999442856625 : True := trivial
theorem tw6867291857880819590 : True := trivial
theorem tw2834857550872797236 : True := trivial
theorem tw1748104914462782590 : True := trivial
theorem tw14218006815732981822 : True := trivial
theorem tw17242197680260955334 : True := trivial
theorem tw10253964039379431644 : True := trivial
theorem tw8273831417453528243 : True := trivial
theorem tw8516812577959773221 : True := trivial
theorem tw10078242891414861971 : True := trivial
theorem tw4053804593933272593 : True := trivial
theorem tw17016545780608339067 : True := trivial
theorem tw15565807772280772756 : True := trivial
theorem tw3103063232944976530 : True := trivial
theorem tw9280717143923908531 : True := trivial
theorem tw4986292641827001600 : True := trivial
theorem tw4572501369628148412 : True := trivial
theorem tw12513379796803374035 : True := trivial
theorem tw14288125001160499274 : True := trivial
theorem tw7873795574587238500 : True := trivial
theorem tw529806315152535634 : True := trivial
theorem tw10834942810146818337 : True := trivial
theorem tw717882751182751832 : True := trivial
theorem tw11328467213831020358 : True := trivial
theorem tw9038874566444497967 : True := trivial
theorem tw8856437204321097352 : True := trivial
theorem tw14139591841930261390 : True := trivial
theorem tw311854519069084933 : True := trivial
theorem tw15882117521103062197 : True := trivial
theorem tw14672244977151186403 : True := trivial
theorem tw16480292601679263071 : True := trivial
theorem tw18239486014635965129 : True := trivial
theorem tw991121103760075314 : True := trivial
theorem tw3770492348563243695 : True := trivial
theorem tw3787905221193285159 : True := trivial
theorem tw7808879935005575554 : True := trivial
theorem tw15877098163245722813 : True := trivial
theorem tw15483801147366437267 : True := trivial
theorem tw5498626682142612568 : True := trivial
theorem tw12791207356318945813 : True := trivial
theorem tw15130106617547157828 : True := trivial
theorem tw15214427188621786341 : True := trivial
theorem tw14333167266535161297 : True := trivial
theorem tw13428225206399438375 : True := trivial
theorem tw2611340594599743179 : True := trivial
theorem tw17701323977210786853 : True := trivial
theorem tw6912708329051224310 : True := trivial
theorem tw17289254894047324886 : True := trivial
theorem tw3751778622029712752 : True := trivial
theorem tw8940035259701187381 : True := trivial
theorem tw10548251955173599849 : True := trivial
theorem tw15856211337823461660 : True := trivial
theorem tw12835768843025599961 : True := trivial
theorem tw1791006747913774315 : True := trivial
theorem tw7014059474227618657 : True := trivial
theorem tw12141422248928403853 : True := trivial
theorem tw6542854270316109221 : True := trivial
theorem tw10692890882779058732 : True := trivial
theorem tw6111137440166255219 : True := trivial
theorem tw8889669978864011896 : True := trivial
theorem tw10269235879975516121 : True := trivial
theorem tw660665152403363091 : True := trivial
theorem tw8918862796545492133 : True := trivial
theorem tw9818250989169279145 : True := trivial
theorem tw12550684172456144002 : True := trivial
theorem tw5301181522699356767 : True := trivial
theorem tw9450442885378358706 : True := trivial
theorem tw6548728754638933810 : True := trivial
theorem tw4947769368266173731 : True := trivial
theorem tw2447480682796985863 : True := trivial
theorem tw16036284307784849813 : True := trivial
theorem tw15382111583881643528 : True := trivial
theorem tw8475191844843025469 : True := trivial
theorem tw10190785843889900095 : True := trivial
theorem tw8111542361529090347 : True := trivial
theorem tw90804446863750440 : True := trivial
theorem tw16898313358436801394 : True := trivial
theorem tw12412025324022777179 : True := trivial
theorem tw2117436247617700317 : True := trivial
theorem tw6538998456310957851 : True := trivial
theorem tw10293122111388908624 : True := trivial
theorem tw15072747678208944819 : True := trivial
theorem tw3977747713248169176 : True := trivial
theorem tw7126130022896718013 : True := trivial
theorem tw7685129366155105896 : True := trivial
theorem tw461492776977854808 : True := trivial
theorem tw4195855147072101892 : True := trivial
theorem tw10499806128138007776 : True := trivial
theorem tw16767633421323699192 : True := trivial
theorem tw12460621111347145359 : True := trivial
theorem tw14576707524029709656 : True := trivial
theorem tw6534218021731176884 : True := trivial
theorem tw13894778139180502980 : True := trivial
theorem tw13551740421060893572 : True := trivial
theorem tw14548392206820288984 : True := trivial
theorem tw3584866006160596991 : True := trivial
theorem tw14845369075054251356 : True := trivial
theorem tw2413375777671904153 : True := trivial
theorem tw17532700084284739779 : True := trivial
theorem tw3058782784822536268 : True := trivial
theorem tw11328916733842503303 : True := trivial
theorem tw9726370579899909980 : True := trivial
theorem tw1566802310286759470 : True := trivial
theorem tw4621963867498132545 : True := trivial
theorem tw6564675519842782167 : True := trivial
theorem tw3334990041615515318 : True := trivial
theorem tw5929309425873852615 : True := trivial
theorem tw6361183472049290119 : True := trivial
theorem tw271693882446939198 : True := trivial
theorem tw17479880513398311675 : True := trivial
theorem tw11808278685938044606 : True := trivial
theorem tw4485460091647151711 : True := trivial
theorem tw1037297200910480797 : True := trivial
theorem tw15006512230465848106 : True := trivial
theorem tw13330729885849315434 : True := trivial
theorem tw7914485168275385893 : True := trivial
theorem tw7958420503719652999 : True := trivial
theorem tw5755096277153120916 : True := trivial
theorem tw11314675822884730054 : True := trivial
theorem tw12511352282318600951 : True := trivial
theorem tw10247869917022478431 : True := trivial
theorem tw12719369874272353377 : True := trivial
theorem tw14860316501725771096 : True := trivial
theorem tw7041746547616228615 : True := trivial
theorem tw9244957722324549123 : True := trivial
theorem tw18058027045159786187 : True := trivial
theorem tw5515933584828152871 : True := trivial
theorem tw14737427998825610341 : True := trivial
theorem tw2655231179896942084 : True := trivial
theorem tw475657774705687388 : True := trivial
theorem tw1220461544678607985 : True := trivial
theorem tw16430996445159977086 : True := trivial
theorem tw15592247669194284000 : True := trivial
theorem tw14594635865584269625 : True := trivial
theorem tw7838136496811663177 : True := trivial
theorem tw14559736928460519675 : True := trivial
theorem tw13296182431432690628 : True := trivial
theorem tw14847736146114477283 : True := trivial
theorem tw18077863235751041377 : True := trivial
theorem tw3042024690907760527 : True := trivial
theorem tw2073321503095991207 : True := trivial
theorem tw8336956982950476605 : True := trivial
theorem tw13913772486919499068 : True := trivial
theorem tw11826859539399979965 : True := trivial
theorem tw12537631090246677032 : True := trivial
theorem tw2677061834915134700 : True := trivial
theorem tw11612121868487831772 : True := trivial
theorem tw12561623284267152505 : True := trivial
theorem tw15962809245201668555 : True := trivial
theorem tw5976966622804269857 : True := trivial
theorem tw15583249599314885966 : True := trivial
theorem tw1487619668168908288 : True := trivial
theorem tw16231804574872322796 : True := trivial
theorem tw14330421572119810462 : True := trivial
theorem tw2793449320537397598 : True := trivial
theorem tw11015334937845590338 : True := trivial
theorem tw17866303253080603662 : True := trivial
theorem tw5595190846696803322 : True := trivial
theorem tw7334412272688753768 : True := trivial
theorem tw6140368854616300251 : True := trivial
theorem tw5741211060596988819 : True := trivial
theorem tw739526623050673488 : True := trivial
theorem tw16521023471833196688 : True := trivial
theorem tw7484782082497385532 : True := trivial
theorem tw3209816617602222708 : True := trivial
theorem tw7969880658939130944 : True := trivial
theorem tw9114890321604312655 : True := trivial
theorem tw2829699411328039312 : True := trivial
theorem tw2752954311963575277 : True := trivial
theorem tw10796041469642804221 : True := trivial
theorem tw7003732296437562367 : True := trivial
theorem tw11739755787971786838 : True := trivial
theorem tw15652019170804202751 : True := trivial
theorem tw14849393786804294911 : True := trivial
theorem tw17666628477202161066 : True := trivial
theorem tw9209277582405707728 : True := trivial
theorem tw17752517395388667235 : True := trivial
theorem tw12013600565311864660 : True := trivial
theorem tw4052989974245889893 : True := trivial
theorem tw16608329044328446866 : True := trivial
theorem tw1596572735456750969 : True := trivial
theorem tw2594564619580931731 : True := trivial
theorem tw7781007738438009647 : True := trivial
theorem tw10614392530448498890 : True := trivial
theorem tw2799657828949475680 : True := trivial
theorem tw12200707971948415897 : True := trivial
theorem tw10225612006994578176 : True := trivial
theorem tw9010678132210753409 : True := trivial
theorem tw6003288170201581529 : True := trivial
theorem tw15469989669745050411 : True := trivial
theorem tw12060859994063105449 : True := trivial
theorem tw3519973846836088314 : True := trivial
theorem tw9972549045944317441 : True := trivial
theorem tw6479336394921426507 : True := trivial
theorem tw9964330730361725824 : True := trivial
theorem tw16220852437416499498 : True := trivial
theorem tw17453271124311199652 : True := trivial
theorem tw9465573358274705174 : True := trivial
theorem tw11293665743415925353 : True := trivial
theorem tw722722668641902409 : True := trivial
theorem tw4845081445944956394 : True := trivial
theorem tw12872832538179061449 : True := trivial
theorem tw7359474616802890663 : True := trivial
theorem tw9453541569307654028 : True := trivial
theorem tw12911833618904732182 : True := trivial
theorem tw2060392308789930996 : True := trivial
theorem tw17220762123340423650 : True := trivial
theorem tw9559838502575737398 : True := trivial
theorem tw12236820684891559878 : True := trivial
theorem tw18256100578805753203 : True := trivial
theorem tw16509175765412656335 : True := trivial
theorem tw10956487689318007448 : True := trivial
theorem tw8180390081618678050 : True := trivial
theorem tw7190655585225400918 : True := trivial
theorem tw2679534764748485430 : True := trivial
theorem tw14188922712873719169 : True := trivial
theorem tw13661999696628264722 : True := trivial
theorem tw17294799934512305044 : True := trivial
theorem tw3776406704386389074 : True := trivial
theorem tw17230331615802303712 : True := trivial
theorem tw16591773091514586363 : True := trivial
theorem tw17384917938656350465 : True := trivial
theorem tw9173167306486802472 : True := trivial
theorem tw11431873628403559968 : True := trivial
theorem tw11095989916355337154 : True := trivial
theorem tw12317861507638295042 : True := trivial
theorem tw13945107402439832840 : True := trivial
theorem tw1483263067495456829 : True := trivial
theorem tw4037612044093446745 : True := trivial
theorem tw1954426115217877469 : True := trivial
theorem tw15250062464238143200 : True := trivial
theorem tw14503447336901366522 : True := trivial
theorem tw14627825285877045974 : True := trivial
theorem tw12040581622169084504 : True := trivial
theorem tw13852332926707205726 : True := trivial
theorem tw8394825450630810977 : True := trivial
theorem tw1504459338872405655 : True := trivial
theorem tw5298794602860069868 : True := trivial
theorem tw12680974175698196911 : True := trivial
theorem tw11317708064240295737 : True := trivial
theorem tw1287511604783070882 : True := trivial
theorem tw4351772005222595640 : True := trivial
theorem tw13811588997177451928 : True := trivial
theorem tw1828370794265833277 : True := trivial
theorem tw13295207977789695600 : True := trivial
theorem tw3057886999624429319 : True := trivial
theorem tw13824080237209292452 : True := trivial
theorem tw17409548954108406209 : True := trivial
theorem tw18083006874495503539 : True := trivial
theorem tw11037903489032614883 : True := trivial
theorem tw2385676114302861864 : True := trivial
theorem tw15140270182726435954 : True := trivial
theorem tw16296338913937200348 : True := trivial
theorem tw15479619008770001234 : True := trivial
theorem tw10168445660272967278 : True := trivial
theorem tw1440222387445526768 : True := trivial
theorem tw11731685657175376442 : True := trivial
theorem tw5859586130412530694 : True := trivial
theorem tw11659735085432687698 : True := trivial
theorem tw7541321474413873347 : True := trivial
theorem tw16639146070117938863 : True := trivial
theorem tw11305761584799244139 : True := trivial
theorem tw12530020783611896123 : True := trivial
theorem tw18069471101527996130 : True := trivial
theorem tw17497287392364180087 : True := trivial
theorem tw9982126411127247819 : True := trivial
theorem tw2143465421494634955 : True := trivial
theorem tw8592771345182916116 : True := trivial
theorem tw6201433536315826442 : True := trivial
theorem tw644557822906683315 : True := trivial
theorem tw5837158197546833507 : True := trivial
theorem tw15354056394308032049 : True := trivial
theorem tw12198045965456605359 : True := trivial
theorem tw8529957579310758656 : True := trivial
theorem tw9792084477554192456 : True := trivial
theorem tw17803074579303239963 : True := trivial
theorem tw18364229903787852812 : True := trivial
theorem tw16432916083433347842 : True := trivial
theorem tw1866782616253930614 : True := trivial
theorem tw14565477592019982142 : True := trivial
theorem tw4679419070488843376 : True := trivial
theorem tw12949777909755729008 : True := trivial
theorem tw7949795624373973007 : True := trivial
theorem tw2865229377207001125 : True := trivial
theorem tw11285068941268693001 : True := trivial
theorem tw17845877256910970780 : True := trivial
theorem tw9301261047384318101 : True := trivial
theorem tw11511770530374241640 : True := trivial
theorem tw594141187185332143 : True := trivial
theorem tw11382495428734412536 : True := trivial
theorem tw4227479557153327188 : True := trivial
theorem tw270034595715114747 : True := trivial
theorem tw15334263517031216101 : True := trivial
theorem tw9956117914213716730 : True := trivial
theorem tw10317907992896869278 : True := trivial
theorem tw2680389405374921834 : True := trivial
theorem tw1231462704028761592 : True := trivial
theorem tw697173070229782056 : True := trivial
theorem tw12234416802641668848 : True := trivial
theorem tw8422999822219039584 : True := trivial
theorem tw14003325894810512373 : True := trivial
theorem tw2124392702102545464 : True := trivial
theorem tw7685841651529419775 : True := trivial
theorem tw14165550183096629898 : True := trivial
theorem tw6514941483459233811 : True := trivial
theorem tw7904800170790186869 : True := trivial
theorem tw15745790864194195054 : True := trivial
theorem tw860946927466740413 : True := trivial
theorem tw11305832362095473844 : True := trivial
theorem tw9438730226263224890 : True := trivial
theorem tw254442467020063033 : True := trivial
theorem tw4933779594377271931 : True := trivial
theorem tw9178585385153253583 : True := trivial
theorem tw10861314529624235756 : True := trivial
theorem tw13350423434957707003 : True := trivial
theorem tw15559553812162579806 : True := trivial
theorem tw4950935242683215667 : True := trivial
theorem tw5087653265141280732 : True := trivial
theorem tw452629786121999013 : True := trivial
theorem tw14148584193216471833 : True := trivial
theorem tw7253653565615135521 : True := trivial
theorem tw9837062136210791270 : True := trivial
theorem tw4734343576992969183 : True := trivial
theorem tw10850352283132880149 : True := trivial
theorem tw5966913175253056422 : True := trivial
theorem tw6177271017448296246 : True := trivial
theorem tw11745671897519417458 : True := trivial
theorem tw3944818364667364542 : True := trivial
theorem tw7015336408734176644 : True := trivial
theorem tw6615054506649968835 : True := trivial
theorem tw9550197676885164135 : True := trivial
theorem tw8081251676142338278 : True := trivial
theorem tw13187371706982988371 : True := trivial
theorem tw10851211655935227266 : True := trivial
theorem tw9735598174026037093 : True := trivial
theorem tw17345378877963100642 : True := trivial
theorem tw3033376828207645954 : True := trivial
theorem tw14324945160619430180 : True := trivial
theorem tw16850034768925002071 : True := trivial
theorem tw11291900704324862719 : True := trivial
theorem tw2020381520818017234 : True := trivial
theorem tw13062289413855830124 : True := trivial
theorem tw11044931306899482577 : True := trivial
theorem tw8738463020737531255 : True := trivial
theorem tw7711541596026747189 : True := trivial
theorem tw5556312577797044106 : True := trivial
theorem tw11671611248574769219 : True := trivial
theorem tw16596034637066556975 : True := trivial
theorem tw12643837838281661820 : True := trivial
theorem tw14853498099886637477 : True := trivial
theorem tw8542129205381414724 : True := trivial
theorem tw13452673710159948652 : True := trivial
theorem tw11351623836209309548 : True := trivial
theorem tw13878465246526215249 : True := trivial
theorem tw2268219139410417161 : True := trivial
theorem tw5136906715258760461 : True := trivial
theorem tw5520013533800487458 : True := trivial
theorem tw14492341243577272317 : True := trivial
theorem tw10371345769568022305 : True := trivial
theorem tw6991358642459014775 : True := trivial
theorem tw7235949048774026166 : True := trivial
theorem tw9119139021302077072 : True := trivial
theorem tw16200600801011513417 : True := trivial
theorem tw1987052722880952526 : True := trivial
theorem tw12289270157725808428 : True := trivial
theorem tw11535076251155448568 : True := trivial
theorem tw9964343441826205666 : True := trivial
theorem tw13605927598593054019 : True := trivial
theorem tw14981762416693042827 : True := trivial
theorem tw3179002770099160499 : True := trivial
theorem tw15356698446556991781 : True := trivial
theorem tw18169668158604291577 : True := trivial
theorem tw7575018643222173641 : True := trivial
theorem tw12004623568699318840 : True := trivial
theorem tw13071603021950002116 : True := trivial
theorem tw8538645936088070634 : True := trivial
theorem tw15498127494687868126 : True := trivial
theorem tw16630320559192201551 : True := trivial
theorem tw5871849552214800386 : True := trivial
theorem tw4776561471958225540 : True := trivial
theorem tw1927341758764342044 : True := trivial
theorem tw2188759936965154638 : True := trivial
theorem tw6322819006292474346 : True := trivial
theorem tw6101223617765518682 : True := trivial
theorem tw7587717542552356615 : True := trivial
theorem tw3257548614563436510 : True := trivial
theorem tw13054246202301559201 : True := trivial
theorem tw4553449011086082595 : True := trivial
theorem tw16669239883305096926 : True := trivial
theorem tw3454043632672257468 : True := trivial
theorem tw9708963957004144325 : True := trivial
theorem tw13006509448096405239 : True := trivial
theorem tw12031927597724132636 : True := trivial
theorem tw16997139629790807494 : True := trivial
theorem tw3864621012641394885 : True := trivial
theorem tw16602364568080685429 : True := trivial
theorem tw1961773927919695427 : True := trivial
theorem tw10634360366695039391 : True := trivial
theorem tw8487449567895718513 : True := trivial
theorem tw3516202418833763431 : True := trivial
theorem tw12601183493592072535 : True := trivial
theorem tw11517430154303672775 : True := trivial
theorem tw2651351282427753147 : True := trivial
theorem tw770668929684308383 : True := trivial
theorem tw11960140223524887497 : True := trivial
theorem tw241459434554276664 : True := trivial
theorem tw13127944223495524959 : True := trivial
theorem tw9178921788969773657 : True := trivial
theorem tw10495231556218817550 : True := trivial
theorem tw1023816101708814661 : True := trivial
theorem tw5240167205672655789 : True := trivial
theorem tw97910532586427005 : True := trivial
theorem tw15575099811016167337 : True := trivial
theorem tw10670223718190150750 : True := trivial
theorem tw9860345315388189052 : True := trivial
theorem tw6877022013079923294 : True := trivial
theorem tw3659983632784881578 : True := trivial
theorem tw16718018205227185172 : True := trivial
theorem tw10985259867915229261 : True := trivial
theorem tw5712381929080440195 : True := trivial
theorem tw11591190535749014103 : True := trivial
theorem tw8598638518210991780 : True := trivial
theorem tw7821700847651141291 : True := trivial
theorem tw9793091020050500549 : True := trivial
theorem tw78213542042895354 : True := trivial
theorem tw15582637601260207122 : True := trivial
theorem tw6048468032493425594 : True := trivial
theorem tw18080995136962064885 : True := trivial
theorem tw11066688177183344035 : True := trivial
theorem tw661191217564430716 : True := trivial
theorem tw10658589252393216187 : True := trivial
theorem tw3798364039513368701 : True := trivial
theorem tw17807404786734912492 : True := trivial
theorem tw12736246245677281139 : True := trivial
theorem tw17652777634748683477 : True := trivial
theorem tw4127129808080951062 : True := trivial
theorem tw13881853375439352934 : True := trivial
theorem tw5671317963856724584 : True := trivial
theorem tw6758207216561211087 : True := trivial
theorem tw18286244213789654717 : True := trivial
theorem tw10816249007121875222 : True := trivial
theorem tw12109503008655202173 : True := trivial
theorem tw6794838287419166000 : True := trivial
theorem tw2928699455051865874 : True := trivial
theorem tw11642009603274372718 : True := trivial
theorem tw5746417358895941062 : True := trivial
theorem tw17728339783510185436 : True := trivial
theorem tw11647608875597501585 : True := trivial
theorem tw16013469694013967959 : True := trivial
theorem tw4952895833422304591 : True := trivial
theorem tw9607887586738835463 : True := trivial
theorem tw15191506281248804656 : True := trivial
theorem tw4142554992985768693 : True := trivial
theorem tw304989935794116076 : True := trivial
theorem tw5828151007849285957 : True := trivial
theorem tw1983336632395836534 : True := trivial
theorem tw1968536760578986751 : True := trivial
theorem tw5587765490021319510 : True := trivial
theorem tw3155484678228562380 : True := trivial
theorem tw9621444829507967980 : True := trivial
theorem tw11604728634782380513 : True := trivial
theorem tw10703934265862911719 : True := trivial
theorem tw5675115196740142947 : True := trivial
theorem tw4790912456432182677 : True := trivial
theorem tw8452484437945853744 : True := trivial
theorem tw15292346950246685837 : True := trivial
theorem tw15910043638366915055 : True := trivial
theorem tw4086299102454251028 : True := trivial
theorem tw10565679307540194322 : True := trivial
theorem tw15152609029413995219 : True := trivial
theorem tw14064904319540102801 : True := trivial
theorem tw8117123523716039697 : True := trivial
theorem tw4573630579300566708 : True := trivial
theorem tw3323167697557478367 : True := trivial
theorem tw2977473071868519529 : True := trivial
theorem tw5304081620822979841 : True := trivial
theorem tw2307708717783158607 : True := trivial
theorem tw1864130058163723348 : True := trivial
theorem tw16095253999332475671 : True := trivial
theorem tw8073167970066491525 : True := trivial
theorem tw10547791933381658951 : True := trivial
theorem tw13978236222305734426 : True := trivial
theorem tw13522362416537221085 : True := trivial
theorem tw14266902396300404459 : True := trivial
theorem tw4470362748239628527 : True := trivial
theorem tw8422506223429731815 : True := trivial
theorem tw16964096177775313227 : True := trivial
theorem tw14332925008513249702 : True := trivial
theorem tw16796673403307399434 : True := trivial
theorem tw11184227677054823656 : True := trivial
theorem tw6167090537821728454 : True := trivial
theorem tw1193397125227245320 : True := trivial
theorem tw8122124823609664944 : True := trivial
theorem tw12965258179148191866 : True := trivial
theorem tw1103374747792837182 : True := trivial
theorem tw17490566621904511993 : True := trivial
theorem tw5285321466222812080 : True := trivial
theorem tw10351032471927144026 : True := trivial
theorem tw13011108641561423391 : True := trivial
theorem tw7674408341614353131 : True := trivial
theorem tw10024624796984719733 : True := trivial
theorem tw17698378058723609319 : True := trivial
theorem tw14018012112160428782 : True := trivial
theorem tw8735561540817740611 : True := trivial
theorem tw8393567180334069350 : True := trivial
theorem tw5659410315329107598 : True := trivial
theorem tw656497657026714291 : True := trivial
theorem tw2564187797758446073 : True := trivial
theorem tw7820563569291649640 : True := trivial
theorem tw10077267162279499215 : True := trivial
theorem tw14192799565213374994 : True := trivial
theorem tw4314898078012494806 : True := trivial
theorem tw9078980056514828856 : True := trivial
theorem tw4491014975730384577 : True := trivial
theorem tw10635203035464225088 : True := trivial
theorem tw6584195007614044250 : True := trivial
theorem tw8133105829201318904 : True := trivial
theorem tw16394289585218833757 : True := trivial
theorem tw11062103434993048364 : True := trivial
theorem tw8136805260989822643 : True := trivial
theorem tw16122051426301399503 : True := trivial
theorem tw5043684143838017435 : True := trivial
theorem tw15015325166026846231 : True := trivial
theorem tw14800728866284299496 : True := trivial
theorem tw6654393949473357537 : True := trivial
theorem tw4154675724720205117 : True := trivial
theorem tw7412775884699878511 : True := trivial
theorem tw9507149983948738901 : True := trivial
theorem tw18446279859768271558 : True := trivial
theorem tw10365314212290738357 : True := trivial
theorem tw11025787907404977139 : True := trivial
theorem tw13146331913170248298 : True := trivial
theorem tw3930414087795680912 : True := trivial
theorem tw15853557589558411008 : True := trivial
theorem tw10236833847519104200 : True := trivial
theorem tw15556952966224575487 : True := trivial
theorem tw15474691219009827040 : True := trivial
theorem tw18294688683327780441 : True := trivial
theorem tw9453241860907839783 : True := trivial
theorem tw11609633153956815533 : True := trivial
theorem tw2302812017980780921 : True := trivial
theorem tw4341539390788875825 : True := trivial
theorem tw13847810565379162953 : True := trivial
theorem tw18187205635131340256 : True := trivial
theorem tw5528984372765742495 : True := trivial
theorem tw13266701879505494766 : True := trivial
theorem tw15542550744127040437 : True := trivial
theorem tw2252239009296640374 : True := trivial
theorem tw2163338389778595497 : True := trivial
theorem tw1744161408287679066 : True := trivial
theorem tw7020844706839144666 : True := trivial
theorem tw15056949203875016156 : True := trivial
theorem tw14912474678847702086 : True := trivial
theorem tw12106946475061471175 : True := trivial
theorem tw8689243019144611431 : True := trivial
theorem tw7259839247909209149 : True := trivial
theorem tw16150771071396730639 : True := trivial
theorem tw9684248938458480873 : True := trivial
theorem tw6258916114511673933 : True := trivial
theorem tw7769941906183920941 : True := trivial
theorem tw2269455489972646941 : True := trivial
theorem tw17988954250238461407 : True := trivial
theorem tw3738574958675197478 : True := trivial
theorem tw12987054336703087919 : True := trivial
theorem tw11109590099270715577 : True := trivial
theorem tw11730679916552667352 : True := trivial
theorem tw7558763176649911168 : True := trivial
theorem tw611743583148757193 : True := trivial
theorem tw7552371679327986977 : True := trivial
theorem tw4638492860081988506 : True := trivial
theorem tw11341735666613115965 : True := trivial
theorem tw11521859036349262330 : True := trivial
theorem tw4861879058613414959 : True := trivial
theorem tw17264155205793842421 : True := trivial
theorem tw8336134419580064393 : True := trivial
theorem tw9586477056991489097 : True := trivial
theorem tw5500452572514226726 : True := trivial
theorem tw2395278044796556087 : True := trivial
theorem tw1807562950536454458 : True := trivial
theorem tw4579803987451326273 : True := trivial
theorem tw3296067704440666440 : True := trivial
theorem tw51628164209843271 : True := trivial
theorem tw2873068363995947306 : True := trivial
theorem tw1953006091834141934 : True := trivial
theorem tw10971608653874218007 : True := trivial
theorem tw13565128105114981762 : True := trivial
theorem tw1612410254283282035 : True := trivial
theorem tw17176382168601728310 : True := trivial
theorem tw877840060053784177 : True := trivial
theorem tw11185356578624424962 : True := trivial
theorem tw17840406971717258669 : True := trivial
theorem tw15895274665720196288 : True := trivial
theorem tw3196920475270818470 : True := trivial
theorem tw5141440236452281815 : True := trivial
theorem tw17622112010353512079 : True := trivial
theorem tw2379512866476879577 : True := trivial
theorem tw14730269632513097260 : True := trivial
theorem tw18120760850607830509 : True := trivial
theorem tw10050080683759331531 : True := trivial
theorem tw12398405034670731186 : True := trivial
theorem tw9352941976581416390 : True := trivial
theorem tw7158270893845145196 : True := trivial
theorem tw14348483015860661225 : True := trivial
theorem tw16622943693571959745 : True := trivial
theorem tw14788866439405639698 : True := trivial
theorem tw17478464370809863189 : True := trivial
theorem tw17604399590201086590 : True := trivial
theorem tw12249267310295184001 : True := trivial
theorem tw3869454958342812974 : True := trivial
theorem tw8005288775375867024 : True := trivial
theorem tw10648783781958055551 : True := trivial
theorem tw13835787889758113971 : True := trivial
theorem tw10833872886453093078 : True := trivial
theorem tw2080765859366818399 : True := trivial
theorem tw12002362735223664236 : True := trivial
theorem tw9515551518067566462 : True := trivial
theorem tw17224293203871056204 : True := trivial
theorem tw14111277722990805576 : True := trivial
theorem tw14095304751825308278 : True := trivial
theorem tw12887147733984742220 : True := trivial
theorem tw6765694582304836886 : True := trivial
theorem tw7257672537162145076 : True := trivial
theorem tw755044669706945789 : True := trivial
theorem tw12499995912967387846 : True := trivial
theorem tw3394643765480940253 : True := trivial
theorem tw7047886645242182281 : True := trivial
theorem tw15398751242739850952 : True := trivial
theorem tw5237070340057022126 : True := trivial
theorem tw1193968978438980384 : True := trivial
theorem tw5793394710663597027 : True := trivial
theorem tw15388896104352614347 : True := trivial
theorem tw17288008893522340581 : True := trivial
theorem tw13004399641191806554 : True := trivial
theorem tw11338568674134799668 : True := trivial
theorem tw3632356417921333077 : True := trivial
theorem tw9236392043339054420 : True := trivial
theorem tw6297914303776562162 : True := trivial
theorem tw5456200972497586552 : True := trivial
theorem tw13465934245161306238 : True := trivial
theorem tw4059658565232404710 : True := trivial
theorem tw10454186639229013971 : True := trivial
theorem tw2790922360924022935 : True := trivial
theorem tw5456277927457219384 : True := trivial
theorem tw14486020625581372927 : True := trivial
theorem tw17399772954773118985 : True := trivial
theorem tw7075949438222951523 : True := trivial
theorem tw581780627957616261 : True := trivial
theorem tw16457603744787771295 : True := trivial
theorem tw2748364702248522117 : True := trivial
theorem tw4321165698691416762 : True := trivial
theorem tw948817103722396606 : True := trivial
theorem tw17078900751922177824 : True := trivial
theorem tw14836483807028555173 : True := trivial
theorem tw17702020733620109146 : True := trivial
theorem tw1944980472099354872 : True := trivial
theorem tw5239845158359359158 : True := trivial
theorem tw16101511926136646226 : True := trivial
theorem tw9983671614977637697 : True := trivial
theorem tw410837919494430151 : True := trivial
theorem tw11120588175263704135 : True := trivial
theorem tw13355969730606117619 : True := trivial
theorem tw2057441641254838193 : True := trivial
theorem tw2274034146122108999 : True := trivial
theorem tw11747664177836473504 : True := trivial
theorem tw16894970665604974982 : True := trivial
theorem tw6694298679593123853 : True := trivial
theorem tw2502081613103386054 : True := trivial
theorem tw5450099287707998784 : True := trivial
theorem tw17638281452978484745 : True := trivial
theorem tw7539184881670962653 : True := trivial
theorem tw17133883154726731579 : True := trivial
theorem tw7953172897774159170 : True := trivial
theorem tw17579799418749908883 : True := trivial
theorem tw16351155579357563306 : True := trivial
theorem tw2154645532105366965 : True := trivial
theorem tw10316256117558756825 : True := trivial
theorem tw16693587175399945635 : True := trivial
theorem tw5965156498749738342 : True := trivial
theorem tw12936636224673012828 : True := trivial
theorem tw10440138290451128593 : True := trivial
theorem tw8864014932639572643 : True := trivial
theorem tw10619123234554442224 : True := trivial
theorem tw966002634838478360 : True := trivial
theorem tw14783035364438724848 : True := trivial
theorem tw6348832132754231725 : True := trivial
theorem tw6869625507761353588 : True := trivial
theorem tw1145596195826075172 : True := trivial
theorem tw5616193520959680892 : True := trivial
theorem tw1930712854598410450 : True := trivial
theorem tw7164683854307198714 : True := trivial
theorem tw1396638702823070067 : True := trivial
theorem tw9101274163831919102 : True := trivial
theorem tw383999965791932675 : True := trivial
theorem tw17781797312148732412 : True := trivial
theorem tw8391562382421146925 : True := trivial
theorem tw5569473140667479211 : True := trivial
theorem tw4961252829100038701 : True := trivial
theorem tw4248406339373664338 : True := trivial
theorem tw1841595323572833154 : True := trivial
theorem tw15256879806984500289 : True := trivial
theorem tw3738493514583818820 : True := trivial
theorem tw18143852113671868361 : True := trivial
theorem tw18338493724282875659 : True := trivial
theorem tw6119028153585145494 : True := trivial
theorem tw17093036871222040806 : True := trivial
theorem tw15757063450246375206 : True := trivial
theorem tw3025101653343873634 : True := trivial
theorem tw628023964252867776 : True := trivial
theorem tw18376970149247883634 : True := trivial
theorem tw11758487806481243133 : True := trivial
theorem tw14663431293392579923 : True := trivial
theorem tw6691791086119282331 : True := trivial
theorem tw9694161342493442867 : True := trivial
theorem tw6556254345005132658 : True := trivial
theorem tw8706687301464186097 : True := trivial
theorem tw3460649885806220328 : True := trivial
theorem tw17501170648674434398 : True := trivial
theorem tw10298911694278277605 : True := trivial
theorem tw7555967033320175764 : True := trivial
theorem tw3360890745586608086 : True := trivial
theorem tw16222971087884363315 : True := trivial
theorem tw15920498690689155660 : True := trivial
theorem tw5533027815953990539 : True := trivial
theorem tw14490988456564816632 : True := trivial
theorem tw515014023491057674 : True := trivial
theorem tw8157434300303474949 : True := trivial
theorem tw17131476797642389735 : True := trivial
theorem tw13205738413183873651 : True := trivial
theorem tw13160830412980977626 : True := trivial
theorem tw11553128752004343452 : True := trivial
theorem tw12576994849618514061 : True := trivial
theorem tw17855758597673550849 : True := trivial
theorem tw14502110418769926157 : True := trivial
theorem tw12868110599306939190 : True := trivial
theorem tw12673892730383833812 : True := trivial
theorem tw7518376058345089491 : True := trivial
theorem tw6705453484744284397 : True := trivial
theorem tw16689106406232062125 : True := trivial
theorem tw7772822499136142587 : True := trivial
theorem tw16018110747775542262 : True := trivial
theorem tw9399968481114361447 : True := trivial
theorem tw7098329374640585824 : True := trivial
theorem tw2338188211386963313 : True := trivial
theorem tw14840041355856291568 : True := trivial
theorem tw9651061846989655556 : True := trivial
theorem tw2815237137876301767 : True := trivial
theorem tw10956371583993362262 : True := trivial
theorem tw16174369549476250038 : True := trivial
theorem tw8275903492425092467 : True := trivial
theorem tw2840044448995039746 : True := trivial
theorem tw4968532788370400782 : True := trivial
theorem tw8957589385063720098 : True := trivial
theorem tw7640766379493600538 : True := trivial
theorem tw8127692846444184519 : True := trivial
theorem tw11797768989525877546 : True := trivial
theorem tw15593386354623471890 : True := trivial
theorem tw3262201576677813436 : True := trivial
theorem tw3459729762296558632 : True := trivial
theorem tw716805483206942268 : True := trivial
theorem tw17403946193140376293 : True := trivial
theorem tw14149971109815863489 : True := trivial
theorem tw763946409961102992 : True := trivial
theorem tw9404983549500008823 : True := trivial
theorem tw14487181260162893839 : True := trivial
theorem tw17563712049143378182 : True := trivial
theorem tw15730880209121722000 : True := trivial
theorem tw10345668740499057390 : True := trivial
theorem tw12104699099532601088 : True := trivial
theorem tw16100195275768119081 : True := trivial
theorem tw2113590804082856444 : True := trivial
theorem tw8454578461103587972 : True := trivial
theorem tw4023523906247942295 : True := trivial
theorem tw12103455825222475594 : True := trivial
theorem tw3652440795216164299 : True := trivial
theorem tw11274181297193940915 : True := trivial
theorem tw17052840131930868136 : True := trivial
theorem tw17228565714859439625 : True := trivial
theorem tw10380231373224085829 : True := trivial
theorem tw6205730617117863292 : True := trivial
theorem tw8097867027589581616 : True := trivial
theorem tw8181949045596553287 : True := trivial
theorem tw3678618679135524946 : True := trivial
theorem tw3563095049787741012 : True := trivial
theorem tw11306457558202596532 : True := trivial
theorem tw11607001278236983826 : True := trivial
theorem tw18372582679376359739 : True := trivial
theorem tw14038123602162432879 : True := trivial
theorem tw16328211941099482053 : True := trivial
theorem tw826939143837873293 : True := trivial
theorem tw8915212993343405912 : True := trivial
theorem tw14058968322217853981 : True := trivial
theorem tw14306186158497390788 : True := trivial
theorem tw10838633972982297822 : True := trivial
theorem tw9623913470541201605 : True := trivial
theorem tw2041690911610296933 : True := trivial
theorem tw7404021807756943231 : True := trivial
theorem tw15868625515497734775 : True := trivial
theorem tw12101451745430378236 : True := trivial
theorem tw16807997020937860608 : True := trivial
theorem tw11281873421173812649 : True := trivial
theorem tw8517947652362923001 : True := trivial
theorem tw13410722235799833938 : True := trivial
theorem tw15118804678195350973 : True := trivial
theorem tw5060432034195502363 : True := trivial
theorem tw7561048880832136941 : True := trivial
theorem tw718032676300718855 : True := trivial
theorem tw8010663436787770104 : True := trivial
theorem tw17185916330800553410 : True := trivial
theorem tw14691664098792538730 : True := trivial
theorem tw3747688020256151518 : True := trivial
theorem tw6738919617973946091 : True := trivial
theorem tw8507813144012762206 : True := trivial
theorem tw11473663899394149421 : True := trivial
theorem tw12331163733207478667 : True := trivial
theorem tw4097286134595788853 : True := trivial
theorem tw17414787959939475542 : True := trivial
theorem tw2837764884093608532 : True := trivial
theorem tw7606069429457883539 : True := trivial
theorem tw7672093038941542492 : True := trivial
theorem tw11891266213154856913 : True := trivial
theorem tw16333587393700739040 : True := trivial
theorem tw8457164868076153213 : True := trivial
theorem tw5065440467770533968 : True := trivial
theorem tw13033800923043573093 : True := trivial
theorem tw10043856753460289293 : True := trivial
theorem tw14322226299360757576 : True := trivial
theorem tw10491332344611129053 : True := trivial
theorem tw5208448555430973538 : True := trivial
theorem tw6370160297011337640 : True := trivial
theorem tw18056987369355748852 : True := trivial
theorem tw7999079595097076856 : True := trivial
theorem tw13139901320422498455 : True := trivial
theorem tw12058716894416559699 : True := trivial
theorem tw9754967496556567282 : True := trivial
theorem tw12461987247131169355 : True := trivial
theorem tw3241185329982254558 : True := trivial
theorem tw18129688727758107516 : True := trivial
theorem tw8556165717820522341 : True := trivial
theorem tw14909581106350642532 : True := trivial
theorem tw10613611655838680466 : True := trivial
theorem tw2626860353390750565 : True := trivial
theorem tw17257051286924318235 : True := trivial
theorem tw6343845471163316788 : True := trivial
theorem tw5432381623706683221 : True := trivial
theorem tw5120711309052775997 : True := trivial
theorem tw14908347342554483354 : True := trivial
theorem tw9125604379476767571 : True := trivial
theorem tw3213500297615080309 : True := trivial
theorem tw12055758213526472119 : True := trivial
theorem tw4934717211603030152 : True := trivial
theorem tw1277656553882376156 : True := trivial
theorem tw9458908893186934523 : True := trivial
theorem tw16022892075340851305 : True := trivial
theorem tw16559388363920953580 : True := trivial
theorem tw15449108342753995170 : True := trivial
theorem tw12932587351239263215 : True := trivial
theorem tw14725573720752735494 : True := trivial
theorem tw14083232879807273716 : True := trivial
theorem tw1732169691388908964 : True := trivial
theorem tw16586105943484117250 : True := trivial
theorem tw13215928203758480716 : True := trivial
theorem tw3921035090331060892 : True := trivial
theorem tw3282009882261820836 : True := trivial
theorem tw4329354924943266444 : True := trivial
theorem tw17234447076677485328 : True := trivial
theorem tw11037006639532034884 : True := trivial
theorem tw2723660823173418681 : True := trivial
theorem tw5600151944728311726 : True := trivial
theorem tw4748822085975767859 : True := trivial
theorem tw18253003395005690762 : True := trivial
theorem tw13946237286364860197 : True := trivial
theorem tw16994020650394055471 : True := trivial
theorem tw6835596589115205298 : True := trivial
theorem tw14975905862472439390 : True := trivial
theorem tw2041761159783534631 : True := trivial
theorem tw14730453854016075969 : True := trivial
theorem tw16150891354579139497 : True := trivial
theorem tw10625347288436984894 : True := trivial
theorem tw14750935768155129462 : True := trivial
theorem tw12164510059076790742 : True := trivial
theorem tw8653997629084733682 : True := trivial
theorem tw1949048219209355266 : True := trivial
theorem tw2178762263111096325 : True := trivial
theorem tw1239087603732773014 : True := trivial
theorem tw6720267578616585972 : True := trivial
theorem tw13468101607442285616 : True := trivial
theorem tw7136317745724844440 : True := trivial
theorem tw13677957771350220544 : True := trivial
theorem tw208049800290595654 : True := trivial
theorem tw9213593454292098943 : True := trivial
theorem tw223475673970351728 : True := trivial
theorem tw8001267036555879247 : True := trivial
theorem tw13300489004975288614 : True := trivial
theorem tw12223326108325728140 : True := trivial
theorem tw5734834414269647975 : True := trivial
theorem tw7146167045824673916 : True := trivial
theorem tw17975965236021977093 : True := trivial
theorem tw14662622355204791263 : True := trivial
theorem tw6720412791805498939 : True := trivial
theorem tw7874055108497698071 : True := trivial
theorem tw12548395553287108000 : True := trivial
theorem tw8805329847545469289 : True := trivial
theorem tw14717404926919642540 : True := trivial
theorem tw17612627285356976206 : True := trivial
theorem tw4282461169712995277 : True := trivial
theorem tw17184047270010329793 : True := trivial
theorem tw13536392710843958995 : True := trivial
theorem tw7580095081514425519 : True := trivial
theorem tw4842653007293545631 : True := trivial
theorem tw1147125697871835951 : True := trivial
theorem tw12286758549927932590 : True := trivial
theorem tw7125663156497445249 : True := trivial
theorem tw8558289236099676382 : True := trivial
theorem tw8698201245496451044 : True := trivial
theorem tw3178501580742639203 : True := trivial
theorem tw12793123682144888056 : True := trivial
theorem tw12226698801432630167 : True := trivial
theorem tw17720508727133503879 : True := trivial
theorem tw14019026315735727064 : True := trivial
theorem tw6026373163830447569 : True := trivial
theorem tw8811023555177451501 : True := trivial
theorem tw11278428243711704820 : True := trivial
theorem tw5941566214664280426 : True := trivial
theorem tw15495570931058142395 : True := trivial
theorem tw14319139174599658688 : True := trivial
theorem tw7109137436575481278 : True := trivial
theorem tw11157569628262520752 : True := trivial
theorem tw655615237794332965 : True := trivial
theorem tw14756946317669523354 : True := trivial
theorem tw17568535254718374429 : True := trivial
theorem tw1518473022394255772 : True := trivial
theorem tw3428407434075523480 : True := trivial
theorem tw16189558528572475295 : True := trivial
theorem tw2024224674632881464 : True := trivial
theorem tw8317588854416228729 : True := trivial
theorem tw18413938093127892718 : True := trivial
theorem tw4383173096068094280 : True := trivial
theorem tw8864599049370001150 : True := trivial
theorem tw18070397120690335425 : True := trivial
theorem tw3481484218621798474 : True := trivial
theorem tw9822569916280320410 : True := trivial
theorem tw12323326336156787792 : True := trivial
theorem tw2043705064694220977 : True := trivial
theorem tw1695911685782223381 : True := trivial
theorem tw17960684967568193312 : True := trivial
theorem tw12471318613433746543 : True := trivial
theorem tw1488881081455229612 : True := trivial
theorem tw17428074543427252283 : True := trivial
theorem tw2905129041443255519 : True := trivial
theorem tw11556937318126753862 : True := trivial
theorem tw15480158833574728770 : True := trivial
theorem tw1178541133446463854 : True := trivial
theorem tw6738472162901924351 : True := trivial
theorem tw8820518685678324132 : True := trivial
theorem tw16009132724112474542 : True := trivial
theorem tw6522054388022959979 : True := trivial
theorem tw15608960056260529779 : True := trivial
theorem tw2451514099650234908 : True := trivial
theorem tw6830695332620978034 : True := trivial
theorem tw13747679648693122030 : True := trivial
theorem tw9906835780757636883 : True := trivial
theorem tw18238320240436664869 : True := trivial
theorem tw16210650502907925621 : True := trivial
theorem tw322268264346178715 : True := trivial
theorem tw3500182474519191778 : True := trivial
theorem tw3024823474587449346 : True := trivial
theorem tw10659898074008615025 : True := trivial
theorem tw1920349614265311039 : True := trivial
theorem tw15935310205079209550 : True := trivial
theorem tw2586788441816305854 : True := trivial
theorem tw17711490140248708676 : True := trivial
theorem tw2989940748589305476 : True := trivial
theorem tw2086372767798023925 : True := trivial
theorem tw9674831378111055868 : True := trivial
theorem tw6156336047581216517 : True := trivial
theorem tw12152209752792942424 : True := trivial
theorem tw1953288292435899777 : True := trivial
theorem tw5881213074142731616 : True := trivial
theorem tw747628140227593814 : True := trivial
theorem tw86206679834809569 : True := trivial
theorem tw8362972146634951008 : True := trivial
theorem tw14510621499023374760 : True := trivial
theorem tw2732050693361753703 : True := trivial
theorem tw16208119434675112347 : True := trivial
theorem tw10603532610925955371 : True := trivial
theorem tw9813359219270050451 : True := trivial
theorem tw11389566123692737214 : True := trivial
theorem tw4494572664996853085 : True := trivial
theorem tw15012858829181268075 : True := trivial
theorem tw1169820948711933063 : True := trivial
theorem tw7640331027374381151 : True := trivial
theorem tw1554633426245198166 : True := trivial
theorem tw450174833576894621 : True := trivial
theorem tw10686380256442014308 : True := trivial
theorem tw445123673661779681 : True := trivial
theorem tw902075712807082270 : True := trivial
theorem tw4535098579273932042 : True := trivial
theorem tw6909905969054373185 : True := trivial
theorem tw12383228860583863427 : True := trivial
theorem tw10188703878724816014 : True := trivial
theorem tw8197845929585944368 : True := trivial
theorem tw6286376007426929597 : True := trivial
theorem tw9291017637093112485 : True := trivial
theorem tw16045194295723296051 : True := trivial
theorem tw9043075052823330889 : True := trivial
theorem tw10263528188474566292 : True := trivial
theorem tw3522437622447461595 : True := trivial
theorem tw16042634281104911279 : True := trivial
theorem tw2029163479787290696 : True := trivial
theorem tw5248451083922107058 : True := trivial
theorem tw10870915803807608839 : True := trivial
theorem tw8267795527931049934 : True := trivial
theorem tw10140603005123929205 : True := trivial
theorem tw9124558985333143667 : True := trivial
theorem tw11820873968798440366 : True := trivial
theorem tw3299931993107412554 : True := trivial
theorem tw3264108745758096402 : True := trivial
theorem tw4122993872276675832 : True := trivial
theorem tw11007208953143855443 : True := trivial
theorem tw13268824743331983604 : True := trivial
theorem tw14764549253913111517 : True := trivial
theorem tw7712190221818827478 : True := trivial
theorem tw16088550457390846633 : True := trivial
theorem tw17403468128470170853 : True := trivial
theorem tw10115091096715444278 : True := trivial
theorem tw245474845346020663 : True := trivial
theorem tw14909235103810703594 : True := trivial
theorem tw13388657688785625335 : True := trivial
theorem tw11268662538244416146 : True := trivial
theorem tw15350202280133309042 : True := trivial
theorem tw12676687439885709398 : True := trivial
theorem tw12382212311204887337 : True := trivial
theorem tw13260918026707072020 : True := trivial
theorem tw4966426941839070015 : True := trivial
theorem tw7944156003621346235 : True := trivial
theorem tw13289303851153639119 : True := trivial
theorem tw7725072492598839839 : True := trivial
theorem tw14576700663346995050 : True := trivial
theorem tw11960084262037928828 : True := trivial
theorem tw7740775898866579444 : True := trivial
theorem tw17851026136658245595 : True := trivial
theorem tw8462492759560158972 : True := trivial
theorem tw8645931073941900440 : True := trivial
theorem tw13697490898782531118 : True := trivial
theorem tw9310295037821349998 : True := trivial
theorem tw7041206720176836142 : True := trivial
theorem tw12174918969105425837 : True := trivial
theorem tw13320310461129738306 : True := trivial
theorem tw16668995583585559944 : True := trivial
theorem tw15422783194856835047 : True := trivial
theorem tw17104871098527790646 : True := trivial
theorem tw9246037350682789752 : True := trivial
theorem tw14281703979410710645 : True := trivial
theorem tw14087459050607679144 : True := trivial
theorem tw11414697999716338784 : True := trivial
theorem tw16057600376966113060 : True := trivial
theorem tw12135729506481229659 : True := trivial
theorem tw10542504312814965920 : True := trivial
theorem tw2053134530880738070 : True := trivial
theorem tw16334121373073629576 : True := trivial
theorem tw3829856467741902276 : True := trivial
theorem tw16273442379648994651 : True := trivial
theorem tw6271402881744818699 : True := trivial
theorem tw2562866989278957470 : True := trivial
theorem tw8712212274096326546 : True := trivial
theorem tw4077399928747316105 : True := trivial
theorem tw8682113412598763492 : True := trivial
theorem tw10952785052769755256 : True := trivial
theorem tw5144431575545380076 : True := trivial
theorem tw4537615770427515419 : True := trivial
theorem tw9265802605022674089 : True := trivial
theorem tw16114674713929808379 : True := trivial
theorem tw10188734386785149411 : True := trivial
theorem tw2281788124272903244 : True := trivial
theorem tw17825984322290027699 : True := trivial
theorem tw14785905669718244964 : True := trivial
theorem tw17402603075971739087 : True := trivial
theorem tw677224232248917421 : True := trivial
theorem tw3510770224087528959 : True := trivial
theorem tw10670368422685948662 : True := trivial
theorem tw3731041266414202417 : True := trivial
theorem tw827808821645057416 : True := trivial
theorem tw1634489534297206042 : True := trivial
theorem tw13532991101037701806 : True := trivial
theorem tw11102980161201886378 : True := trivial
theorem tw16675163213722942056 : True := trivial
theorem tw15647068164812544390 : True := trivial
theorem tw9588486565299098728 : True := trivial
theorem tw10850263716244273636 : True := trivial
theorem tw15185656707134322673 : True := trivial
theorem tw351185562826675636 : True := trivial
theorem tw5885717764777739533 : True := trivial
theorem tw16491102730707871079 : True := trivial
theorem tw6389433070726844342 : True := trivial
theorem tw1573391695582915804 : True := trivial
theorem tw6027269889996890785 : True := trivial
theorem tw13389266887824120540 : True := trivial
theorem tw1684527280064786469 : True := trivial
theorem tw10927722199889231769 : True := trivial
theorem tw15616077618043155443 : True := trivial
theorem tw15253570593956151505 : True := trivial
theorem tw9956363479982778926 : True := trivial
theorem tw5109244083350240244 : True := trivial
theorem tw17651092952036381796 : True := trivial
theorem tw9316617182506006358 : True := trivial
theorem tw11636905840612094630 : True := trivial
theorem tw18376725712094514614 : True := trivial
theorem tw1076475910334481990 : True := trivial
theorem tw13170057890025792883 : True := trivial
theorem tw216601631888364101 : True := trivial
theorem tw3219688879828321345 : True := trivial
theorem tw1500555477693030410 : True := trivial
theorem tw18122184140534657015 : True := trivial
theorem tw17814472449629439569 : True := trivial
theorem tw8144141913792943982 : True := trivial
theorem tw10356416337564871520 : True := trivial
theorem tw10909543374560652874 : True := trivial
theorem tw10349483716522385606 : True := trivial
theorem tw9600026377999773996 : True := trivial
theorem tw10489108540304012851 : True := trivial
theorem tw2999005507758190258 : True := trivial
theorem tw6391635227957923029 : True := trivial
theorem tw10911097748502188537 : True := trivial
theorem tw18213468735998245058 : True := trivial
theorem tw13482501924254402706 : True := trivial
theorem tw9075364072733056069 : True := trivial
theorem tw12155449674444103187 : True := trivial
theorem tw6643938340538449923 : True := trivial
theorem tw7195242019790234327 : True := trivial
theorem tw12012292507180680583 : True := trivial
theorem tw7605934300889293290 : True := trivial
theorem tw6504269856274978423 : True := trivial
theorem tw931966551435883562 : True := trivial
theorem tw13251291993431940206 : True := trivial
theorem tw3755012908305324453 : True := trivial
theorem tw2512527028895361004 : True := trivial
theorem tw10315288185110781172 : True := trivial
theorem tw5542663092942318813 : True := trivial
theorem tw14416867718623889404 : True := trivial
theorem tw5345181661343887011 : True := trivial
theorem tw2917981362738792986 : True := trivial
theorem tw282718278043079494 : True := trivial
theorem tw4628943039795918936 : True := trivial
theorem tw1676932711942570480 : True := trivial
theorem tw9030356468849628307 : True := trivial
theorem tw7165104886886298039 : True := trivial
theorem tw5402518527361357709 : True := trivial
theorem tw1639870869824891684 : True := trivial
theorem tw84448239792704280 : True := trivial
theorem tw17691978737997341822 : True := trivial
theorem tw1431815978888938316 : True := trivial
theorem tw4605627425675644667 : True := trivial
theorem tw5551837895457917999 : True := trivial
theorem tw3276302428244833276 : True := trivial
theorem tw11943577231646812682 : True := trivial
theorem tw2367879642326526737 : True := trivial
theorem tw12958777353013293659 : True := trivial
theorem tw7805521043311880264 : True := trivial
theorem tw12623112992471436245 : True := trivial
theorem tw13122483081732567497 : True := trivial
theorem tw15916047390187047952 : True := trivial
theorem tw6940377233314702092 : True := trivial
theorem tw12379125241953618136 : True := trivial
theorem tw14545171531229304149 : True := trivial
theorem tw173078623784837858 : True := trivial
theorem tw11239377415813187988 : True := trivial
theorem tw796443923543564467 : True := trivial
theorem tw266851471016547753 : True := trivial
theorem tw6899009314654270868 : True := trivial
theorem tw7583050469957469783 : True := trivial
theorem tw13476985277120124822 : True := trivial
theorem tw665213201839696670 : True := trivial
theorem tw5446118509806553474 : True := trivial
theorem tw5889334627054622849 : True := trivial
theorem tw8286394012212012915 : True := trivial
theorem tw14632792168430689998 : True := trivial
theorem tw304604537869546858 : True := trivial
theorem tw6647227307468987720 : True := trivial
theorem tw2030901559007643820 : True := trivial
theorem tw12903061039765681028 : True := trivial
theorem tw10752834276791185550 : True := trivial
theorem tw4811801430866778534 : True := trivial
theorem tw16900107487741787562 : True := trivial
theorem tw14613907431276910864 : True := trivial
theorem tw10612598083149058256 : True := trivial
theorem tw1939528542247983595 : True := trivial
theorem tw5920575296391681397 : True := trivial
theorem tw11747647747216784111 : True := trivial
theorem tw14944842013375304838 : True := trivial
theorem tw10581201472586768011 : True := trivial
theorem tw11949129751495311004 : True := trivial
theorem tw10585879864402112166 : True := trivial
theorem tw808379464654314844 : True := trivial
theorem tw13665909254952451330 : True := trivial
theorem tw7252349353153158786 : True := trivial
theorem tw6989929814773560578 : True := trivial
theorem tw11271342653687341695 : True := trivial
theorem tw2858885233528962118 : True := trivial
theorem tw13512797274851563419 : True := trivial
theorem tw8662440644926502105 : True := trivial
theorem tw9525838919293335003 : True := trivial
theorem tw14378970440295699585 : True := trivial
theorem tw10195737926392038001 : True := trivial
theorem tw16504970866071883589 : True := trivial
theorem tw5676684931653248064 : True := trivial
theorem tw2364001335389774549 : True := trivial
theorem tw173888796541132456 : True := trivial
theorem tw2897552875235635409 : True := trivial
theorem tw11712259400467116781 : True := trivial
theorem tw13608075734680635180 : True := trivial
theorem tw16267522198943635258 : True := trivial
theorem tw13265630953656538681 : True := trivial
theorem tw5709008993716087733 : True := trivial
theorem tw9514616564540925251 : True := trivial
theorem tw1281217792522757410 : True := trivial
theorem tw2537949923242983251 : True := trivial
theorem tw16774034727691538986 : True := trivial
theorem tw10779581569657568495 : True := trivial
theorem tw7600774077280387391 : True := trivial
theorem tw17220565669293704669 : True := trivial
theorem tw15284965555124362005 : True := trivial
theorem tw17325620004867851256 : True := trivial
theorem tw6664096820648770695 : True := trivial
theorem tw14186422521039457906 : True := trivial
theorem tw10989781278730645598 : True := trivial
theorem tw2782448695913728166 : True := trivial
theorem tw18273942807487185397 : True := trivial
theorem tw8461854230802053388 : True := trivial
theorem tw9041208924776304855 : True := trivial
theorem tw12802686766157365744 : True := trivial
theorem tw15351562100726158261 : True := trivial
theorem tw8833506192479909534 : True := trivial
theorem tw11816049612817453019 : True := trivial
theorem tw586764591155056248 : True := trivial
theorem tw17628322586814794103 : True := trivial
theorem tw3753468344388580648 : True := trivial
theorem tw2379311628461352193 : True := trivial
theorem tw15214282662662785316 : True := trivial
theorem tw14203072878019260588 : True := trivial
theorem tw11329528955130559598 : True := trivial
theorem tw17093925242025591334 : True := trivial
theorem tw14382088845381374050 : True := trivial
theorem tw15447800154198490570 : True := trivial
theorem tw1117577695358259305 : True := trivial
theorem tw13036329638098571634 : True := trivial
theorem tw10893161760353754179 : True := trivial
theorem tw16400289286589071402 : True := trivial
theorem tw15344632596445617721 : True := trivial
theorem tw12468535682836809479 : True := trivial
theorem tw3115245237095798618 : True := trivial
theorem tw17455463352822445127 : True := trivial
theorem tw17413367081644225164 : True := trivial
theorem tw9174152998773133161 : True := trivial
theorem tw8830777248078043736 : True := trivial
theorem tw13904680513415551984 : True := trivial
theorem tw15151926055348988245 : True := trivial
theorem tw14811406751720958237 : True := trivial
theorem tw17573085312590048998 : True := trivial
theorem tw8544110160480307974 : True := trivial
theorem tw3674225619782681829 : True := trivial
theorem tw9609679212031804644 : True := trivial
theorem tw14700471484828412114 : True := trivial
theorem tw4475054342032241750 : True := trivial
theorem tw9626252127423043836 : True := trivial
theorem tw3851438369623899036 : True := trivial
theorem tw10060824156643221396 : True := trivial
theorem tw12458792562868691248 : True := trivial
theorem tw5645334755255954041 : True := trivial
theorem tw15579357748250859974 : True := trivial
theorem tw12720735763160331054 : True := trivial
theorem tw11906920710873185815 : True := trivial
theorem tw14394110571502541068 : True := trivial
theorem tw2067374373512518679 : True := trivial
theorem tw14477077509097318533 : True := trivial
theorem tw15649166365716031532 : True := trivial
theorem tw2666161164294324101 : True := trivial
theorem tw11459561069370673899 : True := trivial
theorem tw969743143590239 : True := trivial
theorem tw18123387694744313440 : True := trivial
theorem tw13773670644168951104 : True := trivial
theorem tw8985765759958559366 : True := trivial
theorem tw12784731946864482650 : True := trivial
theorem tw13991672516661463871 : True := trivial
theorem tw5303086012957067359 : True := trivial
theorem tw301696595460476705 : True := trivial
theorem tw3042869908249363983 : True := trivial
theorem tw2456229222137955391 : True := trivial
theorem tw8929234213110211424 : True := trivial
theorem tw2364019902135640118 : True := trivial
theorem tw17726048121915863815 : True := trivial
theorem tw2474748914636275049 : True := trivial
theorem tw14709457241978240997 : True := trivial
theorem tw15129796592516449242 : True := trivial
theorem tw17048359185055142667 : True := trivial
theorem tw8847845528294266569 : True := trivial
theorem tw6410153504185636083 : True := trivial
theorem tw9319534651444730336 : True := trivial
theorem tw10836119507435192607 : True := trivial
theorem tw8826646486375519426 : True := trivial
theorem tw3719171731704795659 : True := trivial
theorem tw18153880275358338773 : True := trivial
theorem tw15754634297761244621 : True := trivial
theorem tw11954892751459782058 : True := trivial
theorem tw16765505569903621999 : True := trivial
theorem tw6933353456951681952 : True := trivial
theorem tw4241893606082736252 : True := trivial
theorem tw16427477590201370575 : True := trivial
theorem tw15539785613192460348 : True := trivial
theorem tw5589053343430520393 : True := trivial
theorem tw13064651202044232552 : True := trivial
theorem tw6224253011223505406 : True := trivial
theorem tw8013405811504554815 : True := trivial
theorem tw16468551056175959638 : True := trivial
theorem tw12293237669406767729 : True := trivial
theorem tw496859335617265380 : True := trivial
theorem tw12425551349424960934 : True := trivial
theorem tw3806622893739883353 : True := trivial
theorem tw9570050090594086889 : True := trivial
theorem tw1405857023296320294 : True := trivial
theorem tw4366992929887777872 : True := trivial
theorem tw552605933917410798 : True := trivial
theorem tw15099683788128352157 : True := trivial
theorem tw7799295399261570469 : True := trivial
theorem tw2658374560594676682 : True := trivial
theorem tw9373710371763557176 : True := trivial
theorem tw8222445989834868882 : True := trivial
theorem tw15096550106135627004 : True := trivial
theorem tw8858191892113720376 : True := trivial
theorem tw17647252069203495098 : True := trivial
theorem tw3673315588582252987 : True := trivial
theorem tw11553805815317994942 : True := trivial
theorem tw11483399818530736765 : True := trivial
theorem tw5334862142228280292 : True := trivial
theorem tw16445772544524607354 : True := trivial
theorem tw9382680186749339580 : True := trivial
theorem tw10797596060808976123 : True := trivial
theorem tw11918956819451797975 : True := trivial
theorem tw7461440983051141767 : True := trivial
theorem tw16652939570348158672 : True := trivial
theorem tw13395125940642038796 : True := trivial
theorem tw17259491463450429485 : True := trivial
theorem tw13179007973225736171 : True := trivial
theorem tw8000328002272731758 : True := trivial
theorem tw8494832396120871897 : True := trivial
theorem tw2320388289868819757 : True := trivial
theorem tw6572394603570045276 : True := trivial
theorem tw16109254388232297088 : True := trivial
theorem tw6032005055381117036 : True := trivial
theorem tw10284468499776573518 : True := trivial
theorem tw14469521371042754539 : True := trivial
theorem tw14503008785110809583 : True := trivial
theorem tw11443929088637932890 : True := trivial
theorem tw13924850138863200281 : True := trivial
theorem tw3194284533571943635 : True := trivial
theorem tw17766916444356915931 : True := trivial
theorem tw1021756783385487795 : True := trivial
theorem tw11371902073520603589 : True := trivial
theorem tw1754041401863820658 : True := trivial
theorem tw9376405026619802846 : True := trivial
theorem tw12412502178314048039 : True := trivial
theorem tw15588136719400898447 : True := trivial
theorem tw2466993907965732780 : True := trivial
theorem tw11697296947621093053 : True := trivial
theorem tw3749110611591343161 : True := trivial
theorem tw16842937814688536941 : True := trivial
theorem tw1452129622997160414 : True := trivial
theorem tw16637300342911201042 : True := trivial
theorem tw6087294710229528515 : True := trivial
theorem tw16264659379817245512 : True := trivial
theorem tw4045658261240806513 : True := trivial
theorem tw11600599902955967022 : True := trivial
theorem tw14766117103947004649 : True := trivial
theorem tw4605911282226180668 : True := trivial
theorem tw14854385620841006892 : True := trivial
theorem tw17007107494725172764 : True := trivial
theorem tw14844186032719194203 : True := trivial
theorem tw1436992946328815106 : True := trivial
theorem tw782148321848065017 : True := trivial
theorem tw10614647072317992139 : True := trivial
theorem tw829340763944821634 : True := trivial
theorem tw12135769239494607869 : True := trivial
theorem tw2692447377862863536 : True := trivial
theorem tw620402295584693691 : True := trivial
theorem tw16101075649160437489 : True := trivial
theorem tw13952174375809971161 : True := trivial
theorem tw4605957501711497633 : True := trivial
theorem tw12760838538138567147 : True := trivial
theorem tw17281016714866467218 : True := trivial
theorem tw11379776864903509352 : True := trivial
theorem tw13307403652833454526 : True := trivial
theorem tw6925616382252828804 : True := trivial
theorem tw418486848506549721 : True := trivial
theorem tw17316079295339601652 : True := trivial
theorem tw10219999441556044121 : True := trivial
theorem tw10357635656164672925 : True := trivial
theorem tw15167753522726539479 : True := trivial
theorem tw7937304963733202144 : True := trivial
theorem tw12193086514530159987 : True := trivial
theorem tw2603757838888717220 : True := trivial
theorem tw7660224401056602999 : True := trivial
theorem tw9578351016810190576 : True := trivial
theorem tw15846004354438659609 : True := trivial
theorem tw14025911999015067386 : True := trivial
theorem tw11448978692768211163 : True := trivial
theorem tw677241509654261823 : True := trivial
theorem tw18156871783615944626 : True := trivial
theorem tw10191252041908046201 : True := trivial
theorem tw13796594932398429464 : True := trivial
theorem tw15831749977568971707 : True := trivial
theorem tw18003326876285931920 : True := trivial
theorem tw18402409462578527504 : True := trivial
theorem tw275781759614108711 : True := trivial
theorem tw1213400592937817827 : True := trivial
theorem tw8835764100540823862 : True := trivial
theorem tw10958740875464194908 : True := trivial
theorem tw13774625357409502906 : True := trivial
theorem tw16677771679406108483 : True := trivial
theorem tw4691035794541858367 : True := trivial
theorem tw14800345547370041191 : True := trivial
theorem tw16366574009160703271 : True := trivial
theorem tw6164367438687298258 : True := trivial
theorem tw5992152576740910255 : True := trivial
theorem tw10777471941992948817 : True := trivial
theorem tw8402657816232096992 : True := trivial
theorem tw1921184858648811449 : True := trivial
theorem tw18398021706879959701 : True := trivial
theorem tw15251053114924467151 : True := trivial
theorem tw2381681266900290382 : True := trivial
theorem tw1064107353890657142 : True := trivial
theorem tw2214270854202109156 : True := trivial
theorem tw6825232287517469312 : True := trivial
theorem tw3589824288093897419 : True := trivial
theorem tw2193131040228018423 : True := trivial
theorem tw3044993197600144510 : True := trivial
theorem tw13474469590207611746 : True := trivial
theorem tw16917859829787454173 : True := trivial
theorem tw14488452772153300460 : True := trivial
theorem tw5777571214412942213 : True := trivial
theorem tw12830522971245758007 : True := trivial
theorem tw15404784586022722498 : True := trivial
theorem tw1457139309437707875 : True := trivial
theorem tw9622800124807788057 : True := trivial
theorem tw16835256042025566182 : True := trivial
theorem tw13015875223278057018 : True := trivial
theorem tw13656905128448442501 : True := trivial
theorem tw6948485253387927384 : True := trivial
theorem tw9942862888484431714 : True := trivial
theorem tw4164761958435479551 : True := trivial
theorem tw7333129346508407436 : True := trivial
theorem tw4300454625438681202 : True := trivial
theorem tw3191401469358387127 : True := trivial
theorem tw10230553093530898061 : True := trivial
theorem tw12273943548989482659 : True := trivial
theorem tw10259602407081675244 : True := trivial
theorem tw4949690093752242943 : True := trivial
theorem tw204730836200222398 : True := trivial
theorem tw10930334506114778799 : True := trivial
theorem tw2510870020470531506 : True := trivial
theorem tw14886708508059261045 : True := trivial
theorem tw11001111635313069079 : True := trivial
theorem tw4537403959817226030 : True := trivial
theorem tw9053927156744730112 : True := trivial
theorem tw9407402410530041546 : True := trivial
theorem tw925756937388400950 : True := trivial
theorem tw8908396021298138128 : True := trivial
theorem tw7695812215937531226 : True := trivial
theorem tw1182900432712849489 : True := trivial
theorem tw5618024251081127203 : True := trivial
theorem tw13654117964233792848 : True := trivial
theorem tw9408055902038620974 : True := trivial
theorem tw3845522597196510890 : True := trivial
theorem tw11694994618527331889 : True := trivial
theorem tw10764054397910349338 : True := trivial
theorem tw14380083192743660530 : True := trivial
theorem tw13109457760521208309 : True := trivial
theorem tw4287980051869925616 : True := trivial
theorem tw13839114835721627092 : True := trivial
theorem tw10681010739017136275 : True := trivial
theorem tw11514831367630781673 : True := trivial
theorem tw14983356363915909141 : True := trivial
theorem tw17922400979299201483 : True := trivial
theorem tw5696712063067600602 : True := trivial
theorem tw5688839963599984067 : True := trivial
theorem tw7610527265878781717 : True := trivial
theorem tw11896602282922014551 : True := trivial
theorem tw2195006892331564734 : True := trivial
theorem tw98617535933402873 : True := trivial
theorem tw16931617622492960978 : True := trivial
theorem tw13670946970574808173 : True := trivial
theorem tw12006354354306706805 : True := trivial
theorem tw1714865377030482831 : True := trivial
theorem tw17461772415435948579 : True := trivial
theorem tw5906761002533291838 : True := trivial
theorem tw16169760586724116517 : True := trivial
theorem tw9766548514929117674 : True := trivial
theorem tw11399905245235645085 : True := trivial
theorem tw14715835540791922797 : True := trivial
theorem tw4894889045659335452 : True := trivial
theorem tw6701075876349785858 : True := trivial
theorem tw14654231500804280492 : True := trivial
theorem tw14555944066442525909 : True := trivial
theorem tw1410264919223800698 : True := trivial
theorem tw4739799529111579107 : True := trivial
theorem tw6377387504649919952 : True := trivial
theorem tw10792294119019792392 : True := trivial
theorem tw5827325078001059619 : True := trivial
theorem tw5279145578653747168 : True := trivial
theorem tw16672822358283567604 : True := trivial
theorem tw8244412007800674554 : True := trivial
theorem tw9184393034460816506 : True := trivial
theorem tw15653792785325022034 : True := trivial
theorem tw59021372836112148 : True := trivial
theorem tw13251605596435484606 : True := trivial
theorem tw15272601271355193640 : True := trivial
theorem tw14762214432981020158 : True := trivial
theorem tw8251039948928711277 : True := trivial
theorem tw5630534092248437172 : True := trivial
theorem tw12161616388892804822 : True := trivial
theorem tw12425238344314346983 : True := trivial
theorem tw11817947013615863533 : True := trivial
theorem tw6330769187989759241 : True := trivial
theorem tw200305038078417820 : True := trivial
theorem tw16644993536054808437 : True := trivial
theorem tw10281546382169963111 : True := trivial
theorem tw8144014108623370178 : True := trivial
theorem tw14225495554232409904 : True := trivial
theorem tw9623736192249780985 : True := trivial
theorem tw14607033198578847786 : True := trivial
theorem tw5182432937285646249 : True := trivial
theorem tw1811587361677667253 : True := trivial
theorem tw2006345964429902538 : True := trivial
theorem tw14053279334328081216 : True := trivial
theorem tw14748933646520005661 : True := trivial
theorem tw7967553655147033353 : True := trivial
theorem tw17964316562529475445 : True := trivial
theorem tw11593691604147275678 : True := trivial
theorem tw14055001319326112290 : True := trivial
theorem tw12842776648848199643 : True := trivial
theorem tw15856077526573413229 : True := trivial
theorem tw9841177049312105159 : True := trivial
theorem tw15794301471167950115 : True := trivial
theorem tw1968994958246176330 : True := trivial
theorem tw13256163243819903563 : True := trivial
theorem tw1089677641801208515 : True := trivial
theorem tw13962024177130234776 : True := trivial
theorem tw4561902784940212433 : True := trivial
theorem tw5682328657768273146 : True := trivial
theorem tw6041123738918875502 : True := trivial
theorem tw3820880403664760077 : True := trivial
theorem tw9133943145431862886 : True := trivial
theorem tw6234277105142472832 : True := trivial
theorem tw9346755514511237339 : True := trivial
theorem tw18420083444682943682 : True := trivial
theorem tw5635841236397554165 : True := trivial
theorem tw3980178780956590783 : True := trivial
theorem tw2275388293094535121 : True := trivial
theorem tw6067113385929618583 : True := trivial
theorem tw1779513593397069416 : True := trivial
theorem tw2283088859140946608 : True := trivial
theorem tw18190845617696392147 : True := trivial
theorem tw7156298540940487564 : True := trivial
theorem tw6761245657772668161 : True := trivial
theorem tw16267087445659716676 : True := trivial
theorem tw6936113458366365238 : True := trivial
theorem tw13875707986701366527 : True := trivial
theorem tw13608818071155939249 : True := trivial
theorem tw2502194287969098546 : True := trivial
theorem tw14356593765464466399 : True := trivial
theorem tw3054436130473913450 : True := trivial
theorem tw4900683536260068619 : True := trivial
theorem tw16704674517190256650 : True := trivial
theorem tw1183060985471090565 : True := trivial
theorem tw1779893132387103320 : True := trivial
theorem tw1438342992244274367 : True := trivial
theorem tw16704461498110695418 : True := trivial
theorem tw7197960335432116573 : True := trivial
theorem tw10972188820290832372 : True := trivial
theorem tw16356090955222033116 : True := trivial
theorem tw506180508000413522 : True := trivial
theorem tw5580480072126826509 : True := trivial
theorem tw14378241105649622653 : True := trivial
theorem tw1649919713877086019 : True := trivial
theorem tw4779570320663836142 : True := trivial
theorem tw10892984333041792558 : True := trivial
theorem tw4897730428903447617 : True := trivial
theorem tw13299438408365775372 : True := trivial
theorem tw4518286625478719876 : True := trivial
theorem tw17605671179899926813 : True := trivial
theorem tw8491976516954278902 : True := trivial
theorem tw12225169525908786683 : True := trivial
theorem tw10209823374750696852 : True := trivial
theorem tw409133099724299613 : True := trivial
theorem tw179572325826808574 : True := trivial
theorem tw11021844923288735557 : True := trivial
theorem tw16758768442977378372 : True := trivial
theorem tw3636502650733747958 : True := trivial
theorem tw12916081093171179550 : True := trivial
theorem tw17153884120808244061 : True := trivial
theorem tw10630421338210308687 : True := trivial
theorem tw6983404730044098368 : True := trivial
theorem tw590167445161389081 : True := trivial
theorem tw3259452551101219266 : True := trivial
theorem tw893588880853564208 : True := trivial
theorem tw523375548892580468 : True := trivial
theorem tw14144492461951222605 : True := trivial
theorem tw16355560805766773140 : True := trivial
theorem tw514524204391634707 : True := trivial
theorem tw12591642956297867066 : True := trivial
theorem tw9314236620347090449 : True := trivial
theorem tw5353499294292490257 : True := trivial
theorem tw303860738745616968 : True := trivial
theorem tw1111047884043125707 : True := trivial
theorem tw8346878876119363257 : True := trivial
theorem tw3366744186839155990 : True := trivial
theorem tw7832609835321036317 : True := trivial
theorem tw5566578392769684866 : True := trivial
theorem tw9959220399844979891 : True := trivial
theorem tw2744438360814385516 : True := trivial
theorem tw9000769856007257583 : True := trivial
theorem tw5610877496656634247 : True := trivial
theorem tw2108235006913201358 : True := trivial
theorem tw5360504783534093564 : True := trivial
theorem tw12868326213494864863 : True := trivial
theorem tw993930245418374943 : True := trivial
theorem tw2528139312301253709 : True := trivial
theorem tw7746072925966106846 : True := trivial
theorem tw8419533081730867688 : True := trivial
theorem tw8971507808031472327 : True := trivial
theorem tw6330647655764543414 : True := trivial
theorem tw10620066580513535508 : True := trivial
theorem tw1005764389594176586 : True := trivial
theorem tw12296855659863520566 : True := trivial
theorem tw1259196831616937741 : True := trivial
theorem tw17737786530901213139 : True := trivial
theorem tw14527653498978709485 : True := trivial
theorem tw11212723717164395910 : True := trivial
theorem tw8428026263323094952 : True := trivial
theorem tw11452015805921632917 : True := trivial
theorem tw11177666953352714530 : True := trivial
theorem tw17960571428420845268 : True := trivial
theorem tw13575025011966416217 : True := trivial
theorem tw17675166526024633534 : True := trivial
theorem tw14532985857122359767 : True := trivial
theorem tw17032280198928964139 : True := trivial
theorem tw11071947710836841577 : True := trivial
theorem tw5833565942517546921 : True := trivial
theorem tw10754406965981813138 : True := trivial
theorem tw10869933743601843960 : True := trivial
theorem tw14874496446973066221 : True := trivial
theorem tw9903975382852453936 : True := trivial
theorem tw11265881897822669317 : True := trivial
theorem tw9586403040094821317 : True := trivial
theorem tw2593642202092330262 : True := trivial
theorem tw11429133291649417662 : True := trivial
theorem tw5404109715468456391 : True := trivial
theorem tw7592610531208388450 : True := trivial
theorem tw8076369610542200490 : True := trivial
theorem tw17483296269400297854 : True := trivial
theorem tw12112868352150840836 : True := trivial
theorem tw4017973153434681121 : True := trivial
theorem tw16471511379686632382 : True := trivial
theorem tw3491730684945878436 : True := trivial
theorem tw3738535257150606346 : True := trivial
theorem tw13494935236670139168 : True := trivial
theorem tw13742845890837538876 : True := trivial
theorem tw7100078109094343181 : True := trivial
theorem tw2510068852341959095 : True := trivial
theorem tw4133553673727977676 : True := trivial
theorem tw4449377212881593411 : True := trivial
theorem tw1589977432556971626 : True := trivial
theorem tw3786605904491700034 : True := trivial
theorem tw17455511136957487662 : True := trivial
theorem tw6153971168331990355 : True := trivial
theorem tw5431250311596533628 : True := trivial
theorem tw15302420676653405028 : True := trivial
theorem tw2278385919378466460 : True := trivial
theorem tw2633300763335913607 : True := trivial
theorem tw6465964337409549311 : True := trivial
theorem tw12302576968787776477 : True := trivial
theorem tw8511530629406773634 : True := trivial
theorem tw15373991939166394684 : True := trivial
theorem tw5492935584874852888 : True := trivial
theorem tw3194170488694493038 : True := trivial
theorem tw5124422501766659270 : True := trivial
theorem tw17401289281853516937 : True := trivial
theorem tw8800810559586710964 : True := trivial
theorem tw11831466898946699719 : True := trivial
theorem tw18038625040402813685 : True := trivial
theorem tw11997062669771049992 : True := trivial
theorem tw44219217907495543 : True := trivial
theorem tw9105799480408704614 : True := trivial
theorem tw278720010299546479 : True := trivial
theorem tw9803514412875629385 : True := trivial
theorem tw15222476177775460004 : True := trivial
theorem tw14846102007951617616 : True := trivial
theorem tw11353403308676276037 : True := trivial
theorem tw14028115029401173980 : True := trivial
theorem tw8359726841663707747 : True := trivial
theorem tw3131122348577024898 : True := trivial
theorem tw3309328582748513803 : True := trivial
theorem tw7864403019925249441 : True := trivial
theorem tw15745317935931424826 : True := trivial
theorem tw1535493863117175445 : True := trivial
theorem tw10280298158941723869 : True := trivial
theorem tw8913721734908335303 : True := trivial
theorem tw7465989746725727578 : True := trivial
theorem tw14414095139664210631 : True := trivial
theorem tw12528021067542317919 : True := trivial
theorem tw1346358115525174776 : True := trivial
theorem tw2138195842416489669 : True := trivial
theorem tw15620692694324207350 : True := trivial
theorem tw2915818745102564382 : True := trivial
theorem tw11612018752077720499 : True := trivial
theorem tw8552815421094330585 : True := trivial
theorem tw3333101854809931828 : True := trivial
theorem tw9636989957227896169 : True := trivial
theorem tw7635268504827968071 : True := trivial
theorem tw17617575772876524244 : True := trivial
theorem tw9391795067708721093 : True := trivial
theorem tw15818052127476203746 : True := trivial
theorem tw11600663007283053350 : True := trivial
theorem tw14497431999526588067 : True := trivial
theorem tw7248929594925814294 : True := trivial
theorem tw12784625478659788036 : True := trivial
theorem tw8584072381173872800 : True := trivial
theorem tw11591261278752107946 : True := trivial
theorem tw2306211379150817451 : True := trivial
theorem tw14391415869973956162 : True := trivial
theorem tw16285607805258198237 : True := trivial
theorem tw798414722067778210 : True := trivial
theorem tw10654596440603813420 : True := trivial
theorem tw8626745977718870279 : True := trivial
theorem tw2576254011338265009 : True := trivial
theorem tw11741116935656897320 : True := trivial
theorem tw9326218009702822851 : True := trivial
theorem tw16402589715351782080 : True := trivial
theorem tw1355813434006377055 : True := trivial
theorem tw17803302478808314499 : True := trivial
theorem tw5781161549744022581 : True := trivial
theorem tw15614869024294143611 : True := trivial
theorem tw5982338507020346584 : True := trivial
theorem tw5826606154556473841 : True := trivial
theorem tw6024944881425394055 : True := trivial
theorem tw18250021022402610380 : True := trivial
theorem tw4574787119277334957 : True := trivial
theorem tw6449285869764805196 : True := trivial
theorem tw15578315350652039351 : True := trivial
theorem tw17894168045987172906 : True := trivial
theorem tw14388630493662083767 : True := trivial
theorem tw5280821055147801072 : True := trivial
theorem tw9394211054228719811 : True := trivial
theorem tw10285358805521199896 : True := trivial
theorem tw8704593807672921127 : True := trivial
theorem tw11478739317477969701 : True := trivial
theorem tw8848400109651391513 : True := trivial
theorem tw9008044420858110142 : True := trivial
theorem tw10308547953662540243 : True := trivial
theorem tw10103222018410425116 : True := trivial
theorem tw14248975366407274912 : True := trivial
theorem tw1607889587085131308 : True := trivial
theorem tw15429563584572929214 : True := trivial
theorem tw17132607359245077387 : True := trivial
theorem tw5134147585083241662 : True := trivial
theorem tw668342702161216197 : True := trivial
theorem tw361116187117952162 : True := trivial
theorem tw6648407537289459527 : True := trivial
theorem tw8025915291157940800 : True := trivial
theorem tw9493513931037668876 : True := trivial
theorem tw11543904323312965968 : True := trivial
theorem tw17913169738340062113 : True := trivial
theorem tw10269862306168888439 : True := trivial
theorem tw15243793213262137754 : True := trivial
theorem tw2453047417672988810 : True := trivial
theorem tw8598021184818490360 : True := trivial
theorem tw14885288302760475395 : True := trivial
theorem tw10389413154945087345 : True := trivial
theorem tw17145141561555654977 : True := trivial
theorem tw4519020851525049975 : True := trivial
theorem tw9906976847457791658 : True := trivial
theorem tw169957331091114106 : True := trivial
theorem tw10810804623444253130 : True := trivial
theorem tw14931029519942910769 : True := trivial
theorem tw10033234615113540370 : True := trivial
theorem tw13563627298847653286 : True := trivial
theorem tw17037546454563016429 : True := trivial
theorem tw16147327409209469071 : True := trivial
theorem tw15966444779730925665 : True := trivial
theorem tw16412286937929885724 : True := trivial
theorem tw2882378988865402007 : True := trivial
theorem tw5690063286706818818 : True := trivial
theorem tw11360989965337405535 : True := trivial
theorem tw6980758674732223757 : True := trivial
theorem tw10496426249202333674 : True := trivial
theorem tw17327161200986340378 : True := trivial
theorem tw5285099350804122695 : True := trivial
theorem tw4875238738106039972 : True := trivial
theorem tw17225007741862777441 : True := trivial
theorem tw12777623978007046191 : True := trivial
theorem tw784802002079497155 : True := trivial
theorem tw2044509016985564338 : True := trivial
theorem tw2285492552938993394 : True := trivial
theorem tw4860858733472646623 : True := trivial
theorem tw11621072713025616881 : True := trivial
theorem tw11114176936420683696 : True := trivial
theorem tw4311073914891693296 : True := trivial
theorem tw6032280251752393498 : True := trivial
theorem tw5389188369837166077 : True := trivial
theorem tw15412628661307611532 : True := trivial
theorem tw3492293741308229830 : True := trivial
theorem tw9023251518922685404 : True := trivial
theorem tw17266706769300307565 : True := trivial
theorem tw2298798519400211336 : True := trivial
theorem tw17932124511369416847 : True := trivial
theorem tw14425283498567622345 : True := trivial
theorem tw9821933265091845128 : True := trivial
theorem tw2296234576965638347 : True := trivial
theorem tw16667677662843312741 : True := trivial
theorem tw4600664400035348645 : True := trivial
theorem tw364405022718982137 : True := trivial
theorem tw621425157516399034 : True := trivial
theorem tw10464831644375501554 : True := trivial
theorem tw16511664464736006909 : True := trivial
theorem tw11891967484474940773 : True := trivial
theorem tw7999183418708998996 : True := trivial
theorem tw6091520438369165820 : True := trivial
theorem tw5928043775100783694 : True := trivial
theorem tw5398044493341454680 : True := trivial
theorem tw11454110629186041764 : True := trivial
theorem tw15955954433555036160 : True := trivial
theorem tw17347391491173952960 : True := trivial
theorem tw18092168615481494260 : True := trivial
theorem tw5006374877191795501 : True := trivial
theorem tw1306667453245667419 : True := trivial
theorem tw10742473051448750746 : True := trivial
theorem tw14300682511944276305 : True := trivial
theorem tw10017856813693522354 : True := trivial
theorem tw12584971377394607320 : True := trivial
theorem tw8795020005167450313 : True := trivial
theorem tw14668804358715010981 : True := trivial
theorem tw12393387753285344558 : True := trivial
theorem tw3992940502670426566 : True := trivial
theorem tw2168949697466112766 : True := trivial
theorem tw13590416388133717256 : True := trivial
theorem tw15279822225989204173 : True := trivial
theorem tw9206931574306027902 : True := trivial
theorem tw1697838374146205528 : True := trivial
theorem tw4929306355034045732 : True := trivial
theorem tw10468228489474977644 : True := trivial
theorem tw15244168260667957184 : True := trivial
theorem tw8550481563442523281 : True := trivial
theorem tw9184185026492487266 : True := trivial
theorem tw4191854344998768480 : True := trivial
theorem tw9796805159458444748 : True := trivial
theorem tw5594272826481655065 : True := trivial
theorem tw4192724649591067600 : True := trivial
theorem tw15599508639362381038 : True := trivial
theorem tw1583124956653582355 : True := trivial
theorem tw16322169115435436552 : True := trivial
theorem tw7590954940431407102 : True := trivial
theorem tw1033754634557217907 : True := trivial
theorem tw15374317461749752356 : True := trivial
theorem tw7440040675775819299 : True := trivial
theorem tw14063570798321639940 : True := trivial
theorem tw3914953076045681215 : True := trivial
theorem tw8046244324460647032 : True := trivial
theorem tw11955902977428792541 : True := trivial
theorem tw6763358229648636188 : True := trivial
theorem tw15120759813164734687 : True := trivial
theorem tw7654879642395122032 : True := trivial
theorem tw1337819519025535849 : True := trivial
theorem tw109876056273148583 : True := trivial
theorem tw10669770732943752457 : True := trivial
theorem tw16130568773606933814 : True := trivial
theorem tw5706566670570317298 : True := trivial
theorem tw16055553872697039365 : True := trivial
theorem tw9235770342556344005 : True := trivial
theorem tw9636211495703307402 : True := trivial
theorem tw3373373473485434707 : True := trivial
theorem tw14153409618094950773 : True := trivial
theorem tw8981784468119641636 : True := trivial
theorem tw15681150401449236999 : True := trivial
theorem tw4414044152069889106 : True := trivial
theorem tw4622551963853418001 : True := trivial
theorem tw2503242692290221796 : True := trivial
theorem tw9065066049619850566 : True := trivial
theorem tw9118786442437308574 : True := trivial
theorem tw1748561865116129029 : True := trivial
theorem tw11414627010264520435 : True := trivial
theorem tw5204618960110254682 : True := trivial
theorem tw2733961713417915600 : True := trivial
theorem tw11886341712528427677 : True := trivial
theorem tw5198060177665464335 : True := trivial
theorem tw10460452096640222484 : True := trivial
theorem tw6477446215255449592 : True := trivial
theorem tw7641820574344351437 : True := trivial
theorem tw10196015164153903080 : True := trivial
theorem tw11598369276249796329 : True := trivial
theorem tw13675066754359731715 : True := trivial
theorem tw3018241669084423986 : True := trivial
theorem tw13141163203916564150 : True := trivial
theorem tw2026916423127648076 : True := trivial
theorem tw3345923631182740064 : True := trivial
theorem tw3207958024181194824 : True := trivial
theorem tw10645105474917829043 : True := trivial
theorem tw2762014477135283226 : True := trivial
theorem tw6054798294915416739 : True := trivial
theorem tw1848976396968743722 : True := trivial
theorem tw5054446920321096508 : True := trivial
theorem tw5494273922638340898 : True := trivial
theorem tw15227482125492948325 : True := trivial
theorem tw9684971896442732172 : True := trivial
theorem tw16865938637833096662 : True := trivial
theorem tw9365496551170902936 : True := trivial
theorem tw17064699996898463501 : True := trivial
theorem tw776530711543323871 : True := trivial
theorem tw10545200702158229176 : True := trivial
theorem tw4597653911803633815 : True := trivial
theorem tw13360070768766715049 : True := trivial
theorem tw1227990742334256613 : True := trivial
theorem tw17727953701766421906 : True := trivial
theorem tw16831114337063412954 : True := trivial
theorem tw13664270241501872093 : True := trivial
theorem tw12730619670536764734 : True := trivial
theorem tw8602820959024868594 : True := trivial
theorem tw7308599018348894919 : True := trivial
theorem tw11614025252837394405 : True := trivial
theorem tw3690131073975784289 : True := trivial
theorem tw9114657403233823845 : True := trivial
theorem tw3571993304715579745 : True := trivial
theorem tw17926500905208765053 : True := trivial
theorem tw3008869496976120778 : True := trivial
theorem tw14383045709637659606 : True := trivial
theorem tw16000859506433589742 : True := trivial
theorem tw16864047979283993421 : True := trivial
theorem tw14491088268127679869 : True := trivial
theorem tw15184850503427242237 : True := trivial
theorem tw15388376649424595962 : True := trivial
theorem tw1624023665751672239 : True := trivial
theorem tw5771495027391528870 : True := trivial
theorem tw17352723082924677015 : True := trivial
theorem tw942244625327910786 : True := trivial
theorem tw12216683499417621808 : True := trivial
theorem tw15643838034471053526 : True := trivial
theorem tw483846260034974886 : True := trivial
theorem tw2892833193509278657 : True := trivial
theorem tw14813617504408992630 : True := trivial
theorem tw14132823098720206957 : True := trivial
theorem tw2299539339233813102 : True := trivial
theorem tw12514638434053365731 : True := trivial
theorem tw13399498539054985435 : True := trivial
theorem tw8981430730749048692 : True := trivial
theorem tw916944295778298154 : True := trivial
theorem tw8608652585918459954 : True := trivial
theorem tw3251078760074747382 : True := trivial
theorem tw10957329913225464701 : True := trivial
theorem tw17907688388863883228 : True := trivial
theorem tw9097597355103777138 : True := trivial
theorem tw15464163084634158224 : True := trivial
theorem tw16587157971275557259 : True := trivial
theorem tw14292262743526710089 : True := trivial
theorem tw5634766488415971435 : True := trivial
theorem tw18139771747434718667 : True := trivial
theorem tw11776348938467868234 : True := trivial
theorem tw15993136772043850960 : True := trivial
theorem tw6544365489009437279 : True := trivial
theorem tw8121572491117056929 : True := trivial
theorem tw2117079283104337979 : True := trivial
theorem tw15334153328537119970 : True := trivial
theorem tw6572556444775578052 : True := trivial
theorem tw14261629848416429765 : True := trivial
theorem tw1799218898319833015 : True := trivial
theorem tw5788548788769465649 : True := trivial
theorem tw1763480628180547431 : True := trivial
theorem tw17130122943851534998 : True := trivial
theorem tw2323103086286380363 : True := trivial
theorem tw3324424225250654287 : True := trivial
theorem tw15831105735723085315 : True := trivial
theorem tw11062343741442340808 : True := trivial
theorem tw13038521764565796224 : True := trivial
theorem tw10564907252847202514 : True := trivial
theorem tw4218356150910572234 : True := trivial
theorem tw12684142956489207691 : True := trivial
theorem tw13828113176675358919 : True := trivial
theorem tw2470776097732189184 : True := trivial
theorem tw16076210937416594381 : True := trivial
theorem tw529965718721674937 : True := trivial
theorem tw9661614788653120513 : True := trivial
theorem tw6050413491255516011 : True := trivial
theorem tw5272827030834898259 : True := trivial
theorem tw6452966813049007042 : True := trivial
theorem tw10887868556577229200 : True := trivial
theorem tw11568947892695810692 : True := trivial
theorem tw44663322308684755 : True := trivial
theorem tw1299237808809830308 : True := trivial
theorem tw3329971448312280318 : True := trivial
theorem tw9141140110051847748 : True := trivial
theorem tw13713491290213075884 : True := trivial
theorem tw1155590015208595010 : True := trivial
theorem tw12331165493849776062 : True := trivial
theorem tw18445667795730617823 : True := trivial
theorem tw25322195159628181 : True := trivial
theorem tw5721122291428420224 : True := trivial
theorem tw11781400153273872423 : True := trivial
theorem tw7402971643168730420 : True := trivial
theorem tw17476056470095200204 : True := trivial
theorem tw4228250897239054467 : True := trivial
theorem tw17214760753363928008 : True := trivial
theorem tw2188486709347283662 : True := trivial
theorem tw1960926225276266719 : True := trivial
theorem tw2361080678916827614 : True := trivial
theorem tw9360652788301800366 : True := trivial
theorem tw7453327099269152466 : True := trivial
theorem tw15396045190972860100 : True := trivial
theorem tw12918127667120237565 : True := trivial
theorem tw15467652737397798522 : True := trivial
theorem tw10144536617218944229 : True := trivial
theorem tw12151591656277898970 : True := trivial
theorem tw5172397221662172179 : True := trivial
theorem tw3588339147883107888 : True := trivial
theorem tw17397244071857195555 : True := trivial
theorem tw8964951375662072023 : True := trivial
theorem tw14735205720822894613 : True := trivial
theorem tw1896731041494607844 : True := trivial
theorem tw10433088967128951338 : True := trivial
theorem tw13683368222352874570 : True := trivial
theorem tw10722889872187444763 : True := trivial
theorem tw11899133894535561081 : True := trivial
theorem tw7509128012341077269 : True := trivial
theorem tw6274686518973402860 : True := trivial
theorem tw9558039073170976371 : True := trivial
theorem tw3065115976902650617 : True := trivial
theorem tw10084877516186722132 : True := trivial
theorem tw9146337094595788518 : True := trivial
theorem tw7737775934534515547 : True := trivial
theorem tw17770779272437573343 : True := trivial
theorem tw5719801214344775339 : True := trivial
theorem tw1019969698217006345 : True := trivial
theorem tw7168044396469232685 : True := trivial
theorem tw13409594383991618017 : True := trivial
theorem tw2105725060398431202 : True := trivial
theorem tw10579367392502682201 : True := trivial
theorem tw4515847011563329668 : True := trivial
theorem tw9486606158225536577 : True := trivial
theorem tw10900714897074757701 : True := trivial
theorem tw14522431543813797100 : True := trivial
theorem tw10389558501657220275 : True := trivial
theorem tw1130595670347465394 : True := trivial
theorem tw10057462609625077293 : True := trivial
theorem tw14186260123739796475 : True := trivial
theorem tw5913679102905745551 : True := trivial
theorem tw17160386013953281320 : True := trivial
theorem tw12462106587787356415 : True := trivial
theorem tw16219008521214570590 : True := trivial
theorem tw1019785128751304613 : True := trivial
theorem tw18401412180400020672 : True := trivial
theorem tw10124069357788370584 : True := trivial
theorem tw5175955098925816210 : True := trivial
theorem tw16251100412213241862 : True := trivial
theorem tw10009386494890265765 : True := trivial
theorem tw13852294827547438223 : True := trivial
theorem tw1806155344728961882 : True := trivial
theorem tw13828786122017394413 : True := trivial
theorem tw12237806314333533878 : True := trivial
theorem tw2939354682078062826 : True := trivial
theorem tw9173282541253453869 : True := trivial
theorem tw7302101229034611280 : True := trivial
theorem tw11492985326423700679 : True := trivial
theorem tw18252631940977158579 : True := trivial
theorem tw18171405843149806025 : True := trivial
theorem tw2045243117639514940 : True := trivial
theorem tw18304162175629368101 : True := trivial
theorem tw9736374226520502490 : True := trivial
theorem tw5760643199856982986 : True := trivial
theorem tw5333929813544691757 : True := trivial
theorem tw15034185557099737247 : True := trivial
theorem tw2162997053116689731 : True := trivial
theorem tw5655577812043873262 : True := trivial
theorem tw2975289687583131887 : True := trivial
theorem tw9121541096369623419 : True := trivial
theorem tw13366215569162494316 : True := trivial
theorem tw18052825073014953037 : True := trivial
theorem tw12636273689871697791 : True := trivial
theorem tw6426053271251850215 : True := trivial
theorem tw3439795359310113823 : True := trivial
theorem tw8882101931079772684 : True := trivial
theorem tw12575645596696738744 : True := trivial
theorem tw16920390069099789778 : True := trivial
theorem tw6221735126049018096 : True := trivial
theorem tw3464448397999332974 : True := trivial
theorem tw4798285742145098531 : True := trivial
theorem tw11769657701339553527 : True := trivial
theorem tw1538723510624304472 : True := trivial
theorem tw9694144917273317375 : True := trivial
theorem tw7719484573946258710 : True := trivial
theorem tw8945848460597315535 : True := trivial
theorem tw11656826820012073921 : True := trivial
theorem tw15122406684096369191 : True := trivial
theorem tw12573906050989611703 : True := trivial
theorem tw18401681250605618708 : True := trivial
theorem tw980812389862437234 : True := trivial
theorem tw15368179066222902820 : True := trivial
theorem tw8651040986764067301 : True := trivial
theorem tw17487975253600492715 : True := trivial
theorem tw7486984936729425002 : True := trivial
theorem tw14403414289001043374 : True := trivial
theorem tw4989137488767337347 : True := trivial
theorem tw7657207452967296077 : True := trivial
theorem tw9599965732064177480 : True := trivial
theorem tw11248582949340503817 : True := trivial
theorem tw11112009800242492179 : True := trivial
theorem tw17222675173364093172 : True := trivial
theorem tw8366643418586515905 : True := trivial
theorem tw10612497706207927941 : True := trivial
theorem tw13861104218898881555 : True := trivial
theorem tw12974576942746647468 : True := trivial
theorem tw12104766338274666736 : True := trivial
theorem tw16742085655614311006 : True := trivial
theorem tw34302959674176439 : True := trivial
theorem tw10540607079871718924 : True := trivial
theorem tw1355171922400748005 : True := trivial
theorem tw13343626548203222250 : True := trivial
theorem tw2303809902852803318 : True := trivial
theorem tw12756417164246942741 : True := trivial
theorem tw1058428152979983921 : True := trivial
theorem tw8658831657641055052 : True := trivial
theorem tw4036663881406609117 : True := trivial
theorem tw7697415887336856624 : True := trivial
theorem tw5791937970209491392 : True := trivial
theorem tw466467772288310963 : True := trivial
theorem tw6380728995796293985 : True := trivial
theorem tw5458197078166328889 : True := trivial
theorem tw17194948609551628536 : True := trivial
theorem tw12970493027077112090 : True := trivial
theorem tw12727297897608591379 : True := trivial
theorem tw1457154031083141721 : True := trivial
theorem tw17586499540888840852 : True := trivial
theorem tw12726615297896042081 : True := trivial
theorem tw4465202264047650007 : True := trivial
theorem tw5522551086161338895 : True := trivial
theorem tw8342857225386132649 : True := trivial
theorem tw18389117147046671818 : True := trivial
theorem tw8739105948351947416 : True := trivial
theorem tw8857717235112780347 : True := trivial
theorem tw11929232505159310272 : True := trivial
theorem tw14435763497669191487 : True := trivial
theorem tw14963778853315510757 : True := trivial
theorem tw2147091810088531919 : True := trivial
theorem tw7267868569355906294 : True := trivial
theorem tw7638443191269465606 : True := trivial
theorem tw17734660573979984121 : True := trivial
theorem tw11201799332189106889 : True := trivial
theorem tw9976246639976658557 : True := trivial
theorem tw4199372906254886677 : True := trivial
end PySem.W.Fast
open PySem PySem.W PyProof.Rows
set_option maxRecDepth 100000 in
set_option maxHeartbeats 0 in
theorem PySem.Challenge.cw_tribunal_k32_lines_of_events_holds : PySem.Challenge.rw_tribunal_k32_lines_of_events.Holds := by
  w_on; o_law; k_head; (case hw => w_witness2)
  k_fill
  refine Toy.walk (l := PySem.Challenge.rw_tribunal_k32_lines_of_events) rfl rfl (fun w h Y => PySem.W.kIn_of Y) ?F
  case F =>
    intro w mg fa h KX G hmg
    refine' Toy.all_mk KX G hmg ?c_SIGNS ?c_DIGITS ?c_LETTERS ?c_BLOCK_SIGNS ?c_NONE ?c_MOST_DIGITS_wire ?c_MOST_SIGNS ?c_MOST_DIGITS_commands ?c_CODE_END ?n_len ?n_range ?n_isinstance ?n_int ?n_bool ?n_list ?n_tuple ?n_str ?n_zip ?n_enumerate ?n_max ?n_abs ?n_super ?n_ValueError ?n_all ?g_Reader ?a_proposal ?l_proposal ?q_proposal ?k_proposal ?a_prevote ?l_prevote ?q_prevote ?k_prevote ?a_precommit ?l_precommit ?q_precommit ?k_precommit ?a_is_number ?l_is_number ?q_is_number ?k_is_number ?a_is_block ?l_is_block ?q_is_block ?k_is_block ?a_word_at ?l_word_at ?q_word_at ?k_word_at ?a_number_at ?l_number_at ?q_number_at ?k_number_at ?a_kind_at ?l_kind_at ?q_kind_at ?k_kind_at ?a_block_at ?l_block_at ?q_block_at ?k_block_at ?a_lean_at ?l_lean_at ?q_lean_at ?k_lean_at ?a_end_at ?l_end_at ?q_end_at ?k_end_at ?a_read_letter ?l_read_letter ?q_read_letter ?k_read_letter ?a_word ?l_word ?q_word ?k_word ?a_letter_line ?l_letter_line ?q_letter_line ?k_letter_line ?a_command_text ?l_command_text ?q_command_text ?k_command_text ?a_Reader_init ?i_Reader_init ?l_Reader_init ?q_Reader_init ?k_Reader_init ?a_Reader_read_signs ?i_Reader_read_signs ?l_Reader_read_signs ?q_Reader_read_signs ?k_Reader_read_signs ?a_Reader_skip ?i_Reader_skip ?l_Reader_skip ?q_Reader_skip ?k_Reader_skip ?a_Reader_read_number ?i_Reader_read_number ?l_Reader_read_number ?q_Reader_read_number ?k_Reader_read_number ?a_Reader_read_code ?i_Reader_read_code ?l_Reader_read_code ?q_Reader_read_code ?k_Reader_read_code ?a_Reader_read_command ?i_Reader_read_command ?l_Reader_read_command ?q_Reader_read_command ?k_Reader_read_command ?a_commands_of ?l_commands_of ?q_commands_of ?k_commands_of ?a_law_cell ?l_law_cell ?q_law_cell ?k_law_cell ?a_law_row ?l_law_row ?q_law_row ?k_law_row ?a_law_number ?l_law_number ?q_law_number ?k_law_number ?a_law_code ?l_law_code ?q_law_code ?k_law_code ?a_law_place ?l_law_place ?q_law_place ?k_law_place ?a_law_command ?l_law_command ?q_law_command ?k_law_command ?a_law_text ?l_law_text ?q_law_text ?k_law_text ?a_read_number ?l_read_number ?q_read_number ?k_read_number ?a_u_read_letter ?l_u_read_letter ?q_u_read_letter ?k_u_read_letter ?a_read_command ?l_read_command ?q_read_command ?k_read_command ?a_event_line ?l_event_line ?q_event_line ?k_event_line ?a_read_event ?l_read_event ?q_read_event ?k_read_event ?a_law_is_integer ?l_law_is_integer ?q_law_is_integer ?k_law_is_integer ?a_law_statement ?l_law_statement ?q_law_statement ?k_law_statement ?a_law_event ?l_law_event ?q_law_event ?k_law_event ?a_law_line ?l_law_line ?q_law_line ?k_law_line ?a_law_changed ?l_law_changed ?q_law_changed ?k_law_changed ?a_law_reads ?l_law_reads ?q_law_reads ?k_law_reads ?a_law_long ?l_law_long ?q_law_long ?k_law_long ?a_law ?l_law ?q_law ?k_law ?pg_Reader ?hd_Reader ?po_Reader ?sa_Reader ?mk_Reader ?kc_Reader ?no_Reader_text ?no_Reader_at ?g_MARKS ?l_MARKS ?kl_MARKS ?lo_MARKS ?l_MARKS_p ?l_MARKS_w ?l_MARKS_d ?l_MARKS_k ?g_BadCommand ?x_BadCommand ?kc_BadCommand ?b_BadCommand ?t_BadCommand ?xga_BadCommand ?xgt_BadCommand ?xhd_BadCommand ?xcc_BadCommand ?xsp_BadCommand ?xtk_BadCommand ?xmo_BadCommand ?te1_BadCommand ?te2_BadCommand ?te3_BadCommand ?te4_BadCommand_BadCommand ?g_BadLine ?lc_BadLine ?rb_BadLine ?sa_BadLine ?eb_BadLine ?ty_BadLine ?kc_BadLine ?a_BadLine_init ?tI_BadLine_init ?l_BadLine_init ?q_BadLine_init ?ce_BadLine_init ?co_BadLine_init ?v2_BadLine_init ?fi_BadLine_init ?su_BadLine ?op_BadLine ?sv_BadLine ?mc_BadLine ?nf_BadLine ?ts_BadLine ?xga_BadLine ?xgt_BadLine ?xhd_BadLine ?xcc_BadLine ?xsp_BadLine ?xtk_BadLine ?xmo_BadLine ?g_BadScript ?lc_BadScript ?rb_BadScript ?sa_BadScript ?eb_BadScript ?ty_BadScript ?kc_BadScript ?a_BadScript_init ?tI_BadScript_init ?l_BadScript_init ?q_BadScript_init ?ce_BadScript_init ?co_BadScript_init ?v2_BadScript_init ?fi_BadScript_init ?su_BadScript ?op_BadScript ?sv_BadScript ?mc_BadScript ?nf_BadScript ?ts_BadScript ?xga_BadScript ?xgt_BadScript ?xhd_BadScript ?xcc_BadScript ?xsp_BadScript ?xtk_BadScript ?xmo_BadScript ?g_KINDS ?l_KINDS ?te1_BadLine ?te2_BadLine ?te3_BadLine ?te4_BadLine_BadLine ?g_NUMBERED ?l_NUMBERED ?kl_NUMBERED ?lo_NUMBERED ?g_TribunalError ?te1_TribunalError ?te2_TribunalError ?te3_TribunalError ?te4_TribunalError_BadScript ?te1_BadScript ?te2_BadScript ?te3_BadScript ?te4_BadScript_BadScript ?kta_BadScript_BadCommand_BadLine ?kt_BadScript_BadScript
    (case c_SIGNS => k_is)
    (case c_DIGITS => k_is)
    (case c_LETTERS => k_is)
    (case c_BLOCK_SIGNS => k_is)
    (case c_NONE => k_is)
    (case c_MOST_DIGITS_wire => k_is)
    (case c_MOST_SIGNS => k_is)
    (case c_MOST_DIGITS_commands => k_is)
    (case c_CODE_END => k_is)
    (case n_len => k_is)
    (case n_range => k_is)
    (case n_isinstance => k_is)
    (case n_int => k_is)
    (case n_bool => k_is)
    (case n_list => k_is)
    (case n_tuple => k_is)
    (case n_str => k_is)
    (case n_zip => k_is)
    (case n_enumerate => k_is)
    (case n_max => k_is)
    (case n_abs => k_is)
    (case n_super => k_is)
    (case n_ValueError => k_is)
    (case n_all => k_is)
    (case g_Reader => k_is)
    (case a_proposal => k_is)
    (case l_proposal => k_is)
    (case q_proposal => k_is)
    (case k_proposal => k_is)
    (case a_prevote => k_is)
    (case l_prevote => k_is)
    (case q_prevote => k_is)
    (case k_prevote => k_is)
    (case a_precommit => k_is)
    (case l_precommit => k_is)
    (case q_precommit => k_is)
    (case k_precommit => k_is)
    (case a_is_number => k_is)
    (case l_is_number => k_is)
    (case q_is_number => k_is)
    (case k_is_number => k_is)
    (case a_is_block => k_is)
    (case l_is_block => k_is)
    (case q_is_block => k_is)
    (case k_is_block => k_is)
    (case a_word_at => k_is)
    (case l_word_at => k_is)
    (case q_word_at => k_is)
    (case k_word_at => k_is)
    (case a_number_at => k_is)
    (case l_number_at => k_is)
    (case q_number_at => k_is)
    (case k_number_at => k_is)
    (case a_kind_at => k_is)
    (case l_kind_at => k_is)
    (case q_kind_at => k_is)
    (case k_kind_at => k_is)
    (case a_block_at => k_is)
    (case l_block_at => k_is)
    (case q_block_at => k_is)
    (case k_block_at => k_is)
    (case a_lean_at => k_is)
    (case l_lean_at => k_is)
    (case q_lean_at => k_is)
    (case k_lean_at => k_is)
    (case a_end_at => k_is)
    (case l_end_at => k_is)
    (case q_end_at => k_is)
    (case k_end_at => k_is)
    (case a_read_letter => k_is)
    (case l_read_letter => k_is)
    (case q_read_letter => k_is)
    (case k_read_letter => k_is)
    (case a_word => k_is)
    (case l_word => k_is)
    (case q_word => k_is)
    (case k_word => k_is)
    (case a_letter_line => k_is)
    (case l_letter_line => k_is)
    (case q_letter_line => k_is)
    (case k_letter_line => k_is)
    (case a_command_text => k_is)
    (case l_command_text => k_is)
    (case q_command_text => k_is)
    (case k_command_text => k_is)
    (case a_Reader_init => k_is)
    (case i_Reader_init => k_is)
    (case l_Reader_init => k_is)
    (case q_Reader_init => k_is)
    (case k_Reader_init => k_is)
    (case a_Reader_read_signs => k_is)
    (case i_Reader_read_signs => k_is)
    (case l_Reader_read_signs => k_is)
    (case q_Reader_read_signs => k_is)
    (case k_Reader_read_signs => k_is)
    (case a_Reader_skip => k_is)
    (case i_Reader_skip => k_is)
    (case l_Reader_skip => k_is)
    (case q_Reader_skip => k_is)
    (case k_Reader_skip => k_is)
    (case a_Reader_read_number => k_is)
    (case i_Reader_read_number => k_is)
    (case l_Reader_read_number => k_is)
    (case q_Reader_read_number => k_is)
    (case k_Reader_read_number => k_is)
    (case a_Reader_read_code => k_is)
    (case i_Reader_read_code => k_is)
    (case l_Reader_read_code => k_is)
    (case q_Reader_read_code => k_is)
    (case k_Reader_read_code => k_is)
    (case a_Reader_read_command => k_is)
    (case i_Reader_read_command => k_is)
    (case l_Reader_read_command => k_is)
    (case q_Reader_read_command => k_is)
    (case k_Reader_read_command => k_is)
    (case a_commands_of => k_is)
    (case l_commands_of => k_is)
    (case q_commands_of => k_is)
    (case k_commands_of => k_is)
    (case a_law_cell => k_is)
    (case l_law_cell => k_is)
    (case q_law_cell => k_is)
    (case k_law_cell => k_is)
    (case a_law_row => k_is)
    (case l_law_row => k_is)
    (case q_law_row => k_is)
    (case k_law_row => k_is)
    (case a_law_number => k_is)
    (case l_law_number => k_is)
    (case q_law_number => k_is)
    (case k_law_number => k_is)
    (case a_law_code => k_is)
    (case l_law_code => k_is)
    (case q_law_code => k_is)
    (case k_law_code => k_is)
    (case a_law_place => k_is)
    (case l_law_place => k_is)
    (case q_law_place => k_is)
    (case k_law_place => k_is)
    (case a_law_command => k_is)
    (case l_law_command => k_is)
    (case q_law_command => k_is)
    (case k_law_command => k_is)
    (case a_law_text => k_is)
    (case l_law_text => k_is)
    (case q_law_text => k_is)
    (case k_law_text => k_is)
    (case a_read_number => k_is)
    (case l_read_number => k_is)
    (case q_read_number => k_is)
    (case k_read_number => k_is)
    (case a_u_read_letter => k_is)
    (case l_u_read_letter => k_is)
    (case q_u_read_letter => k_is)
    (case k_u_read_letter => k_is)
    (case a_read_command => k_is)
    (case l_read_command => k_is)
    (case q_read_command => k_is)
    (case k_read_command => k_is)
    (case a_event_line => k_is)
    (case l_event_line => k_is)
    (case q_event_line => k_is)
    (case k_event_line => k_is)
    (case a_read_event => k_is)
    (case l_read_event => k_is)
    (case q_read_event => k_is)
    (case k_read_event => k_is)
    (case a_law_is_integer => k_is)
    (case l_law_is_integer => k_is)
    (case q_law_is_integer => k_is)
    (case k_law_is_integer => k_is)
    (case a_law_statement => k_is)
    (case l_law_statement => k_is)
    (case q_law_statement => k_is)
    (case k_law_statement => k_is)
    (case a_law_event => k_is)
    (case l_law_event => k_is)
    (case q_law_event => k_is)
    (case k_law_event => k_is)
    (case a_law_line => k_is)
    (case l_law_line => k_is)
    (case q_law_line => k_is)
    (case k_law_line => k_is)
    (case a_law_changed => k_is)
    (case l_law_changed => k_is)
    (case q_law_changed => k_is)
    (case k_law_changed => k_is)
    (case a_law_reads => k_is)
    (case l_law_reads => k_is)
    (case q_law_reads => k_is)
    (case k_law_reads => k_is)
    (case a_law_long => k_is)
    (case l_law_long => k_is)
    (case q_law_long => k_is)
    (case k_law_long => k_is)
    (case a_law => k_is)
    (case l_law => k_is)
    (case q_law => k_is)
    (case k_law => k_is)
    (case pg_Reader => k_is)
    (case hd_Reader => k_is)
    (case po_Reader => k_is)
    (case sa_Reader => k_is)
    (case mk_Reader => k_is)
    (case kc_Reader => k_is)
    (case no_Reader_text => k_is)
    (case no_Reader_at => k_is)
    (case g_MARKS => k_is)
    (case l_MARKS => k_is)
    (case kl_MARKS => exact ⟨⟨_, _, rfl, rfl⟩, ⟨_, _, rfl, rfl⟩, ⟨_, _, rfl, rfl⟩, ⟨_, _, rfl, rfl⟩, trivial⟩)
    (case lo_MARKS => exact rfl)
    (case l_MARKS_p => k_is)
    (case l_MARKS_w => k_is)
    (case l_MARKS_d => k_is)
    (case l_MARKS_k => k_is)
    (case g_BadCommand => k_is)
    (case x_BadCommand => k_exc)
    (case kc_BadCommand => k_is)
    (case b_BadCommand => k_is)
    (case t_BadCommand => k_is)
    (case xga_BadCommand => k_is)
    (case xgt_BadCommand => k_is)
    (case xhd_BadCommand => k_is)
    (case xcc_BadCommand => k_is)
    (case xsp_BadCommand => k_is)
    (case xtk_BadCommand => k_is)
    (case xmo_BadCommand => k_is)
    (case te1_BadCommand => k_is)
    (case te2_BadCommand => k_is)
    (case te3_BadCommand => k_is)
    (case te4_BadCommand_BadCommand => k_is)
    (case g_BadLine => k_is)
    (case lc_BadLine => k_is)
    (case rb_BadLine => decide +kernel)
    (case sa_BadLine => k_is)
    (case eb_BadLine => k_is)
    (case ty_BadLine => k_is)
    (case kc_BadLine => k_is)
    (case a_BadLine_init => k_is)
    (case tI_BadLine_init => k_is)
    (case l_BadLine_init => k_is)
    (case q_BadLine_init => k_is)
    (case ce_BadLine_init => k_is)
    (case co_BadLine_init => k_is)
    (case v2_BadLine_init => rfl)
    (case fi_BadLine_init => decide +kernel)
    (case su_BadLine => ks_is)
    (case op_BadLine => k_is)
    (case sv_BadLine => k_is)
    (case mc_BadLine => k_is)
    (case nf_BadLine => k_is)
    (case ts_BadLine => decide +kernel)
    (case xga_BadLine => k_is)
    (case xgt_BadLine => k_is)
    (case xhd_BadLine => k_is)
    (case xcc_BadLine => k_is)
    (case xsp_BadLine => k_is)
    (case xtk_BadLine => k_is)
    (case xmo_BadLine => k_is)
    (case g_BadScript => k_is)
    (case lc_BadScript => k_is)
    (case rb_BadScript => decide +kernel)
    (case sa_BadScript => k_is)
    (case eb_BadScript => k_is)
    (case ty_BadScript => k_is)
    (case kc_BadScript => k_is)
    (case a_BadScript_init => k_is)
    (case tI_BadScript_init => k_is)
    (case l_BadScript_init => k_is)
    (case q_BadScript_init => k_is)
    (case ce_BadScript_init => k_is)
    (case co_BadScript_init => k_is)
    (case v2_BadScript_init => rfl)
    (case fi_BadScript_init => decide +kernel)
    (case su_BadScript => ks_is)
    (case op_BadScript => k_is)
    (case sv_BadScript => k_is)
    (case mc_BadScript => k_is)
    (case nf_BadScript => k_is)
    (case ts_BadScript => decide +kernel)
    (case xga_BadScript => k_is)
    (case xgt_BadScript => k_is)
    (case xhd_BadScript => k_is)
    (case xcc_BadScript => k_is)
    (case xsp_BadScript => k_is)
    (case xtk_BadScript => k_is)
    (case xmo_BadScript => k_is)
    (case g_KINDS => k_is)
    (case l_KINDS => k_is)
    (case te1_BadLine => k_is)
    (case te2_BadLine => k_is)
    (case te3_BadLine => k_is)
    (case te4_BadLine_BadLine => k_is)
    (case g_NUMBERED => k_is)
    (case l_NUMBERED => k_is)
    (case kl_NUMBERED => exact ⟨⟨_, _, rfl, rfl⟩, ⟨_, _, rfl, rfl⟩, ⟨_, _, rfl, rfl⟩, ⟨_, _, rfl, rfl⟩, trivial⟩)
    (case lo_NUMBERED => exact rfl)
    (case g_TribunalError => k_is)
    (case te1_TribunalError => k_is)
    (case te2_TribunalError => k_is)
    (case te3_TribunalError => k_is)
    (case te4_TribunalError_BadScript => k_is)
    (case te1_BadScript => k_is)
    (case te2_BadScript => k_is)
    (case te3_BadScript => k_is)
    (case te4_BadScript_BadScript => k_is)
    (case kta_BadScript_BadCommand_BadLine => kit_is)
    (case kt_BadScript_BadScript => kit_is)
