import PyProof.Rows.All
import Wide.All
import OpenK.AllK
import Wide.FinOn
import HandS.ForMost
import HandS.IsInst
import HandS.TupLe
import HandS.Codes
import HandS.More
import HandS.Exc
import HandS.ExcOwn
import HandS.WordsExc
import HandS.ExcIs
import KE.KExcIs
import HandS.FStr
import HandS.Zip
import HandS.Star
import HandS.StrMore
import HandS.Text
import HandS.Walk
import HandS.Deep
import HandS.TryOnly
import KE.IntTextText
import KE.KUnpackStar
import KE.IntTextLaws
import KE.GoesMore
import KE.GoesEnum
import HandS.TupAny
import HandS.SetKeys
import HandS.SortKw
import KE.KMinBuiltin
import KE.KTupSum
import HandS.TupMul
import HandS.DictComp
import HandS.Dict
import HandS.Iter
import HandS.Replace
import HandS.HotCalls
import HandS.ExcInitHot
import PyProof.EqAt
import PyProof.EqKinds
import PyProof.Rows.SortShellAny
import HandS.ListItems
import HandS.OwnEq
import KE.KDictPairs
import PyProof.TupleOfGen
import HandS.NoneIn
import PySem.Challenge.RW_tribunal_k24_whole_nothing_from_nothing
set_option Elab.async false
set_option pp.maxSteps 300
set_option pp.deepTerms.threshold 6
set_option linter.all false
set_option maxRecDepth 100000
set_option maxHeartbeats 4000000
namespace Toy
open PySem L2
def top (i : Nat) : Stmt := PySem.Challenge.pw_tribunal_k24_whole_nothing_from_nothing.main.body.getD i (.Pass ⟨0, 0, 0, 0⟩)
abbrev s_Reader_init : Stmt := (inClass (top 27) 0)
abbrev s_Reader_read_signs : Stmt := (inClass (top 27) 5)
abbrev s_Reader_skip : Stmt := (inClass (top 27) 2)
abbrev s_Reader_read_number : Stmt := (inClass (top 27) 3)
abbrev s_Reader_read_code : Stmt := (inClass (top 27) 4)
abbrev s_Reader_read_command : Stmt := (inClass (top 27) 1)
abbrev s_commands_of : Stmt := (top 26)
abbrev s_Run_init : Stmt := (inClass (top 12) 0)
abbrev s_run : Stmt := (top 13)
abbrev s_plus : Stmt := (top 14)
abbrev s_minus : Stmt := (top 15)
abbrev s_times : Stmt := (top 16)
abbrev s_append_digit : Stmt := (top 17)
abbrev s_is_less : Stmt := (top 18)
abbrev s_is_equal : Stmt := (top 19)
abbrev s_Machine_init : Stmt := (inClass (top 21) 0)
abbrev s_Machine_push : Stmt := (inClass (top 21) 3)
abbrev s_Machine_take : Stmt := (inClass (top 21) 4)
abbrev s_Machine_push_number : Stmt := (inClass (top 21) 5)
abbrev s_Machine_combine : Stmt := (inClass (top 21) 6)
abbrev s_Machine_move : Stmt := (inClass (top 21) 7)
abbrev s_Machine_jump : Stmt := (inClass (top 21) 8)
abbrev s_Machine_settle : Stmt := (inClass (top 21) 9)
abbrev s_Machine_perform : Stmt := (inClass (top 21) 2)
abbrev s_Machine_finish : Stmt := (inClass (top 21) 1)
abbrev s_Ledger_init : Stmt := (inClass (top 34) 0)
abbrev s_first_ledger : Stmt := (top 35)
abbrev s_after_command : Stmt := (top 36)
abbrev s_done : Stmt := (top 37)
abbrev s_payment : Stmt := (top 38)
abbrev s_new_program : Stmt := (top 39)
abbrev s_call : Stmt := (top 40)
abbrev s_exist : Stmt := (top 41)
abbrev s_moved : Stmt := (top 42)
abbrev s_replaced : Stmt := (top 43)
abbrev s_first_wrong : Stmt := (top 32)
abbrev s_Committee_init : Stmt := (inClass (top 31) 0)
abbrev s_Chain_init : Stmt := (inClass (top 45) 0)
abbrev s_Chain_committee : Stmt := (inClass (top 45) 2)
abbrev s_Chain_extend : Stmt := (inClass (top 45) 3)
abbrev s_after_weight : Stmt := (top 46)
abbrev s_law_cell : Stmt := (top 48)
abbrev s_law_is_integer : Stmt := (top 49)
abbrev s_law_row : Stmt := (top 50)
abbrev s_law_number : Stmt := (top 51)
abbrev s_law_code : Stmt := (top 52)
abbrev s_law_place : Stmt := (top 53)
abbrev s_law_command : Stmt := (top 54)
abbrev s_law_text : Stmt := (top 55)
abbrev s_law_fitting : Stmt := (top 56)
abbrev s_law_paying : Stmt := (top 57)
abbrev s_law : Stmt := (top 58)
abbrev sc_Reader_init_N : List Str := ["self", "text"]
theorem sc_Reader_init : FnScope sc_Reader_init_N ["self", "text"] (defScope s_Reader_init) := ⟨rfl, rfl, rfl, by decide +kernel, rfl, by decide +kernel, by decide +kernel⟩
abbrev sc_Reader_read_signs_N : List Str := ["self", "allowed", "begin"]
theorem sc_Reader_read_signs : FnScope sc_Reader_read_signs_N ["self", "allowed"] (defScope s_Reader_read_signs) := ⟨rfl, rfl, rfl, by decide +kernel, rfl, by decide +kernel, by decide +kernel⟩
abbrev sc_Reader_skip_N : List Str := ["self", "mark"]
theorem sc_Reader_skip : FnScope sc_Reader_skip_N ["self", "mark"] (defScope s_Reader_skip) := ⟨rfl, rfl, rfl, by decide +kernel, rfl, by decide +kernel, by decide +kernel⟩
abbrev sc_Reader_read_number_N : List Str := ["self", "digits"]
theorem sc_Reader_read_number : FnScope sc_Reader_read_number_N ["self"] (defScope s_Reader_read_number) := ⟨rfl, rfl, rfl, by decide +kernel, rfl, by decide +kernel, by decide +kernel⟩
abbrev sc_Reader_read_code_N : List Str := ["self", "code"]
theorem sc_Reader_read_code : FnScope sc_Reader_read_code_N ["self"] (defScope s_Reader_read_code) := ⟨rfl, rfl, rfl, by decide +kernel, rfl, by decide +kernel, by decide +kernel⟩
abbrev sc_Reader_read_command_N : List Str := ["self", "kind", "parts", "mark", "part"]
theorem sc_Reader_read_command : FnScope sc_Reader_read_command_N ["self"] (defScope s_Reader_read_command) := ⟨rfl, rfl, rfl, by decide +kernel, rfl, by decide +kernel, by decide +kernel⟩
abbrev sc_commands_of_N : List Str := ["block", "reader", "found"]
theorem sc_commands_of : FnScope sc_commands_of_N ["block"] (defScope s_commands_of) := ⟨rfl, rfl, rfl, by decide +kernel, rfl, by decide +kernel, by decide +kernel⟩
abbrev sc_Run_init_N : List Str := ["self", "well", "store", "paid", "steps"]
theorem sc_Run_init : FnScope sc_Run_init_N ["self", "well", "store", "paid", "steps"] (defScope s_Run_init) := ⟨rfl, rfl, rfl, by decide +kernel, rfl, by decide +kernel, by decide +kernel⟩
abbrev sc_run_N : List Str := ["code", "given", "amount", "store", "machine", "kept", "key"]
theorem sc_run : FnScope sc_run_N ["code", "given", "amount", "store"] (defScope s_run) := ⟨rfl, rfl, rfl, by decide +kernel, rfl, by decide +kernel, by decide +kernel⟩
abbrev sc_plus_N : List Str := ["left", "right"]
theorem sc_plus : FnScope sc_plus_N ["left", "right"] (defScope s_plus) := ⟨rfl, rfl, rfl, by decide +kernel, rfl, by decide +kernel, by decide +kernel⟩
abbrev sc_minus_N : List Str := ["left", "right"]
theorem sc_minus : FnScope sc_minus_N ["left", "right"] (defScope s_minus) := ⟨rfl, rfl, rfl, by decide +kernel, rfl, by decide +kernel, by decide +kernel⟩
abbrev sc_times_N : List Str := ["left", "right"]
theorem sc_times : FnScope sc_times_N ["left", "right"] (defScope s_times) := ⟨rfl, rfl, rfl, by decide +kernel, rfl, by decide +kernel, by decide +kernel⟩
abbrev sc_append_digit_N : List Str := ["left", "right"]
theorem sc_append_digit : FnScope sc_append_digit_N ["left", "right"] (defScope s_append_digit) := ⟨rfl, rfl, rfl, by decide +kernel, rfl, by decide +kernel, by decide +kernel⟩
abbrev sc_is_less_N : List Str := ["left", "right"]
theorem sc_is_less : FnScope sc_is_less_N ["left", "right"] (defScope s_is_less) := ⟨rfl, rfl, rfl, by decide +kernel, rfl, by decide +kernel, by decide +kernel⟩
abbrev sc_is_equal_N : List Str := ["left", "right"]
theorem sc_is_equal : FnScope sc_is_equal_N ["left", "right"] (defScope s_is_equal) := ⟨rfl, rfl, rfl, by decide +kernel, rfl, by decide +kernel, by decide +kernel⟩
abbrev sc_Machine_init_N : List Str := ["self", "code", "given", "amount", "store"]
theorem sc_Machine_init : FnScope sc_Machine_init_N ["self", "code", "given", "amount", "store"] (defScope s_Machine_init) := ⟨rfl, rfl, rfl, by decide +kernel, rfl, by decide +kernel, by decide +kernel⟩
abbrev sc_Machine_push_N : List Str := ["self", "value"]
theorem sc_Machine_push : FnScope sc_Machine_push_N ["self", "value"] (defScope s_Machine_push) := ⟨rfl, rfl, rfl, by decide +kernel, rfl, by decide +kernel, by decide +kernel⟩
abbrev sc_Machine_take_N : List Str := ["self"]
theorem sc_Machine_take : FnScope sc_Machine_take_N ["self"] (defScope s_Machine_take) := ⟨rfl, rfl, rfl, by decide +kernel, rfl, by decide +kernel, by decide +kernel⟩
abbrev sc_Machine_push_number_N : List Str := ["self", "sign"]
theorem sc_Machine_push_number : FnScope sc_Machine_push_number_N ["self", "sign"] (defScope s_Machine_push_number) := ⟨rfl, rfl, rfl, by decide +kernel, rfl, by decide +kernel, by decide +kernel⟩
abbrev sc_Machine_combine_N : List Str := ["self", "sign", "work", "right", "left"]
theorem sc_Machine_combine : FnScope sc_Machine_combine_N ["self", "sign"] (defScope s_Machine_combine) := ⟨rfl, rfl, rfl, by decide +kernel, rfl, by decide +kernel, by decide +kernel⟩
abbrev sc_Machine_move_N : List Str := ["self", "sign", "top"]
theorem sc_Machine_move : FnScope sc_Machine_move_N ["self", "sign"] (defScope s_Machine_move) := ⟨rfl, rfl, rfl, by decide +kernel, rfl, by decide +kernel, by decide +kernel⟩
abbrev sc_Machine_jump_N : List Str := ["self", "sign", "place"]
theorem sc_Machine_jump : FnScope sc_Machine_jump_N ["self", "sign"] (defScope s_Machine_jump) := ⟨rfl, rfl, rfl, by decide +kernel, rfl, by decide +kernel, by decide +kernel⟩
abbrev sc_Machine_settle_N : List Str := ["self", "sign", "top"]
theorem sc_Machine_settle : FnScope sc_Machine_settle_N ["self", "sign"] (defScope s_Machine_settle) := ⟨rfl, rfl, rfl, by decide +kernel, rfl, by decide +kernel, by decide +kernel⟩
abbrev sc_Machine_perform_N : List Str := ["self", "sign"]
theorem sc_Machine_perform : FnScope sc_Machine_perform_N ["self", "sign"] (defScope s_Machine_perform) := ⟨rfl, rfl, rfl, by decide +kernel, rfl, by decide +kernel, by decide +kernel⟩
abbrev sc_Machine_finish_N : List Str := ["self", "sign"]
theorem sc_Machine_finish : FnScope sc_Machine_finish_N ["self"] (defScope s_Machine_finish) := ⟨rfl, rfl, rfl, by decide +kernel, rfl, by decide +kernel, by decide +kernel⟩
abbrev sc_Ledger_init_N : List Str := ["self", "balances", "codes", "stores"]
theorem sc_Ledger_init : FnScope sc_Ledger_init_N ["self", "balances", "codes", "stores"] (defScope s_Ledger_init) := ⟨rfl, rfl, rfl, by decide +kernel, rfl, by decide +kernel, by decide +kernel⟩
abbrev sc_first_ledger_N : List Str := ["grants", "balances"]
theorem sc_first_ledger : FnScope sc_first_ledger_N ["grants"] (defScope s_first_ledger) := ⟨rfl, rfl, rfl, by decide +kernel, rfl, by decide +kernel, by decide +kernel⟩
abbrev sc_after_command_N : List Str := ["ledger", "command", "after"]
theorem sc_after_command : FnScope sc_after_command_N ["ledger", "command"] (defScope s_after_command) := ⟨rfl, rfl, rfl, by decide +kernel, rfl, by decide +kernel, by decide +kernel⟩
abbrev sc_done_N : List Str := ["ledger", "command", "kind", "parts", "payer", "payee", "amount", "account", "code", "caller", "callee", "given"]
theorem sc_done : FnScope sc_done_N ["ledger", "command"] (defScope s_done) := ⟨rfl, rfl, rfl, by decide +kernel, rfl, by decide +kernel, by decide +kernel⟩
abbrev sc_payment_N : List Str := ["ledger", "payer", "payee", "amount"]
theorem sc_payment : FnScope sc_payment_N ["ledger", "payer", "payee", "amount"] (defScope s_payment) := ⟨rfl, rfl, rfl, by decide +kernel, rfl, by decide +kernel, by decide +kernel⟩
abbrev sc_new_program_N : List Str := ["ledger", "account", "code", "codes"]
theorem sc_new_program : FnScope sc_new_program_N ["ledger", "account", "code"] (defScope s_new_program) := ⟨rfl, rfl, rfl, by decide +kernel, rfl, by decide +kernel, by decide +kernel⟩
abbrev sc_call_N : List Str := ["ledger", "caller", "callee", "given", "balance", "ran", "stores"]
theorem sc_call : FnScope sc_call_N ["ledger", "caller", "callee", "given"] (defScope s_call) := ⟨rfl, rfl, rfl, by decide +kernel, rfl, by decide +kernel, by decide +kernel⟩
abbrev sc_exist_N : List Str := ["ledger", "accounts", "account"]
theorem sc_exist : FnScope sc_exist_N ["ledger", "accounts"] (defScope s_exist) := ⟨rfl, rfl, rfl, by decide +kernel, rfl, by decide +kernel, by decide +kernel⟩
abbrev sc_moved_N : List Str := ["balances", "payer", "payee", "amount", "after"]
theorem sc_moved : FnScope sc_moved_N ["balances", "payer", "payee", "amount"] (defScope s_moved) := ⟨rfl, rfl, rfl, by decide +kernel, rfl, by decide +kernel, by decide +kernel⟩
abbrev sc_replaced_N : List Str := ["parts", "at", "part"]
theorem sc_replaced : FnScope sc_replaced_N ["parts", "at", "part"] (defScope s_replaced) := ⟨rfl, rfl, rfl, by decide +kernel, rfl, by decide +kernel, by decide +kernel⟩
abbrev sc_first_wrong_N : List Str := ["weights", "at", "weight"]
theorem sc_first_wrong : FnScope sc_first_wrong_N ["weights"] (defScope s_first_wrong) := ⟨rfl, rfl, rfl, by decide +kernel, rfl, by decide +kernel, by decide +kernel⟩
abbrev sc_Committee_init_N : List Str := ["self", "weights", "wrong"]
theorem sc_Committee_init : FnScope sc_Committee_init_N ["self", "weights"] (defScope s_Committee_init) := ⟨rfl, rfl, rfl, by decide +kernel, rfl, by decide +kernel, by decide +kernel⟩
abbrev sc_Chain_init_N : List Str := ["self", "weights", "grants"]
theorem sc_Chain_init : FnScope sc_Chain_init_N ["self", "weights", "grants"] (defScope s_Chain_init) := ⟨rfl, rfl, rfl, by decide +kernel, rfl, by decide +kernel, by decide +kernel⟩
abbrev sc_Chain_committee_N : List Str := ["self"]
theorem sc_Chain_committee : FnScope sc_Chain_committee_N ["self"] (defScope s_Chain_committee) := ⟨rfl, rfl, rfl, by decide +kernel, rfl, by decide +kernel, by decide +kernel⟩
abbrev sc_Chain_extend_N : List Str := ["self", "block", "weights", "ledger", "receipts", "command", "done"]
theorem sc_Chain_extend : FnScope sc_Chain_extend_N ["self", "block"] (defScope s_Chain_extend) := ⟨rfl, rfl, rfl, by decide +kernel, rfl, by decide +kernel, by decide +kernel⟩
abbrev sc_after_weight_N : List Str := ["weights", "command", "_", "member", "weight"]
theorem sc_after_weight : FnScope sc_after_weight_N ["weights", "command"] (defScope s_after_weight) := ⟨rfl, rfl, rfl, by decide +kernel, rfl, by decide +kernel, by decide +kernel⟩
abbrev sc_law_cell_N : List Str := ["script", "k"]
theorem sc_law_cell : FnScope sc_law_cell_N ["script", "k"] (defScope s_law_cell) := ⟨rfl, rfl, rfl, by decide +kernel, rfl, by decide +kernel, by decide +kernel⟩
abbrev sc_law_is_integer_N : List Str := ["actual"]
theorem sc_law_is_integer : FnScope sc_law_is_integer_N ["actual"] (defScope s_law_is_integer) := ⟨rfl, rfl, rfl, by decide +kernel, rfl, by decide +kernel, by decide +kernel⟩
abbrev sc_law_row_N : List Str := ["cell", "count", "size", "state", "row", "k"]
theorem sc_law_row : FnScope sc_law_row_N ["cell", "count", "size"] (defScope s_law_row) := ⟨rfl, rfl, rfl, by decide +kernel, rfl, by decide +kernel, by decide +kernel⟩
abbrev sc_law_number_N : List Str := ["cell"]
theorem sc_law_number : FnScope sc_law_number_N ["cell"] (defScope s_law_number) := ⟨rfl, rfl, rfl, by decide +kernel, rfl, by decide +kernel, by decide +kernel⟩
abbrev sc_law_code_N : List Str := ["cell", "signs", "digits", "digit"]
theorem sc_law_code : FnScope sc_law_code_N ["cell"] (defScope s_law_code) := ⟨rfl, rfl, rfl, by decide +kernel, rfl, by decide +kernel, by decide +kernel⟩
abbrev sc_law_place_N : List Str := ["cell"]
theorem sc_law_place : FnScope sc_law_place_N ["cell"] (defScope s_law_place) := ⟨rfl, rfl, rfl, by decide +kernel, rfl, by decide +kernel, by decide +kernel⟩
abbrev sc_law_command_N : List Str := ["cell", "more", "one"]
theorem sc_law_command : FnScope sc_law_command_N ["cell", "more"] (defScope s_law_command) := ⟨rfl, rfl, rfl, by decide +kernel, rfl, by decide +kernel, by decide +kernel⟩
abbrev sc_law_text_N : List Str := ["command"]
theorem sc_law_text : FnScope sc_law_text_N ["command"] (defScope s_law_text) := ⟨rfl, rfl, rfl, by decide +kernel, rfl, by decide +kernel, by decide +kernel⟩
abbrev sc_law_fitting_N : List Str := ["commands", "text", "taken", "command"]
theorem sc_law_fitting : FnScope sc_law_fitting_N ["commands"] (defScope s_law_fitting) := ⟨rfl, rfl, rfl, by decide +kernel, rfl, by decide +kernel, by decide +kernel⟩
abbrev sc_law_paying_N : List Str := ["cell", "code"]
theorem sc_law_paying : FnScope sc_law_paying_N ["cell"] (defScope s_law_paying) := ⟨rfl, rfl, rfl, by decide +kernel, rfl, by decide +kernel, by decide +kernel⟩
abbrev sc_law_N : List Str := ["script", "grants", "chain", "k", "cells", "commands", "ledger", "balance", "value", "at"]
theorem sc_law : FnScope sc_law_N ["script"] (defScope s_law) := ⟨rfl, rfl, rfl, by decide +kernel, rfl, by decide +kernel, by decide +kernel⟩
/-! ### what stands where -/
structure DefAt (K : PySem.W.Frag) (mg : Str → Option Value) (x : Str) (st : Stmt) (ps : List Str) (f : Addr) : Prop where
  F : ∃ fd, Fun K x x st f fd ∧ Binds K fd ps []
  g : mg x = some (.ref f)
  kp : PySem.W.keepIn K (.ref f) = true
structure MethAt (K : PySem.W.Frag) (C : Addr) (x qual : Str) (st : Stmt) (ps : List Str) (f : Addr) : Prop where
  F : ∃ fd, Fun K x qual st f fd ∧ Binds K fd ps []
  fi : PySem.W.findIn K (.ref C) x = some (some (.ref f))
  isf : PySem.W.isFn K (.ref f) = true
  kp : PySem.W.keepIn K (.ref f) = true
theorem def_mk {K : PySem.W.Frag} {x qual : Str} {st : Stmt} {f : Addr} {ps : List Str} {oc : Value} {od an : Option Addr} {osl : Array (Option Value)} {kV doc pm cdv ct : Value}
    (l : K.lookup f = some ⟨oc, od, .func (PySem.W.fnOf x qual (defArgs st) (defBody st) (defScope st) .none kV doc pm an cdv ct), osl⟩)
    (c : PySem.W.codeIn K cdv qual = true) (k : PySem.W.keepIn K (.ref f) = true)
    (h : ∀ (kV doc pm : Value) (an : Option Addr) (cdv ct : Value) (us : List Value), us.length = ps.length → bindArgs (PySem.W.fnOf x qual (defArgs st) (defBody st) (defScope st) .none kV doc pm an cdv ct) ⟨us, []⟩ = pure (ps.zip us)) :
    ∃ fd, Fun K x qual st f fd ∧ Binds K fd ps [] := by
  have F := fun_mk (st := st) l c k
  exact ⟨_, F, F.binds h⟩
theorem mg_no {K : PySem.W.Frag} {h : Heap} {mg : Str → Option Value} {n : Str} (X : K.In h) (G : h.Ns mainGlobals mg) (e : PySem.W.nsIn K mainGlobals n = some none) : mg n = none := PySem.W.mg_none_of X G e
theorem same_new {H : Hp} {p : Addr} {o : HO} (n : H p = Option.none) : Same H (upd H p o) := fun b u e => by
  rw [upd_ne (ne_of_none e n)]
  exact e
theorem same_upd {H H2 : Hp} {p : Addr} {o : HO} (s : Same H H2) (n : H p = Option.none) : Same H (upd H2 p o) := fun b u e => by
  rw [upd_ne (ne_of_none e n)]
  exact s b u e
structure Ads where
  C_Reader : Addr
  C_Run : Addr
  C_Machine : Addr
  C_Ledger : Addr
  C_Committee : Addr
  C_Chain : Addr
  d_Reader_init : Addr
  d_Reader_read_signs : Addr
  d_Reader_skip : Addr
  d_Reader_read_number : Addr
  d_Reader_read_code : Addr
  d_Reader_read_command : Addr
  d_commands_of : Addr
  d_Run_init : Addr
  d_run : Addr
  d_plus : Addr
  d_minus : Addr
  d_times : Addr
  d_append_digit : Addr
  d_is_less : Addr
  d_is_equal : Addr
  d_Machine_init : Addr
  d_Machine_push : Addr
  d_Machine_take : Addr
  d_Machine_push_number : Addr
  d_Machine_combine : Addr
  d_Machine_move : Addr
  d_Machine_jump : Addr
  d_Machine_settle : Addr
  d_Machine_perform : Addr
  d_Machine_finish : Addr
  d_Ledger_init : Addr
  d_first_ledger : Addr
  d_after_command : Addr
  d_done : Addr
  d_payment : Addr
  d_new_program : Addr
  d_call : Addr
  d_exist : Addr
  d_moved : Addr
  d_replaced : Addr
  d_first_wrong : Addr
  d_Committee_init : Addr
  d_Chain_init : Addr
  d_Chain_committee : Addr
  d_Chain_extend : Addr
  d_after_weight : Addr
  d_law_cell : Addr
  d_law_is_integer : Addr
  d_law_row : Addr
  d_law_number : Addr
  d_law_code : Addr
  d_law_place : Addr
  d_law_command : Addr
  d_law_text : Addr
  d_law_fitting : Addr
  d_law_paying : Addr
  P_MARKS : Addr
  M_MARKS_p : Addr
  M_MARKS_w : Addr
  M_MARKS_d : Addr
  M_MARKS_k : Addr
  C_BadCommand : Addr
  C_Failed : Addr
  P_OF_TWO : Addr
structure Txt (K : PySem.W.Frag) (mg : Str → Option Value) (a : Ads) : Prop where
  n_len : mg "len" = none
  n_range : mg "range" = none
  n_isinstance : mg "isinstance" = none
  n_int : mg "int" = none
  n_bool : mg "bool" = none
  n_list : mg "list" = none
  n_tuple : mg "tuple" = none
  n_str : mg "str" = none
  n_dict : mg "dict" = none
  n_sorted : mg "sorted" = none
  n_max : mg "max" = none
  n_abs : mg "abs" = none
  n_all : mg "all" = none
  n_sum : mg "sum" = none
  n_enumerate : mg "enumerate" = none
  c_SIGNS : ∃ t, mg "SIGNS" = some (.str "0123456789ginasmtcehlujfyo" t)
  c_DIGITS : ∃ t, mg "DIGITS" = some (.str "0123456789" t)
  c_MOST_DIGITS : ∃ t, mg "MOST_DIGITS" = some (.int 6 t)
  c_CODE_END : ∃ t, mg "CODE_END" = some (.str "z" t)
  c_MODULUS : ∃ t, mg "MODULUS" = some (.int 1000000 t)
  c_MOST_VALUES : ∃ t, mg "MOST_VALUES" = some (.int 16 t)
  c_MOST_STEPS : ∃ t, mg "MOST_STEPS" = some (.int 200 t)
  c_MOST_MEMBERS : ∃ t, mg "MOST_MEMBERS" = some (.int 16 t)
  c_MOST_WEIGHT : ∃ t, mg "MOST_WEIGHT" = some (.int 1000000000000 t)
  g_Reader : mg "Reader" = some (.ref a.C_Reader)
  cl_Reader : Cls K a.C_Reader
  kc_Reader : PySem.W.keepIn K (.ref a.C_Reader) = true
  mk_Reader : PySem.W.makesIn K a.C_Reader = true
  a_Reader_text : NoAttr K a.C_Reader "text"
  a_Reader_at : NoAttr K a.C_Reader "at"
  g_Run : mg "Run" = some (.ref a.C_Run)
  cl_Run : Cls K a.C_Run
  kc_Run : PySem.W.keepIn K (.ref a.C_Run) = true
  mk_Run : PySem.W.makesIn K a.C_Run = true
  a_Run_well : NoAttr K a.C_Run "well"
  a_Run_store : NoAttr K a.C_Run "store"
  a_Run_paid : NoAttr K a.C_Run "paid"
  a_Run_steps : NoAttr K a.C_Run "steps"
  g_Machine : mg "Machine" = some (.ref a.C_Machine)
  cl_Machine : Cls K a.C_Machine
  kc_Machine : PySem.W.keepIn K (.ref a.C_Machine) = true
  mk_Machine : PySem.W.makesIn K a.C_Machine = true
  a_Machine_code : NoAttr K a.C_Machine "code"
  a_Machine_given : NoAttr K a.C_Machine "given"
  a_Machine_amount : NoAttr K a.C_Machine "amount"
  a_Machine_store : NoAttr K a.C_Machine "store"
  a_Machine_stack : NoAttr K a.C_Machine "stack"
  a_Machine_place : NoAttr K a.C_Machine "place"
  a_Machine_paid : NoAttr K a.C_Machine "paid"
  a_Machine_steps : NoAttr K a.C_Machine "steps"
  g_Ledger : mg "Ledger" = some (.ref a.C_Ledger)
  cl_Ledger : Cls K a.C_Ledger
  kc_Ledger : PySem.W.keepIn K (.ref a.C_Ledger) = true
  mk_Ledger : PySem.W.makesIn K a.C_Ledger = true
  a_Ledger_balances : NoAttr K a.C_Ledger "balances"
  a_Ledger_codes : NoAttr K a.C_Ledger "codes"
  a_Ledger_stores : NoAttr K a.C_Ledger "stores"
  g_Committee : mg "Committee" = some (.ref a.C_Committee)
  cl_Committee : Cls K a.C_Committee
  kc_Committee : PySem.W.keepIn K (.ref a.C_Committee) = true
  mk_Committee : PySem.W.makesIn K a.C_Committee = true
  a_Committee_weights : NoAttr K a.C_Committee "weights"
  a_Committee_size : NoAttr K a.C_Committee "size"
  a_Committee_total : NoAttr K a.C_Committee "total"
  g_Chain : mg "Chain" = some (.ref a.C_Chain)
  cl_Chain : Cls K a.C_Chain
  kc_Chain : PySem.W.keepIn K (.ref a.C_Chain) = true
  mk_Chain : PySem.W.makesIn K a.C_Chain = true
  a_Chain_blocks : NoAttr K a.C_Chain "blocks"
  a_Chain_receipts : NoAttr K a.C_Chain "receipts"
  a_Chain_committees : NoAttr K a.C_Chain "committees"
  a_Chain_ledgers : NoAttr K a.C_Chain "ledgers"
  d_Reader_init : MethAt K a.C_Reader "__init__" "Reader.__init__" s_Reader_init ["self", "text"] a.d_Reader_init
  d_Reader_read_signs : MethAt K a.C_Reader "read_signs" "Reader.read_signs" s_Reader_read_signs ["self", "allowed"] a.d_Reader_read_signs
  d_Reader_skip : MethAt K a.C_Reader "skip" "Reader.skip" s_Reader_skip ["self", "mark"] a.d_Reader_skip
  d_Reader_read_number : MethAt K a.C_Reader "read_number" "Reader.read_number" s_Reader_read_number ["self"] a.d_Reader_read_number
  d_Reader_read_code : MethAt K a.C_Reader "read_code" "Reader.read_code" s_Reader_read_code ["self"] a.d_Reader_read_code
  d_Reader_read_command : MethAt K a.C_Reader "read_command" "Reader.read_command" s_Reader_read_command ["self"] a.d_Reader_read_command
  d_commands_of : DefAt K mg "commands_of" s_commands_of ["block"] a.d_commands_of
  d_Run_init : MethAt K a.C_Run "__init__" "Run.__init__" s_Run_init ["self", "well", "store", "paid", "steps"] a.d_Run_init
  d_run : DefAt K mg "run" s_run ["code", "given", "amount", "store"] a.d_run
  d_plus : DefAt K mg "_plus" s_plus ["left", "right"] a.d_plus
  d_minus : DefAt K mg "_minus" s_minus ["left", "right"] a.d_minus
  d_times : DefAt K mg "_times" s_times ["left", "right"] a.d_times
  d_append_digit : DefAt K mg "_append_digit" s_append_digit ["left", "right"] a.d_append_digit
  d_is_less : DefAt K mg "_is_less" s_is_less ["left", "right"] a.d_is_less
  d_is_equal : DefAt K mg "_is_equal" s_is_equal ["left", "right"] a.d_is_equal
  d_Machine_init : MethAt K a.C_Machine "__init__" "Machine.__init__" s_Machine_init ["self", "code", "given", "amount", "store"] a.d_Machine_init
  d_Machine_push : MethAt K a.C_Machine "push" "Machine.push" s_Machine_push ["self", "value"] a.d_Machine_push
  d_Machine_take : MethAt K a.C_Machine "take" "Machine.take" s_Machine_take ["self"] a.d_Machine_take
  d_Machine_push_number : MethAt K a.C_Machine "push_number" "Machine.push_number" s_Machine_push_number ["self", "sign"] a.d_Machine_push_number
  d_Machine_combine : MethAt K a.C_Machine "combine" "Machine.combine" s_Machine_combine ["self", "sign"] a.d_Machine_combine
  d_Machine_move : MethAt K a.C_Machine "move" "Machine.move" s_Machine_move ["self", "sign"] a.d_Machine_move
  d_Machine_jump : MethAt K a.C_Machine "jump" "Machine.jump" s_Machine_jump ["self", "sign"] a.d_Machine_jump
  d_Machine_settle : MethAt K a.C_Machine "settle" "Machine.settle" s_Machine_settle ["self", "sign"] a.d_Machine_settle
  d_Machine_perform : MethAt K a.C_Machine "perform" "Machine.perform" s_Machine_perform ["self", "sign"] a.d_Machine_perform
  d_Machine_finish : MethAt K a.C_Machine "finish" "Machine.finish" s_Machine_finish ["self"] a.d_Machine_finish
  d_Ledger_init : MethAt K a.C_Ledger "__init__" "Ledger.__init__" s_Ledger_init ["self", "balances", "codes", "stores"] a.d_Ledger_init
  d_first_ledger : DefAt K mg "first_ledger" s_first_ledger ["grants"] a.d_first_ledger
  d_after_command : DefAt K mg "after_command" s_after_command ["ledger", "command"] a.d_after_command
  d_done : DefAt K mg "_done" s_done ["ledger", "command"] a.d_done
  d_payment : DefAt K mg "_payment" s_payment ["ledger", "payer", "payee", "amount"] a.d_payment
  d_new_program : DefAt K mg "_new_program" s_new_program ["ledger", "account", "code"] a.d_new_program
  d_call : DefAt K mg "_call" s_call ["ledger", "caller", "callee", "given"] a.d_call
  d_exist : DefAt K mg "_exist" s_exist ["ledger", "accounts"] a.d_exist
  d_moved : DefAt K mg "_moved" s_moved ["balances", "payer", "payee", "amount"] a.d_moved
  d_replaced : DefAt K mg "_replaced" s_replaced ["parts", "at", "part"] a.d_replaced
  d_first_wrong : DefAt K mg "_first_wrong" s_first_wrong ["weights"] a.d_first_wrong
  d_Committee_init : MethAt K a.C_Committee "__init__" "Committee.__init__" s_Committee_init ["self", "weights"] a.d_Committee_init
  d_Chain_init : MethAt K a.C_Chain "__init__" "Chain.__init__" s_Chain_init ["self", "weights", "grants"] a.d_Chain_init
  d_Chain_committee : MethAt K a.C_Chain "committee" "Chain.committee" s_Chain_committee ["self"] a.d_Chain_committee
  d_Chain_extend : MethAt K a.C_Chain "extend" "Chain.extend" s_Chain_extend ["self", "block"] a.d_Chain_extend
  d_after_weight : DefAt K mg "_after_weight" s_after_weight ["weights", "command"] a.d_after_weight
  d_law_cell : DefAt K mg "_law_cell" s_law_cell ["script", "k"] a.d_law_cell
  d_law_is_integer : DefAt K mg "_law_is_integer" s_law_is_integer ["actual"] a.d_law_is_integer
  d_law_row : DefAt K mg "_law_row" s_law_row ["cell", "count", "size"] a.d_law_row
  d_law_number : DefAt K mg "_law_number" s_law_number ["cell"] a.d_law_number
  d_law_code : DefAt K mg "_law_code" s_law_code ["cell"] a.d_law_code
  d_law_place : DefAt K mg "_law_place" s_law_place ["cell"] a.d_law_place
  d_law_command : DefAt K mg "_law_command" s_law_command ["cell", "more"] a.d_law_command
  d_law_text : DefAt K mg "_law_text" s_law_text ["command"] a.d_law_text
  d_law_fitting : DefAt K mg "_law_fitting" s_law_fitting ["commands"] a.d_law_fitting
  d_law_paying : DefAt K mg "_law_paying" s_law_paying ["cell"] a.d_law_paying
theorem Txt.m_Reader {K : PySem.W.Frag} {mg : Str → Option Value} {a : Ads} (T : Txt K mg a) : Mk K a.C_Reader a.d_Reader_init := ⟨T.mk_Reader, T.d_Reader_init.fi, T.d_Reader_init.isf, T.kc_Reader⟩
theorem Txt.me_Reader_read_signs {K : PySem.W.Frag} {mg : Str → Option Value} {a : Ads} (T : Txt K mg a) : Meth K a.C_Reader "read_signs" a.d_Reader_read_signs := ⟨T.d_Reader_read_signs.fi, T.d_Reader_read_signs.isf, T.d_Reader_read_signs.kp⟩
theorem Txt.me_Reader_skip {K : PySem.W.Frag} {mg : Str → Option Value} {a : Ads} (T : Txt K mg a) : Meth K a.C_Reader "skip" a.d_Reader_skip := ⟨T.d_Reader_skip.fi, T.d_Reader_skip.isf, T.d_Reader_skip.kp⟩
theorem Txt.me_Reader_read_number {K : PySem.W.Frag} {mg : Str → Option Value} {a : Ads} (T : Txt K mg a) : Meth K a.C_Reader "read_number" a.d_Reader_read_number := ⟨T.d_Reader_read_number.fi, T.d_Reader_read_number.isf, T.d_Reader_read_number.kp⟩
theorem Txt.me_Reader_read_code {K : PySem.W.Frag} {mg : Str → Option Value} {a : Ads} (T : Txt K mg a) : Meth K a.C_Reader "read_code" a.d_Reader_read_code := ⟨T.d_Reader_read_code.fi, T.d_Reader_read_code.isf, T.d_Reader_read_code.kp⟩
theorem Txt.me_Reader_read_command {K : PySem.W.Frag} {mg : Str → Option Value} {a : Ads} (T : Txt K mg a) : Meth K a.C_Reader "read_command" a.d_Reader_read_command := ⟨T.d_Reader_read_command.fi, T.d_Reader_read_command.isf, T.d_Reader_read_command.kp⟩
theorem Txt.m_Run {K : PySem.W.Frag} {mg : Str → Option Value} {a : Ads} (T : Txt K mg a) : Mk K a.C_Run a.d_Run_init := ⟨T.mk_Run, T.d_Run_init.fi, T.d_Run_init.isf, T.kc_Run⟩
theorem Txt.m_Machine {K : PySem.W.Frag} {mg : Str → Option Value} {a : Ads} (T : Txt K mg a) : Mk K a.C_Machine a.d_Machine_init := ⟨T.mk_Machine, T.d_Machine_init.fi, T.d_Machine_init.isf, T.kc_Machine⟩
theorem Txt.me_Machine_push {K : PySem.W.Frag} {mg : Str → Option Value} {a : Ads} (T : Txt K mg a) : Meth K a.C_Machine "push" a.d_Machine_push := ⟨T.d_Machine_push.fi, T.d_Machine_push.isf, T.d_Machine_push.kp⟩
theorem Txt.me_Machine_take {K : PySem.W.Frag} {mg : Str → Option Value} {a : Ads} (T : Txt K mg a) : Meth K a.C_Machine "take" a.d_Machine_take := ⟨T.d_Machine_take.fi, T.d_Machine_take.isf, T.d_Machine_take.kp⟩
theorem Txt.me_Machine_push_number {K : PySem.W.Frag} {mg : Str → Option Value} {a : Ads} (T : Txt K mg a) : Meth K a.C_Machine "push_number" a.d_Machine_push_number := ⟨T.d_Machine_push_number.fi, T.d_Machine_push_number.isf, T.d_Machine_push_number.kp⟩
theorem Txt.me_Machine_combine {K : PySem.W.Frag} {mg : Str → Option Value} {a : Ads} (T : Txt K mg a) : Meth K a.C_Machine "combine" a.d_Machine_combine := ⟨T.d_Machine_combine.fi, T.d_Machine_combine.isf, T.d_Machine_combine.kp⟩
theorem Txt.me_Machine_move {K : PySem.W.Frag} {mg : Str → Option Value} {a : Ads} (T : Txt K mg a) : Meth K a.C_Machine "move" a.d_Machine_move := ⟨T.d_Machine_move.fi, T.d_Machine_move.isf, T.d_Machine_move.kp⟩
theorem Txt.me_Machine_jump {K : PySem.W.Frag} {mg : Str → Option Value} {a : Ads} (T : Txt K mg a) : Meth K a.C_Machine "jump" a.d_Machine_jump := ⟨T.d_Machine_jump.fi, T.d_Machine_jump.isf, T.d_Machine_jump.kp⟩
theorem Txt.me_Machine_settle {K : PySem.W.Frag} {mg : Str → Option Value} {a : Ads} (T : Txt K mg a) : Meth K a.C_Machine "settle" a.d_Machine_settle := ⟨T.d_Machine_settle.fi, T.d_Machine_settle.isf, T.d_Machine_settle.kp⟩
theorem Txt.me_Machine_perform {K : PySem.W.Frag} {mg : Str → Option Value} {a : Ads} (T : Txt K mg a) : Meth K a.C_Machine "perform" a.d_Machine_perform := ⟨T.d_Machine_perform.fi, T.d_Machine_perform.isf, T.d_Machine_perform.kp⟩
theorem Txt.me_Machine_finish {K : PySem.W.Frag} {mg : Str → Option Value} {a : Ads} (T : Txt K mg a) : Meth K a.C_Machine "finish" a.d_Machine_finish := ⟨T.d_Machine_finish.fi, T.d_Machine_finish.isf, T.d_Machine_finish.kp⟩
theorem Txt.m_Ledger {K : PySem.W.Frag} {mg : Str → Option Value} {a : Ads} (T : Txt K mg a) : Mk K a.C_Ledger a.d_Ledger_init := ⟨T.mk_Ledger, T.d_Ledger_init.fi, T.d_Ledger_init.isf, T.kc_Ledger⟩
theorem Txt.m_Committee {K : PySem.W.Frag} {mg : Str → Option Value} {a : Ads} (T : Txt K mg a) : Mk K a.C_Committee a.d_Committee_init := ⟨T.mk_Committee, T.d_Committee_init.fi, T.d_Committee_init.isf, T.kc_Committee⟩
theorem Txt.m_Chain {K : PySem.W.Frag} {mg : Str → Option Value} {a : Ads} (T : Txt K mg a) : Mk K a.C_Chain a.d_Chain_init := ⟨T.mk_Chain, T.d_Chain_init.fi, T.d_Chain_init.isf, T.kc_Chain⟩
theorem Txt.me_Chain_committee {K : PySem.W.Frag} {mg : Str → Option Value} {a : Ads} (T : Txt K mg a) : Meth K a.C_Chain "committee" a.d_Chain_committee := ⟨T.d_Chain_committee.fi, T.d_Chain_committee.isf, T.d_Chain_committee.kp⟩
theorem Txt.me_Chain_extend {K : PySem.W.Frag} {mg : Str → Option Value} {a : Ads} (T : Txt K mg a) : Meth K a.C_Chain "extend" a.d_Chain_extend := ⟨T.d_Chain_extend.fi, T.d_Chain_extend.isf, T.d_Chain_extend.kp⟩
section
open PyProof.Rows
/-! ### own rules: set(list of ints), k in that set; enumerate(a tuple) -/
theorem any_firstMet (zs : List Int) (k : Int) : (PyProof.Rows.firstMet (fun i => zs.getD i 0) zs.length).any (· == k) = decide (k ∈ zs) := by
  rw [PyProof.Rows.firstMet_any, Bool.eq_iff_iff, List.any_eq_true, decide_eq_true_iff]
  constructor
  · rintro ⟨y, hy, e⟩
    obtain ⟨i, hi, rfl⟩ := List.mem_map.mp hy
    have hi' : i < zs.length := List.mem_range.mp hi
    have e' : zs.getD i 0 = k := by simpa using e
    rw [← e', List.getD_eq_getElem?_getD, List.getElem?_eq_getElem hi']
    exact List.getElem_mem hi'
  · intro hk
    obtain ⟨i, hi, e⟩ := List.getElem_of_mem hk
    refine ⟨k, List.mem_map.mpr ⟨i, List.mem_range.mpr hi, ?_⟩, by simp⟩
    show zs.getD i 0 = k
    rw [List.getD_eq_getElem?_getD, List.getElem?_eq_getElem hi]
    exact e
/-- set(xs), xs a list of ints -/
def rSetOfL (K : PySem.W.Frag) : List V → Hp → VK → Prop := fun vs H Q => ∃ (l : Addr) (zs : List Int), vs = [V.ref l] ∧ SqL K H l (zs.map V.int) ∧ zs.length ≤ 1000 ∧
  ∀ (p : Addr) (n : Nat), H p = Option.none → Q (.ref p) (upd H p (.set (fun k => decide (k ∈ zs)) n))
theorem cr_set {X : Cx} (calm : X.calm = true) : CallR X (.type "set") (rSetOfL X.K) := by
  intro pins sh σ H vs us Q I rel hyp
  obtain ⟨l, zs, rfl, hl, few, q⟩ := hyp
  rw [Vals.ref1 rel]
  obtain ⟨its, rv, pl, _⟩ := I.list hl
  have isI := ints_of_vals rv
  have same : its.toArray.size = zs.length := by
    have e := rv.length
    rw [List.length_map] at e
    rw [List.size_toArray]
    exact e.symm
  refine PySem.call_set_list (items := its.toArray) (ns := zs) (I.ok.hd calm) pl.isList (by simpa using isI) (by rw [same]; unfold scanBound; omega) fun h' tk S kp => ?_
  have fresh : H sh.heap.objs.size = Option.none := I.hok.fresh (Nat.le_refl _)
  have e : (fun k => (PyProof.Rows.firstMet (fun i => zs.getD i 0) its.toArray.size).any (· == k)) = fun k => decide (k ∈ zs) := by
    funext k
    rw [same]
    exact any_firstMet zs k
  rw [e] at S
  exact ⟨.ref sh.heap.objs.size, upd H sh.heap.objs.size (.set (fun k => decide (k ∈ zs)) _), I.laid (t' := tk) (fun b o ho => kp b o (Heap.lt_size ho) ho) (Nat.le_refl _) S, rfl, q _ _ fresh⟩
/-- k in such a set -/
def rInSt (neg : Bool) : R2 := fun x y H Q => ∃ (k : Int) (b : Addr) (S : Int → Bool) (n : Nat), x = V.int k ∧ y = V.ref b ∧ H b = some (.set S n) ∧ Q (.bl (if neg then !S k else S k)) H
theorem op_in_set {X : Cx} : OpR X (compareOp .In) (rInSt false) := by
  intro pins sh σ H x y v u Q I r1 r2 hyp
  obtain ⟨k, b, S, n, rfl, rfl, hb, q⟩ := hyp
  obtain ⟨tk, rfl⟩ := r1
  cases r2
  have hS : sh.heap.SetOf (intKind X.prog X.w) b S n := I.hok b _ hb
  exact PySem.wpAny_inSet_of (PySem.intKind_is _ _ _ _) rfl hS ⟨.bl (S k), H, I.tok _, rfl, q⟩
/-- the pairs of enumerate over the tuple at a -/
def Itu (K : PySem.W.Frag) (a : Addr) : It where
  go i H := ∃ (ys : List V) (y : V), SqT K H a ys ∧ ys[i]? = some y
  yld i H v H' := ∃ (p : Addr) (y : V), v = .ref p ∧ H p = Option.none ∧ H' = upd H p (.tup [.int (i : Nat), y]) ∧ ∀ ys, SqT K H a ys → ys[i]? = some y
  stop i H := ∃ ys : List V, SqT K H a ys ∧ ys.length = i
theorem turn_enumT {P : Program} {w : World} {K : PySem.W.Frag} {elts : List Expr} {kk : Nat} {tpos : Pos} (a en it : Addr) (na : a ≠ it) (ne : en ≠ it) (nea : en ≠ a) :
    Turn P w K (.Tuple elts kk tpos) (Itu K a) [en, it] en (fun i h => (∃ old, IsEnum h en it ((i : Nat) : Int) old) ∧ h.IsTupleIter it a i) where
  mem := List.mem_cons_self
  obj := by
    rintro i h ⟨⟨old, he⟩, ⟨o, ho, hc, hd⟩⟩ b hb
    rcases List.mem_cons.mp hb with rfl | hb
    · exact ⟨_, he, fun v z => nomatch z⟩
    · rw [List.mem_singleton.mp hb]
      exact ⟨o, ho, fun v z => by rw [hd] at z; cases z⟩
  keep := by
    rintro i h h' ⟨⟨old, he⟩, hi⟩ kp
    exact ⟨⟨old, kp en List.mem_cons_self _ he⟩, hi.at fun o z => kp it (List.mem_cons_of_mem _ List.mem_cons_self) o z⟩
  item := by
    intro X hP hw hK calm i pins sh σ H E I fp st hg
    subst hP hw hK
    obtain ⟨⟨old, he⟩, hit⟩ := st
    obtain ⟨ys, y, hy, hix⟩ := hg
    obtain ⟨its, rv, tp, _⟩ := I.tuple hy
    obtain ⟨u, hu, ru⟩ := rv.get hix
    have hT : sh.heap.IsTuple a its.toArray := tp
    have hlen : i < its.toArray.size := by
      rw [List.size_toArray]
      exact (List.getElem?_eq_some_iff.mp hu).1
    have len : en < sh.heap.objs.size := Heap.lt_size he
    have lit : it < sh.heap.objs.size := by
      obtain ⟨_, z, _⟩ := hit
      exact Heap.lt_size z
    refine wpAny_pyNext_enum_itemD (Draws.tuple (by simp [I.ok.hd calm]) it a na its.toArray) he ⟨hit, hT⟩ hlen ne (by simp [ne, nea]) fun x h' tk hx ho hst hnew hsz kp => ?_
    have ex : x = u := by
      rw [List.getElem?_toArray, hu] at hx
      exact (Option.some.inj hx).symm
    subst ex
    refine ⟨_, rfl, wpAny_letOwnedTupleGo_enum (s := { sh with heap := h', toks := tk + 1 }) ho fun h2 he2 sb => ?_⟩
    have new2 : h2.get? sh.heap.objs.size = some { cls := .type "tuple", data := .seq #[.int i tk, x] } := (sb.2 _ (Nat.ne_of_gt len)).trans hnew
    have okN : ObjOk X.prog X.w (upd H sh.heap.objs.size (.tup [.int (i : Nat), y])) h2 sh.heap.objs.size (.tup [.int (i : Nat), y]) := by
      refine ⟨(by show 2 ≤ sizeLine; decide), [.int i tk, x], .cons ⟨_, rfl⟩ (.cons ru .nil), ?_⟩
      exact ⟨_, new2, rfl, _, rfl⟩
    have I2 : Inv X pins σ (upd H sh.heap.objs.size (.tup [.int (i : Nat), y])) { sh with heap := h2, toks := tk + 1 } := by
      refine I.turnedNew (ch := [en, it]) (fun b ob hb z => ?_) fp (Nat.le_refl _) okN
      have b1 : b ≠ en := fun q => hb (by rw [q]; exact List.mem_cons_self)
      have b2 : b ≠ it := fun q => hb (by rw [q]; exact List.mem_cons_of_mem _ List.mem_cons_self)
      exact (sb.2 b b1).trans (kp b ob b1 b2 z)
    refine ⟨.ref sh.heap.objs.size, _, I2, rfl, ⟨_, y, rfl, I.hok.fresh (Nat.le_refl _), rfl, fun zs hz => ?_⟩, ⟨⟨x, ?_⟩, hst.1.at fun o z => (sb.2 it (Ne.symm ne)).trans z⟩, fun b hb => ?_⟩
    · rw [I.tuple_inj hz hy]
      exact hix
    · have e1 : ((i + 1 : Nat) : Int) = (i : Int) + 1 := by omega
      rw [e1]
      exact he2
    · have lb : b < sh.heap.objs.size := by
        rcases List.mem_cons.mp hb with rfl | hb
        · exact len
        · rw [List.mem_singleton.mp hb]
          exact lit
      rw [upd_ne (Nat.ne_of_lt lb)]
      exact (fp b hb).1
  done := by
    intro X hP hw hK calm i pins sh σ H E I fp st hg
    subst hP hw hK
    obtain ⟨⟨old, he⟩, hit⟩ := st
    obtain ⟨ys, hy, rfl⟩ := hg
    obtain ⟨its, rv, tp, _⟩ := I.tuple hy
    have hT : sh.heap.IsTuple a its.toArray := tp
    have e : ys.length = its.toArray.size := by
      rw [List.size_toArray]
      exact rv.length
    rw [e] at hit
    obtain ⟨g0, g1, g2, g3, g4, g5⟩ := fp it (List.mem_cons_of_mem _ List.mem_cons_self)
    exact wpAny_pyNext_enum_endD (Draws.tuple (by simp [I.ok.hd calm]) it a na its.toArray) he ⟨hit, hT⟩ fun h' eb => ⟨rfl, I.turned (t' := sh.toks) (fun b o hb z => eb b o hb z) g0 g1 g3 g4 g5⟩
  self := by
    rintro A i s Q E ⟨⟨_, he⟩, _⟩ h
    exact wpAny_pyIter_enum he h
theorem meets_enum1 {v : Value} {o : Obj} {Z : Heap → Prop} (B : Begins v o Z) :
    Meets (Builtin.«enumerate.__new__» ⟨[.type "enumerate", v], []⟩) (fun _ R s => Z s.heap ∧
      R (.ok (.ret (.ref (s.heap.push o).objs.size))) { s with heap := (s.heap.push o).push { cls := .type "enumerate", data := .fields #[.none, .bool false, .ref s.heap.objs.size, rawInt 0, .none, .none] } }) :=
  .of_wp fun prog w A R s hyp => by
    obtain ⟨hp, g, d, tk, os⟩ := s
    obtain ⟨hz, hyp⟩ := hyp
    have sube := sub_enumerate
    have step : ∀ {A' : Around} {E' : Value → Shared → Prop} {Q' : Value → Shared → Prop}, Q' (.ref hp.objs.size) ⟨hp.push o, g, d, tk, os⟩ → wpAny (model prog w) A' (pyIter v) Q' E' ⟨hp, g, d, tk, os⟩ :=
      fun z => B.iter prog w _ _ ⟨hp, g, d, tk, os⟩ _ hz z
    wp_walk using step
    refine wpAny_stack_any fun st => wpAny_pure ?_
    split
    · rename_i c _ _ _ _ _
      cases (c == Value.type "enumerate") <;> (wp_walk using step; exact ⟨_, rfl, hyp⟩)
    · wp_walk using step
      exact ⟨_, rfl, hyp⟩
theorem call_enum1 {prog : Program} {w : World} {A : Around} {E : Value → Shared → Prop} {s : Shared} {v : Value} {o : Obj} {Z : Heap → Prop} {Q : Value → Shared → Prop} (B : Begins v o Z) (hz : Z s.heap)
    (fin : ∀ h', IsEnum h' (s.heap.objs.size + 1) s.heap.objs.size 0 .none → h'.get? s.heap.objs.size = some o → (∀ b u, s.heap.get? b = some u → h'.get? b = some u) → Q (.ref (s.heap.objs.size + 1)) { s with heap := h' }) :
    wpAny (model prog w) A (call (.type "enumerate") [v]) Q E s := by
  have size1 : (s.heap.push o).objs.size = s.heap.objs.size + 1 := Heap.size_push ..
  refine callType_new F.called_enumerate (by decide) (F.typeCall_enumerate_1 _) (F.newCall_enumerate_1 _) (fun obj => F.args_object_init_2 obj _) F.entry_enumerate_new (meets_enum1 B) ⟨hz, ?_⟩
  rw [size1]
  have isE : IsEnum ((s.heap.push o).push { cls := .type "enumerate", data := .fields #[.none, .bool false, .ref s.heap.objs.size, rawInt 0, .none, .none] }) (s.heap.objs.size + 1) s.heap.objs.size 0 .none := by
    have z := Heap.get?_push_size (s.heap.push o) (o := { cls := .type "enumerate", data := .fields #[.none, .bool false, .ref s.heap.objs.size, rawInt 0, .none, .none] }) rfl
    rwa [size1] at z
  exact ⟨⟨_, isE, rfl⟩, fin _ isE (Heap.get?_push_of_some _ (Heap.get?_push_size _ B.free)) fun b u z => Heap.get?_push_of_some _ (Heap.get?_push_of_some _ z)⟩
def iEnumT (K : PySem.W.Frag) (ta : TA) : TI := fun σ H R => ta σ H fun vs H1 => ∃ (a : Addr) (ys : List V), vs = [.ref a] ∧ SqT K H1 a ys ∧ R (Itu K a) H1
theorem pi_enumT {X : Cx} {e : Expr} {ta : TA} {p pos tpos : Pos} {elts : List Expr} {kk : Nat} (gl : Gl X "enumerate") (no : X.mg "enumerate" = none) (pa : PA X [e] ta) (plain : starEach [e] X.env = [(false, eval e X.env)] := by rfl) :
    PI X (.Tuple elts kk tpos) (.Call (.Name "enumerate" p) [e] [] pos) (iEnumT X.K ta) := by
  constructor
  intro pins s σ H R I hyp
  refine PyProof.Rows.Call_ (ld_blt I gl no boot_enumerate (PyProof.Rows.callWith_type1 (thn (pa.run pos pins s σ H _ I hyp) fun us s1 got => ?_) plain rfl))
  obtain ⟨vs, H1, I1, rel, a, ys, rfl, hy, q⟩ := got
  rw [Vals.ref1 rel]
  obtain ⟨its, rv, tp, _⟩ := I1.tuple hy
  have hT : s1.heap.IsTuple a its.toArray := tp
  have la : a < s1.heap.objs.size := by
    obtain ⟨_, z, _⟩ := hT
    exact Heap.lt_size z
  refine call_enum1 (begins_tuple a its.toArray) hT fun h' isE hit kp => wpAny_pyIter_enum isE ?_
  have I2 : Inv X pins σ H1 { s1 with heap := h' } := I1.kept (t' := s1.toks) kp
  refine ⟨s1.heap.objs.size + 1, [s1.heap.objs.size + 1, s1.heap.objs.size], _, _, H1, rfl, I2, turn_enumT a (s1.heap.objs.size + 1) s1.heap.objs.size (Nat.ne_of_lt la) (Nat.succ_ne_self _) (Nat.ne_of_gt (Nat.lt_succ_of_lt la)), ⟨⟨.none, isE⟩, _, hit, rfl, rfl⟩, fun b hb => ?_, q⟩
  have le : s1.heap.objs.size ≤ b := by
    rcases List.mem_cons.mp hb with rfl | hb
    · exact Nat.le_succ _
    · rw [List.mem_singleton.mp hb]
      exact Nat.le_refl _
  exact I1.fpOk le (I1.hok.fresh le)
/-- the forms that one uses: a word by the turn -/
theorem for_enumT {K : PySem.W.Frag} {a : Addr} {ys : List V} {g : TG} {tb : TS} {D : Ends} {σ : L2.St} {H : Hp} (Pv : Nat → L2.St → Hp → Prop) (h0 : Pv 0 σ H) (src : ∀ i σ H, i ≤ ys.length → Pv i σ H → SqT K H a ys)
    (turn : ∀ i y σ H p, ys[i]? = some y → Pv i σ H → H p = Option.none → g (.ref p) σ (upd H p (.tup [.int (i : Nat), y])) fun σ2 H2 => tb { D with nx := Pv (i + 1), ct := Pv (i + 1), bk := D.nx } σ2 H2) (fin : ∀ σ H, Pv ys.length σ H → D.nx σ H) :
    ∃ W : Nat → Nat → L2.St → Hp → Prop, (∃ m, W 0 m σ H) ∧ ∀ i m σ H, W i m σ H →
      ((Itu K a).stop i H ∧ D.nx σ H) ∨ ((Itu K a).go i H ∧ ∃ N : L2.St → Hp → Prop, (∀ σ' H', N σ' H' → ∃ m', m' < m ∧ W (i + 1) m' σ' H') ∧ ∀ x H', (Itu K a).yld i H x H' → g x σ H' fun σ2 H2 => tb { D with nx := N, ct := N, bk := D.nx } σ2 H2) := by
  refine ⟨fun i m σ H => m + i = ys.length ∧ Pv i σ H, ⟨ys.length, Nat.add_zero _, h0⟩, ?_⟩
  rintro i m σ H ⟨em, pv⟩
  have s := src i σ H (by omega) pv
  rcases Nat.lt_or_ge i ys.length with lt | ge
  · refine .inr ⟨⟨ys, ys[i], s, List.getElem?_eq_getElem lt⟩, Pv (i + 1), fun σ' H' z => ⟨m - 1, by omega, by omega, z⟩, ?_⟩
    rintro x H' ⟨p, y, rfl, hp, rfl, hy⟩
    exact turn i y σ H p (hy ys s) pv hp
  · have e : i = ys.length := by omega
    subst e
    exact .inl ⟨⟨ys, s, rfl⟩, fin σ H pv⟩
theorem lc_enumT {K : PySem.W.Frag} {a : Addr} {ys : List V} {g : TG} {tt : TT} {te : TE} {vs : List Nat} {σ : L2.St} {H1 : Hp} {D : Addr} {Qd : Hp → Prop} (Pv : Nat → Hp → Prop) (h0 : Pv 0 (upd H1 D (.lst []))) (src : ∀ i H, i ≤ ys.length → Pv i H → SqT K H a ys)
    (turn : ∀ i y H p, ys[i]? = some y → Pv i H → H p = Option.none → g (.ref p) (wipe σ vs) (upd H p (.tup [.int (i : Nat), y])) fun σ2 H2 => wipe σ2 vs = wipe σ vs ∧ tt σ2 H2 fun b H3 =>
      if b = true then te σ2 H3 fun y H4 => ∃ acc, H4 D = some (.lst acc) ∧ acc.length < sizeLine ∧ Pv (i + 1) (upd H4 D (.lst (acc ++ [y]))) else Pv (i + 1) H3) (fin : ∀ H, Pv ys.length H → Qd H) :
    ∃ W : Nat → Nat → Hp → Prop, (∃ m, W 0 m (upd H1 D (.lst []))) ∧ ∀ i m H, W i m H →
      ((Itu K a).stop i H ∧ Qd H) ∨ ((Itu K a).go i H ∧ ∃ Nx : Hp → Prop, (∀ H', Nx H' → ∃ m', m' < m ∧ W (i + 1) m' H') ∧ ∀ x H', (Itu K a).yld i H x H' → g x (wipe σ vs) H' fun σ2 H2 => wipe σ2 vs = wipe σ vs ∧ tt σ2 H2 fun b H3 =>
        if b = true then te σ2 H3 fun y H4 => ∃ acc, H4 D = some (.lst acc) ∧ acc.length < sizeLine ∧ Nx (upd H4 D (.lst (acc ++ [y]))) else Nx H3) := by
  refine ⟨fun i m H => m + i = ys.length ∧ Pv i H, ⟨ys.length, Nat.add_zero _, h0⟩, ?_⟩
  rintro i m H ⟨em, pv⟩
  have s := src i H (by omega) pv
  rcases Nat.lt_or_ge i ys.length with lt | ge
  · refine .inr ⟨⟨ys, ys[i], s, List.getElem?_eq_getElem lt⟩, Pv (i + 1), fun H' z => ⟨m - 1, by omega, by omega, z⟩, ?_⟩
    rintro x H' ⟨p, y, rfl, hp, rfl, hy⟩
    exact turn i y H p (hy ys s) pv hp
  · have e : i = ys.length := by omega
    subst e
    exact .inl ⟨⟨ys, s, rfl⟩, fin H pv⟩
/-- sum(t), t a tuple of ints -/
def rSumT (K : PySem.W.Frag) : List V → Hp → VK → Prop := fun vs H Q => ∃ (a : Addr) (zs : List Int), vs = [V.ref a] ∧ SqT K H a (zs.map V.int) ∧ Q (.int zs.sum) H
theorem cr_sumT {X : Cx} (calm : X.calm = true) : CallR X (.builtin "sum") (rSumT X.K) := by
  intro pins sh σ H vs us Q I rel hyp
  obtain ⟨a, zs, rfl, hz, q⟩ := hyp
  rw [Vals.ref1 rel]
  obtain ⟨its, rv, tp, _⟩ := I.tuple hz
  have hT : sh.heap.IsTuple a its.toArray := tp
  have isI : IntsAre its zs := Vals.ints rv
  obtain ⟨xs, ex⟩ := isI.allInts.items
  have en : numsOf (intItems xs).toList = zs := by
    rw [← ex]
    exact isI.numsOf
  rw [nums_intItems] at en
  rw [ex] at hT
  refine PySem.W.ktm_sumG (I.ok.hd calm) hT fun h' tk t' kp => ?_
  rw [preSum_eq, List.take_of_length_le (by simp), en]
  exact ⟨.int zs.sum, H, I.kept kp, ⟨_, rfl⟩, q⟩
/-- enumerate over a list, by a word -/
theorem for_enumL {K : PySem.W.Frag} {a : Addr} {ys : List V} {g : TG} {tb : TS} {D : Ends} {σ : L2.St} {H : Hp} (Pv : Nat → L2.St → Hp → Prop) (h0 : Pv 0 σ H) (src : ∀ i σ H, i ≤ ys.length → Pv i σ H → SqL K H a ys)
    (turn : ∀ i y σ H p, ys[i]? = some y → Pv i σ H → H p = Option.none → g (.ref p) σ (upd H p (.tup [.int (i : Nat), y])) fun σ2 H2 => tb { D with nx := Pv (i + 1), ct := Pv (i + 1), bk := D.nx } σ2 H2) (fin : ∀ σ H, Pv ys.length σ H → D.nx σ H) :
    ∃ W : Nat → Nat → L2.St → Hp → Prop, (∃ m, W 0 m σ H) ∧ ∀ i m σ H, W i m σ H →
      ((Ite K a).stop i H ∧ D.nx σ H) ∨ ((Ite K a).go i H ∧ ∃ N : L2.St → Hp → Prop, (∀ σ' H', N σ' H' → ∃ m', m' < m ∧ W (i + 1) m' σ' H') ∧ ∀ x H', (Ite K a).yld i H x H' → g x σ H' fun σ2 H2 => tb { D with nx := N, ct := N, bk := D.nx } σ2 H2) := by
  refine ⟨fun i m σ H => m + i = ys.length ∧ Pv i σ H, ⟨ys.length, Nat.add_zero _, h0⟩, ?_⟩
  rintro i m σ H ⟨em, pv⟩
  have s := src i σ H (by omega) pv
  rcases Nat.lt_or_ge i ys.length with lt | ge
  · refine .inr ⟨⟨ys, ys[i], s, List.getElem?_eq_getElem lt⟩, Pv (i + 1), fun σ' H' z => ⟨m - 1, by omega, by omega, z⟩, ?_⟩
    rintro x H' ⟨p, y, rfl, hp, rfl, hy⟩
    exact turn i y σ H p (hy ys s) pv hp
  · have e : i = ys.length := by omega
    subst e
    exact .inl ⟨⟨ys, s, Nat.le_refl _⟩, fin σ H pv⟩
/-- k in xs, xs a list of ints -/
theorem inV_ints (zs : List Int) (k : Int) : inV (V.int k) (zs.map V.int) = decide (k ∈ zs) := by
  induction zs with
  | nil => rfl
  | cons a r ih =>
    have e : inV (V.int k) ((a :: r).map V.int) = (eqV (V.int a) (V.int k) || inV (V.int k) (r.map V.int)) := rfl
    rw [e, ih]
    by_cases h : a = k
    · subst h
      simp [eqV]
    · have h' : ¬ k = a := fun z => h z.symm
      simp [eqV, h, h']
theorem flat_ints (zs : List Int) : (zs.map V.int).all flatV = true := by
  rw [List.all_eq_true]
  intro x hx
  obtain ⟨z, _, rfl⟩ := List.mem_map.mp hx
  rfl
end

/-! ### a committee as it stands -/
theorem ne_ws : ¬ (("weights" : Str) = "size") := by decide +kernel
theorem ne_wt : ¬ (("weights" : Str) = "total") := by decide +kernel
theorem ne_st : ¬ (("size" : Str) = "total") := by decide +kernel
def cfs (t : Addr) (ws : List Int) : List (Str × V) := putF "total" (.int ws.sum) (putF "size" (.int ws.length) (putF "weights" (.ref t) []))
theorem cfs_w (t : Addr) (ws : List Int) : (cfs t ws).lookup ("weights" : Str) = some (.ref t) := by
  unfold cfs
  rw [lookup_putF, if_neg ne_wt, lookup_putF, if_neg ne_ws, lookup_putF, if_pos rfl]
theorem cfs_s (t : Addr) (ws : List Int) : (cfs t ws).lookup ("size" : Str) = some (.int ws.length) := by
  unfold cfs
  rw [lookup_putF, if_neg ne_st, lookup_putF, if_pos rfl]
theorem cfs_t (t : Addr) (ws : List Int) : (cfs t ws).lookup ("total" : Str) = some (.int ws.sum) := by
  unfold cfs
  rw [lookup_putF, if_pos rfl]
theorem cfs_no (t : Addr) (ws : List Int) {m : Str} (h1 : ¬ m = "weights") (h2 : ¬ m = "size") (h3 : ¬ m = "total") : (cfs t ws).lookup m = none := by
  unfold cfs
  rw [lookup_putF, if_neg h3, lookup_putF, if_neg h2, lookup_putF, if_neg h1]
  all_goals rfl
def CommAt (C : Addr) (H : Hp) (p : Addr) (ws : List Int) : Prop := ∃ dx t, H p = some (.ins C dx (cfs t ws)) ∧ H t = some (.tup (ws.map V.int))
theorem CommAt.same {C : Addr} {H H' : Hp} {p : Addr} {ws : List Int} (h : CommAt C H p ws) (s : Same H H') : CommAt C H' p ws := by
  obtain ⟨dx, t, h1, h2⟩ := h
  exact ⟨dx, t, s _ _ h1, s _ _ h2⟩
/-- weights that a committee takes -/
def GoodW (ws : List Int) : Prop := 0 < ws.length ∧ ws.length ≤ 16 ∧ ∀ w ∈ ws, 1 ≤ w ∧ w ≤ 1000000000000

/-! ### x in a dict of the module, x a text -/
section
open PyProof.Rows
/-- b: whether the dict has the key -/
def KHas (K : PySem.W.Frag) (w : World) (a : Addr) (x : Str) (b : Bool) : Prop := ∃ es n r, K.lookup a = some ⟨.type "dict", none, .dict es n, #[]⟩ ∧ PySem.W.KeysLit w.params es.toList ∧ (a == sysModules) = false ∧ PySem.W.nsIn K a x = some r ∧ b = r.isSome
theorem op_inKd {X : Cx} : OpR X (compareOp .In) (fun x y H Q => ∃ p z b, x = .str z ∧ y = .ref p ∧ KHas X.K X.w p z b ∧ Q (.bl b) H) := by
  intro pins s σ H x y v u Q I rx ry h
  obtain ⟨p, z, b, rfl, rfl, ⟨es, n, r, hl, hk, low, e, rfl⟩, q⟩ := h
  obtain ⟨t, rfl⟩ := rx
  obtain rfl : u = Value.ref p := ry
  refine wpAny_in_of (strKind_is X.prog X.w z t) low (PySem.W.mapOf_K (prog := X.prog) (w := X.w) I.kIn hl hk) ?_
  rw [PySem.W.find_K hl e]
  exact ⟨.bl _, H, I.tok _, rfl, q⟩
theorem op_notInKd {X : Cx} : OpR X (compareOp .NotIn) (fun x y H Q => ∃ p z b, x = .str z ∧ y = .ref p ∧ KHas X.K X.w p z b ∧ Q (.bl (!b)) H) := by
  intro pins s σ H x y v u Q I rx ry h
  obtain ⟨p, z, b, rfl, rfl, ⟨es, n, r, hl, hk, low, e, rfl⟩, q⟩ := h
  obtain ⟨t, rfl⟩ := rx
  obtain rfl : u = Value.ref p := ry
  refine wpAny_notIn_of (strKind_is X.prog X.w z t) low (PySem.W.mapOf_K (prog := X.prog) (w := X.w) I.kIn hl hk) ?_
  rw [PySem.W.find_K hl e]
  exact ⟨.bl _, H, I.tok _, rfl, q⟩
end
section
open PyProof.Rows
theorem nsIn_dict {K : PySem.W.Frag} {P : Params} {a : Addr} {es : Array DictEntry} {n : Nat} (hl : K.lookup a = some ⟨.type "dict", none, .dict es n, #[]⟩) (hk : PySem.W.KeysLit P es.toList) (x : Str) :
    PySem.W.nsIn K a x = some ((es.toList.find? fun d => d.key.isStr x).map (·.val)) := by
  unfold PySem.W.nsIn
  rw [hl]
  cases e : es.toList.find? fun d => d.key.isStr x with
  | some d => simp [e]
  | none =>
    have nr : (es.toList.any fun d => d.refKey) = false := by
      rw [List.any_eq_false]
      intro d hd
      obtain ⟨y, t, e1, _⟩ := hk.all d hd
      unfold DictEntry.refKey
      rw [e1]
      simp
    simp [e, nr]
/-- a dict of the module: its keys, texts, and what stands there -/
structure KTab (K : PySem.W.Frag) (w : World) (a : Addr) (kvs : List (Str × Addr)) : Prop where
  at_ : ∃ es n, K.lookup a = some ⟨.type "dict", none, .dict es n, #[]⟩ ∧ PySem.W.KeysLit w.params es.toList ∧ ∀ x : Str, (es.toList.find? fun d => d.key.isStr x).map (·.val) = (kvs.lookup x).map Value.ref
  low : (a == sysModules) = false
theorem KTab.has {K : PySem.W.Frag} {w : World} {a : Addr} {kvs : List (Str × Addr)} (h : KTab K w a kvs) (x : Str) : KHas K w a x (kvs.lookup x).isSome := by
  obtain ⟨es, n, hl, hk, e⟩ := h.at_
  refine ⟨es, n, _, hl, hk, h.low, nsIn_dict hl hk x, ?_⟩
  rw [e]
  cases kvs.lookup x <;> rfl
theorem KTab.get {K : PySem.W.Frag} {w : World} {a : Addr} {kvs : List (Str × Addr)} (h : KTab K w a kvs) {x : Str} {b : Addr} (hx : kvs.lookup x = some b) : KDct K w a x (.ref b) := by
  obtain ⟨es, n, hl, hk, e⟩ := h.at_
  have q := nsIn_dict hl hk x
  rw [e, hx] at q
  exact ⟨es, n, _, hl, hk, q, rfl⟩
theorem isStr_eq {x y : Str} {t : Tok} : (Value.str y t).isStr x = decide (x = y) := by
  show (y == x) = _
  by_cases h : x = y
  · rw [h, decide_eq_true rfl, beq_self_eq_true]
  · rw [decide_eq_false h, beq_eq_false_iff_ne.mpr fun e => h e.symm]
def TabEs : List DictEntry → List (Str × Addr) → Prop
  | [], [] => True
  | d :: l, kv :: r => (∃ t, d.key = .str kv.1 t ∧ d.val = .ref kv.2) ∧ TabEs l r
  | _, _ => False
theorem find_tab (x : Str) : ∀ {l : List DictEntry} {kvs : List (Str × Addr)}, TabEs l kvs → (l.find? fun d => d.key.isStr x).map (·.val) = (kvs.lookup x).map Value.ref
  | [], [], _ => rfl
  | d :: l, (k, b) :: r, h => by
    obtain ⟨⟨t, e1, e2⟩, hr⟩ := h
    have ih := find_tab x hr
    by_cases c : x = k
    · have c1 : d.key.isStr x = true := by rw [e1, isStr_eq, decide_eq_true c]
      rw [List.find?_cons_of_pos (p := fun d : DictEntry => d.key.isStr x) c1, c]
      simp [List.lookup, e2]
    · have c1 : ¬ d.key.isStr x = true := by rw [e1, isStr_eq, decide_eq_false c]; exact Bool.false_ne_true
      rw [List.find?_cons_of_neg (p := fun d : DictEntry => d.key.isStr x) c1, ih]
      have c2 : (x == k) = false := beq_eq_false_iff_ne.mpr c
      simp [List.lookup, c2]
theorem ktab_mk {K : PySem.W.Frag} {w : World} {a : Addr} {es : Array DictEntry} {n : Nat} {kvs : List (Str × Addr)} (hl : K.lookup a = some ⟨.type "dict", none, .dict es n, #[]⟩) (hk : PySem.W.KeysLit w.params es.toList) (low : (a == sysModules) = false) (he : TabEs es.toList kvs) : KTab K w a kvs :=
  ⟨⟨es, n, hl, hk, fun x => find_tab x he⟩, low⟩
end

/-! ### own errors without an own __init__: caught, asked -/
structure XcC (K : PySem.W.Frag) (D : Addr) : Prop where
  cl : (PySem.W.clsIn K D).isSome = true
  ga : PySem.W.findIn K (.ref D) "__getattribute__" = some (some (.builtin "BaseException.__getattribute__"))
  gt : PySem.W.findIn K (.ref D) "__getattr__" = some Option.none
  sub : PySem.W.subIn K (.ref D) (.type "BaseException") = some true
  has : PySem.W.hasDictIn K D = true
  cls : PySem.W.findIn K (.ref D) "__class__" = some (some (.builtin "object.__class__"))
  get : PySem.W.specialIn K (.builtin "object.__class__") "__get__" = some (some (.builtin "getset_descriptor.__get__"))
  tk : PySem.W.takesIn K (.builtin "object.__class__") = some true
  obj : PySem.W.mroIn K D (.type "object") = some true
def rIsN (K : PySem.W.Frag) (a : Addr) (cls : Value) (d : Option Addr) : List V → Hp → VK → Prop := fun xs H Q => ∃ (D : Addr) (c : V) (cv : Value) (b : Bool), xs = [.ref a, c] ∧ cls = .ref D ∧ d = Option.none ∧ XcC K D ∧ ClsV c cv ∧ PySem.W.kitOne K (.ref D) cv = some b ∧ Q (.bl b) H
theorem call_isN {X : Cx} {a : Addr} {cls : Value} {d : Option Addr} {oe : Obj} {pn : List (Addr × Obj)} (hz : Zc cls d oe) (hf : ∃ vs, oe.data = .fields vs) : CallR (X.suite a ((a, oe) :: pn)) (.builtin "isinstance") (rIsN X.K a cls d) := by
  intro pins sh σ H xs us Q I rel hyp
  obtain ⟨D, c, cv, b, rfl, rfl, rfl, C, hcv, e, q⟩ := hyp
  obtain ⟨u1, u2, rfl, r1, r2⟩ := vals2 rel
  have e2 := hcv.eq r2
  subst e2
  cases r1
  obtain ⟨got, _⟩ := I.pin (a, oe) (List.mem_append_left _ List.mem_cons_self)
  obtain ⟨vs, hv⟩ := hf
  have J : PySem.W.InstAt sh.heap a oe D Option.none := by
    obtain ⟨oc, odd, oda, osl⟩ := oe
    obtain ⟨h1, h2⟩ := hz
    dsimp only at h1 h2 hv
    subst h1 h2 hv
    exact ⟨got, rfl, rfl, trivial⟩
  exact PySem.W.kia_one (PySem.W.kitx_exc C.cl C.ga C.gt C.sub C.cls C.get C.tk C.obj) I.kIn J e (fun z => nomatch z) fun tk => ⟨.bl b, H, I.kept (t' := tk) fun _ _ z => z, rfl, q⟩

/-- e.f where the written part is told -/
theorem pe_fldK {X : Cx} {K : PySem.W.Frag} {e : Expr} {f : Str} {ta : TE} {pos : Pos} (hK : X.K = K) (he : PE X e ta) (hb : attributeBase e f X.env (eval e X.env) = eval e X.env) : PE X (.Attribute e f pos) (tFld K ta f) := by
  subst hK
  exact pe_fld he hb
/-- list(xs) where the written part is told -/
def rListOf (K : PySem.W.Frag) : List V → Hp → VK → Prop := fun zs H Q => ∃ (p : Addr) (ys : List V), zs = [V.ref p] ∧ (SqL K H p ys ∨ SqT K H p ys) ∧ (∀ l : Addr, H l = none → Q (.ref l) (upd H l (.lst ys)))
theorem cr_listK {X : Cx} {K : PySem.W.Frag} (hK : X.K = K) : CallR X (.type "list") (rListOf K) := by
  subst hK
  exact call_list_of
/-- len of a list or tuple where the written part is told -/
def rLenOf (K : PySem.W.Frag) : List V → Hp → VK → Prop := fun zs H Q => ∃ (p : Addr) (ys : List V), zs = [V.ref p] ∧ (SqL K H p ys ∨ SqT K H p ys) ∧ Q (.int (ys.length : Int)) H
theorem cr_lenK {X : Cx} {K : PySem.W.Frag} (hK : X.K = K) : CallR X (.builtin "len") (rLenOf K) := by
  subst hK
  exact call_len_seq
/-- o.m(e, ..), m of a built-in type, where the written part is told -/
theorem pe_bmK {X : Cx} {K : PySem.W.Frag} {T id : String} {name : Str} {r : V → List V → Hp → VK → Prop} {o e : Expr} {es : List Expr} {to : TE} {t : TA} {apos cpos : Pos} (hK : X.K = K) (pa : PySem.PlainAttrs T) (slot : PySem.Slot T name id) (hty : typeOf (.builtin id) = pure (.type "method_descriptor")) (hm : MtR X id r) (ho : PE X o to) (ha : PA X (e :: es) t)
    (hbase : attributeBase o name X.env (eval o X.env) = eval o X.env := by rfl)
    (hfew : ((backTo cpos (starEach (e :: es) X.env)).all (fun x => !x.1) && (backToKw cpos (keywordEach [] X.env)).all (fun x => x.1.isSome)
      && decide ((e :: es).length + ([] : List Keyword).length + (if ([] : List Keyword).isEmpty then 0 else 1) < 30)) = true := by rfl)
    (hline : (apos.endLine == cpos.line) = true := by rfl) (hs : starEach (e :: es) X.env = (false, eval e X.env) :: starEach es X.env := by rfl) (hplain : (backTo cpos (starEach es X.env)).any (·.1) = false := by rfl) :
    PE X (.Call (.Attribute o name apos) (e :: es) [] cpos) (tBM K T r to t) := by
  subst hK
  exact pe_bm pa slot hty hm ho ha hbase hfew hline hs hplain

/-! ### a def called while any exception is handled -/
structure FnW (P : Program) (w : World) (K : PySem.W.Frag) (mg : Str → Option Value) (base : Heap) (k : Nat) (f : Addr) (fd : FuncData) (ps : List Str) (sp : Sp) : Prop where
  len : ∀ vs H Q E, sp vs H Q E → vs.length = ps.length
  run : ∀ (A : Around) (out : List Env) (s : Shared) (H : Hp) (ar : Args) (us : List Value) (vs : List V) (Q : VK) (E : XK) (p : Addr × Obj), L2H.RoomH k A → L2H.PinOk out H s p → Env0 P w K mg base A out s H →
    BindsTo s fd ar (ps.zip us) → Vals vs us → sp vs H Q E → codeAny (model P w) A (.call (.ref f) ar) (CR CX0 out P w H s Q E) s
theorem fun_okW {P : Program} {w : World} {K : PySem.W.Frag} {mg : Str → Option Value} {base : Heap} {x qual : Str} {st : Stmt} {f : Addr} {fd : FuncData} {N ps : List Str} {k : Nat} {sp : Sp} (F : Fun K x qual st f fd) (S : FnScope N ps (defScope st))
    (len : ∀ vs H Q E, sp vs H Q E → vs.length = ps.length)
    (body : ∀ (cdv : Value) (A : Around) (out : List Env) (s : Shared) (H : Hp) (vs : List V) (Q : VK) (E : XK) (p : Addr × Obj), L2H.RoomH k (A.deeper (PyProof.Rows.envOfC qual (defScope st) s.heap.objs.size f cdv)) → sp vs H Q E →
      ∃ t, PSs (L2H.cxH CX0 P w K mg base N qual (defScope st) f cdv A out s H E p) (defBody st) t ∧ t { nx := fun _ H' => Q .non H', rt := Q } (start N vs) H) : FnW P w K mg base (k + 1) f fd ps sp := by
  obtain ⟨oc, od, kV, doc, pm, an, cdv, ct, osl, rfl, lk, hcd⟩ := F.ex
  constructor
  · exact len
  intro A out s H ar us vs Q E p room pin env bind vals want
  have up : ∀ b o, base.get? b = some o → s.heap.get? b = some o := fun b o z => (env.bs b o z).1
  have KX : K.In s.heap := env.mod.kin.keeps up
  have places : ∀ y ∈ ps.zip us, (defScope st).names.lookup y.1 = some .local ∨ ((defScope st).names.lookup y.1 = some .cell ∧ ((cellsFrom (s.heap.objs.size + 1) (defScope st).names []).lookup y.1).isSome = true) := by
    rintro ⟨n, v⟩ hy
    exact (S.par n (List.of_mem_zip hy).1).imp id fun q => ⟨q, PySem.W.cellsFrom_some _ _ _ (.inl q)⟩
  refine codeAny_call_function room.depth (KX _ _ lk) rfl S.co S.gen rfl (PySem.W.codeRec_of KX hcd) (bind _ _ _ _ ?_)
  refine wpAny_newFunctionEnv_cells S.kind places fun e he s1 x => ?_
  cases he
  refine ⟨(env.mod.nolimit.keeps up).keeps x.toInCall.keep, codeAny_func ?_⟩
  obtain ⟨t, ht, hq⟩ := body cdv A out s H vs Q E p (room.deeper _) want
  refine wpAny_mono (ht.run [] s1 _ H _ (L2H.inv_startH S pin env (len _ _ _ _ want) vals x) hq) (fun fl s' got => ?_) fun _ _ z => z
  cases fl with
  | next =>
    obtain ⟨_, H2, J, q⟩ := got
    exact ⟨V.non, H2, J.os, J.bare, J.base, J.hok, rfl, q⟩
  | ret u =>
    obtain ⟨v, _, H2, J, rv, q⟩ := got
    exact ⟨v, H2, J.os, J.bare, J.base, J.hok, rv, q⟩
  | brk => exact got.elim fun _ z => z.elim fun _ z => z.2.elim
  | cont => exact got.elim fun _ z => z.elim fun _ z => z.2.elim
theorem pe_callW {X : Cx} {k : Nat} {f : Addr} {fd : FuncData} {ps : List Str} {sp : Sp} {x : Str} {q pos : Pos} {e : Expr} {es : List Expr} {t : TA} {p : Addr × Obj} (F : FnW X.prog X.w X.K X.mg X.base k f fd ps sp) (room : L2H.RoomH k X.A) (hp : p ∈ X.pn) (hg : Gl X x) (hm : X.mg x = some (.ref f)) (hk : PySem.W.keepIn X.K (.ref f) = true)
    (hb : Binds X.K fd ps []) (ha : PA X (e :: es) t) (hdb : (x == ("__debug__" : Str)) = false := by decide) (he : starEach (e :: es) X.env = (false, eval e X.env) :: starEach es X.env := by rfl) (hpl : (backTo pos (starEach es X.env)).any (·.1) = false := by rfl) :
    PE X (.Call (.Name x q) (e :: es) [] pos) (tCallS sp (fun _ => E0) t) := by
  constructor
  intro pins s σ H Q I want
  refine wpAny_Call_Name_kw (ld_glob I hg hm ?_ hdb)
  refine PySem.W.callWith_K (h₀ := X.base) I.ok.mod.kin hk (thn (ha.run pos pins s σ H _ I want) fun us s1 got => ?_) he hpl
  obtain ⟨vs, H1, I1, vals, ask⟩ := got
  refine ⟨I1.kIn, ?_⟩
  have same : us.length = ps.length := vals.length.symm.trans (F.len _ _ _ _ ask)
  have bind := hb s1 us I1.kIn ((congrArg List.length (List.append_nil us)).trans same)
  rw [List.append_nil] at bind
  have at1 := I1.pin p (List.mem_append_left _ hp)
  have pin : L2H.PinOk X.stack H1 s1 p := by
    refine ⟨at1.1, at1.2.1, fun hmm => ?_, at1.2.2.2.2⟩
    rcases List.mem_cons.mp (I1.stkSub p.1 hmm) with z | z
    · exact at1.2.2.1 z
    · exact at1.2.2.2.1 z
  refine wpAny_call (codeAny_mono (F.run X.A X.stack s1 H1 ⟨us, []⟩ us vs Q E0 p room pin I1.env0 bind vals ask) fun r s2 fin => ?_)
  cases r with
  | error z => exact (fin : False).elim
  | ok fl =>
    cases fl with
    | ret u => exact I1.after fin
    | next => exact (fin : False).elim
    | brk => exact (fin : False).elim
    | cont => exact (fin : False).elim

/-! ### x, *xs = t, t a tuple -/
section
open PyProof.Rows
def gStarT (K : PySem.W.Frag) (t : TGs) : TG := fun v σ H Q => ∃ a x xs, v = .ref a ∧ SqT K H a (x :: xs) ∧ xs.length ≤ 1000 ∧ ∀ p, H p = none → t [x, .ref p] σ (_root_.L2.upd H p (.lst xs)) Q
theorem pg_starT {X : Cx} {e1 e2 : Expr} {k : Nat} {p2 pos : Pos} {t : TGs} (hc : X.calm = true) (h : PGs X [e1, e2] t)
    (hs : (assignEach [e1, .Starred e2 p2] X.env).map (·.2) = (assignEach [e1, e2] X.env).map (·.2) := by rfl) (hn : (assignEach [e1, .Starred e2 p2] X.env).length = 2 := by rfl)
    (hst : (assignEach [e1, .Starred e2 p2] X.env).findIdx? (·.1) = some 1 := by rfl) : PG X (.Tuple [e1, .Starred e2 p2] k pos) (gStarT X.K t) := by
  refine ⟨fun pins s σ H v u Q I r hw => ?_⟩
  obtain ⟨a, x, xs, e, hq, hl, hw⟩ := hw
  subst e
  cases r
  obtain ⟨its, rv, ht, hz⟩ := I.tuple hq
  cases its with
  | nil => cases rv
  | cons y ys =>
  have rx : RelV x y := by cases rv; assumption
  have rxs : Vals xs ys := by cases rv; assumption
  have hhd := I.ok.hd hc
  have lys := rxs.length
  rw [assign_Tuple]
  refine wpAny_bind (wpAny_standAt ?_)
  unfold unpack
  rw [hn, hst]
  refine wpAny_bind (wpAny_holding ?_)
  have hlt : a ≠ s.heap.objs.size := by obtain ⟨o, ho, _⟩ := ht; exact Nat.ne_of_lt (Heap.lt_size ho)
  unfold unpackItems
  refine wpAny_bind ?_
  unfold notIterableAtAll
  refine wpAny_bind (wpAny_specialOf ht.typeIs slot_tuple_iter.lookup ?_)
  refine wpAny_pure ?_
  simp only [Bool.false_eq_true, if_false]
  refine wpAny_bind (wpAny_holding (iter_tuple ht ?_))
  have h1z : (y :: ys).toArray.size = ys.length + 1 := by simp
  refine wpAny_bind (wpAny_holding (draw_tuple hlt 1 0 _ _ ⟨_, Heap.get?_push_size _ rfl, rfl, rfl⟩ (ht.push _) (by rw [h1z]; omega) fun h₁ hit₁ hs₁ => ?_))
  have hl₁ : IsTup h₁ a (y :: ys).toArray := (ht.push _).extBut hs₁.extBut hlt
  rw [Nat.zero_add] at hit₁
  obtain ⟨oi, hoi, _⟩ := id hit₁
  obtain ⟨ol, hol, _⟩ := id hl₁
  rw [List.drop_zero]
  have e1 : (y :: ys).toArray.toList.take 1 = [y] := rfl
  rw [e1]
  rw [if_neg (show ¬ ([y].length < 1) by simp)]
  refine wpAny_bind (wpAny_holding (PySem.W.kun_collect (s := { s with heap := h₁ }) (T := "tuple_iterator") (.inr (.inr (.inr rfl))) (Walks.tuple (A := X.A.in1) hhd s.heap.objs.size a hlt (y :: ys).toArray) (fun j u st => st.1.typeIs) (k := 1) (by rw [h1z]; omega) ⟨hit₁, hl₁⟩ (Heap.lt_size hoi) (Heap.lt_size hol) (fun h₂ tk hk => ?_) (by rw [h1z, sizeLine_eq]; omega)))
  have e2 : (y :: ys).toArray.toList.drop 1 = ys := rfl
  rw [e2]
  rw [if_neg (show ¬ (ys.length < 2 - 1 - 1) by omega)]
  have e3 : ys.take (ys.length - (2 - 1 - 1)) = ys := by simp
  have e4 : ys.drop (ys.length - (2 - 1 - 1)) = [] := by simp
  rw [e3, e4]
  have he : ∀ b o, s.heap.get? b = some o → h₂.get? b = some o := fun b o e => by
    have hb : b ≠ s.heap.objs.size := Nat.ne_of_lt (Heap.lt_size e)
    exact hk b o hb (hs₁.extBut b o hb (Heap.get?_push_of_some _ e))
  have I1 : Inv X pins σ H { s with heap := h₂, toks := tk } := I.kept he
  refine wpAny_bind (wpAny_newList (wpAny_pure ?_) (by rw [← lys, sizeLine_eq]; omega))
  have I2 : Inv X pins σ (upd H h₂.objs.size (.lst xs)) { s with heap := h₂.push { cls := .type "list", data := .seq ys.toArray }, toks := tk } :=
    I1.laid (t' := tk) (fun b o g => Heap.get?_push_of_some _ g) (Nat.le_refl _) ⟨by rw [sizeLine_eq]; omega, ys, 0, rxs, Heap.get?_push_size _ rfl⟩
  rw [hs]
  exact h.run pins _ σ _ [x, .ref h₂.objs.size] _ Q I2 (.cons rx (.cons rfl .nil)) (hw _ (I1.hok.fresh (Nat.le_refl _)))
end

/-! ### sorted(a list of ints), of any length -/
def rSortIs (K : PySem.W.Frag) : List V → Hp → VK → Prop := fun vs H Q => ∃ (l : Addr) (zs : List Int), vs = [V.ref l] ∧ SqL K H l (zs.map V.int) ∧
  ∀ (ys : List Int) (p : Addr), ys.Perm zs → ys.Pairwise (· ≤ ·) → H p = none → Q (.ref p) (upd H p (.lst (ys.map V.int)))
theorem cr_sortIs {X : Cx} : CallR X (.builtin "sorted") (rSortIs X.K) := by
  intro pins sh σ H vs us Q I rel want
  obtain ⟨l, zs, rfl, there, fin⟩ := want
  obtain ⟨its, rv, pl, few⟩ := I.list there
  rw [Vals.ref1 rel]
  have isI := rv.ints
  have same := rv.length
  refine PyProof.Rows.sorted_intsAny pl.isList isI (by rw [← same]; exact few) fun out ys h1 h2 h3 => ?_
  obtain ⟨ep, at2⟩ := PyProof.Rows.sortedAll_at sh.heap its out
  have len : (ys.map V.int).length ≤ sizeLine := by
    rw [List.length_map, h2.length_eq]
    rw [List.length_map] at few
    exact few
  exact ⟨.ref _, upd H (sh.heap.objs.size + 1) (.lst (ys.map V.int)), I.laid (t' := sh.toks) (fun _ _ => PyProof.Rows.sortedAll_old) (Nat.le_succ _) ⟨len, out.toList, ep, vals_of_ints h1, at2⟩, rfl, fin ys _ h2 h3 (I.hok.fresh (Nat.le_succ _))⟩
/-- sorted(a dict whose keys are ints), of any length -/
def rSortDs : List V → Hp → VK → Prop := fun vs H Q => ∃ (d : Addr) (es : List (Key × V)) (zs : List Int), vs = [V.ref d] ∧ Rd H d (.dK es) ∧ es.map (·.1) = zs.map Sum.inl ∧
  ∀ (ys : List Int) (p : Addr), ys.Perm zs → ys.Pairwise (· ≤ ·) → H p = none → Q (.ref p) (upd H p (.lst (ys.map V.int)))
theorem cr_sortDs {X : Cx} (calm : X.calm = true) : CallR X (.builtin "sorted") rSortDs := by
  intro pins sh σ H vs us Q I rel want
  obtain ⟨d, es, zs, rfl, there, keys, fin⟩ := want
  rw [Vals.ref1 rel]
  obtain ⟨few, low, vals, kv, dict⟩ := dk_rd I.hok there
  obtain ⟨ep, at1⟩ := dict.dictAt
  have kk : vals.map (·.1) = zs.map Sum.inl := kv.keys.symm.trans keys
  have same : vals.length = zs.length := by
    have e := congrArg List.length kk
    rw [List.length_map, List.length_map] at e
    exact e
  have few2 : vals.length ≤ sizeLine := by rw [← kv.length]; exact few
  refine Calls.call_function_entry PyProof.Rows.kind_sorted PyProof.Rows.plain_sorted PyProof.Rows.entry_sorted (PyProof.Rows.args_sorted1 _) ?_
  unfold Builtin.«sorted»
  refine wpAny_bind (m := checkCount "sorted" 1 1 _) (wpAny_pure ?_)
  refine wpAny_bind (PySem.W.kdu_collect (A := X.A.in1) (PySem.W.kdl_dict (knd := mixKind X.prog X.w) (kvs := vals) (ep := ep) low) (I.ok.hd calm) at1 few2 fun h2 tk acc keep got => ?_)
  have la : acc.toList.length = zs.length := by rw [Array.length_toList, got.1, same]
  have isI : PyProof.Rows.IntsAre acc.toList zs := ints_each la fun j v e => by
    obtain ⟨k, x, e1, e2⟩ := got.2 j v (by rw [← Array.getElem?_toList]; exact e)
    have e3 : (vals.map (·.1))[j]? = some k := by rw [List.getElem?_map, e1]; rfl
    rw [kk, List.getElem?_map] at e3
    cases e4 : zs[j]? with
    | none => rw [e4] at e3; cases e3
    | some y =>
      rw [e4] at e3
      obtain rfl : Sum.inl y = k := Option.some.inj e3
      rcases keyIs_shape (show keyIs (Sum.inl y) v = true from e2) with ⟨i, t, ek, ev⟩ | ⟨z, t, ek, ev⟩
      · cases ek
        exact ⟨y, t, rfl, ev⟩
      · cases ek
  have fewA : acc.toList.length ≤ sizeLine := by rw [la, ← same]; exact few2
  have I1 : L2.Inv X pins σ H { sh with heap := h2, toks := tk } := I.kept keep
  refine wpAny_bind (wpAny_newList ?_ fewA)
  have at2 : (h2.push (PyProof.Rows.seqObj "list" acc.toList.toArray 0)).get? h2.objs.size = some (PyProof.Rows.seqObj "list" acc.toList.toArray 0) := Heap.get?_push_size _ rfl
  show wpAny _ _ _ _ _ { sh with heap := h2.push (PyProof.Rows.seqObj "list" acc.toList.toArray 0), toks := tk }
  refine wpAny_bind (wpAny_holding (wpAny_call_entry PyProof.Rows.slot_list_sort ⟨_, at2, rfl⟩ PyProof.Rows.entry_list_sort
    (PyProof.Rows.list_sort_treeAny (s := { sh with heap := h2.push (PyProof.Rows.seqObj "list" acc.toList.toArray 0), toks := tk }) at2 isI fewA fun out ys g1 g2 g3 => ⟨_, rfl, ?_⟩) (PyProof.Rows.args_list_sort _)))
  obtain ⟨c, at3⟩ := PyProof.Rows.sortedHeap_at (vs := acc.toList) (out := out) at2
  have len : (ys.map V.int).length ≤ sizeLine := by
    rw [List.length_map, g2.length_eq, ← same]
    exact few2
  refine wpAny_pure ⟨_, rfl, .ref h2.objs.size, upd H h2.objs.size (.lst (ys.map V.int)), I1.laid (t' := tk) (fun b u e => ?_) (Nat.le_refl _)
    ⟨len, out.toList, c, vals_of_ints g1, at3⟩, rfl, fin ys _ g2 g3 (I1.hok.fresh (Nat.le_refl _))⟩
  have lt : b < h2.objs.size := Heap.lt_size e
  rw [PyProof.Rows.sortedHeap_old (Nat.ne_of_lt lt) (by rw [PyProof.Rows.size_push']; exact Nat.lt_succ_of_lt lt)]
  exact Heap.get?_push_of_some _ e

/-! ### a tuple times nought -/
section
open PyProof.Rows
theorem tuple_mul0 (l : Addr) (items : Array Value) (n : Nat) (dd : Option Addr) (sl : Array (Option Value)) (u : Tok) (c1 : (items.isEmpty || (0 : Int) == 1) = false) :
    Meets (Builtin.«tuple.__mul__» ⟨[.ref l, .int 0 u], []⟩) (fun _ R s => s.heap.get? l = some { cls := .type "tuple", dict := dd, data := .seq items n, slots := sl } ∧
      R (.ok (.ret (Value.ref s.heap.objs.size))) { s with heap := s.heap.push { cls := Value.type "tuple", data := Data.seq #[] }, toks := s.toks }) :=
  .of_wp fun prog w A R s h => by
    obtain ⟨hp, g, d, tk, os⟩ := s
    obtain ⟨hl, h⟩ := h
    have f1 := AutoSeq1.idx_int
    have c0 : (decide ((0 : Int) < -(2 ^ 63)) || decide ((0 : Int) ≥ 2 ^ 63)) = false := by decide
    have c2 : (decide ((0 : Int) ≤ 0) || items.isEmpty) = true := rfl
    wp_walk using wpAny_loadPart' hl
    repeat (first
      | (refine wpAny_ite_false (decide_eq_false (by rw [c0]; exact Bool.false_ne_true)) ?_; wp_walk using wpAny_loadPart' hl)
      | (refine wpAny_ite_false (decide_eq_false (by rw [c1]; exact Bool.false_ne_true)) ?_; wp_walk using wpAny_loadPart' hl)
      | (refine wpAny_ite_true (decide_eq_true (by rw [c2])) ?_; wp_walk using wpAny_loadPart' hl))
    exact ⟨_, rfl, h⟩
def rRepT0 (K : PySem.W.Frag) : R2 := fun x y H Q => ∃ l xs, x = .ref l ∧ y = .int 0 ∧ SqT K H l xs ∧ xs ≠ [] ∧ ∀ p, H p = none → Q (.ref p) (_root_.L2.upd H p (.tup []))
theorem op_repT0 {X : Cx} : OpR X (binaryOp .Mult) (rRepT0 X.K) := by
  intro pins s σ H x y v u Q I rx ry h
  obtain ⟨l, xs, rfl, rfl, hT, hne, q⟩ := h
  cases rx
  obtain ⟨t, rfl⟩ := ry
  obtain ⟨its, r, ⟨⟨cls, dd, data, sl⟩, ho, hc, n, hd⟩, hs⟩ := I.tuple hT
  simp only at hc hd
  subst hc hd
  have hle : its.length = xs.length := r.length.symm
  have hn : its ≠ [] := fun e => hne (by
    rw [e] at hle
    exact List.eq_nil_of_length_eq_zero hle.symm)
  have hi : its.toArray.isEmpty = false := by
    cases its with
    | nil => exact absurd rfl hn
    | cons a b => rfl
  have c1 : (its.toArray.isEmpty || (0 : Int) == 1) = false := by
    rw [hi, Bool.false_or]
    rfl
  refine wpAny_binaryOp_repeat_ref (T := "tuple") (U := "int") (by decide) ⟨_, ho, rfl⟩ (fun s' => typeIs_int s' 0 t) noFill_tuple_mul F.fills_int_mul F.slot_int_rmul repeat_tuple F.slot_int_index.lookup
    (call_meets F.slot_int_rmul (typeIs_int s 0 t) F.entry_int_rmul (F.args_int_rmul_2 _ _) (int_rmul_tuple 0 t l its.toArray n dd sl)
      ⟨ho, rfl, ⟨_, ho, rfl⟩, call_meets F.slot_tuple_mul ⟨_, ho, rfl⟩ F.entry_tuple_mul (F.args_tuple_mul_2 _ _) (tuple_mul0 l its.toArray n dd sl t c1) ⟨ho, ?_⟩⟩)
  refine ⟨.ref s.heap.objs.size, _, I.laid (t' := s.toks) (o := .tup []) (fun b ob q => Heap.get?_push_of_some _ q) (Nat.le_refl _) ?_, rfl, q _ (I.hok.fresh (Nat.le_refl _))⟩
  exact ⟨(by show 0 ≤ sizeLine; decide), [], .nil, IsTup.new _ _⟩
end

/-! ### a tuple times 0, 1 or more -/
section
open PyProof.Rows
theorem tuple_mul1 (l : Addr) (items : Array Value) (n : Nat) (dd : Option Addr) (sl : Array (Option Value)) (u : Tok) :
    Meets (Builtin.«tuple.__mul__» ⟨[.ref l, .int 1 u], []⟩) (fun _ R s => s.heap.get? l = some { cls := .type "tuple", dict := dd, data := .seq items n, slots := sl } ∧ R (.ok (.ret (.ref l))) s) :=
  .of_wp fun prog w A R s h => by
    obtain ⟨hp, g, d, tk, os⟩ := s
    obtain ⟨hl, h⟩ := h
    have f1 := AutoSeq1.idx_int
    have c0 : (decide ((1 : Int) < -(2 ^ 63)) || decide ((1 : Int) ≥ 2 ^ 63)) = false := by decide
    have c1 : (items.isEmpty || (1 : Int) == 1) = true := by rw [show ((1 : Int) == 1) = true from rfl, Bool.or_true]
    have hT : Shared.TypeIs ⟨hp, g, d, tk, os⟩ (.ref l) "tuple" := ⟨_, hl, rfl⟩
    wp_walk using wpAny_loadPart' hl, wpAny_typeOf hT
    repeat (first
      | (refine wpAny_ite_false (decide_eq_false (by rw [c0]; exact Bool.false_ne_true)) ?_; wp_walk using wpAny_loadPart' hl, wpAny_typeOf hT)
      | (refine wpAny_ite_true (decide_eq_true (by rw [c1])) ?_; wp_walk using wpAny_loadPart' hl, wpAny_typeOf hT))
    all_goals first | exact h | exact ⟨_, rfl, h⟩
def rRepA (K : PySem.W.Frag) : R2 := fun x y H Q => ∃ l k xs, x = .ref l ∧ y = .int k ∧ SqT K H l xs ∧ xs ≠ [] ∧ 0 ≤ k ∧ k ≤ 1000 ∧ xs.length ≤ 1000 ∧
  (k = 1 → Q (.ref l) H) ∧ (k ≠ 1 → ∀ p, H p = none → Q (.ref p) (_root_.L2.upd H p (.tup (List.replicate k.toNat xs).flatten)))
theorem op_repA {X : Cx} : OpR X (binaryOp .Mult) (rRepA X.K) := by
  intro pins s σ H x y v u Q I rx ry h
  obtain ⟨l, k, xs, rfl, rfl, hT, hne, k0, k1, lx, q1, q2⟩ := h
  by_cases c0 : k = 0
  · subst c0
    exact op_repT0 pins s σ H _ _ v u Q I rx ry ⟨l, xs, rfl, rfl, hT, hne, q2 (by decide)⟩
  by_cases c1 : k = 1
  · subst c1
    cases rx
    obtain ⟨t, rfl⟩ := ry
    obtain ⟨its, r, ⟨⟨cls, dd, data, sl⟩, ho, hc, n, hd⟩, hs⟩ := I.tuple hT
    simp only at hc hd
    subst hc hd
    exact wpAny_binaryOp_repeat_ref (T := "tuple") (U := "int") (by decide) ⟨_, ho, rfl⟩ (fun s' => typeIs_int s' 1 t) noFill_tuple_mul F.fills_int_mul F.slot_int_rmul repeat_tuple F.slot_int_index.lookup
      (call_meets F.slot_int_rmul (typeIs_int s 1 t) F.entry_int_rmul (F.args_int_rmul_2 _ _) (int_rmul_tuple 1 t l its.toArray n dd sl)
        ⟨ho, rfl, ⟨_, ho, rfl⟩, call_meets F.slot_tuple_mul ⟨_, ho, rfl⟩ F.entry_tuple_mul (F.args_tuple_mul_2 _ _) (tuple_mul1 l its.toArray n dd sl t) ⟨ho, ⟨.ref l, H, I, rfl, q1 rfl⟩⟩⟩)
  · exact op_repT pins s σ H _ _ v u Q I rx ry ⟨l, k, xs, rfl, rfl, hT, hne, by omega, k1, lx, q2 c1⟩
/-- a tuple times a number: somewhere the tuple lies -/
def rRepB : R2 := fun x y H Q => ∃ l k xs, x = .ref l ∧ y = .int k ∧ H l = some (.tup xs) ∧ xs ≠ [] ∧ 0 ≤ k ∧ k ≤ 1000 ∧ xs.length ≤ 1000 ∧ ∀ p H', Same H H' → H' p = some (.tup (List.replicate k.toNat xs).flatten) → Q (.ref p) H'
theorem op_repB {X : Cx} : OpR X (binaryOp .Mult) rRepB := by
  intro pins s σ H x y v u Q I rx ry h
  obtain ⟨l, k, xs, ex, ey, hT, hne, k0, k1, lx, q⟩ := h
  refine op_repA pins s σ H x y v u Q I rx ry ⟨l, k, xs, ex, ey, SqT.of hT, hne, k0, k1, lx, fun e => q l H (Same.refl H) ?_, fun _ p hp => q p _ (same_new hp) upd_same⟩
  rw [hT, e]
  show _ = some (HO.tup (xs ++ []))
  rw [List.append_nil]
end

/-! ### many new objects at once -/
section
open PyProof.Rows
variable {X : Cx}
theorem inv_more {pins : List (Addr × Obj)} {σ : L2.St} {H H' : Hp} {s : Shared} {h' : Heap} {tk : Nat} (I : L2.Inv X pins σ H s) (k : ∀ b o, s.heap.get? b = some o → h'.get? b = some o)
    (old : ∀ b, b < s.heap.objs.size → H' b = H b) (new : ∀ b o, s.heap.objs.size ≤ b → H' b = some o → ObjOk X.prog X.w H' h' b o) : L2.Inv X pins σ H' { s with heap := h', toks := tk } := by
  have on : ∀ b o, H b = some o → H' b = some o := fun b o e => by rw [old b (I.hok b o e).lt]; exact e
  refine L2.Inv.call' (ch := []) I rfl ?_ (fun b o e => ?_) I.bare (fun b z => absurd z List.not_mem_nil)
  · exact { keep := fun b o e _ _ _ => k b o e, slot := fun b o e _ _ _ => ⟨o.slots, k b o e⟩, free := fun b o e n _ => (old b (Heap.lt_size e)).trans n, there := fun b o e _ => ⟨o, k b o e⟩,
            tups := fun b xs => on b _, frzs := fun b o u => on b _, tbls := fun b ps e => ⟨#[], by rw [Array.append_empty]; exact on b _ e⟩ }
  · rcases Nat.lt_or_ge b s.heap.objs.size with lt | ge
    · rw [old b lt] at e
      exact (I.hok b o e).stay (fun c u _ => k c u) (fun c => on c _) fun c xs => on c _
    · exact new b o ge e
end
/-! ### dict(t), t a tuple of pairs whose object is known -/
section
open PyProof.Rows
theorem vals_pairs {X : Cx} {pins : List (Addr × Obj)} {σ : L2.St} {H : Hp} {s : Shared} (I : L2.Inv X pins σ H s) : ∀ {ps : List Addr} {kvs : List (Key × V)}, Paired (fun p kv => SqT X.K H p [kV kv.1, kv.2]) ps kvs →
    ∃ (rs : List (Key × Value)) (vs : List (Value × Value)), KV kvs rs ∧ rs.length = ps.length ∧ vs.length = ps.length ∧
      ∀ (j : Nat) (u y : Value), vs[j]? = some (u, y) → ∃ b k, ps[j]? = some b ∧ IsTup s.heap b #[u, y] ∧ rs[j]? = some (k, y) ∧ keyIs k u = true
  | _, _, .nil => ⟨[], [], .nil, rfl, rfl, fun _ _ _ e => nomatch e⟩
  | _, _, .cons (a := a) (b := q) h t => by
    obtain ⟨rs, vs, r, l1, l2, at'⟩ := vals_pairs I t
    obtain ⟨its, rv, here, _⟩ := I.tuple h
    obtain ⟨u, y, ei, ru, ry⟩ := vals2 rv
    subst ei
    refine ⟨(q.1, y) :: rs, (u, y) :: vs, .cons ⟨rfl, ry⟩ r, congrArg (· + 1) l1, congrArg (· + 1) l2, fun j u' y' e => ?_⟩
    cases j with
    | zero =>
      cases e
      exact ⟨a, q.1, rfl, here, rfl, kV_is (P := X.prog) (w := X.w) ru⟩
    | succ j => exact at' j u' y' e
def rDictPT (K : PySem.W.Frag) : List V → Hp → VK → Prop := fun xs H Q => ∃ (a : Addr) (o : Obj) (ps : List Addr) (kvs : List (Key × V)), xs = [.ref a] ∧ H a = some (.frz o (.tup (ps.map V.ref))) ∧ o.dict = none ∧ Paired (fun p kv => SqT K H p [kV kv.1, kv.2]) ps kvs ∧
    ∀ p, H p = none → Q (.ref p) (upd H p (.dK (mergeK [] kvs)))
theorem call_dictPT {X : Cx} (calm : X.calm = true) : CallR X (.type "dict") (rDictPT X.K) := by
  intro pins s σ H xs us Q I r want
  obtain ⟨a, o, ps, kvs, rfl, there, bare, pairs, fin⟩ := want
  rw [Vals.ref1 r]
  obtain ⟨ho, hz, its, rv, o2, ho2, hc, n, hdat⟩ := I.hok a _ there
  rw [ho] at ho2
  cases ho2
  have ei := refs_at rv
  subst ei
  rw [List.length_map] at hz
  obtain ⟨rs, vs, rel, l1, l2, at'⟩ := vals_pairs I pairs
  have big : (s.heap.objs.size == sysModules) = false := beq_eq_false_iff_ne.mpr (Nat.ne_of_gt I.big)
  have len : (mergeK [] kvs).length ≤ sizeLine := Nat.le_trans (length_mergeK kvs []) (by rw [rel.length, l1]; exact Nat.le_trans (Nat.le_of_eq (Nat.zero_add _)) hz)
  refine PySem.call_dict_pairs (knd := mixKind X.prog X.w) (kvs := rs) (PySem.PairArg.tuple a (ps.map Value.ref).toArray (fun j => ps.getD j 0) vs) (I.ok.hd calm) ⟨⟨o, n, ho, hc, bare, hdat⟩, by simp [l2], fun j u y e => ?_⟩ ⟨l1.trans l2.symm, fun j u y e => ?_⟩ (by rw [l2]; exact hz) fun h' tk dict keep => ?_
  · obtain ⟨b, k, e1, e2, _⟩ := at' j u y e
    have eb : ps.getD j 0 = b := by rw [List.getD_eq_getElem?_getD, e1]; rfl
    exact ⟨by simp [e1, eb], .inl (by show IsTup s.heap (ps.getD j 0) #[u, y]; rw [eb]; exact e2)⟩
  · obtain ⟨b, k, _, _, e3, e4⟩ := at' j u y e
    exact ⟨k, e3, e4⟩
  · exact ⟨.ref s.heap.objs.size, upd H s.heap.objs.size (.dK (mergeK [] kvs)), I.laid (t' := tk) (fun b u e => keep b u List.not_mem_nil e) (Nat.le_refl _) ⟨len, big, merged [] rs, KV.merge rel .nil, dict⟩, rfl, fin _ (I.hok.fresh (Nat.le_refl _))⟩
end
/-! ### tuple(d.items()) -/
section
open PyProof.Rows
/-- where the pairs lie -/
def pairsH (H : Hp) (as : List Addr) (kvs : List (Key × V)) : Hp := fun b => match (as.zip kvs).find? (fun x => decide (x.1 = b)) with
  | some x => some (.tup [kV x.2.1, x.2.2])
  | none => H b
theorem find_zip : ∀ {as : List Addr} {kvs : List (Key × V)} {j : Nat} {b : Addr} {q : Key × V}, as.Nodup → as[j]? = some b → kvs[j]? = some q → (as.zip kvs).find? (fun x => decide (x.1 = b)) = some (b, q)
  | [], _, j, b, q, _, h, _ => nomatch h
  | _ :: _, [], j, b, q, _, _, h => nomatch h
  | a :: as, p :: kvs, 0, b, q, _, h1, h2 => by
    cases h1
    cases h2
    rw [List.zip_cons_cons, List.find?_cons]
    show (match decide (a = a) with | true => some (a, p) | false => _) = _
    rw [decide_eq_true rfl]
  | a :: as, p :: kvs, j + 1, b, q, nd, h1, h2 => by
    have nd := List.nodup_cons.mp nd
    have ne : a ≠ b := fun e => nd.1 (by rw [e]; exact List.mem_of_getElem? (show as[j]? = some b from h1))
    rw [List.zip_cons_cons, List.find?_cons]
    show (match decide (a = b) with | true => some (a, p) | false => _) = _
    rw [decide_eq_false ne]
    exact find_zip nd.2 h1 h2
theorem find_off {as : List Addr} {kvs : List (Key × V)} {b : Addr} (h : b ∉ as) : (as.zip kvs).find? (fun x => decide (x.1 = b)) = none :=
  List.find?_eq_none.mpr fun x hx e => h (by rw [← of_decide_eq_true e]; exact (List.of_mem_zip (by simpa using hx)).1)
theorem pairsH_off {H : Hp} {as : List Addr} {kvs : List (Key × V)} {b : Addr} (h : b ∉ as) : pairsH H as kvs b = H b := by
  unfold pairsH
  rw [find_off h]
theorem tup_new_items {prog : Program} {w : World} {A : Around} {E : Value → Shared → Prop} {s : Shared} {knd : KeyKind prog w Key} {kvs : List (Key × Value)} {r d : Addr} {ep : Nat} {Q₁ : Value → Shared → Prop} (hh : A.handled = none) (hv : s.heap.IsItemsView r d) (hm : s.heap.DictAt knd d kvs ep) (hn : kvs.length ≤ sizeLine)
    (want : ∀ h' tk (as : List Addr), (∀ b o, s.heap.get? b = some o → h'.get? b = some o) → as.length = kvs.length → PySem.W.KdxG knd kvs s.heap.objs.size h' as →
      Q₁ (.ref h'.objs.size) { s with heap := h'.push { cls := .type "tuple", data := .seq (as.map Value.ref).toArray }, toks := tk }) :
    codeAny (model prog w) A (.call (.builtin "tuple.__new__") ⟨[.type "tuple", .ref r], []⟩) (wants Q₁ E) s := by
  refine codeAny_of_tree ?_
  refine wpAny_bind (m := checkBuiltinCall "tuple.__new__" _) (wpAny_of_eq (PySem.F.newCall_tuple_1 _) (wpAny_pure ⟨plainId_quiet PySem.F.plain_tuple_new _, codeAny_builtin PySem.F.entry_tuple_new ?_⟩))
  rw [Around.under_plainId PySem.F.plain_tuple_new _]
  have g1 := sub_tuple_self
  have g2 := init_tuple_lookup
  have g3 := madeHere_tuple
  obtain ⟨ov, hov, hcv, hdv⟩ := id hv
  have ty : s.TypeIs (.ref r) "dict_items" := ⟨ov, hov, hcv⟩
  obtain ⟨hp, gg, dd, tt, os⟩ := s
  wp_walk using wpAny_typeOf ty, PySem.W.kdx_collect (A := A.in1) (knd := knd) (kvs := kvs) (ep := ep) (show A.in1.handled = none from hh) hv hm hn
  intro h' tk as keep len pairs
  show wpAny _ _ (Builtin.Tuple.tupleExact (as.map Value.ref).toArray >>= fun v => ret v) _ _ _
  unfold Builtin.Tuple.tupleExact
  refine wpAny_bind (wpAny_newObj_type ?_ (by show (as.map Value.ref).toArray.size ≤ sizeLine; simp [len, hn]))
  exact wpAny_pure (want h' tk as keep len pairs)
theorem call_tup_items {prog : Program} {w : World} {A : Around} {E : Value → Shared → Prop} {s : Shared} {knd : KeyKind prog w Key} {kvs : List (Key × Value)} {r d : Addr} {ep : Nat} {Q : Value → Shared → Prop} (hh : A.handled = none) (hv : s.heap.IsItemsView r d) (hm : s.heap.DictAt knd d kvs ep) (hn : kvs.length ≤ sizeLine)
    (want : ∀ h' tk (as : List Addr), (∀ b o, s.heap.get? b = some o → h'.get? b = some o) → as.length = kvs.length → PySem.W.KdxG knd kvs s.heap.objs.size h' as →
      Q (.ref h'.objs.size) { s with heap := h'.push { cls := .type "tuple", data := .seq (as.map Value.ref).toArray }, toks := tk }) :
    wpAny (model prog w) A (call (.type "tuple") [.ref r]) Q E s := by
  refine callType_codes (Q₁ := fun obj s₁ => s₁.TypeIs obj "tuple" ∧ Q obj s₁) PySem.F.called_tuple (PySem.F.typeCall_tuple_1 _) PySem.F.entry_object_init
    (tup_new_items (A := A.in1) hh hv hm hn fun h' tk as k1 k2 k3 => ⟨⟨_, Heap.get?_push_size _ rfl, rfl⟩, want h' tk as k1 k2 k3⟩) fun obj s₁ z => ?_
  exact ⟨z.1, PySem.F.args_object_init_2 obj _, object_init_meets PySem.F.called_tuple.init.lookup PySem.F.called_tuple.made (by decide) prog w A.in1 _ s₁ ⟨z.1, rfl, z.2⟩⟩
def rTupItems : V → Hp → VK → Prop := fun x H Q => ∃ (d : Addr) (kvs : List (Key × V)), x = .ref d ∧ H d = some (.dK kvs) ∧
  ∀ (H' : Hp) (p : Addr) (o : Obj) (ts : List Addr), Same H H' → H p = none → o.dict = none → H' p = some (.frz o (.tup (ts.map V.ref))) → Paired (fun (t : Addr) (q : Key × V) => H' t = some (.tup [kV q.1, q.2])) ts kvs → Q (.ref p) H'
def tTupItems (te : TE) : TE := fun σ H Q => te σ H fun x H1 => rTupItems x H1 Q
theorem pairsH_all {H : Hp} : ∀ {as : List Addr} {kvs : List (Key × V)}, as.length = kvs.length → as.Nodup → ∀ all : List Addr, ∀ alk : List (Key × V), all.Nodup → (∀ (j : Nat) (b : Addr), as[j]? = some b → ∃ i : Nat, all[i]? = some b ∧ alk[i]? = kvs[j]?) → Paired (fun (t : Addr) (q : Key × V) => pairsH H all alk t = some (.tup [kV q.1, q.2])) as kvs
  | [], [], _, _, _, _, _, _ => .nil
  | [], _ :: _, h, _, _, _, _, _ => nomatch h
  | _ :: _, [], h, _, _, _, _, _ => nomatch h
  | a :: as, q :: kvs, h, nd, all, alk, na, sub => by
    have nd := List.nodup_cons.mp nd
    obtain ⟨i, e1, e2⟩ := sub 0 a rfl
    refine .cons ?_ (pairsH_all (Nat.succ.inj h) nd.2 all alk na fun j b e => sub (j + 1) b e)
    unfold pairsH
    rw [find_zip na e1 e2]
theorem pe_tupItems {X : Cx} {e : Expr} {te : TE} {p apos cpos pos : Pos} (calm : X.calm = true) (he : PE X e te) (hg : Gl X "tuple") (hm : X.mg "tuple" = none) (hv : bootBuiltins "tuple" = some (.type "tuple"))
    (hbase : attributeBase e "items" X.env (eval e X.env) = eval e X.env := by rfl) (hline : (apos.endLine == cpos.line) = true := by rfl)
    (hs : starEach [.Call (.Attribute e "items" apos) [] [] cpos] X.env = (false, eval (.Call (.Attribute e "items" apos) [] [] cpos) X.env) :: starEach [] X.env := by rfl) :
    PE X (.Call (.Name "tuple" p) [.Call (.Attribute e "items" apos) [] [] cpos] [] pos) (tTupItems te) := by
  constructor
  intro pins s σ H Q I hq
  refine wpAny_Call_Name_kw (ld_blt I hg hm hv ?_)
  refine PyProof.Rows.callWith_type1 ?_ hs rfl
  rw [hs]
  refine Calls.spliced_cons (wpAny_Call_method (T := "dict") (id := "dict.items") hbase rfl hline PySem.F.plainAttrs_dict PySem.F.slot_dict_items PySem.F.type_dict_items (thn (he.run pins s σ H _ I hq) fun u s1 ⟨x, H1, I1, rx, d, kvs, ex, hd, fin⟩ => ?_))
  subst ex
  obtain rfl : u = Value.ref d := rx
  obtain ⟨few, low, vs, kv, dict⟩ := I1.hok d _ hd
  obtain ⟨ep, here⟩ := dict.dictAt
  have lk : kvs.length = vs.length := Paired.length kv
  refine ⟨dict.typeIs, dict.mapOf.noDict, ?_⟩
  show wpAny _ _ (callWith cpos (.builtin "dict.items") [.ref d] [] []) _ X.xe s1
  refine method_meetsIn PySem.F.slot_dict_items PySem.F.entry_dict_items rfl (PySem.evalArgs_none ⟨rfl, dict.typeIs, PySem.F.args_dict_items_1 _, _, meets_dict_items (mixKind X.prog X.w) d low, ⟨vs, dict⟩, Calls.spliced_nil ?_⟩)
  refine call_tup_items (knd := mixKind X.prog X.w) (kvs := vs) (ep := ep) (I1.ok.hd calm) ⟨_, Heap.get?_push_size _ rfl, rfl, rfl⟩ (here.push _) (by rw [← lk]; exact few) fun h' tk as keep len pairs => ?_
  have nd : as.Nodup := pairs.rise.imp fun h => Nat.ne_of_lt h
  have I2 : L2.Inv X pins σ H1 { s1 with heap := s1.heap.push { cls := .type "dict_items", data := .fields #[.ref d] } } := I1.kept (t' := s1.toks) fun b o e => Heap.get?_push_of_some _ e
  have top : s1.heap.objs.size + 1 ≤ h'.objs.size := Heap.lt_size (keep s1.heap.objs.size _ (Heap.get?_push_size _ rfl))
  have sz2 : ({ s1 with heap := s1.heap.push { cls := .type "dict_items", data := .fields #[.ref d] } } : Shared).heap.objs.size = s1.heap.objs.size + 1 := Heap.size_push _ _
  generalize { s1 with heap := s1.heap.push { cls := .type "dict_items", data := .fields #[.ref d] } } = s2 at I2 keep pairs sz2 ⊢
  have pout : h'.objs.size ∉ as := fun z => by
    obtain ⟨j, hj⟩ := List.mem_iff_getElem?.mp z
    obtain ⟨_, _, _, _, _, q⟩ := pairs.pairs j _ hj
    exact absurd (Heap.lt_size q) (Nat.lt_irrefl _)
  have old : ∀ b, b < s2.heap.objs.size → b ∉ as := fun b hb z => Nat.lt_irrefl _ (Nat.lt_trans hb (pairs.above b z))
  have all := pairsH_all (H := H1) (as := as) (kvs := kvs) (len.trans lk.symm) nd as kvs nd fun j b e => ⟨j, e, rfl⟩
  have off : ∀ {xs : List Addr} {ys : List (Key × V)}, h'.objs.size ∉ xs → Paired (fun (t : Addr) (q : Key × V) => pairsH H1 as kvs t = some (.tup [kV q.1, q.2])) xs ys → Paired (fun (t : Addr) (q : Key × V) => upd (pairsH H1 as kvs) h'.objs.size (.frz { cls := .type "tuple", data := .seq (as.map Value.ref).toArray } (.tup (as.map V.ref))) t = some (.tup [kV q.1, q.2])) xs ys := fun {xs ys} no z => by
    induction z with
    | nil => exact .nil
    | cons h _ ih => exact .cons (by rw [upd_ne (fun e => no (by rw [← e]; exact List.mem_cons_self))]; exact h) (ih fun z => no (List.mem_cons_of_mem _ z))
  have all2 := off pout all
  have le2 : s2.heap.objs.size ≤ h'.objs.size := by
    rw [sz2]
    exact top
  have oneNone : H1 h'.objs.size = none := I2.hok.fresh le2
  have J := inv_more (tk := tk) (H' := upd (pairsH H1 as kvs) h'.objs.size (.frz { cls := .type "tuple", data := .seq (as.map Value.ref).toArray } (.tup (as.map V.ref)))) (h' := h'.push { cls := .type "tuple", data := .seq (as.map Value.ref).toArray }) I2 (fun b o e => Heap.get?_push_of_some _ (keep b o e)) (fun b hb => ?_) (fun b o hb e => ?_)
  · exact ⟨.ref h'.objs.size, _, J, rfl, fin _ _ { cls := .type "tuple", data := .seq (as.map Value.ref).toArray } as (fun b o e => by
      rw [upd_ne (fun q => by rw [q, oneNone] at e; cases e), pairsH_off (old b (I2.hok b o e).lt)]
      exact e) oneNone rfl upd_same all2⟩
  · rw [upd_ne (Nat.ne_of_lt (Nat.lt_of_lt_of_le hb le2)), pairsH_off (old b hb)]
  · by_cases c1 : b = h'.objs.size
    · subst c1
      rw [upd_same] at e
      cases e
      exact ⟨Heap.get?_push_size _ rfl, by rw [List.length_map, len, ← lk]; exact few, as.map Value.ref, LiI.vals_refs as, ⟨_, Heap.get?_push_size _ rfl, rfl, _, rfl⟩⟩
    rw [upd_ne c1] at e
    by_cases c2 : b ∈ as
    · obtain ⟨j, hj⟩ := List.mem_iff_getElem?.mp c2
      obtain ⟨key, k, x, g1, g2, g3⟩ := pairs.pairs j b hj
      have hjl : j < kvs.length := by rw [lk, ← len]; exact (List.getElem?_eq_some_iff.mp hj).1
      have ek : kvs[j]? = some kvs[j] := List.getElem?_eq_getElem hjl
      unfold pairsH at e
      rw [find_zip nd hj ek] at e
      cases e
      obtain ⟨y, hy, ry⟩ := kv_get kv (k := kvs[j].1) (v := kvs[j].2) ek
      rw [g1] at hy
      obtain ⟨rfl, rfl⟩ : k = kvs[j].1 ∧ x = y := by
        have := Option.some.inj hy
        exact ⟨(Prod.mk.inj this).1, (Prod.mk.inj this).2⟩
      exact ⟨(by show 2 ≤ sizeLine; decide), [key, x], .cons (relV_key (show keyIs kvs[j].1 key = true from g2)) (.cons ry .nil), ⟨_, Heap.get?_push_of_some _ g3, rfl, _, rfl⟩⟩
    · rw [pairsH_off c2] at e
      exact absurd (I2.hok b o e).lt (Nat.not_lt.mpr hb)
/-- (), the object told -/
theorem pe_tup0F {X : Cx} {k : Nat} {pos : Pos} : PE X (.Tuple [] k pos) (fun _ H Q => ∀ p (o : Obj), H p = none → o.dict = none → Q (.ref p) (upd H p (.frz o (.tup [])))) := by
  refine ⟨fun pins s σ H Q I hq => ?_⟩
  refine wpAny_Tuple_spliced (thn ((pa_nil (X := X)).run pos pins s σ H (fun xs H' => xs = [] ∧ H' = H) I ⟨rfl, rfl⟩) fun us s1 ⟨xs, H1, I1, r, e1, e2⟩ => ?_)
  subst e1 e2
  cases r
  refine ⟨(by show 0 ≤ sizeLine; decide), ⟨.ref s1.heap.objs.size, upd H1 s1.heap.objs.size (.frz { cls := .type "tuple", data := .seq ([] : List Value).toArray } (.tup [])), I1.laid (t' := s1.toks) (fun b u e => Heap.get?_push_of_some _ e) (Nat.le_refl _) ?_, rfl, hq _ _ (I1.hok.fresh (Nat.le_refl _)) rfl⟩⟩
  exact ⟨Heap.get?_push_size _ rfl, (by show 0 ≤ sizeLine; decide), [], .nil, ⟨_, Heap.get?_push_size _ rfl, rfl, _, rfl⟩⟩
end
/-! ### == by an own __eq__, any answer -/
section
theorem op_eqOwn {X : Cx} {n : Nat} {C f : Addr} {fd : FuncData} {ps : List Str} {sp : Sp} (F : FnOk X.prog X.w X.K X.mg X.base CX0 n f fd ps sp) (room : Room n X.A) (hs : PySem.W.findIn X.K (.ref C) "__eq__" = some (some (.ref f))) (hf : PySem.W.isFn X.K (.ref f) = true) (hb : Binds X.K fd ps []) :
    OpR X (compareOp .Eq) (fun x y H Q => ∃ a b dx dy fs gs, x = .ref a ∧ y = .ref b ∧ H a = some (.ins C dx fs) ∧ H b = some (.ins C dy gs) ∧ sp [.ref a, .ref b] H (fun v H' => (∃ t, v = .bl t) ∧ Q v H') E0) := by
  intro pins s σ H x y v u Q I rx ry want
  obtain ⟨a, b, dx, dy, fs, gs, rfl, rfl, ha, hb2, want⟩ := want
  obtain rfl : v = Value.ref a := rx
  obtain rfl : u = Value.ref b := ry
  obtain ⟨_, J, _⟩ := ins_get I.hok ha
  obtain ⟨_, J2, _⟩ := ins_get I.hok hb2
  obtain ⟨_, J, _⟩ := J.look
  obtain ⟨_, J2, _⟩ := J2.look
  obtain ⟨m, fr⟩ := I.fr
  refine PySem.W.cmp_K (op := .Eq) (tb := .ref C) room.units0 fr I.ok.mod.kin J J2.type (by simp [PySem.W.notFirst]) hs hf ?_
  refine wpAny_mono (run_fnS (E := fun _ => E0) F room hb (fun _ _ _ _ _ _ c => False.elim c) I (show Vals [V.ref a, V.ref b] [Value.ref a, Value.ref b] from .cons rfl (.cons rfl .nil)) want) (fun z s2 q => ?_) fun _ _ q => q
  obtain ⟨v2, H2, I2, rz, ⟨t, ev⟩, q⟩ := q
  subst ev
  obtain rfl : z = Value.bool t := rz
  exact ⟨.bl t, H2, I2, rfl, q⟩
end

/-! ### xs[j] op= e, j not below 0; sums of tuples -/
section
open PyProof.Rows
def rGetLN (K : PySem.W.Frag) : V → V → Hp → VK → Prop := fun o i H Q => ∃ (p : Addr) (xs : List V) (j : Nat) (v : V), o = .ref p ∧ i = .int (j : Int) ∧ SqL K H p xs ∧ xs[j]? = some v ∧ Q v H
theorem get_listN {X : Cx} : PGet X (rGetLN X.K) := by
  intro pins s σ H o i ov iv Q I ro ri h
  obtain ⟨p, xs, j, z, rfl, rfl, hq, hz, q⟩ := h
  obtain rfl : ov = Value.ref p := ro
  obtain ⟨t, rfl⟩ := ri
  obtain ⟨its, r, pl, few⟩ := I.list hq
  obtain ⟨u, hu, ru⟩ := r.get hz
  have hj := (List.getElem?_eq_some_iff.mp hz).1
  have hn := line63
  exact getItem_listL pl.isList (Int.natCast_nonneg j) (by omega) (by rw [Int.toNat_natCast]; exact hu) ⟨z, H, I, ru, q⟩
/-- t + u: somewhere the sum lies -/
def rCatB : R2 := fun x y H Q => ∃ a b xs ys, x = .ref a ∧ y = .ref b ∧ H a = some (.tup xs) ∧ H b = some (.tup ys) ∧ xs.length + ys.length ≤ sizeLine ∧ ∀ p H', Same H H' → H' p = some (.tup (xs ++ ys)) → Q (.ref p) H'
theorem op_catB {X : Cx} : OpR X (binaryOp .Add) rCatB := by
  intro pins s σ H x y v u Q I rx ry h
  obtain ⟨a, b, xs, ys, ex, ey, ha, hb, hz, q⟩ := h
  refine op_catA pins s σ H x y v u Q I rx ry ⟨a, b, xs, ys, ex, ey, SqT.of ha, SqT.of hb, hz, fun e => q b H (Same.refl H) ?_, fun _ e => q a H (Same.refl H) ?_, fun _ _ p hp => q p _ (same_new hp) upd_same⟩
  · rw [hb, e]
    rfl
  · rw [ha, e, List.append_nil]
end

structure TxtE (w : World) (K : PySem.W.Frag) (mg : Str → Option Value) (a : Ads) : Prop where
  g_MARKS : mg "MARKS" = some (.ref a.P_MARKS)
  tab_MARKS : KTab K w a.P_MARKS [("p", a.M_MARKS_p), ("w", a.M_MARKS_w), ("d", a.M_MARKS_d), ("k", a.M_MARKS_k)]
  s_MARKS_p : ∀ H, SqT K H a.M_MARKS_p [V.str "p", V.str "q", V.str "r"]
  s_MARKS_w : ∀ H, SqT K H a.M_MARKS_w [V.str "w", V.str "x"]
  s_MARKS_d : ∀ H, SqT K H a.M_MARKS_d [V.str "d", V.str "z"]
  s_MARKS_k : ∀ H, SqT K H a.M_MARKS_k [V.str "k", V.str "b", V.str "v"]
  g_BadCommand : mg "BadCommand" = some (.ref a.C_BadCommand)
  x_BadCommand : PySem.W.excIn K a.C_BadCommand [.type "ValueError", .type "Exception", .type "BaseException", .type "object"] "ValueError.__new__" = true
  kc_BadCommand : PySem.W.keepIn K (.ref a.C_BadCommand) = true
  b_BadCommand : PySem.W.subIn K (.ref a.C_BadCommand) (.type "BaseException") = some true
  t_BadCommand : PySem.W.typeIn K (.ref a.C_BadCommand) = some (.type "type")
  xc_BadCommand : XcC K a.C_BadCommand
  exm_BadCommand_BadCommand : PySem.W.exmOne K (.ref a.C_BadCommand) (.ref a.C_BadCommand) = some true
  g_OF_TWO : mg "OF_TWO" = some (.ref a.P_OF_TWO)
  tab_OF_TWO : KTab K w a.P_OF_TWO [("a", a.d_plus), ("s", a.d_minus), ("m", a.d_times), ("t", a.d_append_digit), ("c", a.d_is_less), ("e", a.d_is_equal)]
  g_Failed : mg "Failed" = some (.ref a.C_Failed)
  x_Failed : PySem.W.excIn K a.C_Failed [.type "ValueError", .type "Exception", .type "BaseException", .type "object"] "ValueError.__new__" = true
  kc_Failed : PySem.W.keepIn K (.ref a.C_Failed) = true
  b_Failed : PySem.W.subIn K (.ref a.C_Failed) (.type "BaseException") = some true
  t_Failed : PySem.W.typeIn K (.ref a.C_Failed) = some (.type "type")
  xc_Failed : XcC K a.C_Failed
  exm_Failed_Failed : PySem.W.exmOne K (.ref a.C_Failed) (.ref a.C_Failed) = some true
  kt_Ledger_Ledger : PySem.W.kitOne K (.ref a.C_Ledger) (.ref a.C_Ledger) = some true
  ic_Ledger : PySem.W.findIn K (.ref a.C_Ledger) "__class__" = some (some (.builtin "object.__class__")) ∧ PySem.W.specialIn K (.builtin "object.__class__") "__get__" = some (some (.builtin "getset_descriptor.__get__")) ∧ PySem.W.takesIn K (.builtin "object.__class__") = some true ∧ PySem.W.mroIn K a.C_Ledger (.type "object") = some true

def spFirst (K : PySem.W.Frag) : Sp := fun vs H Q _ => ∃ (p : Addr) (ws : List Int), vs = [.ref p] ∧ SqL K H p (ws.map V.int) ∧ GoodW ws ∧ ∀ H', Same H H' → Q .non H'
def spInit (K : PySem.W.Frag) (C : Addr) : Sp := fun vs H Q _ => ∃ (p dx l : Addr) (ws : List Int), vs = [.ref p, .ref l] ∧ H p = some (.ins C dx []) ∧ SqL K H l (ws.map V.int) ∧ GoodW ws ∧
  ∀ H' : Hp, CommAt C H' p ws → (∀ b o, H b = some o → b ≠ p → H' b = some o) → Q .non H'

/-- a command -/
inductive Cm where
  | p (a b c : Int)
  | w (a b : Int)
  | k (a b c : Int)
  | d (a : Int) (code : Str)
def nu (i : Int) : Str := Str.ofString (toString i)
def Cm.ki : Cm → Str
  | .p _ _ _ => "p"
  | .w _ _ => "w"
  | .k _ _ _ => "k"
  | .d _ _ => "d"
def Cm.ps : Cm → List V
  | .p a b c => [.int a, .int b, .int c]
  | .w a b => [.int a, .int b]
  | .k a b c => [.int a, .int b, .int c]
  | .d a s => [.int a, .str s]
def Cm.txt : Cm → Str
  | .p a b c => "p" ++ nu a ++ "q" ++ nu b ++ "r" ++ nu c
  | .w a b => "w" ++ nu a ++ "x" ++ nu b
  | .k a b c => "k" ++ nu a ++ "b" ++ nu b ++ "v" ++ nu c
  | .d a s => "d" ++ nu a ++ "z" ++ s ++ "z"
/-- what stands before each part -/
def Cm.ms : Cm → List Str
  | .p _ _ _ => ["p", "q", "r"]
  | .w _ _ => ["w", "x"]
  | .k _ _ _ => ["k", "b", "v"]
  | .d _ _ => ["d", "z"]
def Cm.ma (a : Ads) : Cm → Addr
  | .p _ _ _ => a.M_MARKS_p
  | .w _ _ => a.M_MARKS_w
  | .k _ _ _ => a.M_MARKS_k
  | .d _ _ => a.M_MARKS_d
/-- each part behind its mark -/
def Cm.bits : Cm → List Str
  | .p a b c => ["p" ++ nu a, "q" ++ nu b, "r" ++ nu c]
  | .w a b => ["w" ++ nu a, "x" ++ nu b]
  | .k a b c => ["k" ++ nu a, "b" ++ nu b, "v" ++ nu c]
  | .d a s => ["d" ++ nu a, "z" ++ s]
/-- a part as a text -/
def paT : V → Str
  | .int i => nu i
  | .str s => s
  | _ => Str.empty
def CmAt (H : Hp) (p : Addr) (c : Cm) : Prop := H p = some (.tup (.str c.ki :: c.ps))
def NOk (i : Int) : Prop := 0 ≤ i ∧ i ≤ 999999
/-- a number that may stand in a command tuple -/
def WOk (i : Int) : Prop := -1000 ≤ i ∧ i ≤ 2000000
theorem NOk.w {i : Int} (h : NOk i) : WOk i := ⟨by have := h.1; omega, by have := h.2; omega⟩
def Cm.ok : Cm → Prop
  | .p a b c => WOk a ∧ WOk b ∧ WOk c
  | .w a b => WOk a ∧ WOk b
  | .k a b c => WOk a ∧ WOk b ∧ WOk c
  | .d a s => WOk a ∧ s.length ≤ 250 ∧ PyData.strOk s = true
def spText (K : PySem.W.Frag) : Sp := fun vs H Q _ => ∃ (p : Addr) (c : Cm), vs = [.ref p] ∧ CmAt H p c ∧ c.ok ∧ ∀ H', Same H H' → Q (.str c.txt) H'
def spCell (K : PySem.W.Frag) : Sp := fun vs H Q _ => ∃ (a : Addr) (ns : List Int) (k : Int), vs = [.ref a, .int k] ∧ SqL K H a (ns.map V.int) ∧ ns.length ≤ 63 ∧ 0 ≤ k ∧ Q (.int (ns.getD k.toNat 0)) H
def spRow (K : PySem.W.Frag) : Sp := fun vs H Q _ => ∃ (cell count size : Int), vs = [.int cell, .int count, .int size] ∧ 0 ≤ count ∧ count ≤ 1000 ∧ 0 < size ∧ size < 1000 ∧
  ∀ p (row : List Int) H', Same H H' → H' p = some (.lst (row.map V.int)) → row.length = count.toNat → (∀ x ∈ row, 0 ≤ x ∧ x < size) → H p = none → Q (.ref p) H'
def spIsInt (K : PySem.W.Frag) : Sp := fun vs H Q _ => ∃ i : Int, vs = [.int i] ∧ Q (.bl true) H
def spNumber : Sp := fun vs H Q _ => ∃ c : Int, vs = [.int c] ∧ ∀ v, NOk v → Q (.int v) H
def spPlace : Sp := fun vs H Q _ => ∃ c : Int, vs = [.int c] ∧ ∀ v, NOk v → Q (.int v) H
/-- the signs of programs -/
def Sgn (z : Str) : Prop := ∀ n ∈ TL.tl z, n ∈ TL.tl "0123456789ginasmtcehlujfyo"
def spCode : Sp := fun vs H Q _ => ∃ c : Int, vs = [.int c] ∧ ∀ (z : Str) H', Same H H' → z.length ≤ 12 → Sgn z → Q (.str z) H'
/-- a command that a text writes -/
def Cm.right : Cm → Prop
  | .p a b c => NOk a ∧ NOk b ∧ NOk c
  | .w a b => NOk a ∧ NOk b
  | .k a b c => NOk a ∧ NOk b ∧ NOk c
  | .d a s => NOk a ∧ Sgn s
/-- a command that the law makes -/
def Cm.good : Cm → Prop
  | .p a b c => NOk a ∧ NOk b ∧ NOk c
  | .w a b => NOk a ∧ NOk b
  | .k a b c => NOk a ∧ NOk b ∧ NOk c
  | .d a s => NOk a ∧ s.length ≤ 12 ∧ Sgn s
theorem strOk_cps {x : Str} (h : ∀ c ∈ TL.tl x, c < 1114112) : PyData.strOk x = true := by
  unfold PyData.strOk
  rw [← Array.all_toList]
  exact List.all_eq_true.mpr fun c hc => decide_eq_true (h c hc)
theorem Sgn.ok {z : Str} (h : Sgn z) : PyData.strOk z = true := strOk_cps fun c hc => by
  have : ∀ c ∈ TL.tl "0123456789ginasmtcehlujfyo", c < 1114112 := by decide +kernel
  exact this c (h c hc)
theorem Cm.good.ok : ∀ {c : Cm}, c.good → c.ok
  | .p _ _ _, h => ⟨h.1.w, h.2.1.w, h.2.2.w⟩
  | .w _ _, h => ⟨h.1.w, h.2.w⟩
  | .k _ _ _, h => ⟨h.1.w, h.2.1.w, h.2.2.w⟩
  | .d _ _, h => ⟨h.1.w, Nat.le_trans h.2.1 (by decide), h.2.2.ok⟩
theorem Cm.good.right : ∀ {c : Cm}, c.good → c.right
  | .p _ _ _, h => h
  | .w _ _, h => h
  | .k _ _ _, h => h
  | .d _ _, h => ⟨h.1, h.2.2⟩
def spMake : Sp := fun vs H Q _ => ∃ c m : Int, vs = [.int c, .int m] ∧ ∀ (p : Addr) (x : Cm) H', Same H H' → H p = none → CmAt H' p x → x.good → Q (.ref p) H'
instance : Inhabited Cm := ⟨.w 0 0⟩
def CmsAt (H : Hp) (ps : List Addr) (cs : List Cm) : Prop := ps.length = cs.length ∧ ∀ i, i < cs.length → CmAt H (ps.getD i 0) (cs.getD i default)
theorem CmsAt.same {H H' : Hp} {ps : List Addr} {cs : List Cm} (h : CmsAt H ps cs) (s : Same H H') : CmsAt H' ps cs := ⟨h.1, fun i hi => s _ _ (h.2 i hi)⟩
/-- the texts one behind the other -/
def cat (cs : List Cm) : Str := cs.foldl (fun z c => z ++ c.txt) Str.empty
theorem cat_snoc (cs : List Cm) (c : Cm) : cat (cs ++ [c]) = cat cs ++ c.txt := by
  unfold cat
  rw [List.foldl_append]
  rfl
/-- the first n commands fit, and no more do -/
def Fit (cs : List Cm) (n : Nat) : Prop := n ≤ cs.length ∧ (∀ j, j ≤ n → (cat (cs.take j)).length ≤ 60) ∧ (n < cs.length → 60 < (cat (cs.take (n + 1))).length)
theorem Fit.one {cs : List Cm} {m n : Nat} (h : Fit cs m) (g : Fit cs n) : m = n := by
  obtain ⟨a1, a2, a3⟩ := h
  obtain ⟨b1, b2, b3⟩ := g
  rcases Nat.lt_trichotomy m n with c | c | c
  · have := a3 (by omega)
    have := b2 (m + 1) c
    omega
  · exact c
  · have := b3 (by omega)
    have := a2 (n + 1) c
    omega
def spFitting (K : PySem.W.Frag) : Sp := fun vs H Q _ => ∃ (l : Addr) (ps : List Addr) (cs : List Cm), vs = [.ref l] ∧ H l = some (.lst (ps.map V.ref)) ∧ CmsAt H ps cs ∧ cs.length ≤ 100 ∧ (∀ c ∈ cs, c.ok) ∧
  ∀ (q tk : Addr) (n : Nat) H', Same H H' → H' q = some (.tup [.str (cat (cs.take n)), .ref tk]) → H' tk = some (.lst ((ps.take n).map V.ref)) → Fit cs n → Q (.ref q) H'
def spBlock (K : PySem.W.Frag) : Sp := fun vs H Q _ => ∃ (l : Addr) (ps : List Addr) (cs : List Cm), vs = [.ref l] ∧ H l = some (.lst (ps.map V.ref)) ∧ CmsAt H ps cs ∧ cs.length ≤ 100 ∧ (∀ c ∈ cs, c.ok) ∧
  ∀ (q : Addr) (n : Nat) H', Same H H' → H' q = some (.tup [.str (cat (cs.take n)), .int (n : Int)]) → Fit cs n → Q (.ref q) H'
def spChanged : Sp := fun vs H Q _ => ∃ (z : Str) (w : Int), vs = [.str z, .int w] ∧ z.length ≤ 60 ∧ ∀ z2 : Str, z2.length ≤ 200 → Q (.str z2) H
/-- a reader of z that stands at i -/
def RdAt (C : Addr) (H : Hp) (p : Addr) (z : Str) (i : Nat) : Prop := ∃ dx, H p = some (.ins C dx [("text", .str z), ("at", .int (i : Int))])
/-- how many signs from i on are allowed -/
def runL (al : List Nat) : List Nat → Nat
  | [] => 0
  | c :: r => if c ∈ al then runL al r + 1 else 0
def spRInit (C : Addr) : Sp := fun vs H Q _ => ∃ (p dx : Addr) (z : Str), vs = [.ref p, .str z] ∧ H p = some (.ins C dx []) ∧ ∀ H', RdAt C H' p z 0 → (∀ b o, b ≠ p → H b = some o → H' b = some o) → Q .non H'
def spSigns (C : Addr) : Sp := fun vs H Q _ => ∃ (p : Addr) (z al : Str) (i : Nat), vs = [.ref p, .str al] ∧ RdAt C H p z i ∧ z.length ≤ 1000 ∧ i ≤ z.length ∧
  ∀ H', RdAt C H' p z (i + runL (TL.tl al) ((TL.tl z).drop i)) → (∀ b o, b ≠ p → H b = some o → H' b = some o) → Q (.str ⟨(((TL.tl z).drop i).take (runL (TL.tl al) ((TL.tl z).drop i))).toArray⟩) H'
def spSkip (C CE : Addr) : Sp := fun vs H Q E => ∃ (p : Addr) (z : Str) (c i : Nat), vs = [.ref p, .str ⟨#[c]⟩] ∧ RdAt C H p z i ∧ z.length ≤ 1000 ∧ i ≤ z.length ∧
  ((TL.tl z)[i]? = some c → ∀ H', RdAt C H' p z (i + 1) → (∀ b o, b ≠ p → H b = some o → H' b = some o) → Q .non H') ∧
  ((TL.tl z)[i]? ≠ some c → E (.ref CE) none H)
/-- the digits that stand at i -/
def digsAt (z : Str) (i : Nat) : List Nat := ((TL.tl z).drop i).take (runL (TL.tl "0123456789") ((TL.tl z).drop i))
/-- a right number -/
def NumW (w : List Nat) : Prop := 1 ≤ w.length ∧ w.length ≤ 6 ∧ ¬ (w.head? = some 48 ∧ w ≠ [48])
def spNumR (C CE : Addr) : Sp := fun vs H Q E => ∃ (p : Addr) (z : Str) (i : Nat), vs = [.ref p] ∧ RdAt C H p z i ∧ z.length ≤ 1000 ∧ i ≤ z.length ∧
  (NumW (digsAt z i) → ∀ H', RdAt C H' p z (i + (digsAt z i).length) → (∀ b o, b ≠ p → H b = some o → H' b = some o) → Q (.int (NumText.digitsVal (digsAt z i) : Nat)) H') ∧
  (¬ NumW (digsAt z i) → ∀ H', (∀ b o, b ≠ p → H b = some o → H' b = some o) → E (.ref CE) none H')
def spLaw (K : PySem.W.Frag) : Sp := fun vs H Q _ => ∃ (a : Addr) (ns : List Int), vs = [.ref a] ∧ SqL K H a (ns.map V.int) ∧ ns.length ≤ 63 ∧ ∀ H', Q (.bl true) H'

/-! ### a program's run -/
structure Mc where
  stk : List Nat
  kv : List (Nat × Nat)
  pl : Nat
  pd : Nat
  st : Nat
structure Gv where
  code : Str
  given : Nat
  amount : Nat
def kvV (kv : List (Nat × Nat)) : List (Key × V) := kv.map fun x => (Sum.inl (x.1 : Int), V.int (x.2 : Int))
def getN (kv : List (Nat × Nat)) (k : Nat) : Nat := ((kv.find? fun x => decide (x.1 = k)).map (·.2)).getD 0
def putN (kv : List (Nat × Nat)) (k v : Nat) : List (Nat × Nat) := if (kv.any fun x => decide (x.1 = k)) = true then kv.map (fun x => if x.1 = k then (x.1, v) else x) else kv ++ [(k, v)]
theorem key_dec (i k : Nat) : decide ((Sum.inl (i : Int) : Key) = Sum.inl (k : Int)) = decide (i = k) := by
  by_cases h : i = k
  · rw [decide_eq_true h, decide_eq_true (by rw [h])]
  · rw [decide_eq_false h, decide_eq_false (fun e => h (by have := Sum.inl.inj e; omega))]
theorem val_kv (k : Nat) : ∀ kv : List (Nat × Nat), valV (kvV kv) (Sum.inl (k : Int)) = (kv.find? fun x => decide (x.1 = k)).map fun x => V.int (x.2 : Int)
  | [] => rfl
  | (i, v) :: r => by
    have ih := val_kv k r
    unfold valV kvV at ih ⊢
    rw [List.map_cons, List.find?_cons, List.find?_cons]
    have e : decide ((Sum.inl (i : Int) : Key) = Sum.inl (k : Int)) = decide (i = k) := key_dec i k
    simp only [e]
    by_cases h : i = k
    · simp [h]
    · simp only [decide_eq_false h]
      exact ih
theorem get_kv (kv : List (Nat × Nat)) (k : Nat) : (valV (kvV kv) (Sum.inl (k : Int))).getD (V.int 0) = V.int (getN kv k : Nat) := by
  rw [val_kv]
  unfold getN
  cases kv.find? fun x => decide (x.1 = k) <;> rfl
theorem put_kv (kv : List (Nat × Nat)) (k v : Nat) : putK (kvV kv) (Sum.inl (k : Int)) (V.int (v : Int)) = kvV (putN kv k v) := by
  have e : ((kvV kv).any fun x => decide (x.1 = (Sum.inl (k : Int) : Key))) = kv.any fun x => decide (x.1 = k) := by
    unfold kvV
    rw [List.any_map]
    congr 1
    funext x
    exact key_dec x.1 k
  unfold putK putN
  rw [e]
  split
  · unfold kvV
    rw [List.map_map, List.map_map]
    refine List.map_congr_left fun x _ => ?_
    show (if (Sum.inl (x.1 : Int) : Key) = Sum.inl (k : Int) then _ else _) = _
    by_cases h : x.1 = k
    · rw [if_pos (by rw [h])]
      simp [Function.comp, h]
    · rw [if_neg (fun e => h (by have := Sum.inl.inj e; omega))]
      simp [Function.comp, h]
  · unfold kvV
    rw [List.map_append]
    rfl
theorem len_kv (kv : List (Nat × Nat)) : (kvV kv).length = kv.length := List.length_map ..
theorem len_put (kv : List (Nat × Nat)) (k v : Nat) : (putN kv k v).length ≤ kv.length + 1 := by
  unfold putN
  split
  · rw [List.length_map]
    omega
  · rw [List.length_append]
    exact Nat.le_refl _
/-- two values made one -/
def work (c l r : Nat) : Nat := if c = 97 then l + r else if c = 115 then l - r else if c = 109 then l * r else if c = 116 then 10 * l + r else if c = 99 then (if l < r then 1 else 0) else if l = r then 1 else 0
def pushM (v : Nat) (m : Mc) : Option Mc := if 16 ≤ m.stk.length then none else some { m with stk := m.stk ++ [v % 1000000] }
def takeM (m : Mc) : Option (Nat × Mc) := m.stk.getLast?.map fun t => (t, { m with stk := m.stk.dropLast })
def numberM (G : Gv) (c : Nat) (m : Mc) : Option Mc := if c = 103 then pushM G.given m else if c = 105 then pushM G.amount m else pushM m.stk.length m
def combineM (c : Nat) (m : Mc) : Option Mc := (takeM m).bind fun x => (takeM x.2).bind fun y => pushM (work c y.1 x.1) y.2
def moveM (c : Nat) (m : Mc) : Option Mc := (takeM m).bind fun x => if c = 104 then (pushM x.1 x.2).bind (pushM x.1) else if c = 108 then pushM (getN x.2.kv x.1) x.2 else (takeM x.2).map fun y => { y.2 with kv := putN y.2.kv x.1 y.1 }
def jumpM (c : Nat) (m : Mc) : Option Mc := (takeM m).bind fun x => if c = 106 then some { x.2 with pl := x.1 } else (takeM x.2).map fun y => if y.1 = 0 then { y.2 with pl := x.1 } else y.2
def settleM (c : Nat) (m : Mc) : Option Mc := (takeM m).bind fun x => if c = 121 then some { x.2 with pd := x.2.pd + x.1 } else if x.1 = 0 then none else some x.2
def performM (G : Gv) (c : Nat) (m : Mc) : Option Mc :=
  if 48 ≤ c ∧ c ≤ 57 then pushM (c - 48) m
  else if c = 103 ∨ c = 105 ∨ c = 110 then numberM G c m
  else if c = 97 ∨ c = 115 ∨ c = 109 ∨ c = 116 ∨ c = 99 ∨ c = 101 then combineM c m
  else if c = 104 ∨ c = 108 ∨ c = 117 then moveM c m
  else if c = 106 ∨ c = 102 then jumpM c m
  else settleM c m
theorem take_cat (s : List Nat) (t : Nat) (kv : List (Nat × Nat)) (pl pd st : Nat) : takeM ⟨s ++ [t], kv, pl, pd, st⟩ = some (t, ⟨s, kv, pl, pd, st⟩) := by
  simp [takeM]
/-- what all machines keep -/
def FitM (m : Mc) : Prop := m.stk.length ≤ 16 ∧ m.kv.length ≤ 30900 ∧ ∀ v ∈ m.stk, v < 1000000
theorem FitM.take {m : Mc} (f : FitM m) {x : Nat × Mc} (e : takeM m = some x) : FitM x.2 ∧ x.1 < 1000000 ∧ x.2.st = m.st ∧ x.2.kv = m.kv ∧ x.2.pl = m.pl ∧ x.2.pd = m.pd ∧ x.2.stk.length + 1 = m.stk.length ∧ m.stk = x.2.stk ++ [x.1] := by
  obtain ⟨stk, kv, pl, pd, st⟩ := m
  rcases List.eq_nil_or_concat stk with rfl | ⟨s, t, rfl⟩
  · cases e
  · rw [List.concat_eq_append] at e f ⊢
    rw [take_cat] at e
    obtain rfl := Option.some.inj e
    obtain ⟨f1, f2, f3⟩ := f
    have f1 : (s ++ [t]).length ≤ 16 := f1
    rw [List.length_append, List.length_singleton] at f1
    exact ⟨⟨by show s.length ≤ 16; omega, f2, fun v hv => f3 v (List.mem_append_left _ hv)⟩, f3 t (by simp), rfl, rfl, rfl, rfl, by simp, rfl⟩
theorem FitM.push {m m' : Mc} (f : FitM m) {v : Nat} (e : pushM v m = some m') : FitM m' ∧ m'.st = m.st ∧ m'.kv = m.kv ∧ m'.pl = m.pl ∧ m'.pd = m.pd ∧ m'.stk = m.stk ++ [v % 1000000] := by
  unfold pushM at e
  split at e
  · cases e
  · rename_i h
    obtain rfl := Option.some.inj e
    refine ⟨⟨?_, f.2.1, fun x hx => ?_⟩, rfl, rfl, rfl, rfl, rfl⟩
    · show (m.stk ++ [v % 1000000]).length ≤ 16
      rw [List.length_append, List.length_singleton]
      omega
    · rcases List.mem_append.mp hx with hx | hx
      · exact f.2.2 x hx
      · rw [List.mem_singleton.mp hx]
        exact Nat.mod_lt _ (by decide)
/-- a machine in the heap -/
def MAt (C : Addr) (H : Hp) (p D L : Addr) (G : Gv) (m : Mc) : Prop := ∃ dx, H p = some (.ins C dx [("code", .str G.code), ("given", .int (G.given : Nat)), ("amount", .int (G.amount : Nat)), ("store", .ref D), ("stack", .ref L), ("place", .int (m.pl : Nat)), ("paid", .int (m.pd : Nat)), ("steps", .int (m.st : Nat))]) ∧
  H D = some (.dK (kvV m.kv)) ∧ H L = some (.lst (m.stk.map fun n => V.int (n : Nat)))
def Oth (p D L : Addr) (H H' : Hp) : Prop := ∀ b o, b ≠ p → b ≠ D → b ≠ L → H b = some o → H' b = some o
theorem Oth.rfl {p D L : Addr} {H : Hp} : Oth p D L H H := fun _ _ _ _ _ e => e
theorem Oth.trans {p D L : Addr} {H H1 H2 : Hp} (h : Oth p D L H H1) (k : Oth p D L H1 H2) : Oth p D L H H2 := fun b o n1 n2 n3 e => k b o n1 n2 n3 (h b o n1 n2 n3 e)
theorem MAt.ne {C : Addr} {H : Hp} {p D L : Addr} {G : Gv} {m : Mc} (h : MAt C H p D L G m) : p ≠ D ∧ p ≠ L ∧ D ≠ L := by
  obtain ⟨dx, h1, h2, h3⟩ := h
  refine ⟨fun e => ?_, fun e => ?_, fun e => ?_⟩
  · rw [e, h2] at h1; cases h1
  · rw [e, h3] at h1; cases h1
  · rw [e, h3] at h2; cases h2
/-- what a method of the machine tells -/
def Res (C CE p D L : Addr) (G : Gv) (H : Hp) (m : Mc) (r : Option Mc) (Q : VK) (E : XK) : Prop :=
  (∀ m' H', r = some m' → MAt C H' p D L G m' → Oth p D L H H' → Q .non H') ∧ (r = none → ∀ m' H', MAt C H' p D L G m' → m'.st = m.st → Oth p D L H H' → E (.ref CE) none H')
theorem Res.on {C CE p D L : Addr} {G : Gv} {H H1 : Hp} {m m1 : Mc} {r : Option Mc} {Q : VK} {E : XK} (h : Res C CE p D L G H m r Q E) (s : m1.st = m.st) (o : Oth p D L H H1) : Res C CE p D L G H1 m1 r Q E :=
  ⟨fun m' H' e h1 o1 => h.1 m' H' e h1 (o.trans o1), fun e m' H' h1 s1 o1 => h.2 e m' H' h1 (s1.trans s) (o.trans o1)⟩
def spPush (C CE : Addr) : Sp := fun vs H Q E => ∃ (p D L : Addr) (G : Gv) (m : Mc) (v : Nat), vs = [.ref p, .int (v : Nat)] ∧ MAt C H p D L G m ∧ FitM m ∧ Res C CE p D L G H m (pushM v m) Q E
def spTake (C CE : Addr) : Sp := fun vs H Q E => ∃ (p D L : Addr) (G : Gv) (m : Mc), vs = [.ref p] ∧ MAt C H p D L G m ∧ FitM m ∧
  (∀ t m' H', takeM m = some (t, m') → MAt C H' p D L G m' → Oth p D L H H' → Q (.int (t : Nat)) H') ∧ (takeM m = none → ∀ m' H', MAt C H' p D L G m' → m'.st = m.st → Oth p D L H H' → E (.ref CE) none H')
def spSign (C CE : Addr) (op : Gv → Nat → Mc → Option Mc) (ok : Nat → Prop) : Sp := fun vs H Q E => ∃ (p D L : Addr) (G : Gv) (m : Mc) (c : Nat), vs = [.ref p, .str ⟨#[c]⟩] ∧ ok c ∧ MAt C H p D L G m ∧ FitM m ∧ Res C CE p D L G H m (op G c m) Q E
def spWork (c : Nat) : Sp := fun vs H Q _ => ∃ l r : Nat, vs = [.int (l : Nat), .int (r : Nat)] ∧ l < 1000000 ∧ r < 1000000 ∧ Q (.int (work c l r : Nat)) H
def spMInit (C : Addr) : Sp := fun vs H Q _ => ∃ (p dx d : Addr) (G : Gv) (kv : List (Nat × Nat)), vs = [.ref p, .str G.code, .int (G.given : Nat), .int (G.amount : Nat), .ref d] ∧ H p = some (.ins C dx []) ∧ Rd H d (.dK (kvV kv)) ∧
  ∀ D L H', H D = none → H L = none → MAt C H' p D L G ⟨[], kv, 0, 0, 0⟩ → (∀ b o, b ≠ p → H b = some o → H' b = some o) → Q .non H'
def spRun0 (C : Addr) : Sp := fun vs H Q _ => ∃ (j dx : Addr) (w s p n : V), vs = [.ref j, w, s, p, n] ∧ H j = some (.ins C dx []) ∧ ∀ H', H' j = some (.ins C dx [("well", w), ("store", s), ("paid", p), ("steps", n)]) → (∀ b o, b ≠ j → H b = some o → H' b = some o) → Q .non H'
/-! ### a call of what a local holds -/
section
variable {X : Cx} {k i : Nat} {x : Str} {q pos : Pos} {e : Expr} {es : List Expr} {t : TA}
def tCallV (P : Program) (w : World) (K : PySem.W.Frag) (mg : Str → Option Value) (base : Heap) (k i : Nat) (t : TA) : TE := fun σ H Q => ∃ f fd ps sp, σ[i]? = some (some (.ref f)) ∧ FnOk P w K mg base CX0 k f fd ps sp ∧ Binds K fd ps [] ∧ PySem.W.keepIn K (.ref f) = true ∧ t σ H fun vs H1 => sp vs H1 Q E0
theorem pe_callV (hr : Room k X.A) (hN : X.N[i]? = some x) (hv : Vis X.env.scope x) (ha : PA X (e :: es) t) (hd : (x == ("__debug__" : Str)) = false := by decide) (hcd : (x == ("__classdict__" : Str)) = false := by decide)
    (he : starEach (e :: es) X.env = (false, eval e X.env) :: starEach es X.env := by rfl) (hpl : (backTo pos (starEach es X.env)).any (·.1) = false := by rfl) :
    PE X (.Call (.Name x q) (e :: es) [] pos) (tCallV X.prog X.w X.K X.mg X.base k i t) := by
  refine ⟨fun pins s σ H Q I h => ?_⟩
  obtain ⟨f, fd, ps, sp, hs, F, hb, hk, h⟩ := h
  refine wpAny_Call_Name_kw (thn ((pe_var (pos := q) hN hv hd hcd).run pins s σ H (fun v H1 => v = .ref f ∧ H1 = H) I ⟨_, hs, rfl, rfl⟩) fun u s0 ⟨v, H0, I0, rv, ev, eh⟩ => ?_)
  subst ev eh
  obtain rfl : u = Value.ref f := rv
  refine PySem.W.callWith_K (h₀ := X.base) I0.ok.mod.kin hk (thn (ha.run pos pins s0 σ H0 _ I0 h) fun us s1 ⟨vs, H1, I1, r, q⟩ => ⟨I1.kIn, ?_⟩) he hpl
  exact run_fnS (E := fun _ => E0) F hr hb (fun _ _ _ _ _ _ c => False.elim c) I1 r q
end
/-! ### an object made while any exception is handled -/
section
variable {X : Cx} {k : Nat} {f C : Addr} {fd : FuncData} {ps : List Str} {sp : Sp} {x : Str} {q pos : Pos} {e : Expr} {es : List Expr} {t : TA} {p : Addr × Obj}
theorem L2H.RoomH.make {k : Nat} {A : Around} (r : L2H.RoomH (k + 1) A) (C : Addr) (us : List Value) (kw : List (Str × Value)) : L2H.RoomH k (A.under (.builtin "type.__call__" ⟨.ref C :: us, kw⟩)) :=
  ⟨by have := r.dp; rw [make_depth]; omega, by have := r.un; rw [make_units]; omega⟩
theorem pe_makeW (M : Mk X.K C f) (F : FnW X.prog X.w X.K X.mg X.base k f fd ps sp) (room : L2H.RoomH (k + 1) X.A) (hp : p ∈ X.pn) (hg : Gl X x) (hm : X.mg x = some (.ref C)) (hb : Binds X.K fd ps [])
    (ha : PA X (e :: es) t) (hdb : (x == ("__debug__" : Str)) = false := by decide) (he : starEach (e :: es) X.env = (false, eval e X.env) :: starEach es X.env := by rfl) (hpl : (backTo pos (starEach es X.env)).any (·.1) = false := by rfl) :
    PE X (.Call (.Name x q) (e :: es) [] pos) (tMake C sp [] E0 t) := by
  refine ⟨fun pins s σ H Q I h => ?_⟩
  refine wpAny_Call_Name_kw (ld_glob I hg hm ?_ hdb)
  refine PySem.W.callWith_K (h₀ := X.base) I.ok.mod.kin M.kp (thn (ha.run pos pins s σ H _ I h) fun us s1 ⟨vs, H1, I1, r, q⟩ => ⟨I1.kIn, ?_⟩) he hpl
  have hq := q (s1.heap.objs.size + 1) s1.heap.objs.size (I1.hok.fresh (Nat.le_succ _)) (I1.hok.fresh (Nat.le_refl _)) (Nat.ne_of_lt (Nat.lt_succ_self _))
  have I2 := L2.Inv.made (C := C) I1
  rw [List.append_nil] at hq
  have r2 : Vals (V.ref (s1.heap.objs.size + 1) :: vs) (Value.ref (s1.heap.objs.size + 1) :: us) := .cons rfl r
  have hl : (Value.ref (s1.heap.objs.size + 1) :: us).length = ps.length := by
    have e := r2.length
    rw [F.len _ _ _ _ hq] at e
    exact e.symm
  have bind := hb _ (Value.ref (s1.heap.objs.size + 1) :: us) I2.kIn (by rw [List.append_nil]; exact hl)
  rw [List.append_nil] at bind
  have at1 := I2.pin p (List.mem_append_left _ hp)
  have pin := L2H.PinOk.mk (outer := X.stack) (p := p) at1.1 at1.2.1 (fun hmm => by
    rcases List.mem_cons.mp (I2.stkSub p.1 hmm) with z | z
    · exact at1.2.2.1 z
    · exact at1.2.2.2.1 z) at1.2.2.2.2
  refine wpAny_call (make_map (f := f) I1.kIn M.makes M.init (beq_iff_eq.mp M.fn) (codeAny_mono (F.run _ X.stack _ _ ⟨Value.ref (s1.heap.objs.size + 1) :: us, []⟩ (Value.ref (s1.heap.objs.size + 1) :: us) _ _ E0 p (room.make C us [])
    pin (I2.env0.make C us []) bind r2 hq) fun r s' hq' => ?_))
  cases r with
  | error e => exact (hq' : False).elim
  | ok fl =>
    cases fl with
    | ret u =>
      obtain ⟨v, H', I3, rv, ev, q3⟩ := I2.after hq'
      subst ev
      exact ⟨rv, ⟨V.ref (s1.heap.objs.size + 1), H', I3, rfl, q3⟩⟩
    | next => exact False.elim hq'
    | brk => exact False.elim hq'
    | cont => exact False.elim hq'
end

section
local macro_rules | `(tactic| walk_at "r1") => `(tactic| first
  | refine ⟨_, rfl, ?_⟩
  | refine ⟨_, _, rfl, rfl, (by show (0 : Int) < _; first | decide | omega), ?_⟩
  | refine ⟨_, _, rfl, rfl, (show CDiv _ _ from ⟨by decide, by decide⟩), ?_⟩
  | refine ⟨_, _, rfl, rfl, (show CMul _ _ from .inl ⟨by decide, by decide⟩), ?_⟩
  | refine ⟨_, _, rfl, rfl, (show CMul _ _ from .inr ⟨by decide, by decide⟩), ?_⟩
  | refine ⟨_, _, rfl, rfl, (show CPow _ _ from ⟨by decide, by decide, by decide⟩), ?_⟩
  | refine ⟨_, _, rfl, rfl, ?_⟩
  | refine ⟨_, _, _, _, rfl, rfl, SqT.of (by assumption), by first | exact at0 _ | exact at1 _ | exact at2 _ | exact at3 _ | exact at4 _ (by assumption), ?_⟩
  | refine ⟨scal_oS _ _, ?_⟩
  | refine .inl ⟨_, rfl, ?_⟩
  | refine ⟨rfl, ?_⟩)
local macro_rules | `(tactic| walk_at "rs") => `(tactic| repeat walk_at "r1")

variable {P : Program} {w : World} {K : PySem.W.Frag} {mg : Str → Option Value} {base : Heap} {a : Ads}
theorem getD_mem {zs : List Int} {i : Nat} (h : i < zs.length) : zs.getD i 0 ∈ zs := by
  rw [List.getD_eq_getElem?_getD, List.getElem?_eq_getElem h]
  exact List.getElem_mem h
theorem at_ints {zs : List Int} {i : Nat} (h : i < zs.length) : (zs.map V.int)[i]? = some (.int (zs.getD i 0)) := by
  rw [List.getElem?_map, List.getD_eq_getElem?_getD, List.getElem?_eq_getElem h]
  rfl

theorem ok_first_wrong (T : Txt K mg a) : ∃ fd, FnOk P w K mg base CX0 1 a.d_first_wrong fd ["weights"] (spFirst K) ∧ Binds K fd ["weights"] [] := by
  obtain ⟨fd, F, b⟩ := T.d_first_wrong.F
  refine ⟨fd, F.ok sc_first_wrong (fun vs H Q E h => ?_) (fun cdv A outer s H vs Q E hr h => ?_), b⟩
  · obtain ⟨_, _, rfl, _⟩ := h
    rfl
  · obtain ⟨p, ws, rfl, hp, gw, k⟩ := h
    refine ⟨_, (pss_cons (ps_for PassesOwn.never rfl (pi_enum (by rfl) T.n_enumerate (pa_cons (pv 0) pa_nil)) (pg_tup rfl (pgs_cons (pg_name (i := 1) sc_first_wrong.nd rfl (Or.inl rfl)) (pgs_cons (pg_name (i := 2) sc_first_wrong.nd rfl (Or.inl rfl)) pgs_nil)))
      (pss_one (ps_if (PW.pt (pw_or (pt_cmpR op_ge (pv 1) (pe_glob (v := (.int 16)) rfl T.c_MOST_MEMBERS.choose_spec ⟨_, rfl⟩) (nomark _)) (pw_or (pt_cmpR op_lt (pv 2) pe_int (nomark _)) (pw_or1 (pt_cmpR op_gt (pv 2) (pe_glob (v := (.int 1000000000000)) rfl T.c_MOST_WEIGHT.choose_spec ⟨_, rfl⟩) (nomark _))))))
        (pss_one (ps_ret (pv 1)))
        pss_nil)))
      (pss_cons (ps_if (pt_cmpR op_eq (pe_callB call_len_seq (by rfl) T.n_len PySem.boot_len (pa_cons (pv 0) pa_nil)) pe_int (nomark _))
      (pss_one (ps_ret pe_int))
      pss_nil)
      (pss_one (ps_ret pe_non)))), ?_⟩
    walk_at "rs"
    refine ⟨p, _, rfl, hp, ?_⟩
    refine for_enumL (K := K) (a := p) (ys := ws.map V.int) (fun i σ H2 => ∃ v1 v2 : Option V, σ = [some (.ref p), v1, v2] ∧ Same H H2) ⟨_, _, rfl, Same.refl H⟩ (fun i σ H2 _ ⟨_, _, _, s2⟩ => s2.seq hp) ?_ ?_
    · rintro i y σ H2 q hy ⟨v1, v2, rfl, s2⟩ hq
      have hi : i < ws.length := by
        have e := (List.getElem?_eq_some_iff.mp hy).1
        rwa [List.length_map] at e
      rw [at_ints hi] at hy
      cases hy
      have g1 := gw.2.2 _ (getD_mem hi)
      have g2 := gw.2.1
      walk_at "rs"
      refine ⟨q, _, rfl, SqT.of upd_same, rfl, ?_⟩
      refine ⟨_, _, rfl, _, _, rfl, rfl, ?_⟩
      walk_at "rs"
      refine ite2 (fun c1 => ?_) (fun c1 => ?_)
      · exfalso
        have := of_decide_eq_true c1
        omega
      walk_at "rs"
      refine ite2 (fun c2 => ?_) (fun c2 => ?_)
      · exfalso
        have := of_decide_eq_true c2
        omega
      walk_at "rs"
      refine ite2 (fun c3 => ?_) (fun c3 => ?_)
      · exfalso
        have := of_decide_eq_true c3
        omega
      exact ⟨_, _, rfl, same_upd s2 (s2.free hq)⟩
    · rintro σ H2 ⟨v1, v2, rfl, s2⟩
      walk_at "rs"
      refine ⟨p, _, rfl, .inl (s2.seq hp), ?_⟩
      walk_at "rs"
      refine ite2 (fun c1 => ?_) (fun c1 => ?_)
      · exfalso
        have g0 := gw.1
        simp at c1
        simp [c1] at g0
      exact k H2 s2
theorem ok_Committee_init (T : Txt K mg a) : ∃ fd, FnOk P w K mg base CX0 2 a.d_Committee_init fd ["self", "weights"] (spInit K a.C_Committee) ∧ Binds K fd ["self", "weights"] [] := by
  obtain ⟨fd, F, b⟩ := T.d_Committee_init.F
  obtain ⟨fd_first_wrong, G_first_wrong, b_first_wrong⟩ := ok_first_wrong (P := P) (w := w) (base := base) T
  refine ⟨fd, F.ok sc_Committee_init (fun vs H Q E h => ?_) (fun cdv A outer s H vs Q E hr h => ?_), b⟩
  · obtain ⟨_, _, _, _, rfl, _⟩ := h
    rfl
  · obtain ⟨p, dx, l, ws, rfl, hp, hl, gw, k⟩ := h
    refine ⟨_, (pss_cons (ps_set (i := 2) sc_Committee_init.nd rfl (Or.inl rfl) (pe_call G_first_wrong (hr.mono (by decide)) rfl T.d_first_wrong.g T.d_first_wrong.kp b_first_wrong .nil pass0 (pa_cons (pv 1) pa_nil)))
      (pss_cons (ps_if (pt_cmpR op_notN (pv 2) pe_non (nomark _))
      (pss_one ps_never)
      pss_nil)
      (pss_cons (ps_fld (pv 0) (pe_callTy call_tuple_of (by rfl) T.n_tuple (by decide +kernel) (pa_cons (pv 1) pa_nil)) rfl)
      (pss_cons (ps_fld (pv 0) (pe_callB call_len_seq (by rfl) T.n_len PySem.boot_len (pa_cons (pe_fld (pv 0) rfl) pa_nil)) rfl)
      (pss_one (ps_fld (pv 0) (pe_callB (cr_sumT rfl) (by rfl) T.n_sum (by decide +kernel) (pa_cons (pe_fld (pv 0) rfl) pa_nil)) rfl)))))), ?_⟩
    walk_at "rs"
    refine ⟨l, ws, rfl, hl, gw, fun H1 s1 => ?_⟩
    walk_at "rs"
    have hp1 := s1 _ _ hp
    refine ⟨l, _, rfl, .inl ⟨s1.seq hl, fun t ht => ?_⟩⟩
    have npt : p ≠ t := ne_of_none hp1 ht
    have hp2 : (upd H1 t (.tup (ws.map V.int))) p = some (.ins a.C_Committee dx []) := by rw [upd_ne npt]; exact hp1
    walk_at "rs"
    refine ⟨p, _, dx, [], rfl, hp2, T.cl_Committee, T.a_Committee_weights, (by show 0 < 1000; decide), ?_⟩
    have ht3 : ∀ o : HO, (upd (upd H1 t (.tup (ws.map V.int))) p o) t = some (.tup (ws.map V.int)) := fun o => by rw [upd_ne npt.symm, upd_same]
    walk_at "rs"
    refine ⟨p, _, dx, _, .ref t, rfl, upd_same, T.cl_Committee, T.a_Committee_weights, by rw [lookup_putF, if_pos rfl], ?_⟩
    walk_at "rs"
    refine ⟨t, _, rfl, .inr (SqT.of (ht3 _)), ?_⟩
    walk_at "rs"
    refine ⟨p, _, dx, _, rfl, upd_same, T.cl_Committee, T.a_Committee_size, (by show 1 < 1000; decide), ?_⟩
    rw [upd_upd]
    walk_at "rs"
    refine ⟨p, _, dx, _, .ref t, rfl, upd_same, T.cl_Committee, T.a_Committee_weights, by rw [lookup_putF, if_neg ne_ws, lookup_putF, if_pos rfl], ?_⟩
    walk_at "rs"
    refine ⟨t, ws, rfl, SqT.of (ht3 _), ?_⟩
    walk_at "rs"
    refine ⟨p, _, dx, _, rfl, upd_same, T.cl_Committee, T.a_Committee_total, (Nat.lt_of_le_of_lt (length_putF _ _ _) (Nat.lt_of_le_of_lt (Nat.add_le_add_right (length_putF _ _ _) 1) (by show 2 < 1000; decide))), ?_⟩
    rw [upd_upd, List.length_map]
    exact k _ ⟨dx, t, upd_same, ht3 _⟩ fun b o e hb => by
      rw [upd_ne hb, upd_ne (ne_of_none (s1 _ _ e) ht)]
      exact s1 _ _ e

/-! ### a committee made of a tuple -/
theorem seqT_same {H H' : Hp} {b : Addr} {xs : List V} (e : Same H H') (h : SqT K H b xs) : SqT K H' b xs := by
  rcases h with (h | ⟨o, h⟩) | h
  · exact .inl (.inl (e _ _ h))
  · exact .inl (.inr ⟨o, e _ _ h⟩)
  · exact .inr h
def spFirstT (K : PySem.W.Frag) : Sp := fun vs H Q _ => ∃ (p : Addr) (ws : List Int), vs = [.ref p] ∧ SqT K H p (ws.map V.int) ∧ GoodW ws ∧ ∀ H', Same H H' → Q .non H'
def spInitT (K : PySem.W.Frag) (C : Addr) : Sp := fun vs H Q _ => ∃ (p dx t : Addr) (ws : List Int), vs = [.ref p, .ref t] ∧ H p = some (.ins C dx []) ∧ H t = some (.tup (ws.map V.int)) ∧ GoodW ws ∧
  ∀ H' : Hp, CommAt C H' p ws → (∀ b o, H b = some o → b ≠ p → H' b = some o) → Q .non H'
theorem ok_first_wrongT (T : Txt K mg a) : ∃ fd, FnOk P w K mg base CX0 1 a.d_first_wrong fd ["weights"] (spFirstT K) ∧ Binds K fd ["weights"] [] := by
  obtain ⟨fd, F, b⟩ := T.d_first_wrong.F
  refine ⟨fd, F.ok sc_first_wrong (fun vs H Q E h => ?_) (fun cdv A outer s H vs Q E hr h => ?_), b⟩
  · obtain ⟨_, _, rfl, _⟩ := h
    rfl
  · obtain ⟨p, ws, rfl, hp, gw, k⟩ := h
    refine ⟨_, (pss_cons (ps_for PassesOwn.never rfl (pi_enumT (by rfl) T.n_enumerate (pa_cons (pv 0) pa_nil)) (pg_tup rfl (pgs_cons (pg_name (i := 1) sc_first_wrong.nd rfl (Or.inl rfl)) (pgs_cons (pg_name (i := 2) sc_first_wrong.nd rfl (Or.inl rfl)) pgs_nil)))
      (pss_one (ps_if (PW.pt (pw_or (pt_cmpR op_ge (pv 1) (pe_glob (v := (.int 16)) rfl T.c_MOST_MEMBERS.choose_spec ⟨_, rfl⟩) (nomark _)) (pw_or (pt_cmpR op_lt (pv 2) pe_int (nomark _)) (pw_or1 (pt_cmpR op_gt (pv 2) (pe_glob (v := (.int 1000000000000)) rfl T.c_MOST_WEIGHT.choose_spec ⟨_, rfl⟩) (nomark _))))))
        (pss_one (ps_ret (pv 1)))
        pss_nil)))
      (pss_cons (ps_if (pt_cmpR op_eq (pe_callB call_len_seq (by rfl) T.n_len PySem.boot_len (pa_cons (pv 0) pa_nil)) pe_int (nomark _))
      (pss_one (ps_ret pe_int))
      pss_nil)
      (pss_one (ps_ret pe_non)))), ?_⟩
    walk_at "rs"
    refine ⟨p, _, rfl, hp, ?_⟩
    refine for_enumT (K := K) (a := p) (ys := ws.map V.int) (fun i σ H2 => ∃ v1 v2 : Option V, σ = [some (.ref p), v1, v2] ∧ Same H H2) ⟨_, _, rfl, Same.refl H⟩ (fun i σ H2 _ ⟨_, _, _, s2⟩ => seqT_same s2 hp) ?_ ?_
    · rintro i y σ H2 q hy ⟨v1, v2, rfl, s2⟩ hq
      have hi : i < ws.length := by
        have e := (List.getElem?_eq_some_iff.mp hy).1
        rwa [List.length_map] at e
      rw [at_ints hi] at hy
      cases hy
      have g1 := gw.2.2 _ (getD_mem hi)
      have g2 := gw.2.1
      walk_at "rs"
      refine ⟨q, _, rfl, SqT.of upd_same, rfl, ?_⟩
      refine ⟨_, _, rfl, _, _, rfl, rfl, ?_⟩
      walk_at "rs"
      refine ite2 (fun c1 => ?_) (fun c1 => ?_)
      · exfalso
        have := of_decide_eq_true c1
        omega
      walk_at "rs"
      refine ite2 (fun c2 => ?_) (fun c2 => ?_)
      · exfalso
        have := of_decide_eq_true c2
        omega
      walk_at "rs"
      refine ite2 (fun c3 => ?_) (fun c3 => ?_)
      · exfalso
        have := of_decide_eq_true c3
        omega
      exact ⟨_, _, rfl, same_upd s2 (s2.free hq)⟩
    · rintro σ H2 ⟨v1, v2, rfl, s2⟩
      walk_at "rs"
      refine ⟨p, _, rfl, .inr (seqT_same s2 hp), ?_⟩
      walk_at "rs"
      refine ite2 (fun c1 => ?_) (fun c1 => ?_)
      · exfalso
        have g0 := gw.1
        simp at c1
        simp [c1] at g0
      exact k H2 s2
theorem ok_Committee_initT (T : Txt K mg a) : ∃ fd, FnOk P w K mg base CX0 2 a.d_Committee_init fd ["self", "weights"] (spInitT K a.C_Committee) ∧ Binds K fd ["self", "weights"] [] := by
  obtain ⟨fd, F, b⟩ := T.d_Committee_init.F
  obtain ⟨fd_first_wrong, G_first_wrong, b_first_wrong⟩ := ok_first_wrongT (P := P) (w := w) (base := base) T
  refine ⟨fd, F.ok sc_Committee_init (fun vs H Q E h => ?_) (fun cdv A outer s H vs Q E hr h => ?_), b⟩
  · obtain ⟨_, _, _, _, rfl, _⟩ := h
    rfl
  · obtain ⟨p, dx, t, ws, rfl, hp, ht, gw, k⟩ := h
    refine ⟨_, (pss_cons (ps_set (i := 2) sc_Committee_init.nd rfl (Or.inl rfl) (pe_call G_first_wrong (hr.mono (by decide)) rfl T.d_first_wrong.g T.d_first_wrong.kp b_first_wrong .nil pass0 (pa_cons (pv 1) pa_nil)))
      (pss_cons (ps_if (pt_cmpR op_notN (pv 2) pe_non (nomark _))
      (pss_one ps_never)
      pss_nil)
      (pss_cons (ps_fld (pv 0) (pe_callTy call_tuple_of (by rfl) T.n_tuple (by decide +kernel) (pa_cons (pv 1) pa_nil)) rfl)
      (pss_cons (ps_fld (pv 0) (pe_callB call_len_seq (by rfl) T.n_len PySem.boot_len (pa_cons (pe_fld (pv 0) rfl) pa_nil)) rfl)
      (pss_one (ps_fld (pv 0) (pe_callB (cr_sumT rfl) (by rfl) T.n_sum (by decide +kernel) (pa_cons (pe_fld (pv 0) rfl) pa_nil)) rfl)))))), ?_⟩
    walk_at "rs"
    refine ⟨t, ws, rfl, SqT.of ht, gw, fun H1 s1 => ?_⟩
    walk_at "rs"
    have hp1 := s1 _ _ hp
    have ht1 := s1 _ _ ht
    refine ⟨t, _, rfl, .inr ⟨SqT.of ht1, ?_⟩⟩
    have npt : p ≠ t := fun e => by rw [e, ht] at hp; cases hp
    walk_at "rs"
    refine ⟨p, _, dx, [], rfl, hp1, T.cl_Committee, T.a_Committee_weights, (by show 0 < 1000; decide), ?_⟩
    have ht3 : ∀ o : HO, (upd H1 p o) t = some (.tup (ws.map V.int)) := fun o => by rw [upd_ne npt.symm]; exact ht1
    walk_at "rs"
    refine ⟨p, _, dx, _, .ref t, rfl, upd_same, T.cl_Committee, T.a_Committee_weights, by rw [lookup_putF, if_pos rfl], ?_⟩
    walk_at "rs"
    refine ⟨t, _, rfl, .inr (SqT.of (ht3 _)), ?_⟩
    walk_at "rs"
    refine ⟨p, _, dx, _, rfl, upd_same, T.cl_Committee, T.a_Committee_size, (by show 1 < 1000; decide), ?_⟩
    rw [upd_upd]
    walk_at "rs"
    refine ⟨p, _, dx, _, .ref t, rfl, upd_same, T.cl_Committee, T.a_Committee_weights, by rw [lookup_putF, if_neg ne_ws, lookup_putF, if_pos rfl], ?_⟩
    walk_at "rs"
    refine ⟨t, ws, rfl, SqT.of (ht3 _), ?_⟩
    walk_at "rs"
    refine ⟨p, _, dx, _, rfl, upd_same, T.cl_Committee, T.a_Committee_total, (Nat.lt_of_le_of_lt (length_putF _ _ _) (Nat.lt_of_le_of_lt (Nat.add_le_add_right (length_putF _ _ _) 1) (by show 2 < 1000; decide))), ?_⟩
    rw [upd_upd, List.length_map]
    exact k _ ⟨dx, t, upd_same, ht3 _⟩ fun b o e hb => by
      rw [upd_ne hb]
      exact s1 _ _ e

theorem sg_eq (c k : Nat) : ((⟨#[c]⟩ : Str) = ⟨#[k]⟩) ↔ c = k := ⟨fun e => by simpa using e, fun e => by rw [e]⟩
theorem ok_Run_init (T : Txt K mg a) : ∃ fd, FnOk P w K mg base CX0 1 a.d_Run_init fd ["self", "well", "store", "paid", "steps"] (spRun0 a.C_Run) ∧ Binds K fd ["self", "well", "store", "paid", "steps"] [] := by
  obtain ⟨fd, F, b⟩ := T.d_Run_init.F
  refine ⟨fd, F.ok sc_Run_init (fun vs H Q E h => ?_) (fun cdv A outer s H vs Q E hr h => ?_), b⟩
  · obtain ⟨_, _, _, _, _, _, rfl, _⟩ := h
    rfl
  · obtain ⟨j, dx, x1, x2, x3, x4, rfl, hj, k⟩ := h
    refine ⟨_, (pss_cons (ps_fld (pv 0) (pv 1) rfl)
      (pss_cons (ps_fld (pv 0) (pv 2) rfl)
      (pss_cons (ps_fld (pv 0) (pv 3) rfl)
      (pss_one (ps_fld (pv 0) (pv 4) rfl))))), ?_⟩
    walk_at "rs"
    refine ⟨j, _, dx, [], rfl, hj, T.cl_Run, T.a_Run_well, (by show 0 < 1000; decide), ?_⟩
    walk_at "rs"
    refine ⟨j, _, dx, _, rfl, upd_same, T.cl_Run, T.a_Run_store, (by show 1 < 1000; decide), ?_⟩
    rw [upd_upd]
    walk_at "rs"
    refine ⟨j, _, dx, _, rfl, upd_same, T.cl_Run, T.a_Run_paid, (by show 2 < 1000; decide), ?_⟩
    rw [upd_upd]
    walk_at "rs"
    refine ⟨j, _, dx, _, rfl, upd_same, T.cl_Run, T.a_Run_steps, (by show 3 < 1000; decide), ?_⟩
    rw [upd_upd]
    exact k _ (by rw [upd_same]; rfl) fun b o n e => by rw [upd_ne n]; exact e
theorem okW_Run_init (T : Txt K mg a) : ∃ fd, FnW P w K mg base 1 a.d_Run_init fd ["self", "well", "store", "paid", "steps"] (spRun0 a.C_Run) ∧ Binds K fd ["self", "well", "store", "paid", "steps"] [] := by
  obtain ⟨fd, F, b⟩ := T.d_Run_init.F
  refine ⟨fd, fun_okW F sc_Run_init (fun vs H Q E h => ?_) (fun cdv A outer s H vs Q E p hr h => ?_), b⟩
  · obtain ⟨_, _, _, _, _, _, rfl, _⟩ := h
    rfl
  · obtain ⟨j, dx, x1, x2, x3, x4, rfl, hj, k⟩ := h
    refine ⟨_, (pss_cons (ps_fld (pv 0) (pv 1) rfl)
      (pss_cons (ps_fld (pv 0) (pv 2) rfl)
      (pss_cons (ps_fld (pv 0) (pv 3) rfl)
      (pss_one (ps_fld (pv 0) (pv 4) rfl))))), ?_⟩
    walk_at "rs"
    refine ⟨j, _, dx, [], rfl, hj, T.cl_Run, T.a_Run_well, (by show 0 < 1000; decide), ?_⟩
    walk_at "rs"
    refine ⟨j, _, dx, _, rfl, upd_same, T.cl_Run, T.a_Run_store, (by show 1 < 1000; decide), ?_⟩
    rw [upd_upd]
    walk_at "rs"
    refine ⟨j, _, dx, _, rfl, upd_same, T.cl_Run, T.a_Run_paid, (by show 2 < 1000; decide), ?_⟩
    rw [upd_upd]
    walk_at "rs"
    refine ⟨j, _, dx, _, rfl, upd_same, T.cl_Run, T.a_Run_steps, (by show 3 < 1000; decide), ?_⟩
    rw [upd_upd]
    exact k _ (by rw [upd_same]; rfl) fun b o n e => by rw [upd_ne n]; exact e
theorem ok_Machine_init (T : Txt K mg a) : ∃ fd, FnOk P w K mg base CX0 1 a.d_Machine_init fd ["self", "code", "given", "amount", "store"] (spMInit a.C_Machine) ∧ Binds K fd ["self", "code", "given", "amount", "store"] [] := by
  obtain ⟨fd, F, b⟩ := T.d_Machine_init.F
  refine ⟨fd, F.ok sc_Machine_init (fun vs H Q E h => ?_) (fun cdv A outer s H vs Q E hr h => ?_), b⟩
  · obtain ⟨_, _, _, _, _, rfl, _⟩ := h
    rfl
  · obtain ⟨p, dx, d, G, kv, rfl, hp, hd, k⟩ := h
    have pd : d ≠ p := fun e => by
      rw [e] at hd
      rcases hd with e | ⟨o, e⟩ <;> (rw [hp] at e; cases e)
    refine ⟨_, (pss_cons (ps_fld (pv 0) (pv 1) rfl)
      (pss_cons (ps_fld (pv 0) (pv 2) rfl)
      (pss_cons (ps_fld (pv 0) (pv 3) rfl)
      (pss_cons (ps_fld (pv 0) (pe_callTy call_dictD (by rfl) T.n_dict (by decide +kernel) (pa_cons (pv 4) pa_nil)) rfl)
      (pss_cons (ps_fld (pv 0) (pe_lst pa_nil) rfl)
      (pss_cons (ps_fld (pv 0) pe_int rfl)
      (pss_cons (ps_fld (pv 0) pe_int rfl)
      (pss_one (ps_fld (pv 0) pe_int rfl))))))))), ?_⟩
    walk_at "rs"
    refine ⟨p, _, dx, [], rfl, hp, T.cl_Machine, T.a_Machine_code, (by show 0 < 1000; decide), ?_⟩
    walk_at "rs"
    refine ⟨p, _, dx, _, rfl, upd_same, T.cl_Machine, T.a_Machine_given, (by show 1 < 1000; decide), ?_⟩
    rw [upd_upd]
    walk_at "rs"
    refine ⟨p, _, dx, _, rfl, upd_same, T.cl_Machine, T.a_Machine_amount, (by show 2 < 1000; decide), ?_⟩
    rw [upd_upd]
    walk_at "rs"
    refine ⟨d, _, rfl, hd.imp (fun e => by rw [upd_ne pd]; exact e) (fun ⟨o, e⟩ => ⟨o, by rw [upd_ne pd]; exact e⟩), fun D hD => ?_⟩
    have nD : D ≠ p := fun e => by rw [e, upd_same] at hD; cases hD
    rw [upd_ne nD] at hD
    walk_at "rs"
    refine ⟨p, _, dx, _, rfl, (by rw [upd_ne (fun e => nD e.symm)]; exact upd_same), T.cl_Machine, T.a_Machine_store, (by show 3 < 1000; decide), ?_⟩
    walk_at "rs"
    refine ⟨(by show 0 ≤ sizeLine; decide), fun L hL => ?_⟩
    have nL : L ≠ p := fun e => by rw [e, upd_same] at hL; cases hL
    rw [upd_ne nL] at hL
    have nLD : L ≠ D := fun e => by rw [e, upd_same] at hL; cases hL
    rw [upd_ne nLD, upd_ne nL] at hL
    walk_at "rs"
    refine ⟨p, _, dx, _, rfl, (by rw [upd_ne (fun e => nL e.symm)]; exact upd_same), T.cl_Machine, T.a_Machine_stack, (by show 4 < 1000; decide), ?_⟩
    walk_at "rs"
    refine ⟨p, _, dx, _, rfl, upd_same, T.cl_Machine, T.a_Machine_place, (by show 5 < 1000; decide), ?_⟩
    rw [upd_upd]
    walk_at "rs"
    refine ⟨p, _, dx, _, rfl, upd_same, T.cl_Machine, T.a_Machine_paid, (by show 6 < 1000; decide), ?_⟩
    rw [upd_upd]
    walk_at "rs"
    refine ⟨p, _, dx, _, rfl, upd_same, T.cl_Machine, T.a_Machine_steps, (by show 7 < 1000; decide), ?_⟩
    rw [upd_upd]
    refine k D L _ hD hL ⟨dx, (by rw [upd_same]; rfl), ?_, ?_⟩ fun b o n e => ?_
    · rw [upd_ne nD, upd_ne (fun e => nLD e.symm), upd_ne nD]
      exact upd_same
    · rw [upd_ne nL]
      exact upd_same
    · rw [upd_ne n, upd_ne (fun q => by rw [q, hL] at e; cases e), upd_ne n, upd_ne (fun q => by rw [q, hD] at e; cases e), upd_ne n]
      exact e
theorem ok_Machine_push (TE : TxtE w K mg a) (T : Txt K mg a) : ∃ fd, FnOk P w K mg base (L2.CX P w) 1 a.d_Machine_push fd ["self", "value"] (spPush a.C_Machine a.C_Failed) ∧ Binds K fd ["self", "value"] [] := by
  obtain ⟨fd, F, b⟩ := T.d_Machine_push.F
  refine ⟨fd, F.okX sc_Machine_push (fun vs H Q E h => ?_) (fun cdv A outer s H vs Q E hr h => ?_), b⟩
  · obtain ⟨_, _, _, _, _, _, rfl, _⟩ := h
    rfl
  · obtain ⟨p, D, L, G, m, v, rfl, hm, hf, k1, k2⟩ := h
    obtain ⟨npD, npL, nDL⟩ := hm.ne
    obtain ⟨dx, hp, hD, hL⟩ := id hm
    have hl : (m.stk.map fun n => V.int (n : Nat)).length = m.stk.length := List.length_map ..
    refine ⟨_, (pss_cons (ps_if (pt_cmpR op_ge (pe_callB call_len_seq (by rfl) T.n_len PySem.boot_len (pa_cons (pe_fld (pv 0) rfl) pa_nil)) (pe_glob (v := (.int 16)) rfl T.c_MOST_VALUES.choose_spec ⟨_, rfl⟩) (nomark _))
      (pss_one (ps_raise rfl (takes_of rfl rfl rfl rfl) (pmk_own PySem.F.excBase_ValueError TE.x_Failed TE.g_Failed TE.kc_Failed (raises_own TE.b_Failed TE.t_Failed) rfl)))
      pss_nil)
      (pss_one (ps_expr (pe_bm PySem.F.plainAttrs_list PySem.F.slot_list_append PySem.F.type_list_append mt_append (pe_fld (pv 0) rfl) (pa_cons (pe_op op_mod (pv 1) (pe_glob (v := (.int 1000000)) rfl T.c_MODULUS.choose_spec ⟨_, rfl⟩)) pa_nil))))), ?_⟩
    walk_at "rs"
    refine ⟨p, _, dx, _, .ref L, rfl, hp, T.cl_Machine, T.a_Machine_stack, rfl, ?_⟩
    walk_at "rs"
    refine ⟨L, _, rfl, .inl (SqL.of hL), ?_⟩
    walk_at "rs"
    rw [hl]
    refine ite2 (fun c => ?_) (fun c => ?_)
    · have c : 16 ≤ m.stk.length := by
        have := of_decide_eq_true c
        omega
      exact k2 (if_pos c) m H hm rfl .rfl
    · have c : ¬ 16 ≤ m.stk.length := fun h => c (decide_eq_true (by omega))
      walk_at "rs"
      refine ⟨p, _, dx, _, .ref L, rfl, hp, T.cl_Machine, T.a_Machine_stack, rfl, ?_⟩
      refine ⟨.inl ⟨rfl, _, SqL.of hL⟩, ?_⟩
      walk_at "rs"
      refine ⟨L, _, _, rfl, rfl, hL, by rw [hl]; exact small1000 (by omega), ?_⟩
      refine k1 { m with stk := m.stk ++ [v % 1000000] } _ (if_neg c) ⟨dx, ?_, ?_, ?_⟩ fun b o n1 n2 n3 e => ?_
      · rw [upd_ne npL]
        exact hp
      · rw [upd_ne nDL]
        exact hD
      · rw [upd_same]
        simp
      · rw [upd_ne n3]
        exact e
theorem ok_Machine_take (TE : TxtE w K mg a) (T : Txt K mg a) : ∃ fd, FnOk P w K mg base (L2.CX P w) 1 a.d_Machine_take fd ["self"] (spTake a.C_Machine a.C_Failed) ∧ Binds K fd ["self"] [] := by
  obtain ⟨fd, F, b⟩ := T.d_Machine_take.F
  refine ⟨fd, F.okX sc_Machine_take (fun vs H Q E h => ?_) (fun cdv A outer s H vs Q E hr h => ?_), b⟩
  · obtain ⟨_, _, _, _, _, rfl, _⟩ := h
    rfl
  · obtain ⟨p, D, L, G, m, rfl, hm, hf, k1, k2⟩ := h
    obtain ⟨npD, npL, nDL⟩ := hm.ne
    obtain ⟨dx, hp, hD, hL⟩ := id hm
    have hl : (m.stk.map fun n => V.int (n : Nat)).length = m.stk.length := List.length_map ..
    refine ⟨_, (pss_cons (ps_if (pt_cmpR op_eq (pe_callB call_len_seq (by rfl) T.n_len PySem.boot_len (pa_cons (pe_fld (pv 0) rfl) pa_nil)) pe_int (nomark _))
      (pss_one (ps_raise rfl (takes_of rfl rfl rfl rfl) (pmk_own PySem.F.excBase_ValueError TE.x_Failed TE.g_Failed TE.kc_Failed (raises_own TE.b_Failed TE.t_Failed) rfl)))
      pss_nil)
      (pss_one (ps_ret (pe_bm0 PySem.F.plainAttrs_list PySem.F.slot_list_pop PySem.F.type_list_pop mt_pop (pe_fld (pv 0) rfl))))), ?_⟩
    walk_at "rs"
    refine ⟨p, _, dx, _, .ref L, rfl, hp, T.cl_Machine, T.a_Machine_stack, rfl, ?_⟩
    walk_at "rs"
    refine ⟨L, _, rfl, .inl (SqL.of hL), ?_⟩
    walk_at "rs"
    rw [hl]
    obtain ⟨stk, kv, pl, pd, st⟩ := m
    rcases List.eq_nil_or_concat stk with rfl | ⟨s, t, rfl⟩
    · refine ite2 (fun c => ?_) (fun c => absurd (decide_eq_true rfl) c)
      exact k2 rfl _ H hm rfl .rfl
    · rw [List.concat_eq_append] at *
      refine ite2 (fun c => absurd (of_decide_eq_true c) (by simp; omega)) (fun c => ?_)
      walk_at "rs"
      refine ⟨p, _, dx, _, .ref L, rfl, hp, T.cl_Machine, T.a_Machine_stack, rfl, ?_⟩
      refine ⟨.inl ⟨rfl, _, SqL.of hL⟩, ?_⟩
      walk_at "rs"
      refine ⟨L, _, .int (t : Nat), rfl, rfl, hL, by simp, ?_⟩
      refine k1 t ⟨s, kv, pl, pd, st⟩ _ (take_cat ..) ⟨dx, ?_, ?_, ?_⟩ fun b o n1 n2 n3 e => ?_
      · rw [upd_ne npL]
        exact hp
      · rw [upd_ne nDL]
        exact hD
      · rw [upd_same]
        simp
      · rw [upd_ne n3]
        exact e

theorem ok_plus (T : Txt K mg a) : ∃ fd, FnOk P w K mg base CX0 1 a.d_plus fd ["left", "right"] (spWork 97) ∧ Binds K fd ["left", "right"] [] := by
  obtain ⟨fd, F, b⟩ := T.d_plus.F
  refine ⟨fd, F.ok sc_plus (fun vs H Q E h => ?_) (fun cdv A outer s H vs Q E hr h => ?_), b⟩
  · obtain ⟨_, _, rfl, _⟩ := h
    rfl
  · obtain ⟨l, r, rfl, hl, hr', k⟩ := h
    refine ⟨_, (pss_one (ps_ret (pe_op op_add (pv 0) (pv 1)))), ?_⟩
    walk_at "rs"
    have e : ((work 97 l r : Nat) : Int) = (l : Int) + (r : Int) := by
      show ((l + r : Nat) : Int) = _
      omega
    rw [e] at k
    exact k
theorem ok_minus (T : Txt K mg a) : ∃ fd, FnOk P w K mg base CX0 1 a.d_minus fd ["left", "right"] (spWork 115) ∧ Binds K fd ["left", "right"] [] := by
  obtain ⟨fd, F, b⟩ := T.d_minus.F
  refine ⟨fd, F.ok sc_minus (fun vs H Q E h => ?_) (fun cdv A outer s H vs Q E hr h => ?_), b⟩
  · obtain ⟨_, _, rfl, _⟩ := h
    rfl
  · obtain ⟨l, r, rfl, hl, hr', k⟩ := h
    refine ⟨_, (pss_one (ps_ret (pe_callB (call_max2 rfl) (by rfl) T.n_max (by decide +kernel) (pa_cons pe_int (pa_cons (pe_op op_sub (pv 0) (pv 1)) pa_nil))))), ?_⟩
    walk_at "rs"
    have e : ((work 115 l r : Nat) : Int) = if (l : Int) - (r : Int) > 0 then (l : Int) - (r : Int) else 0 := by
      show ((l - r : Nat) : Int) = _
      split <;> omega
    rw [e] at k
    exact ⟨_, _, rfl, k⟩
theorem ok_times (T : Txt K mg a) : ∃ fd, FnOk P w K mg base CX0 1 a.d_times fd ["left", "right"] (spWork 109) ∧ Binds K fd ["left", "right"] [] := by
  obtain ⟨fd, F, b⟩ := T.d_times.F
  refine ⟨fd, F.ok sc_times (fun vs H Q E h => ?_) (fun cdv A outer s H vs Q E hr h => ?_), b⟩
  · obtain ⟨_, _, rfl, _⟩ := h
    rfl
  · obtain ⟨l, r, rfl, hl, hr', k⟩ := h
    refine ⟨_, (pss_one (ps_ret (pe_op op_mul (pv 0) (pv 1)))), ?_⟩
    walk_at "rs"
    refine ⟨(show CMul _ _ from .inl ⟨by omega, by omega⟩), ?_⟩
    have e : ((work 109 l r : Nat) : Int) = (l : Int) * (r : Int) := by
      show ((l * r : Nat) : Int) = _
      push_cast
      rfl
    rw [e] at k
    exact k
theorem ok_append_digit (T : Txt K mg a) : ∃ fd, FnOk P w K mg base CX0 1 a.d_append_digit fd ["left", "right"] (spWork 116) ∧ Binds K fd ["left", "right"] [] := by
  obtain ⟨fd, F, b⟩ := T.d_append_digit.F
  refine ⟨fd, F.ok sc_append_digit (fun vs H Q E h => ?_) (fun cdv A outer s H vs Q E hr h => ?_), b⟩
  · obtain ⟨_, _, rfl, _⟩ := h
    rfl
  · obtain ⟨l, r, rfl, hl, hr', k⟩ := h
    refine ⟨_, (pss_one (ps_ret (pe_op op_add (pe_op op_mul pe_int (pv 0)) (pv 1)))), ?_⟩
    walk_at "rs"
    have e : ((work 116 l r : Nat) : Int) = (10 : Int) * (l : Int) + (r : Int) := by
      show ((10 * l + r : Nat) : Int) = _
      omega
    rw [e] at k
    exact k
theorem ok_is_less (T : Txt K mg a) : ∃ fd, FnOk P w K mg base CX0 1 a.d_is_less fd ["left", "right"] (spWork 99) ∧ Binds K fd ["left", "right"] [] := by
  obtain ⟨fd, F, b⟩ := T.d_is_less.F
  refine ⟨fd, F.ok sc_is_less (fun vs H Q E h => ?_) (fun cdv A outer s H vs Q E hr h => ?_), b⟩
  · obtain ⟨_, _, rfl, _⟩ := h
    rfl
  · obtain ⟨l, r, rfl, hl, hr', k⟩ := h
    refine ⟨_, (pss_one (ps_ret (pe_ifExp (pt_cmpR op_lt (pv 0) (pv 1) (nomark _)) pe_int pe_int))), ?_⟩
    walk_at "rs"
    have e : work 99 l r = if l < r then 1 else 0 := rfl
    rw [e] at k
    refine ite2 (fun c => ?_) (fun c => ?_)
    · have c : l < r := by
        have := of_decide_eq_true c
        omega
      rw [if_pos c] at k
      exact k
    · have c : ¬ l < r := fun h => c (decide_eq_true (by omega))
      rw [if_neg c] at k
      exact k
theorem ok_is_equal (T : Txt K mg a) : ∃ fd, FnOk P w K mg base CX0 1 a.d_is_equal fd ["left", "right"] (spWork 101) ∧ Binds K fd ["left", "right"] [] := by
  obtain ⟨fd, F, b⟩ := T.d_is_equal.F
  refine ⟨fd, F.ok sc_is_equal (fun vs H Q E h => ?_) (fun cdv A outer s H vs Q E hr h => ?_), b⟩
  · obtain ⟨_, _, rfl, _⟩ := h
    rfl
  · obtain ⟨l, r, rfl, hl, hr', k⟩ := h
    refine ⟨_, (pss_one (ps_ret (pe_ifExp (pt_cmpR op_eq (pv 0) (pv 1) (nomark _)) pe_int pe_int))), ?_⟩
    walk_at "rs"
    have e : work 101 l r = if l = r then 1 else 0 := rfl
    rw [e] at k
    refine ite2 (fun c => ?_) (fun c => ?_)
    · have c : l = r := by
        have := of_decide_eq_true c
        have := V.int.inj this
        omega
      rw [if_pos c] at k
      exact k
    · have c : ¬ l = r := fun h => c (decide_eq_true (by rw [h]))
      rw [if_neg c] at k
      exact k

theorem works (TE : TxtE w K mg a) (T : Txt K mg a) {c : Nat} (h : c = 97 ∨ c = 115 ∨ c = 109 ∨ c = 116 ∨ c = 99 ∨ c = 101) : ∃ f fd, KDct K w a.P_OF_TWO ⟨#[c]⟩ (.ref f) ∧ FnOk P w K mg base CX0 1 f fd ["left", "right"] (spWork c) ∧ Binds K fd ["left", "right"] [] ∧ PySem.W.keepIn K (.ref f) = true := by
  rcases h with rfl | rfl | rfl | rfl | rfl | rfl
  · obtain ⟨fd, F, b⟩ := ok_plus (P := P) (w := w) (base := base) T
    exact ⟨_, fd, TE.tab_OF_TWO.get rfl, F, b, T.d_plus.kp⟩
  · obtain ⟨fd, F, b⟩ := ok_minus (P := P) (w := w) (base := base) T
    exact ⟨_, fd, TE.tab_OF_TWO.get rfl, F, b, T.d_minus.kp⟩
  · obtain ⟨fd, F, b⟩ := ok_times (P := P) (w := w) (base := base) T
    exact ⟨_, fd, TE.tab_OF_TWO.get rfl, F, b, T.d_times.kp⟩
  · obtain ⟨fd, F, b⟩ := ok_append_digit (P := P) (w := w) (base := base) T
    exact ⟨_, fd, TE.tab_OF_TWO.get rfl, F, b, T.d_append_digit.kp⟩
  · obtain ⟨fd, F, b⟩ := ok_is_less (P := P) (w := w) (base := base) T
    exact ⟨_, fd, TE.tab_OF_TWO.get rfl, F, b, T.d_is_less.kp⟩
  · obtain ⟨fd, F, b⟩ := ok_is_equal (P := P) (w := w) (base := base) T
    exact ⟨_, fd, TE.tab_OF_TWO.get rfl, F, b, T.d_is_equal.kp⟩
theorem of_two {c : Nat} {x1 x2 x3 x4 x5 x6 : Addr} : (([("a", x1), ("s", x2), ("m", x3), ("t", x4), ("c", x5), ("e", x6)] : List (Str × Addr)).lookup ⟨#[c]⟩).isSome = decide (c = 97 ∨ c = 115 ∨ c = 109 ∨ c = 116 ∨ c = 99 ∨ c = 101) := by
  have e : ∀ k : Nat, ((⟨#[c]⟩ : Str) == ⟨#[k]⟩) = decide (c = k) := fun k => by
    by_cases h : c = k
    · rw [h, decide_eq_true rfl, beq_self_eq_true]
    · rw [decide_eq_false h, beq_eq_false_iff_ne.mpr fun e => h ((sg_eq c k).mp e)]
  have e1 := e 97
  have e2 := e 115
  have e3 := e 109
  have e4 := e 116
  have e5 := e 99
  have e6 := e 101
  rw [show (⟨#[97]⟩ : Str) = "a" from rfl] at e1
  rw [show (⟨#[115]⟩ : Str) = "s" from rfl] at e2
  rw [show (⟨#[109]⟩ : Str) = "m" from rfl] at e3
  rw [show (⟨#[116]⟩ : Str) = "t" from rfl] at e4
  rw [show (⟨#[99]⟩ : Str) = "c" from rfl] at e5
  rw [show (⟨#[101]⟩ : Str) = "e" from rfl] at e6
  simp only [List.lookup, e1, e2, e3, e4, e5, e6]
  by_cases h1 : c = 97
  · simp [h1]
  by_cases h2 : c = 115
  · simp [h2]
  by_cases h3 : c = 109
  · simp [h3]
  by_cases h4 : c = 116
  · simp [h4]
  by_cases h5 : c = 99
  · simp [h5]
  by_cases h6 : c = 101
  · simp [h6]
  simp [h1, h2, h3, h4, h5, h6]
theorem in_signs (c : Nat) (ks : List Nat) : inV (V.str ⟨#[c]⟩) (ks.map fun k => V.str ⟨#[k]⟩) = decide (c ∈ ks) := by
  unfold inV
  rw [List.any_map, Bool.eq_iff_iff, List.any_eq_true, decide_eq_true_iff]
  constructor
  · rintro ⟨k, hk, e⟩
    have e : decide ((⟨#[k]⟩ : Str) = ⟨#[c]⟩) = true := e
    rw [(sg_eq k c).mp (of_decide_eq_true e)] at hk
    exact hk
  · intro h
    exact ⟨c, h, decide_eq_true rfl⟩

theorem small8000 {n : Nat} (h : n ≤ 31000) : n < sizeLine := by
  rw [sizeLine_eq]
  omega
theorem ok_Machine_push_number (TE : TxtE w K mg a) (T : Txt K mg a) : ∃ fd, FnOk P w K mg base (L2.CX P w) 2 a.d_Machine_push_number fd ["self", "sign"] (spSign a.C_Machine a.C_Failed numberM fun _ => True) ∧ Binds K fd ["self", "sign"] [] := by
  obtain ⟨fd, F, b⟩ := T.d_Machine_push_number.F
  obtain ⟨fd_Machine_push, G_Machine_push, b_Machine_push⟩ := ok_Machine_push (P := P) (w := w) (base := base) TE T
  refine ⟨fd, F.okX sc_Machine_push_number (fun vs H Q E h => ?_) (fun cdv A outer s H vs Q E hr h => ?_), b⟩
  · obtain ⟨_, _, _, _, _, _, rfl, _⟩ := h
    rfl
  · obtain ⟨p, D, L, G, m, c, rfl, -, hm, hf, k⟩ := h
    obtain ⟨dx, hp, hD, hL⟩ := id hm
    refine ⟨_, (pss_one (ps_if (pt_cmpR op_eq (pv 1) pe_str (nomark _))
      (pss_one (ps_expr (pe_meth (pv 0) T.cl_Machine T.me_Machine_push G_Machine_push (hr.mono (by decide)) b_Machine_push .nil (L2.passes_call (W := fun c d _ H => E c d H) (E := E) (L2.takes_of rfl rfl rfl rfl) (fun _ _ _ _ h => h)) (pa_cons (pe_fld (pv 0) rfl) pa_nil))))
      (pss_one (ps_if (pt_cmpR op_eq (pv 1) pe_str (nomark _))
        (pss_one (ps_expr (pe_meth (pv 0) T.cl_Machine T.me_Machine_push G_Machine_push (hr.mono (by decide)) b_Machine_push .nil (L2.passes_call (W := fun c d _ H => E c d H) (E := E) (L2.takes_of rfl rfl rfl rfl) (fun _ _ _ _ h => h)) (pa_cons (pe_fld (pv 0) rfl) pa_nil))))
        (pss_one (ps_expr (pe_meth (pv 0) T.cl_Machine T.me_Machine_push G_Machine_push (hr.mono (by decide)) b_Machine_push .nil (L2.passes_call (W := fun c d _ H => E c d H) (E := E) (L2.takes_of rfl rfl rfl rfl) (fun _ _ _ _ h => h)) (pa_cons (pe_callB call_len_seq (by rfl) T.n_len PySem.boot_len (pa_cons (pe_fld (pv 0) rfl) pa_nil)) pa_nil)))))))), ?_⟩
    unfold numberM at k
    walk_at "rs"
    refine ite2 (fun c1 => ?_) (fun c1 => ?_)
    · have c1 : c = 103 := (sg_eq c 103).mp (V.str.inj (of_decide_eq_true c1))
      rw [if_pos c1] at k
      walk_at "rs"
      refine ⟨p, dx, _, rfl, hp, rfl, ?_⟩
      walk_at "rs"
      refine ⟨p, _, dx, _, .int (G.given : Nat), rfl, hp, T.cl_Machine, T.a_Machine_given, rfl, ?_⟩
      exact ⟨p, D, L, G, m, _, rfl, hm, hf, k⟩
    · have c1 : c ≠ 103 := fun e => c1 (decide_eq_true (congrArg V.str ((sg_eq c 103).mpr e)))
      rw [if_neg c1] at k
      walk_at "rs"
      refine ite2 (fun c2 => ?_) (fun c2 => ?_)
      · have c2 : c = 105 := (sg_eq c 105).mp (V.str.inj (of_decide_eq_true c2))
        rw [if_pos c2] at k
        walk_at "rs"
        refine ⟨p, dx, _, rfl, hp, rfl, ?_⟩
        walk_at "rs"
        refine ⟨p, _, dx, _, .int (G.amount : Nat), rfl, hp, T.cl_Machine, T.a_Machine_amount, rfl, ?_⟩
        exact ⟨p, D, L, G, m, _, rfl, hm, hf, k⟩
      · have c2 : c ≠ 105 := fun e => c2 (decide_eq_true (congrArg V.str ((sg_eq c 105).mpr e)))
        rw [if_neg c2] at k
        have hl : (m.stk.map fun n => V.int (n : Nat)).length = m.stk.length := List.length_map ..
        walk_at "rs"
        refine ⟨p, dx, _, rfl, hp, rfl, ?_⟩
        walk_at "rs"
        refine ⟨p, _, dx, _, .ref L, rfl, hp, T.cl_Machine, T.a_Machine_stack, rfl, ?_⟩
        refine ⟨L, _, rfl, .inl (SqL.of hL), ?_⟩
        exact ⟨p, D, L, G, m, _, by rw [hl]; rfl, hm, hf, k⟩
theorem ok_Machine_combine (TE : TxtE w K mg a) (T : Txt K mg a) : ∃ fd, FnOk P w K mg base (L2.CX P w) 2 a.d_Machine_combine fd ["self", "sign"] (spSign a.C_Machine a.C_Failed (fun _ => combineM) fun c => c = 97 ∨ c = 115 ∨ c = 109 ∨ c = 116 ∨ c = 99 ∨ c = 101) ∧ Binds K fd ["self", "sign"] [] := by
  obtain ⟨fd, F, b⟩ := T.d_Machine_combine.F
  obtain ⟨fd_Machine_take, G_Machine_take, b_Machine_take⟩ := ok_Machine_take (P := P) (w := w) (base := base) TE T
  obtain ⟨fd_Machine_push, G_Machine_push, b_Machine_push⟩ := ok_Machine_push (P := P) (w := w) (base := base) TE T
  refine ⟨fd, F.okX sc_Machine_combine (fun vs H Q E h => ?_) (fun cdv A outer s H vs Q E hr h => ?_), b⟩
  · obtain ⟨_, _, _, _, _, _, rfl, _⟩ := h
    rfl
  · obtain ⟨p, D, L, G, m, c, rfl, hc, hm, hf, k⟩ := h
    obtain ⟨dx, hp, hD, hL⟩ := id hm
    obtain ⟨wf, wfd, wk, wF, wb, wkp⟩ := works (P := P) (base := base) TE T hc
    refine ⟨_, (pss_cons (ps_set (i := 2) sc_Machine_combine.nd rfl (Or.inl rfl) (pe_ix ix_kdict (pe_glob (v := .ref a.P_OF_TWO) rfl TE.g_OF_TWO rfl) (pv 1) (fun _ _ => rfl)))
      (pss_cons (ps_set (i := 3) sc_Machine_combine.nd rfl (Or.inl rfl) (pe_meth0 (pv 0) T.cl_Machine T.me_Machine_take G_Machine_take (hr.mono (by decide)) b_Machine_take .nil (L2.passes_call (W := fun c d _ H => E c d H) (E := E) (L2.takes_of rfl rfl rfl rfl) (fun _ _ _ _ h => h))))
      (pss_cons (ps_set (i := 4) sc_Machine_combine.nd rfl (Or.inl rfl) (pe_meth0 (pv 0) T.cl_Machine T.me_Machine_take G_Machine_take (hr.mono (by decide)) b_Machine_take .nil (L2.passes_call (W := fun c d _ H => E c d H) (E := E) (L2.takes_of rfl rfl rfl rfl) (fun _ _ _ _ h => h))))
      (pss_one (ps_expr (pe_meth (pv 0) T.cl_Machine T.me_Machine_push G_Machine_push (hr.mono (by decide)) b_Machine_push .nil (L2.passes_call (W := fun c d _ H => E c d H) (E := E) (L2.takes_of rfl rfl rfl rfl) (fun _ _ _ _ h => h)) (pa_cons (pe_callV (k := 1) (i := 2) (hr.mono (by decide)) rfl (Or.inl rfl) (pa_cons (pv 4) (pa_cons (pv 3) pa_nil))) pa_nil))))))), ?_⟩
    replace k : Res a.C_Machine a.C_Failed p D L G H m (combineM c m) Q E := k
    unfold combineM at k
    walk_at "rs"
    refine ⟨_, _, _, rfl, rfl, wk, ?_⟩
    walk_at "rs"
    refine ⟨p, dx, _, rfl, hp, rfl, ?_⟩
    refine ⟨p, D, L, G, m, rfl, hm, hf, fun t1 m1 H1 e1 hm1 o1 => ?_, fun e m' H' h1 s1 o1 => k.2 (by rw [e]; rfl) m' H' h1 s1 o1⟩
    obtain ⟨hf1, lt1, st1, -⟩ := hf.take e1
    rw [e1] at k
    have k := k.on st1 o1
    obtain ⟨dx1, hp1, -⟩ := id hm1
    walk_at "rs"
    refine ⟨p, dx1, _, rfl, hp1, rfl, ?_⟩
    refine ⟨p, D, L, G, m1, rfl, hm1, hf1, fun t2 m2 H2 e2 hm2 o2 => ?_, fun e m' H' h1 s1 o1 => k.2 (by show (takeM m1).bind _ = _; rw [e]; rfl) m' H' h1 s1 o1⟩
    obtain ⟨hf2, lt2, st2, -⟩ := hf1.take e2
    have k : Res a.C_Machine a.C_Failed p D L G H1 m1 ((takeM m1).bind fun y => pushM (work c y.1 t1) y.2) Q E := k
    rw [e2] at k
    have k := k.on st2 o2
    obtain ⟨dx2, hp2, -⟩ := id hm2
    walk_at "rs"
    refine ⟨p, dx2, _, rfl, hp2, rfl, ?_⟩
    walk_at "rs"
    refine ⟨wf, wfd, _, _, rfl, wF, wb, wkp, ?_⟩
    walk_at "rs"
    exact ⟨t2, t1, rfl, lt2, lt1, p, D, L, G, m2, _, rfl, hm2, hf2, k⟩
theorem ok_Machine_move (TE : TxtE w K mg a) (T : Txt K mg a) : ∃ fd, FnOk P w K mg base (L2.CX P w) 2 a.d_Machine_move fd ["self", "sign"] (spSign a.C_Machine a.C_Failed (fun _ => moveM) fun _ => True) ∧ Binds K fd ["self", "sign"] [] := by
  obtain ⟨fd, F, b⟩ := T.d_Machine_move.F
  obtain ⟨fd_Machine_take, G_Machine_take, b_Machine_take⟩ := ok_Machine_take (P := P) (w := w) (base := base) TE T
  obtain ⟨fd_Machine_push, G_Machine_push, b_Machine_push⟩ := ok_Machine_push (P := P) (w := w) (base := base) TE T
  refine ⟨fd, F.okX sc_Machine_move (fun vs H Q E h => ?_) (fun cdv A outer s H vs Q E hr h => ?_), b⟩
  · obtain ⟨_, _, _, _, _, _, rfl, _⟩ := h
    rfl
  · obtain ⟨p, D, L, G, m, c, rfl, hc, hm, hf, k⟩ := h
    obtain ⟨dx, hp, hD, hL⟩ := id hm
    refine ⟨_, (pss_cons (ps_set (i := 2) sc_Machine_move.nd rfl (Or.inl rfl) (pe_meth0 (pv 0) T.cl_Machine T.me_Machine_take G_Machine_take (hr.mono (by decide)) b_Machine_take .nil (L2.passes_call (W := fun c d _ H => E c d H) (E := E) (L2.takes_of rfl rfl rfl rfl) (fun _ _ _ _ h => h))))
      (pss_one (ps_if (pt_cmpR op_eq (pv 1) pe_str (nomark _))
      (pss_cons (ps_expr (pe_meth (pv 0) T.cl_Machine T.me_Machine_push G_Machine_push (hr.mono (by decide)) b_Machine_push .nil (L2.passes_call (W := fun c d _ H => E c d H) (E := E) (L2.takes_of rfl rfl rfl rfl) (fun _ _ _ _ h => h)) (pa_cons (pv 2) pa_nil)))
        (pss_one (ps_expr (pe_meth (pv 0) T.cl_Machine T.me_Machine_push G_Machine_push (hr.mono (by decide)) b_Machine_push .nil (L2.passes_call (W := fun c d _ H => E c d H) (E := E) (L2.takes_of rfl rfl rfl rfl) (fun _ _ _ _ h => h)) (pa_cons (pv 2) pa_nil)))))
      (pss_one (ps_if (pt_cmpR op_eq (pv 1) pe_str (nomark _))
        (pss_one (ps_expr (pe_meth (pv 0) T.cl_Machine T.me_Machine_push G_Machine_push (hr.mono (by decide)) b_Machine_push .nil (L2.passes_call (W := fun c d _ H => E c d H) (E := E) (L2.takes_of rfl rfl rfl rfl) (fun _ _ _ _ h => h)) (pa_cons (pe_dget2 (hu_of hr) (pe_fld (pv 0) rfl) (pv 2) pe_int ⟨rfl, rfl, rfl, rfl⟩) pa_nil))))
        (pss_one (ps_dput (hu_of hr) (pe_fld (pv 0) rfl) (pv 2) (pe_meth0 (pv 0) T.cl_Machine T.me_Machine_take G_Machine_take (hr.mono (by decide)) b_Machine_take .nil (L2.passes_call (W := fun c d _ H => E c d H) (E := E) (L2.takes_of rfl rfl rfl rfl) (fun _ _ _ _ h => h))) rfl))))))), ?_⟩
    replace k : Res a.C_Machine a.C_Failed p D L G H m (moveM c m) Q E := k
    unfold moveM at k
    walk_at "rs"
    refine ⟨p, dx, _, rfl, hp, rfl, ?_⟩
    refine ⟨p, D, L, G, m, rfl, hm, hf, fun t1 m1 H1 e1 hm1 o1 => ?_, fun e m' H' h1 s1 o1 => k.2 (by rw [e]; rfl) m' H' h1 s1 o1⟩
    obtain ⟨hf1, lt1, st1, -⟩ := hf.take e1
    rw [e1] at k
    have k := k.on st1 o1
    have k : Res a.C_Machine a.C_Failed p D L G H1 m1 (if c = 104 then (pushM t1 m1).bind (pushM t1) else if c = 108 then pushM (getN m1.kv t1) m1 else (takeM m1).map fun y => { y.2 with kv := putN y.2.kv t1 y.1 }) Q E := k
    obtain ⟨dx1, hp1, hD1, hL1⟩ := id hm1
    walk_at "rs"
    refine ite2 (fun c1 => ?_) (fun c1 => ?_)
    · have c1 : c = 104 := (sg_eq c 104).mp (V.str.inj (of_decide_eq_true c1))
      rw [if_pos c1] at k
      walk_at "rs"
      refine ⟨p, dx1, _, rfl, hp1, rfl, ?_⟩
      walk_at "rs"
      refine ⟨p, D, L, G, m1, t1, rfl, hm1, hf1, fun m2 H2 e2 hm2 o2 => ?_, fun e m' H' h1 s1 o1 => k.2 (by rw [e]; rfl) m' H' h1 s1 o1⟩
      obtain ⟨hf2, st2, -⟩ := hf1.push e2
      rw [e2] at k
      have k := k.on st2 o2
      obtain ⟨dx2, hp2, -⟩ := id hm2
      walk_at "rs"
      refine ⟨p, dx2, _, rfl, hp2, rfl, ?_⟩
      walk_at "rs"
      exact ⟨p, D, L, G, m2, t1, rfl, hm2, hf2, k⟩
    · have c1 : c ≠ 104 := fun e => c1 (decide_eq_true (congrArg V.str ((sg_eq c 104).mpr e)))
      rw [if_neg c1] at k
      walk_at "rs"
      refine ite2 (fun c2 => ?_) (fun c2 => ?_)
      · have c2 : c = 108 := (sg_eq c 108).mp (V.str.inj (of_decide_eq_true c2))
        rw [if_pos c2] at k
        walk_at "rs"
        refine ⟨p, dx1, _, rfl, hp1, rfl, ?_⟩
        walk_at "rs"
        refine ⟨p, _, dx1, _, .ref D, rfl, hp1, T.cl_Machine, T.a_Machine_store, rfl, ?_⟩
        refine ⟨D, rfl, .inl ⟨_, .of hD1⟩, ?_⟩
        walk_at "rs"
        refine ⟨_, DGet.k (k := Sum.inl (t1 : Int)) hD1, ?_⟩
        rw [get_kv]
        exact ⟨p, D, L, G, m1, _, rfl, hm1, hf1, k⟩
      · have c2 : c ≠ 108 := fun e => c2 (decide_eq_true (congrArg V.str ((sg_eq c 108).mpr e)))
        rw [if_neg c2] at k
        walk_at "rs"
        refine ⟨p, dx1, _, rfl, hp1, rfl, ?_⟩
        refine ⟨p, D, L, G, m1, rfl, hm1, hf1, fun t2 m2 H2 e2 hm2 o2 => ?_, fun e m' H' h1 s1 o1 => k.2 (by rw [e]; rfl) m' H' h1 s1 o1⟩
        obtain ⟨hf2, lt2, st2, -⟩ := hf1.take e2
        rw [e2] at k
        have k := k.on st2 o2
        obtain ⟨npD, npL, nDL⟩ := hm2.ne
        obtain ⟨dx2, hp2, hD2, hL2⟩ := id hm2
        walk_at "rs"
        refine ⟨p, _, dx2, _, .ref D, rfl, hp2, T.cl_Machine, T.a_Machine_store, rfl, ?_⟩
        walk_at "rs"
        refine ⟨D, _, rfl, DPut.k (k := Sum.inl (t1 : Int)) hD2 (by rw [len_kv]; exact small8000 (by have : m2.kv.length ≤ 30900 := hf2.2.1; omega)), ?_⟩
        refine k.1 _ _ rfl ⟨dx2, ?_, ?_, ?_⟩ fun b o n1 n2 n3 e => ?_
        · rw [upd_ne npD]
          exact hp2
        · rw [upd_same, put_kv]
        · rw [upd_ne (fun e => nDL e.symm)]
          exact hL2
        · rw [upd_ne n2]
          exact e
theorem ok_Machine_jump (TE : TxtE w K mg a) (T : Txt K mg a) : ∃ fd, FnOk P w K mg base (L2.CX P w) 2 a.d_Machine_jump fd ["self", "sign"] (spSign a.C_Machine a.C_Failed (fun _ => jumpM) fun _ => True) ∧ Binds K fd ["self", "sign"] [] := by
  obtain ⟨fd, F, b⟩ := T.d_Machine_jump.F
  obtain ⟨fd_Machine_take, G_Machine_take, b_Machine_take⟩ := ok_Machine_take (P := P) (w := w) (base := base) TE T
  refine ⟨fd, F.okX sc_Machine_jump (fun vs H Q E h => ?_) (fun cdv A outer s H vs Q E hr h => ?_), b⟩
  · obtain ⟨_, _, _, _, _, _, rfl, _⟩ := h
    rfl
  · obtain ⟨p, D, L, G, m, c, rfl, hc, hm, hf, k⟩ := h
    obtain ⟨dx, hp, hD, hL⟩ := id hm
    refine ⟨_, (pss_cons (ps_set (i := 2) sc_Machine_jump.nd rfl (Or.inl rfl) (pe_meth0 (pv 0) T.cl_Machine T.me_Machine_take G_Machine_take (hr.mono (by decide)) b_Machine_take .nil (L2.passes_call (W := fun c d _ H => E c d H) (E := E) (L2.takes_of rfl rfl rfl rfl) (fun _ _ _ _ h => h))))
      (pss_one (ps_if (PW.pt (pw_or (pt_cmpR op_eq (pv 1) pe_str (nomark _)) (pw_or1 (pt_cmpR op_eq (pe_meth0 (pv 0) T.cl_Machine T.me_Machine_take G_Machine_take (hr.mono (by decide)) b_Machine_take .nil (L2.passes_call (W := fun c d _ H => E c d H) (E := E) (L2.takes_of rfl rfl rfl rfl) (fun _ _ _ _ h => h))) pe_int (nomark _)))))
      (pss_one (ps_fld (pv 0) (pv 2) rfl))
      pss_nil))), ?_⟩
    replace k : Res a.C_Machine a.C_Failed p D L G H m (jumpM c m) Q E := k
    unfold jumpM at k
    walk_at "rs"
    refine ⟨p, dx, _, rfl, hp, rfl, ?_⟩
    refine ⟨p, D, L, G, m, rfl, hm, hf, fun t1 m1 H1 e1 hm1 o1 => ?_, fun e m' H' h1 s1 o1 => k.2 (by rw [e]; rfl) m' H' h1 s1 o1⟩
    obtain ⟨hf1, lt1, st1, -⟩ := hf.take e1
    rw [e1] at k
    have k := k.on st1 o1
    have k : Res a.C_Machine a.C_Failed p D L G H1 m1 (if c = 106 then some { m1 with pl := t1 } else (takeM m1).map fun y => if y.1 = 0 then { y.2 with pl := t1 } else y.2) Q E := k
    obtain ⟨npD, npL, nDL⟩ := hm1.ne
    obtain ⟨dx1, hp1, hD1, hL1⟩ := id hm1
    walk_at "rs"
    have put : ∀ (m2 : Mc) (H2 : Hp), MAt a.C_Machine H2 p D L G m2 → ∃ dx2, H2 p = some (.ins a.C_Machine dx2 [("code", .str G.code), ("given", .int (G.given : Nat)), ("amount", .int (G.amount : Nat)), ("store", .ref D), ("stack", .ref L), ("place", .int (m2.pl : Nat)), ("paid", .int (m2.pd : Nat)), ("steps", .int (m2.st : Nat))]) ∧
        MAt a.C_Machine (upd H2 p (.ins a.C_Machine dx2 [("code", .str G.code), ("given", .int (G.given : Nat)), ("amount", .int (G.amount : Nat)), ("store", .ref D), ("stack", .ref L), ("place", .int (t1 : Nat)), ("paid", .int (m2.pd : Nat)), ("steps", .int (m2.st : Nat))])) p D L G { m2 with pl := t1 } := fun m2 H2 h2 => by
      obtain ⟨n1, n2, n3⟩ := h2.ne
      obtain ⟨dx2, hp2, hD2, hL2⟩ := h2
      exact ⟨dx2, hp2, dx2, upd_same, by rw [upd_ne (fun e => n1 e.symm)]; exact hD2, by rw [upd_ne (fun e => n2 e.symm)]; exact hL2⟩
    refine ite2 (fun c1 => ?_) (fun c1 => ?_)
    · have c1 : c = 106 := (sg_eq c 106).mp (V.str.inj (of_decide_eq_true c1))
      rw [if_pos c1] at k
      obtain ⟨dx2, hp2, hm2⟩ := put m1 H1 hm1
      walk_at "rs"
      refine ⟨p, _, dx2, _, rfl, hp2, T.cl_Machine, T.a_Machine_place, (by show 8 < 1000; decide), ?_⟩
      exact k.1 _ _ rfl hm2 fun b o n1 n2 n3 e => by rw [upd_ne n1]; exact e
    · have c1 : c ≠ 106 := fun e => c1 (decide_eq_true (congrArg V.str ((sg_eq c 106).mpr e)))
      rw [if_neg c1] at k
      walk_at "rs"
      refine ⟨p, dx1, _, rfl, hp1, rfl, ?_⟩
      refine ⟨p, D, L, G, m1, rfl, hm1, hf1, fun t2 m2 H2 e2 hm2 o2 => ?_, fun e m' H' h1 s1 o1 => k.2 (by rw [e]; rfl) m' H' h1 s1 o1⟩
      obtain ⟨hf2, lt2, st2, -⟩ := hf1.take e2
      rw [e2] at k
      have k := k.on st2 o2
      have k : Res a.C_Machine a.C_Failed p D L G H2 m2 (some (if t2 = 0 then { m2 with pl := t1 } else m2)) Q E := k
      obtain ⟨dx2, hp2, hm3⟩ := put m2 H2 hm2
      walk_at "rs"
      refine ite2 (fun c2 => ?_) (fun c2 => ?_)
      · have c2 : t2 = 0 := by
          have := V.int.inj (of_decide_eq_true c2)
          omega
        rw [if_pos c2] at k
        walk_at "rs"
        refine ⟨p, _, dx2, _, rfl, hp2, T.cl_Machine, T.a_Machine_place, (by show 8 < 1000; decide), ?_⟩
        exact k.1 _ _ rfl hm3 fun b o n1 n2 n3 e => by rw [upd_ne n1]; exact e
      · have c2 : ¬ t2 = 0 := fun h => c2 (decide_eq_true (by rw [h]; rfl))
        rw [if_neg c2] at k
        exact k.1 _ _ rfl hm2 .rfl
theorem ok_Machine_settle (TE : TxtE w K mg a) (T : Txt K mg a) : ∃ fd, FnOk P w K mg base (L2.CX P w) 2 a.d_Machine_settle fd ["self", "sign"] (spSign a.C_Machine a.C_Failed (fun _ => settleM) fun _ => True) ∧ Binds K fd ["self", "sign"] [] := by
  obtain ⟨fd, F, b⟩ := T.d_Machine_settle.F
  obtain ⟨fd_Machine_take, G_Machine_take, b_Machine_take⟩ := ok_Machine_take (P := P) (w := w) (base := base) TE T
  refine ⟨fd, F.okX sc_Machine_settle (fun vs H Q E h => ?_) (fun cdv A outer s H vs Q E hr h => ?_), b⟩
  · obtain ⟨_, _, _, _, _, _, rfl, _⟩ := h
    rfl
  · obtain ⟨p, D, L, G, m, c, rfl, hc, hm, hf, k⟩ := h
    obtain ⟨dx, hp, hD, hL⟩ := id hm
    refine ⟨_, (pss_cons (ps_set (i := 2) sc_Machine_settle.nd rfl (Or.inl rfl) (pe_meth0 (pv 0) T.cl_Machine T.me_Machine_take G_Machine_take (hr.mono (by decide)) b_Machine_take .nil (L2.passes_call (W := fun c d _ H => E c d H) (E := E) (L2.takes_of rfl rfl rfl rfl) (fun _ _ _ _ h => h))))
      (pss_one (ps_if (pt_cmpR op_eq (pv 1) pe_str (nomark _))
      (pss_one (ps_fldaug (pv 0) (pv 2) in_add))
      (pss_one (ps_if (pt_cmpR op_eq (pv 2) pe_int (nomark _))
        (pss_one (ps_raise rfl (takes_of rfl rfl rfl rfl) (pmk_own PySem.F.excBase_ValueError TE.x_Failed TE.g_Failed TE.kc_Failed (raises_own TE.b_Failed TE.t_Failed) rfl)))
        pss_nil))))), ?_⟩
    replace k : Res a.C_Machine a.C_Failed p D L G H m (settleM c m) Q E := k
    unfold settleM at k
    walk_at "rs"
    refine ⟨p, dx, _, rfl, hp, rfl, ?_⟩
    refine ⟨p, D, L, G, m, rfl, hm, hf, fun t1 m1 H1 e1 hm1 o1 => ?_, fun e m' H' h1 s1 o1 => k.2 (by rw [e]; rfl) m' H' h1 s1 o1⟩
    obtain ⟨hf1, lt1, st1, -⟩ := hf.take e1
    rw [e1] at k
    have k := k.on st1 o1
    have k : Res a.C_Machine a.C_Failed p D L G H1 m1 (if c = 121 then some { m1 with pd := m1.pd + t1 } else if t1 = 0 then none else some m1) Q E := k
    obtain ⟨npD, npL, nDL⟩ := hm1.ne
    obtain ⟨dx1, hp1, hD1, hL1⟩ := id hm1
    walk_at "rs"
    refine ite2 (fun c1 => ?_) (fun c1 => ?_)
    · have c1 : c = 121 := (sg_eq c 121).mp (V.str.inj (of_decide_eq_true c1))
      rw [if_pos c1] at k
      walk_at "rs"
      refine ⟨p, _, dx1, _, .int (m1.pd : Nat), rfl, hp1, T.cl_Machine, T.a_Machine_paid, rfl, ?_⟩
      walk_at "rs"
      refine ⟨dx1, _, hp1, (by show 8 < 1000; decide), ?_⟩
      refine k.1 _ _ rfl ⟨dx1, upd_same, by rw [upd_ne (fun e => npD e.symm)]; exact hD1, by rw [upd_ne (fun e => npL e.symm)]; exact hL1⟩ fun b o n1 n2 n3 e => by rw [upd_ne n1]; exact e
    · have c1 : c ≠ 121 := fun e => c1 (decide_eq_true (congrArg V.str ((sg_eq c 121).mpr e)))
      rw [if_neg c1] at k
      walk_at "rs"
      refine ite2 (fun c2 => ?_) (fun c2 => ?_)
      · have c2 : t1 = 0 := by
          have := V.int.inj (of_decide_eq_true c2)
          omega
        rw [if_pos c2] at k
        exact k.2 rfl m1 H1 hm1 rfl .rfl
      · have c2 : ¬ t1 = 0 := fun h => c2 (decide_eq_true (by rw [h]; rfl))
        rw [if_neg c2] at k
        exact k.1 _ _ rfl hm1 .rfl

theorem MAt.new {C : Addr} {H : Hp} {p D L t : Addr} {G : Gv} {m : Mc} {o : HO} (h : MAt C H p D L G m) (n : H t = none) : MAt C (upd H t o) p D L G m := by
  obtain ⟨dx, h1, h2, h3⟩ := h
  exact ⟨dx, by rw [upd_ne (ne_of_none h1 n)]; exact h1, by rw [upd_ne (ne_of_none h2 n)]; exact h2, by rw [upd_ne (ne_of_none h3 n)]; exact h3⟩
theorem Oth.new {H : Hp} {p D L t : Addr} {o : HO} (n : H t = none) : Oth p D L H (upd H t o) := fun b u _ _ _ e => by
  rw [upd_ne (ne_of_none e n)]
  exact e
theorem ok_Machine_perform (TE : TxtE w K mg a) (T : Txt K mg a) : ∃ fd, FnOk P w K mg base (L2.CX P w) 3 a.d_Machine_perform fd ["self", "sign"] (spSign a.C_Machine a.C_Failed performM fun _ => True) ∧ Binds K fd ["self", "sign"] [] := by
  obtain ⟨fd, F, b⟩ := T.d_Machine_perform.F
  obtain ⟨fd_Machine_push, G_Machine_push, b_Machine_push⟩ := ok_Machine_push (P := P) (w := w) (base := base) TE T
  obtain ⟨fd_Machine_push_number, G_Machine_push_number, b_Machine_push_number⟩ := ok_Machine_push_number (P := P) (w := w) (base := base) TE T
  obtain ⟨fd_Machine_combine, G_Machine_combine, b_Machine_combine⟩ := ok_Machine_combine (P := P) (w := w) (base := base) TE T
  obtain ⟨fd_Machine_move, G_Machine_move, b_Machine_move⟩ := ok_Machine_move (P := P) (w := w) (base := base) TE T
  obtain ⟨fd_Machine_jump, G_Machine_jump, b_Machine_jump⟩ := ok_Machine_jump (P := P) (w := w) (base := base) TE T
  obtain ⟨fd_Machine_settle, G_Machine_settle, b_Machine_settle⟩ := ok_Machine_settle (P := P) (w := w) (base := base) TE T
  refine ⟨fd, F.okX sc_Machine_perform (fun vs H Q E h => ?_) (fun cdv A outer s H vs Q E hr h => ?_), b⟩
  · obtain ⟨_, _, _, _, _, _, rfl, _⟩ := h
    rfl
  · obtain ⟨p, D, L, G, m, c, rfl, hc, hm, hf, k⟩ := h
    obtain ⟨dx, hp, hD, hL⟩ := id hm
    have dig : c ∈ (Str.ofString "0123456789").cps.toList ↔ 48 ≤ c ∧ c ≤ 57 := by
      rw [show (Str.ofString "0123456789").cps.toList = [48, 49, 50, 51, 52, 53, 54, 55, 56, 57] by decide +kernel]
      simp only [List.mem_cons, List.not_mem_nil, or_false]
      omega
    refine ⟨_, (pss_one (ps_if (pt_cmpR op_in_sign (pv 1) (pe_glob (v := (.str "0123456789")) rfl T.c_DIGITS.choose_spec ⟨_, rfl⟩) (by rfl))
      (pss_one (ps_expr (pe_meth (pv 0) T.cl_Machine T.me_Machine_push G_Machine_push (hr.mono (by decide)) b_Machine_push .nil (L2.passes_call (W := fun c d _ H => E c d H) (E := E) (L2.takes_of rfl rfl rfl rfl) (fun _ _ _ _ h => h)) (pa_cons (pe_callTy call_int_str (by rfl) T.n_int (by decide +kernel) (pa_cons (pv 1) pa_nil)) pa_nil))))
      (pss_one (ps_if (pt_cmpR op_in_seq (pv 1) (pe_tup (pa_cons pe_str (pa_cons pe_str (pa_cons pe_str pa_nil)))) (by rfl))
        (pss_one (ps_expr (pe_meth (pv 0) T.cl_Machine T.me_Machine_push_number G_Machine_push_number (hr.mono (by decide)) b_Machine_push_number .nil (L2.passes_call (W := fun c d _ H => E c d H) (E := E) (L2.takes_of rfl rfl rfl rfl) (fun _ _ _ _ h => h)) (pa_cons (pv 1) pa_nil))))
        (pss_one (ps_if (pt_cmpR op_inKd (pv 1) (pe_glob (v := .ref a.P_OF_TWO) rfl TE.g_OF_TWO rfl) (by rfl))
          (pss_one (ps_expr (pe_meth (pv 0) T.cl_Machine T.me_Machine_combine G_Machine_combine (hr.mono (by decide)) b_Machine_combine .nil (L2.passes_call (W := fun c d _ H => E c d H) (E := E) (L2.takes_of rfl rfl rfl rfl) (fun _ _ _ _ h => h)) (pa_cons (pv 1) pa_nil))))
          (pss_one (ps_if (pt_cmpR op_in_seq (pv 1) (pe_tup (pa_cons pe_str (pa_cons pe_str (pa_cons pe_str pa_nil)))) (by rfl))
            (pss_one (ps_expr (pe_meth (pv 0) T.cl_Machine T.me_Machine_move G_Machine_move (hr.mono (by decide)) b_Machine_move .nil (L2.passes_call (W := fun c d _ H => E c d H) (E := E) (L2.takes_of rfl rfl rfl rfl) (fun _ _ _ _ h => h)) (pa_cons (pv 1) pa_nil))))
            (pss_one (ps_if (pt_cmpR op_in_seq (pv 1) (pe_tup (pa_cons pe_str (pa_cons pe_str pa_nil))) (by rfl))
              (pss_one (ps_expr (pe_meth (pv 0) T.cl_Machine T.me_Machine_jump G_Machine_jump (hr.mono (by decide)) b_Machine_jump .nil (L2.passes_call (W := fun c d _ H => E c d H) (E := E) (L2.takes_of rfl rfl rfl rfl) (fun _ _ _ _ h => h)) (pa_cons (pv 1) pa_nil))))
              (pss_one (ps_expr (pe_meth (pv 0) T.cl_Machine T.me_Machine_settle G_Machine_settle (hr.mono (by decide)) b_Machine_settle .nil (L2.passes_call (W := fun c d _ H => E c d H) (E := E) (L2.takes_of rfl rfl rfl rfl) (fun _ _ _ _ h => h)) (pa_cons (pv 1) pa_nil)))))))))))))), ?_⟩
    unfold performM at k
    walk_at "rs"
    refine ite2 (fun c1 => ?_) (fun c1 => ?_)
    · have c1 := dig.mp (of_decide_eq_true c1)
      rw [if_pos c1] at k
      walk_at "rs"
      refine ⟨p, dx, _, rfl, hp, rfl, ?_⟩
      walk_at "rs"
      have hall : NumText.AllDigits [c] := fun n hn => by
        rw [List.mem_singleton.mp hn]
        exact c1
      refine ⟨_, _, rfl, PySem.intText_digits (x := ⟨#[c]⟩) hall (fun e => nomatch e) (by show 1 ≤ _; decide), (by show 1 ≤ 640; decide), ?_⟩
      refine ⟨p, D, L, G, m, c - 48, ?_, hm, hf, k⟩
      show [V.ref p, V.int ((NumText.digitsVal [c] : Nat) : Int)] = _
      rw [show NumText.digitsVal [c] = c - 48 by simp [NumText.digitsVal]]
    rw [if_neg (fun h => c1 (decide_eq_true (dig.mpr h)))] at k
    walk_at "rs"
    refine ⟨(by show 3 ≤ sizeLine; decide), fun t1 n1 => ?_⟩
    have hm1 := hm.new (o := .tup ([103, 105, 110].map fun k => V.str ⟨#[k]⟩)) n1
    replace k := k.on (m1 := m) rfl (Oth.new (o := .tup ([103, 105, 110].map fun k => V.str ⟨#[k]⟩)) n1)
    clear hm hp hD hL
    refine ⟨t1, [103, 105, 110].map fun k => V.str ⟨#[k]⟩, rfl, .inr (SqT.of upd_same), rfl, rfl, ?_⟩
    replace hm1 : MAt a.C_Machine (upd H t1 (.tup [.str "g", .str "i", .str "n"])) p D L G m := hm1
    obtain ⟨dx, hp, hD, hL⟩ := id hm1
    walk_at "rs"
    refine ite2 (fun c2 => ?_) (fun c2 => ?_)
    · replace c2 : inV (V.str ⟨#[c]⟩) ([103, 105, 110].map fun k => V.str ⟨#[k]⟩) = true := c2
      rw [in_signs, decide_eq_true_iff] at c2
      rw [if_pos (by simpa using c2)] at k
      walk_at "rs"
      refine ⟨p, dx, _, rfl, hp, rfl, ?_⟩
      walk_at "rs"
      exact ⟨p, D, L, G, m, c, rfl, trivial, hm1, hf, k⟩
    replace c2 : ¬ inV (V.str ⟨#[c]⟩) ([103, 105, 110].map fun k => V.str ⟨#[k]⟩) = true := c2
    rw [in_signs, decide_eq_true_iff] at c2
    rw [if_neg (by simpa using c2)] at k
    walk_at "rs"
    refine ⟨_, _, _, rfl, rfl, TE.tab_OF_TWO.has _, ?_⟩
    walk_at "rs"
    rw [of_two]
    refine ite2 (fun c3 => ?_) (fun c3 => ?_)
    · have c3 := of_decide_eq_true c3
      rw [if_pos c3] at k
      walk_at "rs"
      refine ⟨p, dx, _, rfl, hp, rfl, ?_⟩
      walk_at "rs"
      exact ⟨p, D, L, G, m, c, rfl, c3, hm1, hf, k⟩
    rw [if_neg (fun h => c3 (decide_eq_true h))] at k
    walk_at "rs"
    refine ⟨(by show 3 ≤ sizeLine; decide), fun t2 n2 => ?_⟩
    have hm2 := hm1.new (o := .tup ([104, 108, 117].map fun k => V.str ⟨#[k]⟩)) n2
    replace k := Res.on (m1 := m) k rfl (Oth.new (o := .tup ([104, 108, 117].map fun k => V.str ⟨#[k]⟩)) n2)
    clear hm1 hp hD hL
    refine ⟨t2, [104, 108, 117].map fun k => V.str ⟨#[k]⟩, rfl, .inr (SqT.of upd_same), rfl, rfl, ?_⟩
    obtain ⟨dx, hp, hD, hL⟩ := id hm2
    walk_at "rs"
    refine ite2 (fun c4 => ?_) (fun c4 => ?_)
    · replace c4 : inV (V.str ⟨#[c]⟩) ([104, 108, 117].map fun k => V.str ⟨#[k]⟩) = true := c4
      rw [in_signs, decide_eq_true_iff] at c4
      rw [if_pos (by simpa using c4)] at k
      walk_at "rs"
      refine ⟨p, dx, _, rfl, hp, rfl, ?_⟩
      walk_at "rs"
      exact ⟨p, D, L, G, m, c, rfl, trivial, hm2, hf, k⟩
    replace c4 : ¬ inV (V.str ⟨#[c]⟩) ([104, 108, 117].map fun k => V.str ⟨#[k]⟩) = true := c4
    rw [in_signs, decide_eq_true_iff] at c4
    rw [if_neg (by simpa using c4)] at k
    walk_at "rs"
    refine ⟨(by show 2 ≤ sizeLine; decide), fun t3 n3 => ?_⟩
    have hm3 := hm2.new (o := .tup ([106, 102].map fun k => V.str ⟨#[k]⟩)) n3
    replace k := Res.on (m1 := m) k rfl (Oth.new (o := .tup ([106, 102].map fun k => V.str ⟨#[k]⟩)) n3)
    clear hm2 hp hD hL
    refine ⟨t3, [106, 102].map fun k => V.str ⟨#[k]⟩, rfl, .inr (SqT.of upd_same), rfl, rfl, ?_⟩
    obtain ⟨dx, hp, hD, hL⟩ := id hm3
    walk_at "rs"
    refine ite2 (fun c5 => ?_) (fun c5 => ?_)
    · replace c5 : inV (V.str ⟨#[c]⟩) ([106, 102].map fun k => V.str ⟨#[k]⟩) = true := c5
      rw [in_signs, decide_eq_true_iff] at c5
      rw [if_pos (by simpa using c5)] at k
      walk_at "rs"
      refine ⟨p, dx, _, rfl, hp, rfl, ?_⟩
      walk_at "rs"
      exact ⟨p, D, L, G, m, c, rfl, trivial, hm3, hf, k⟩
    replace c5 : ¬ inV (V.str ⟨#[c]⟩) ([106, 102].map fun k => V.str ⟨#[k]⟩) = true := c5
    rw [in_signs, decide_eq_true_iff] at c5
    rw [if_neg (by simpa using c5)] at k
    walk_at "rs"
    refine ⟨p, dx, _, rfl, hp, rfl, ?_⟩
    walk_at "rs"
    exact ⟨p, D, L, G, m, c, rfl, trivial, hm3, hf, k⟩
/-- the run -/
def finM (G : Gv) : Nat → Mc → Option Mc × Nat
  | 0, m => (none, m.st)
  | n + 1, m => match (TL.tl G.code)[m.pl]? with
    | none => (some m, m.st)
    | some c => if m.st = 200 then (none, 200) else match performM G c { m with st := m.st + 1, pl := m.pl + 1 } with
      | none => (none, m.st + 1)
      | some m' => finM G n m'
theorem FitM.perform {G : Gv} {c : Nat} {m m' : Mc} (f : FitM m) (few : m.kv.length ≤ 30899) (e : performM G c m = some m') : FitM m' ∧ m'.st = m.st ∧ m'.kv.length ≤ m.kv.length + 1 := by
  have pu : ∀ {v : Nat} {m1 m2 : Mc}, FitM m1 → m1.st = m.st → m1.kv = m.kv → pushM v m1 = some m2 → FitM m2 ∧ m2.st = m.st ∧ m2.kv.length ≤ m.kv.length + 1 := fun f1 s1 k1 e1 => by
    obtain ⟨g1, g2, g3, -⟩ := f1.push e1
    exact ⟨g1, g2.trans s1, by rw [g3, k1]; omega⟩
  have ta : ∀ {m1 m2 : Mc} {g : Nat × Mc → Option Mc}, FitM m1 → m1.st = m.st → m1.kv = m.kv → (takeM m1).bind g = some m2 → ∃ x, takeM m1 = some x ∧ g x = some m2 ∧ FitM x.2 ∧ x.1 < 1000000 ∧ x.2.st = m.st ∧ x.2.kv = m.kv := fun {m1 m2 g} f1 s1 k1 e1 => by
    cases h : takeM m1 with
    | none => rw [h] at e1; cases e1
    | some x =>
      rw [h] at e1
      obtain ⟨g1, g2, g3, g4, -⟩ := f1.take h
      exact ⟨x, rfl, e1, g1, g2, g3.trans s1, g4.trans k1⟩
  unfold performM at e
  split at e
  · exact pu f rfl rfl e
  split at e
  · unfold numberM at e
    split at e
    · exact pu f rfl rfl e
    split at e
    · exact pu f rfl rfl e
    · exact pu f rfl rfl e
  split at e
  · unfold combineM at e
    obtain ⟨x, hx, e, f1, -, s1, k1⟩ := ta f rfl rfl e
    obtain ⟨y, hy, e, f2, -, s2, k2⟩ := ta f1 s1 k1 e
    exact pu f2 s2 k2 e
  split at e
  · unfold moveM at e
    obtain ⟨x, hx, e, f1, l1, s1, k1⟩ := ta f rfl rfl e
    split at e
    · cases h : pushM x.1 x.2 with
      | none => rw [h] at e; cases e
      | some m2 =>
        rw [h] at e
        obtain ⟨g1, g2, g3, -⟩ := f1.push h
        exact pu g1 (g2.trans s1) (g3.trans k1) e
    split at e
    · exact pu f1 s1 k1 e
    · cases h : takeM x.2 with
      | none => rw [h] at e; cases e
      | some y =>
        rw [h] at e
        obtain ⟨g1, g2, g3, g4, -⟩ := f1.take h
        obtain rfl := Option.some.inj e
        have := len_put y.2.kv x.1 y.1
        rw [g4, k1] at this
        refine ⟨⟨g1.1, ?_, g1.2.2⟩, g3.trans s1, ?_⟩
        · show (putN y.2.kv x.1 y.1).length ≤ 30900
          rw [g4, k1]
          omega
        · show (putN y.2.kv x.1 y.1).length ≤ _
          rw [g4, k1]
          exact this
  split at e
  · unfold jumpM at e
    obtain ⟨x, hx, e, f1, l1, s1, k1⟩ := ta f rfl rfl e
    split at e
    · obtain rfl := Option.some.inj e
      exact ⟨f1, s1, by show x.2.kv.length ≤ _; rw [k1]; omega⟩
    · cases h : takeM x.2 with
      | none => rw [h] at e; cases e
      | some y =>
        rw [h] at e
        obtain ⟨g1, g2, g3, g4, -⟩ := f1.take h
        have e := Option.some.inj e
        have e : (if y.1 = 0 then { y.2 with pl := x.1 } else y.2) = m' := e
        split at e
        · subst e
          exact ⟨g1, g3.trans s1, by show y.2.kv.length ≤ _; rw [g4, k1]; omega⟩
        · subst e
          exact ⟨g1, g3.trans s1, by rw [g4, k1]; omega⟩
  · unfold settleM at e
    obtain ⟨x, hx, e, f1, l1, s1, k1⟩ := ta f rfl rfl e
    split at e
    · obtain rfl := Option.some.inj e
      exact ⟨f1, s1, by show x.2.kv.length ≤ _; rw [k1]; omega⟩
    split at e
    · cases e
    · obtain rfl := Option.some.inj e
      exact ⟨f1, s1, by rw [k1]; omega⟩
def spFin (C CE : Addr) : Sp := fun vs H Q E => ∃ (p D L : Addr) (G : Gv) (m : Mc), vs = [.ref p] ∧ MAt C H p D L G m ∧ FitM m ∧ m.st = 0 ∧ m.kv.length ≤ 30600 ∧ G.code.length ≤ 5000 ∧
  (∀ m' n H', finM G 201 m = (some m', n) → MAt C H' p D L G m' → FitM m' → Oth p D L H H' → Q .non H') ∧ (∀ n, finM G 201 m = (none, n) → ∀ m' H', MAt C H' p D L G m' → m'.st = n → Oth p D L H H' → E (.ref CE) none H')
theorem ok_Machine_finish (TE : TxtE w K mg a) (T : Txt K mg a) : ∃ fd, FnOk P w K mg base (L2.CX P w) 4 a.d_Machine_finish fd ["self"] (spFin a.C_Machine a.C_Failed) ∧ Binds K fd ["self"] [] := by
  obtain ⟨fd, F, b⟩ := T.d_Machine_finish.F
  obtain ⟨fd_Machine_perform, G_Machine_perform, b_Machine_perform⟩ := ok_Machine_perform (P := P) (w := w) (base := base) TE T
  refine ⟨fd, F.okX sc_Machine_finish (fun vs H Q E h => ?_) (fun cdv A outer s H vs Q E hr h => ?_), b⟩
  · obtain ⟨_, _, _, _, _, rfl, _⟩ := h
    rfl
  · obtain ⟨p, D, L, G, m, rfl, hm, hf, h0, few, lc, k1, k2⟩ := h
    obtain ⟨r, er⟩ : ∃ r, r = finM G 201 m := ⟨_, rfl⟩
    rw [← er] at k1 k2
    refine ⟨_, (pss_one (ps_while (passes_of rfl) (pt_cmpR op_lt (pe_fld (pv 0) rfl) (pe_callB call_len_str (by rfl) T.n_len PySem.boot_len (pa_cons (pe_fld (pv 0) rfl) pa_nil)) (nomark _))
      (pss_cons (ps_if (pt_cmpR op_eq (pe_fld (pv 0) rfl) (pe_glob (v := (.int 200)) rfl T.c_MOST_STEPS.choose_spec ⟨_, rfl⟩) (nomark _))
        (pss_one (ps_raise rfl (takes_of rfl rfl rfl rfl) (pmk_own PySem.F.excBase_ValueError TE.x_Failed TE.g_Failed TE.kc_Failed (raises_own TE.b_Failed TE.t_Failed) rfl)))
        pss_nil)
        (pss_cons (ps_set (i := 1) sc_Machine_finish.nd rfl (Or.inl rfl) (pe_ix ix_str (pe_fld (pv 0) rfl) (pe_fld (pv 0) rfl) (fun _ _ => rfl)))
        (pss_cons (ps_fldaug (pv 0) pe_int in_add)
        (pss_cons (ps_fldaug (pv 0) pe_int in_add)
        (pss_one (ps_expr (pe_meth (pv 0) T.cl_Machine T.me_Machine_perform G_Machine_perform (hr.mono (by decide)) b_Machine_perform .nil (L2.passes_call (W := fun c d _ H => E c d H) (E := E) (L2.takes_of rfl rfl rfl rfl) (fun _ _ _ _ h => h)) (pa_cons (pv 1) pa_nil)))))))))), ?_⟩
    refine ⟨fun n σ H2 => ∃ (m2 : Mc) (v : Option V), n = 201 - m2.st ∧ σ = [some (.ref p), v] ∧ MAt a.C_Machine H2 p D L G m2 ∧ FitM m2 ∧ m2.st ≤ 200 ∧ m2.kv.length ≤ 30600 + m2.st ∧ Oth p D L H H2 ∧ r = finM G (201 - m2.st) m2,
      ⟨_, m, _, rfl, rfl, hm, hf, by omega, by omega, .rfl, by rw [h0]; exact er⟩, ?_⟩
    rintro n σ H2 ⟨m2, v, rfl, rfl, hm2, hf2, st2, few2, o2, e2⟩
    obtain ⟨npD, npL, nDL⟩ := hm2.ne
    obtain ⟨dx, hp, hD, hL⟩ := id hm2
    obtain ⟨f, ef⟩ : ∃ f, 201 - m2.st = f + 1 := ⟨200 - m2.st, by omega⟩
    rw [ef, finM] at e2
    walk_at "rs"
    refine ⟨p, _, dx, _, .int (m2.pl : Nat), rfl, hp, T.cl_Machine, T.a_Machine_place, rfl, ?_⟩
    walk_at "rs"
    refine ⟨p, _, dx, _, .str G.code, rfl, hp, T.cl_Machine, T.a_Machine_code, rfl, ?_⟩
    walk_at "rs"
    refine ⟨(by rw [sizeLine_eq]; omega), ?_⟩
    walk_at "rs"
    refine ite2 (fun c1 => ?_) (fun c1 => ?_)
    · have c1 : m2.pl < G.code.length := by
        have := of_decide_eq_true c1
        omega
      obtain ⟨c, eg⟩ : ∃ c, (TL.tl G.code)[m2.pl]? = some c := ⟨_, List.getElem?_eq_getElem (by rw [← TL.len_tl]; exact c1)⟩
      rw [eg] at e2
      replace e2 : r = if m2.st = 200 then (none, 200) else match performM G c { m2 with st := m2.st + 1, pl := m2.pl + 1 } with
        | none => (none, m2.st + 1)
        | some m' => finM G f m' := e2
      refine ⟨fun σ' H' => ∃ (m3 : Mc) (v : Option V), σ' = [some (.ref p), v] ∧ MAt a.C_Machine H' p D L G m3 ∧ FitM m3 ∧ m3.st = m2.st + 1 ∧ m3.st ≤ 200 ∧ m3.kv.length ≤ 30600 + m3.st ∧ Oth p D L H H' ∧ r = finM G f m3, ?_, ?_⟩
      · rintro σ' H' ⟨m3, v, rfl, h1, h2, h3, h4, h5, h6, h7⟩
        exact ⟨201 - m3.st, by omega, m3, v, rfl, rfl, h1, h2, h4, h5, h6, by rw [h7]; congr 1; omega⟩
      walk_at "rs"
      refine ⟨p, _, dx, _, .int (m2.st : Nat), rfl, hp, T.cl_Machine, T.a_Machine_steps, rfl, ?_⟩
      walk_at "rs"
      refine ite2 (fun c2 => ?_) (fun c2 => ?_)
      · have c2 : m2.st = 200 := by
          have := V.int.inj (of_decide_eq_true c2)
          omega
        rw [if_pos c2] at e2
        exact k2 _ e2 m2 H2 hm2 c2 o2
      have c2 : ¬ m2.st = 200 := fun h => c2 (decide_eq_true (by rw [h]; rfl))
      rw [if_neg c2] at e2
      walk_at "rs"
      refine ⟨p, _, dx, _, .str G.code, rfl, hp, T.cl_Machine, T.a_Machine_code, rfl, ?_⟩
      walk_at "rs"
      refine ⟨p, _, dx, _, .int (m2.pl : Nat), rfl, hp, T.cl_Machine, T.a_Machine_place, rfl, ?_⟩
      walk_at "rs"
      refine ⟨G.code, m2.pl, c, rfl, rfl, (by rw [sizeLine_eq]; omega), atI_nat eg, ?_⟩
      walk_at "rs"
      refine ⟨p, _, dx, _, .int (m2.st : Nat), rfl, hp, T.cl_Machine, T.a_Machine_steps, rfl, ?_⟩
      walk_at "rs"
      refine ⟨dx, _, hp, (by show 8 < 1000; decide), ?_⟩
      walk_at "rs"
      refine ⟨p, _, dx, _, .int (m2.pl : Nat), rfl, upd_same, T.cl_Machine, T.a_Machine_place, rfl, ?_⟩
      walk_at "rs"
      refine ⟨dx, _, upd_same, (by show 8 < 1000; decide), ?_⟩
      rw [upd_upd]
      have hm3 : MAt a.C_Machine (upd H2 p (.ins a.C_Machine dx [("code", .str G.code), ("given", .int (G.given : Nat)), ("amount", .int (G.amount : Nat)), ("store", .ref D), ("stack", .ref L), ("place", .int ((m2.pl + 1 : Nat) : Int)), ("paid", .int (m2.pd : Nat)), ("steps", .int ((m2.st + 1 : Nat) : Int))])) p D L G { m2 with st := m2.st + 1, pl := m2.pl + 1 } :=
        ⟨dx, upd_same, by rw [upd_ne (fun e => npD e.symm)]; exact hD, by rw [upd_ne (fun e => npL e.symm)]; exact hL⟩
      have o3 : Oth p D L H2 (upd H2 p (.ins a.C_Machine dx [("code", .str G.code), ("given", .int (G.given : Nat)), ("amount", .int (G.amount : Nat)), ("store", .ref D), ("stack", .ref L), ("place", .int ((m2.pl + 1 : Nat) : Int)), ("paid", .int (m2.pd : Nat)), ("steps", .int ((m2.st + 1 : Nat) : Int))])) := fun b o n1 n2 n3 e => by
        rw [upd_ne n1]
        exact e
      walk_at "rs"
      refine ⟨p, dx, _, rfl, upd_same, rfl, ?_⟩
      walk_at "rs"
      refine ⟨p, D, L, G, { m2 with st := m2.st + 1, pl := m2.pl + 1 }, c, rfl, trivial, hm3, hf2, fun m4 H4 e4 h4 o4 => ?_, fun e4 m4 H4 h4 s4 o4 => ?_⟩
      · rw [e4] at e2
        obtain ⟨f4, s4, n4⟩ := FitM.perform (m := { m2 with st := m2.st + 1, pl := m2.pl + 1 }) hf2 (by show m2.kv.length ≤ 30899; omega) e4
        replace s4 : m4.st = m2.st + 1 := s4
        replace n4 : m4.kv.length ≤ m2.kv.length + 1 := n4
        exact ⟨m4, _, rfl, h4, f4, s4, by omega, by omega, (o2.trans o3).trans o4, e2⟩
      · rw [e4] at e2
        exact k2 _ e2 m4 H4 h4 s4 ((o2.trans o3).trans o4)
    · have c1 : ¬ m2.pl < G.code.length := fun h => c1 (decide_eq_true (by omega))
      rw [List.getElem?_eq_none (by rw [← TL.len_tl]; omega)] at e2
      exact k1 _ _ H2 e2 hm2 hf2 o2

theorem take_nil {m : Mc} (h : m.stk = []) : takeM m = none := by
  unfold takeM
  rw [h]
  rfl
theorem take_at {m : Mc} {s : List Nat} {t : Nat} (h : m.stk = s ++ [t]) : takeM m = some (t, { m with stk := s }) := by
  unfold takeM
  rw [h]
  simp
theorem get_lt {kv : List (Nat × Nat)} (h : ∀ x ∈ kv, x.2 < 1000000) (k : Nat) : getN kv k < 1000000 := by
  unfold getN
  cases e : kv.find? fun x => decide (x.1 = k) with
  | none => decide
  | some x => exact h x (List.mem_of_find?_eq_some e)

/-- how one sign changes a machine -/
def Base (G : Gv) (v : Nat) : Prop := v ≤ 16 ∨ v = G.given % 1000000 ∨ v = G.amount % 1000000
def From (G : Gv) (m : Mc) (v : Nat) : Prop := v ∈ m.stk ∨ Base G v ∨ ∃ x ∈ m.kv, v = x.2 % 1000000
def StepA (G : Gv) (m m' : Mc) : Prop := m'.kv = m.kv ∧ m'.stk.length ≤ m.stk.length + 1 ∧ ∀ v ∈ m'.stk, From G m v
def StepB (m m' : Mc) : Prop := m'.kv = m.kv ∧ m'.stk.length + 1 = m.stk.length ∧ ∃ s v, m'.stk = s ++ [v] ∧ ∀ x ∈ s, x ∈ m.stk
def StepC (m m' : Mc) : Prop := m'.stk.length + 2 = m.stk.length ∧ (∀ v ∈ m'.stk, v ∈ m.stk) ∧ ∃ t y, t ∈ m.stk ∧ y ∈ m.stk ∧ m'.kv = putN m.kv t y
theorem step_push {G : Gv} {v : Nat} {m m1 m' : Mc} (e : pushM v m1 = some m') (k : m1.kv = m.kv) (l : m1.stk.length ≤ m.stk.length) (h : ∀ x ∈ m1.stk, From G m x) (hv : From G m (v % 1000000)) : StepA G m m' := by
  unfold pushM at e
  split at e
  · cases e
  · obtain rfl := Option.some.inj e
    refine ⟨k, ?_, fun x hx => ?_⟩
    · show (m1.stk ++ [v % 1000000]).length ≤ _
      rw [List.length_append, List.length_singleton]
      omega
    · rcases List.mem_append.mp hx with hx | hx
      · exact h x hx
      · rw [List.mem_singleton.mp hx]
        exact hv
theorem take_out {m : Mc} {g : Nat × Mc → Option Mc} {m' : Mc} (e : (takeM m).bind g = some m') : ∃ s t, m.stk = s ++ [t] ∧ g (t, { m with stk := s }) = some m' := by
  rcases List.eq_nil_or_concat m.stk with h | ⟨s, t, h⟩
  · rw [take_nil h] at e
    cases e
  · rw [List.concat_eq_append] at h
    rw [take_at h] at e
    exact ⟨s, t, h, e⟩
theorem step_of {G : Gv} {c : Nat} {m m' : Mc} (f : FitM m) (e : performM G c m = some m') : StepA G m m' ∨ StepB m m' ∨ StepC m m' := by
  have self : ∀ x ∈ m.stk, From G m x := fun x hx => .inl hx
  unfold performM at e
  split at e
  · rename_i d
    exact .inl (step_push e rfl (Nat.le_refl _) self (.inr (.inl (.inl (by have : (c - 48) % 1000000 ≤ c - 48 := Nat.mod_le _ _; omega)))))
  split at e
  · unfold numberM at e
    split at e
    · exact .inl (step_push e rfl (Nat.le_refl _) self (.inr (.inl (.inr (.inl rfl)))))
    split at e
    · exact .inl (step_push e rfl (Nat.le_refl _) self (.inr (.inl (.inr (.inr rfl)))))
    · exact .inl (step_push e rfl (Nat.le_refl _) self (.inr (.inl (.inl (by have := f.1; have : m.stk.length % 1000000 ≤ m.stk.length := Nat.mod_le _ _; omega)))))
  split at e
  · obtain ⟨s, t, e1, e⟩ := take_out e
    obtain ⟨s2, l, e2, e⟩ := take_out (m := { m with stk := s }) e
    replace e2 : s = s2 ++ [l] := e2
    replace e : pushM (work c l t) { m with stk := s2 } = some m' := e
    unfold pushM at e
    split at e
    · cases e
    · obtain rfl := Option.some.inj e
      refine .inr (.inl ⟨rfl, ?_, s2, _, rfl, fun x hx => ?_⟩)
      · show (s2 ++ [_]).length + 1 = _
        rw [e1, e2]
        simp
      · rw [e1, e2]
        simp [hx]
  split at e
  · obtain ⟨s, t, e1, e⟩ := take_out e
    have ls : s.length + 1 = m.stk.length := by rw [e1]; simp
    have sub : ∀ x ∈ s, x ∈ m.stk := fun x hx => by rw [e1]; simp [hx]
    have tin : t ∈ m.stk := by rw [e1]; simp
    have lt := f.2.2 t tin
    have mt : t % 1000000 = t := Nat.mod_eq_of_lt lt
    split at e
    · cases h : pushM t { m with stk := s } with
      | none => rw [h] at e; cases e
      | some m2 =>
        rw [h] at e
        unfold pushM at h
        split at h
        · cases h
        · obtain rfl := Option.some.inj h
          refine .inl (step_push (m := m) (v := t) e rfl (by show (s ++ [t % 1000000]).length ≤ _; rw [List.length_append, List.length_singleton]; omega) (fun x hx => ?_) (by rw [mt]; exact .inl tin))
          rcases List.mem_append.mp hx with hx | hx
          · exact .inl (sub x hx)
          · rw [List.mem_singleton.mp hx, mt]
            exact .inl tin
    split at e
    · refine .inl (step_push (m := m) e rfl (by show s.length ≤ _; omega) (fun x hx => .inl (sub x hx)) ?_)
      show From G m (getN m.kv t % 1000000)
      unfold getN
      cases h : m.kv.find? fun x => decide (x.1 = t) with
      | none => exact .inr (.inl (.inl (by decide)))
      | some x => exact .inr (.inr ⟨x, List.mem_of_find?_eq_some h, rfl⟩)
    · replace e : (takeM { m with stk := s }).map (fun y => { y.2 with kv := putN y.2.kv t y.1 }) = some m' := e
      rcases List.eq_nil_or_concat s with h | ⟨s2, y, h⟩
      · rw [take_nil (m := { m with stk := s }) h] at e
        cases e
      · rw [List.concat_eq_append] at h
        rw [take_at (m := { m with stk := s }) h] at e
        obtain rfl := Option.some.inj e
        refine .inr (.inr ⟨?_, fun x hx => sub x ?_, t, y, tin, sub y ?_, rfl⟩)
        · show s2.length + 2 = _
          rw [← ls, h]
          simp
        · rw [h]
          exact List.mem_append_left _ hx
        · rw [h]
          simp
  split at e
  · obtain ⟨s, t, e1, e⟩ := take_out e
    have ls : s.length + 1 = m.stk.length := by rw [e1]; simp
    have sub : ∀ x ∈ s, x ∈ m.stk := fun x hx => by rw [e1]; simp [hx]
    split at e
    · obtain rfl := Option.some.inj e
      exact .inl ⟨rfl, by show s.length ≤ _; omega, fun x hx => .inl (sub x hx)⟩
    · replace e : (takeM { m with stk := s }).map (fun y => if y.1 = 0 then { y.2 with pl := t } else y.2) = some m' := e
      rcases List.eq_nil_or_concat s with h | ⟨s2, y, h⟩
      · rw [take_nil (m := { m with stk := s }) h] at e
        cases e
      · rw [List.concat_eq_append] at h
        rw [take_at (m := { m with stk := s }) h] at e
        have e := Option.some.inj e
        have sub2 : ∀ x ∈ s2, x ∈ m.stk := fun x hx => sub x (by rw [h]; exact List.mem_append_left _ hx)
        have l2 : s2.length ≤ m.stk.length + 1 := by
          rw [h] at ls
          simp at ls
          omega
        replace e : (if y = 0 then ({ m with stk := s2, pl := t } : Mc) else { m with stk := s2 }) = m' := e
        split at e
        · subst e
          exact .inl ⟨rfl, l2, fun x hx => .inl (sub2 x hx)⟩
        · subst e
          exact .inl ⟨rfl, l2, fun x hx => .inl (sub2 x hx)⟩
  · obtain ⟨s, t, e1, e⟩ := take_out e
    have ls : s.length + 1 = m.stk.length := by rw [e1]; simp
    have sub : ∀ x ∈ s, x ∈ m.stk := fun x hx => by rw [e1]; simp [hx]
    split at e
    · obtain rfl := Option.some.inj e
      exact .inl ⟨rfl, by show s.length ≤ _; omega, fun x hx => .inl (sub x hx)⟩
    split at e
    · cases e
    · obtain rfl := Option.some.inj e
      exact .inl ⟨rfl, by show s.length ≤ _; omega, fun x hx => .inl (sub x hx)⟩
theorem put_mem {kv : List (Nat × Nat)} {k v : Nat} {x : Nat × Nat} (h : x ∈ putN kv k v) : x ∈ kv ∨ x = (k, v) := by
  unfold putN at h
  split at h
  · obtain ⟨y, hy, e⟩ := List.mem_map.mp h
    split at e
    · rename_i q
      right
      rw [← e, q]
    · left
      rw [← e]
      exact hy
  · rcases List.mem_append.mp h with h | h
    · exact .inl h
    · exact .inr (List.mem_singleton.mp h)
theorem put_nodup {kv : List (Nat × Nat)} {k v : Nat} (h : (kv.map (·.1)).Nodup) : ((putN kv k v).map (·.1)).Nodup := by
  unfold putN
  split
  · have e : (kv.map fun x => if x.1 = k then (x.1, v) else x).map (·.1) = kv.map (·.1) := by
      rw [List.map_map]
      refine List.map_congr_left fun x _ => ?_
      show (if x.1 = k then (x.1, v) else x).1 = x.1
      split <;> rfl
    rw [e]
    exact h
  · rename_i c
    rw [List.map_append, List.nodup_append]
    refine ⟨h, by simp, fun a ha b hb e => ?_⟩
    have hb : b = k := by simpa using hb
    obtain ⟨x, hx, ex⟩ := List.mem_map.mp ha
    exact c (List.any_eq_true.mpr ⟨x, hx, decide_eq_true (by rw [ex, e, hb])⟩)

/-- o.m() within a try: what the method lets out is wished for at the slots -/
def tMethT0 (C : Addr) (m : Str) (sp : Sp) (E : L2.St → XK) (ta : TE) : TE := fun σ H Q => ta σ H fun x H1 => ∃ (j dx : Addr) (fs : List (Str × V)), x = V.ref j ∧ H1 j = some (HO.ins C dx fs) ∧ fs.lookup m = Option.none ∧ sp [x] H1 Q (E σ)
theorem pe_methT0 {X : Cx} {CX : CXT} {k : Nat} {f C : Addr} {fd : FuncData} {ps : List Str} {sp : Sp} {E : L2.St → XK} {m : Str} {apos pos : Pos} {o : Expr} {ta : TE} {pl : Sem Bool} (he : PE X o ta) (c : L2.Cls X.K C) (hm : L2.Meth X.K C m f) (F : FnOk X.prog X.w X.K X.mg X.base CX k f fd ps sp)
    (hr : Room k X.A) (hb : Binds X.K fd ps []) (hx : ∀ σ, PassesAt CX X σ (E σ))
    (text : eval (.Call (.Attribute o m apos) [] [] pos) X.env = (do let ov ← eval o X.env; standAt apos.atName; let (f, first) ← holding [ov] (getMethod ov m pl); callWith pos f first (backTo pos (starEach [] X.env)) (backToKw pos (keywordEach [] X.env))) := by rfl) :
    PE X (.Call (.Attribute o m apos) [] [] pos) (tMethT0 C m sp E ta) := by
  constructor
  intro pins s σ H Q I hyp
  refine PySem.W.methodCall_KW (pl := pl) (thn (he.run pins s σ H _ I hyp) fun u s1 got => ?_) text
  obtain ⟨x, H1, I1, rx, j, dx, fs, ex, ej, nf, q⟩ := got
  subst ex
  have eu : u = Value.ref j := rx
  subst eu
  refine getmeth_ok I1 ej c hm nf ?_
  exact PySem.W.callWith_K0 (first := [Value.ref j]) I1.kIn hm.kp (run_fnS (us := [Value.ref j]) (vs := [V.ref j]) F hr hb (hx σ) I1 (.cons rfl .nil) q)

/-! ### a local set to a dict comprehension -/
section
variable {X : Cx}
theorem ps_setDc {i : Nat} {y : Str} {py : Pos} {kx vx tg iter : Expr} {ifs : List Expr} {scope : Scope} {own : List (Str × Nat)} {pos spos : Pos} {wi : TI} {g : TG} {tt : TT} {tk tv : TE} (hc : X.calm = true) (hN : X.N.Nodup) (hy : X.N[i]? = some y) (hyl : X.env.scope.names.lookup y = some .local)
    (hsw : swapsWith (.DictComp kx vx [⟨tg, iter, ifs, 0⟩] scope pos) (some (.Name y py)) spos.line X.env = pure true) (hi : PI X tg iter wi) (ok : BlkOk X.N X.env.scope scope own)
    (hg : ∀ (s : Shared) (H : Hp) (C : Addr) (cl : List (Str × Addr)) (fp : List Addr), PG (X.blk s H scope (compEnvC scope cl C X.env) fp) tg g) (ht : ∀ (s : Shared) (H : Hp) (C : Addr) (cl : List (Str × Addr)) (fp : List Addr), PTs (X.blk s H scope (compEnvC scope cl C X.env) fp) ifs tt)
    (hk : ∀ (s : Shared) (H : Hp) (C : Addr) (cl : List (Str × Addr)) (fp : List Addr), PE (X.blk s H scope (compEnvC scope cl C X.env) fp) kx tk)
    (hv : ∀ (s : Shared) (H : Hp) (C : Addr) (cl : List (Str × Addr)) (fp : List Addr), PE (X.blk s H scope (compEnvC scope cl C X.env) fp) vx tv) (hs : ∀ x, foldedSetIterable iter X.env x = pure x := by intro _; rfl) :
    PS X (.Assign [.Name y py] (.DictComp kx vx [⟨tg, iter, ifs, 0⟩] scope pos) spos) (tAsg (tDc wi g tt tk tv (own.map (·.2))) (gName i)) := by
  constructor
  intro pins s σ H D I want
  rw [exec_Assign_Name_used _ _ _ _ hsw]
  refine wpAny_bind (wpAny_standAt (wpAny_bind ?_))
  show wpAny _ X.A (do let _ ← comprehension (.DictComp kx vx [⟨tg, iter, ifs, 0⟩] scope pos) scope X.env (firstIterPos [⟨tg, iter, ifs, 0⟩] pos) newDict false (eval iter X.env) (some (assign (.Name y py) X.env))) _ _ s
  replace want : tDc wi g tt tk tv (own.map (·.2)) σ H (fun x H1 => gName i x σ H1 D.nx) := want
  refine wpAny_bind (thn (dc_core (Qf := fun _ s' => SP X pins D .next s') hc hN I hi ok hg ht hk hv hs want fun B C s' m H' I' q names far => ?_) fun _ s' hq => wpAny_pure (wpAny_pure hq))
  show wpAny _ _ (assign (.Name y py) X.env (.ref B)) _ _ _
  refine wpAny_assign_Name (store_ok2 (v := V.ref B) I' hN hy (.inl hyl) rfl (fun s2 I2 same => ?_) (.inr hyl))
  obtain ⟨z, sb, which⟩ := same
  obtain ⟨f0, f1, f2, f3, f4, f5⟩ := far
  have apart : C ≠ z := which.elim (fun e => by rw [e]; exact f1) fun e q => f4 y z e q.symm
  exact ⟨m, names.sameBut sb apart, fun h3 sb3 => ⟨_, H', I2.turned (t' := s2.toks) (fun b o hb e => (sb3.2 b hb).trans e) f0 f1 f3 f4 f5, q⟩⟩
theorem sw_trueD {kx vx : Expr} {gs : List Comprehension} {scope : Scope} {pos py : Pos} {y : Str} {l : Nat} {env : Env} (hk : env.scope.kind = .function) (hy : env.scope.names.lookup y = some .local) (hl : (py.line == pos.line) = true)
    (ha : (scope.names.any fun (n, k) => n == y && (k == .local || k == .cell)) = false) : swapsWith (.DictComp kx vx gs scope pos) (some (.Name y py)) l env = pure true := by
  have ky : env.kindOf y = some .local := hy
  have hb : env.blockKind = .function := by unfold Env.blockKind; rw [hk]; rfl
  unfold swapsWith
  simp only [hb, ky, ha, Expr.pos, hl]
  rfl
end
/-- what stays of a store: keys ys, no 0 -/
def pickM (ys : List Nat) (kv : List (Nat × Nat)) : List (Nat × Nat) := (ys.filter fun k => decide (getN kv k ≠ 0)).map fun k => (k, getN kv k)
theorem pick_take {ys : List Nat} {kv : List (Nat × Nat)} {i k : Nat} (h : ys[i]? = some k) : pickM (ys.take (i + 1)) kv = if getN kv k ≠ 0 then pickM (ys.take i) kv ++ [(k, getN kv k)] else pickM (ys.take i) kv := by
  unfold pickM
  rw [List.take_add_one, h]
  split
  · rename_i c
    rw [Option.toList, List.filter_append, List.map_append, List.filter_cons_of_pos (by rw [decide_eq_true c])]
    rfl
  · rename_i c
    rw [Option.toList, List.filter_append, List.map_append, List.filter_cons_of_neg (by rw [decide_eq_false c]; exact Bool.false_ne_true)]
    simp
theorem pick_keys {ys : List Nat} {kv : List (Nat × Nat)} {x : Nat × Nat} (h : x ∈ pickM ys kv) : x.1 ∈ ys := by
  obtain ⟨k, hk, rfl⟩ := List.mem_map.mp h
  exact (List.mem_filter.mp hk).1
theorem put_new {kv : List (Nat × Nat)} {k v : Nat} (h : ∀ x ∈ kv, x.1 ≠ k) : putN kv k v = kv ++ [(k, v)] := by
  unfold putN
  rw [if_neg]
  intro e
  obtain ⟨x, hx, e⟩ := List.any_eq_true.mp e
  exact h x hx (of_decide_eq_true e)
theorem nodup_take {ys : List Nat} (nd : ys.Nodup) {i k : Nat} (h : ys[i]? = some k) : k ∉ ys.take i := fun hm => by
  obtain ⟨j, hj, e⟩ := List.getElem_of_mem hm
  rw [List.length_take] at hj
  rw [List.getElem_take] at e
  obtain ⟨hi, e2⟩ := List.getElem?_eq_some_iff.mp h
  have := (List.getElem_inj (h₀ := by omega) (h₁ := hi) nd).mp (e.trans e2.symm)
  omega
theorem val_mem {kv : List (Nat × Nat)} {k : Nat} (h : k ∈ kv.map (·.1)) : valV (kvV kv) (Sum.inl (k : Int)) = some (V.int (getN kv k : Nat)) := by
  rw [val_kv]
  unfold getN
  cases e : kv.find? fun x => decide (x.1 = k) with
  | some x => rfl
  | none =>
    obtain ⟨x, hx, ex⟩ := List.mem_map.mp h
    exact absurd (decide_eq_true ex) (List.find?_eq_none.mp e x hx)
/-- a dict comprehension over a list of ints -/
theorem dc_ints {K : PySem.W.Frag} {a D : Addr} {xs : List V} {g : TG} {tt : TT} {tk tv : TE} {vs : List Nat} {σ : St} {H1 : Hp} {Qd : Hp → Prop} (Pv : Nat → Hp → Prop) (h0 : Pv 0 (upd H1 D (.dK []))) (hl : ∀ i H, Pv i H → SqL K H a xs)
    (hs : ∀ i x H, xs[i]? = some x → Pv i H → g x (wipe σ vs) H fun σ2 H2 => wipe σ2 vs = wipe σ vs ∧ tt σ2 H2 fun b H3 =>
      if b = true then tk σ2 H3 fun y H4 => tv σ2 H4 fun z H5 => ∃ kvs k, y = kV k ∧ H5 D = some (.dK kvs) ∧ kvs.length < sizeLine ∧ Pv (i + 1) (upd H5 D (.dK (putK kvs k z))) else Pv (i + 1) H3) (hd : ∀ H, Pv xs.length H → Qd H) :
    ∃ W : Nat → Nat → Hp → Prop, (∃ m, W 0 m (upd H1 D (.dK []))) ∧ ∀ i m H, W i m H →
      ((Itl K a).stop i H ∧ Qd H) ∨ ((Itl K a).go i H ∧ ∃ Nx : Hp → Prop, (∀ H', Nx H' → ∃ m', m' < m ∧ W (i + 1) m' H') ∧ ∀ x H', (Itl K a).yld i H x H' → g x (wipe σ vs) H' fun σ2 H2 => wipe σ2 vs = wipe σ vs ∧ tt σ2 H2 fun b H3 =>
        if b = true then tk σ2 H3 fun y H4 => tv σ2 H4 fun z H5 => ∃ kvs k, y = kV k ∧ H5 D = some (.dK kvs) ∧ kvs.length < sizeLine ∧ Nx (upd H5 D (.dK (putK kvs k z))) else Nx H3) := by
  refine ⟨fun i m H => (m = xs.length - i ∧ i ≤ xs.length) ∧ Pv i H, ⟨_, ⟨rfl, Nat.zero_le _⟩, h0⟩, ?_⟩
  rintro i m H ⟨⟨rfl, le⟩, now⟩
  have there := hl i H now
  rcases Nat.lt_or_ge i xs.length with lt | ge
  · refine .inr ⟨⟨xs, xs[i], there, by simp [lt]⟩, Pv (i + 1), fun H' nx => ⟨xs.length - (i + 1), by omega, ⟨rfl, lt⟩, nx⟩, ?_⟩
    rintro x H' ⟨rfl, what⟩
    exact hs i x _ (what xs there) now
  · obtain rfl : i = xs.length := by omega
    exact .inl ⟨⟨xs, there, Nat.le_refl _⟩, hd H now⟩
theorem made {j dx : Addr} {H3 H5 : Hp} {o1 o2 : HO} (hj : H3 j = none) (hdx : H3 dx = none) (keep : ∀ b o, b ≠ j → (upd (upd H3 dx o1) j o2) b = some o → H5 b = some o) : Same H3 H5 := fun b o e => keep b o (ne_of_none e hj) (by
  rw [upd_ne (ne_of_none e hj), upd_ne (ne_of_none e hdx)]
  exact e)

theorem perm_one : ∀ {l m : List Nat}, l.Perm m → l.Pairwise (· ≤ ·) → m.Pairwise (· ≤ ·) → l = m
  | [], m, h, _, _ => (List.Perm.nil_eq h)
  | x :: l, [], h, _, _ => absurd h.length_eq (by simp)
  | x :: l, y :: m, h, h1, h2 => by
    have a1 := List.pairwise_cons.mp h1
    have a2 := List.pairwise_cons.mp h2
    have e : x = y := by
      have m1 : x ∈ y :: m := h.mem_iff.mp (List.mem_cons_self ..)
      have m2 : y ∈ x :: l := h.mem_iff.mpr (List.mem_cons_self ..)
      have b1 : y ≤ x := by
        rcases List.mem_cons.mp m1 with e | e
        · exact Nat.le_of_eq e.symm
        · exact a2.1 x e
      have b2 : x ≤ y := by
        rcases List.mem_cons.mp m2 with e | e
        · exact Nat.le_of_eq e.symm
        · exact a1.1 y e
      omega
    subst e
    rw [perm_one (List.Perm.cons_inv h) a1.2 a2.2]
theorem pickM_nodup {ys : List Nat} (h : ys.Nodup) (kv : List (Nat × Nat)) : ((pickM ys kv).map (·.1)).Nodup := by
  unfold pickM
  rw [List.map_map]
  have e : (ys.filter fun k => decide (getN kv k ≠ 0)).map ((fun x : Nat × Nat => x.1) ∘ fun k => (k, getN kv k)) = ys.filter fun k => decide (getN kv k ≠ 0) := by
    conv => rhs; rw [← List.map_id (ys.filter fun k => decide (getN kv k ≠ 0))]
    rfl
  rw [e]
  exact h.filter _
theorem pickM_len (ys : List Nat) (kv : List (Nat × Nat)) : (pickM ys kv).length ≤ ys.length := by
  unfold pickM
  rw [List.length_map]
  exact List.length_filter_le _ _

/-- a machine that runs from a store of at most n entries -/
def Keep (n : Nat) (m : Mc) : Prop := FitM m ∧ (m.kv.map (·.1)).Nodup ∧ (∀ x ∈ m.kv, x.2 < 1000000) ∧ m.kv.length ≤ n + m.st
theorem Keep.small {n : Nat} {m : Mc} (k : Keep n m) (hn : n ≤ 30000) (h : m.st ≤ 200) : m.kv.length ≤ 30200 := by
  have := k.2.2.2
  omega
theorem Keep.step {G : Gv} {n c pl : Nat} {m m' : Mc} (hn : n ≤ 30000) (k : Keep n m) (h : m.st ≤ 199) (e : performM G c { m with st := m.st + 1, pl := pl } = some m') : Keep n m' ∧ m'.st = m.st + 1 := by
  have sm := k.small hn (by omega)
  obtain ⟨f, nd, hv, hl⟩ := k
  have f0 : FitM { m with st := m.st + 1, pl := pl } := f
  obtain ⟨f', s', l'⟩ := FitM.perform f0 (by show m.kv.length ≤ 30899; omega) e
  replace s' : m'.st = m.st + 1 := s'
  replace l' : m'.kv.length ≤ m.kv.length + 1 := l'
  refine ⟨⟨f', ?_, ?_, by omega⟩, s'⟩
  · rcases step_of f0 e with ⟨a1, _⟩ | ⟨a1, _⟩ | ⟨_, _, t, y, _, _, a1⟩
    · rw [a1]; exact nd
    · rw [a1]; exact nd
    · rw [a1]; exact put_nodup nd
  · rcases step_of f0 e with ⟨a1, _⟩ | ⟨a1, _⟩ | ⟨_, _, t, y, _, hy, a1⟩
    · rw [a1]; exact hv
    · rw [a1]; exact hv
    · rw [a1]
      intro x hx
      rcases put_mem hx with hx | rfl
      · exact hv x hx
      · exact f.2.2 y hy
theorem Keep.start {n : Nat} {kv : List (Nat × Nat)} (nd : (kv.map (·.1)).Nodup) (l : kv.length ≤ n) (hn : n ≤ 30000) (hv : ∀ x ∈ kv, x.2 < 1000000) : Keep n ⟨[], kv, 0, 0, 0⟩ :=
  ⟨⟨by show 0 ≤ 16; decide, by show kv.length ≤ 30900; omega, fun v hv => nomatch hv⟩, nd, hv, l⟩
theorem Keep.fin {G : Gv} {k0 : Nat} (hk0 : k0 ≤ 30000) : ∀ {n : Nat} {m m' : Mc} {k : Nat}, Keep k0 m → n = 201 - m.st → m.st ≤ 200 → finM G n m = (some m', k) → Keep k0 m' ∧ m'.st ≤ 200 ∧ k = m'.st
  | 0, m, m', k, hk, hn, h2, e => by cases e
  | n + 1, m, m', k, hk, hn, h2, e => by
    rw [finM] at e
    cases h : (TL.tl G.code)[m.pl]? with
    | none =>
      rw [h] at e
      obtain ⟨rfl, rfl⟩ : m = m' ∧ m.st = k := by
        have := Prod.mk.inj e
        exact ⟨Option.some.inj this.1, this.2⟩
      exact ⟨hk, h2, rfl⟩
    | some c =>
      rw [h] at e
      replace e : (if m.st = 200 then (none, 200) else match performM G c { m with st := m.st + 1, pl := m.pl + 1 } with
        | none => (none, m.st + 1)
        | some m' => finM G n m') = (some m', k) := e
      split at e
      · cases e
      · cases hp : performM G c { m with st := m.st + 1, pl := m.pl + 1 } with
        | none => rw [hp] at e; cases e
        | some m2 =>
          rw [hp] at e
          obtain ⟨k2, s2⟩ := hk.step hk0 (by omega) hp
          exact Keep.fin hk0 k2 (by omega) (by omega) e
/-- only the amount's remainder counts -/
def cutG (G : Gv) : Gv := ⟨G.code, G.given, G.amount % 1000000⟩
theorem push_mod (v : Nat) (m : Mc) : pushM (v % 1000000) m = pushM v m := by
  unfold pushM
  rw [Nat.mod_mod]
theorem perform_cut (G : Gv) (c : Nat) (m : Mc) : performM (cutG G) c m = performM G c m := by
  unfold performM numberM
  have e : pushM (cutG G).amount m = pushM G.amount m := push_mod G.amount m
  rw [e]
  rfl
theorem fin_cut (G : Gv) : ∀ (n : Nat) (m : Mc), finM (cutG G) n m = finM G n m
  | 0, m => rfl
  | n + 1, m => by
    rw [finM, finM]
    show (match (TL.tl G.code)[m.pl]? with | none => _ | some c => _) = _
    cases (TL.tl G.code)[m.pl]? with
    | none => rfl
    | some c =>
      show (if m.st = 200 then _ else match performM (cutG G) c { m with st := m.st + 1, pl := m.pl + 1 } with | none => _ | some m' => finM (cutG G) n m') = (if m.st = 200 then _ else match performM G c { m with st := m.st + 1, pl := m.pl + 1 } with | none => _ | some m' => finM G n m')
      rw [perform_cut]
      split
      · rfl
      · cases performM G c { m with st := m.st + 1, pl := m.pl + 1 } with
        | none => rfl
        | some m' => exact fin_cut G n m'
/-- numbers in ascending order -/
def ordN (l : List Nat) : List Nat := l.mergeSort fun x y => decide (x ≤ y)
theorem ord_perm (l : List Nat) : (ordN l).Perm l := List.mergeSort_perm ..
theorem ord_sorted (l : List Nat) : (ordN l).Pairwise (· ≤ ·) := by
  have h : (ordN l).Pairwise fun x y => decide (x ≤ y) = true := List.pairwise_mergeSort (le := fun x y : Nat => decide (x ≤ y)) (fun x y z h1 h2 => decide_eq_true (Nat.le_trans (of_decide_eq_true h1) (of_decide_eq_true h2))) (fun x y => by
    rcases Nat.le_total x y with h | h
    · rw [decide_eq_true h]; rfl
    · rw [decide_eq_true h, Bool.or_true]) l
  exact h.imp fun h => of_decide_eq_true h
theorem ord_is {ys l : List Nat} (p : ys.Perm l) (s : ys.Pairwise (· ≤ ·)) : ys = ordN l := perm_one (p.trans (ord_perm l).symm) s (ord_sorted l)
/-- the store that a run leaves -/
def leftM (m : Mc) : List (Nat × Nat) := pickM (ordN (m.kv.map (·.1))) m.kv
/-- a store of an account -/
def GoodS (n : Nat) (kv : List (Nat × Nat)) : Prop := (kv.map (·.1)).Pairwise (· < ·) ∧ (∀ x ∈ kv, x.2 < 1000000) ∧ kv.length ≤ n
theorem GoodS.nd {n : Nat} {kv : List (Nat × Nat)} (g : GoodS n kv) : (kv.map (·.1)).Nodup := g.1.imp fun h => Nat.ne_of_lt h
theorem pick_map (ys : List Nat) (kv : List (Nat × Nat)) : (pickM ys kv).map (·.1) = ys.filter fun k => decide (getN kv k ≠ 0) := by
  unfold pickM
  rw [List.map_map]
  conv => rhs; rw [← List.map_id (ys.filter fun k => decide (getN kv k ≠ 0))]
  rfl
theorem left_good {n : Nat} {m : Mc} (k : Keep n m) (h : m.st ≤ 200) : GoodS (n + 200) (leftM m) := by
  have p := ord_perm (m.kv.map (·.1))
  have nd : (ordN (m.kv.map (·.1))).Nodup := p.nodup_iff.mpr k.2.1
  have lt : (ordN (m.kv.map (·.1))).Pairwise (· < ·) := by
    have := List.Pairwise.and (S := fun x y : Nat => x ≠ y) (ord_sorted (m.kv.map fun x : Nat × Nat => x.1)) nd
    exact this.imp fun h => Nat.lt_of_le_of_ne h.1 h.2
  refine ⟨?_, fun x hx => ?_, ?_⟩
  · unfold leftM
    rw [pick_map]
    exact lt.filter _
  · obtain ⟨k', _, rfl⟩ := List.mem_map.mp hx
    exact get_lt k.2.2.1 k'
  · refine Nat.le_trans (pickM_len _ _) ?_
    rw [p.length_eq, List.length_map]
    have := k.2.2.2
    omega

def spRunM (CR : Addr) : Sp := fun vs H Q _ => ∃ (d : Addr) (G : Gv) (kv : List (Nat × Nat)), vs = [.str G.code, .int (G.given : Nat), .int (G.amount : Nat), .ref d] ∧ H d = some (.dK (kvV kv)) ∧ GoodS 30000 kv ∧ G.code.length ≤ 5000 ∧
  (∀ m' n, finM G 201 ⟨[], kv, 0, 0, 0⟩ = (some m', n) → ∀ (j S dx : Addr) H', Same H H' → H S = none → H' S = some (.dK (kvV (leftM m'))) →
    H' j = some (.ins CR dx [("well", .bl true), ("store", .ref S), ("paid", .int (m'.pd : Nat)), ("steps", .int (m'.st : Nat))]) → Q (.ref j) H') ∧
  (∀ n, finM G 201 ⟨[], kv, 0, 0, 0⟩ = (none, n) → ∀ (j S dx : Addr) H', Same H H' → H S = none → H' S = some (.dK (kvV kv)) → H' j = some (.ins CR dx [("well", .bl false), ("store", .ref S), ("paid", .int 0), ("steps", .int (n : Nat))]) → Q (.ref j) H')

theorem ok_run (TE : TxtE w K mg a) (T : Txt K mg a) : ∃ fd, FnOk P w K mg base CX0 5 a.d_run fd ["code", "given", "amount", "store"] (spRunM a.C_Run) ∧ Binds K fd ["code", "given", "amount", "store"] [] := by
  obtain ⟨fd, F, b⟩ := T.d_run.F
  obtain ⟨fd_Machine_init, G_Machine_init, b_Machine_init⟩ := ok_Machine_init (P := P) (w := w) (base := base) T
  obtain ⟨fd_Run_init, G_Run_init, b_Run_init⟩ := ok_Run_init (P := P) (w := w) (base := base) T
  obtain ⟨fd_Machine_finish, G_Machine_finish, b_Machine_finish⟩ := ok_Machine_finish (P := P) (w := w) (base := base) TE T
  obtain ⟨fdW, GW, bW⟩ := okW_Run_init (P := P) (w := w) (base := base) T
  refine ⟨fd, F.ok sc_run (fun vs H Q E h => ?_) (fun cdv A outer s H vs Q E hr h => ?_), b⟩
  · obtain ⟨_, _, _, rfl, _⟩ := h
    rfl
  · obtain ⟨d, G, kv, rfl, hd, few, lc, k1, k2⟩ := h
    refine ⟨_, (pss_cons (ps_set (i := 4) sc_run.nd rfl (Or.inr rfl) (pe_make T.m_Machine G_Machine_init (hr.mono (by decide)) (by rfl) T.g_Machine b_Machine_init .nil pass0 (pa_cons (pv 0) (pa_cons (pv 1) (pa_cons (pv 2) (pa_cons (pv 3) pa_nil))))))
      (pss_cons (ps_try_only rfl rfl ⟨rfl, by decide, .inl TE.g_Failed⟩ takes0 (fun W pn xe tk po => (pss_one (ps_expr (pe_methT0 (pv 4) T.cl_Machine T.me_Machine_finish G_Machine_finish (hr.mono (by decide)) b_Machine_finish (E := fun σ cls d H => W cls d σ H) (fun σ => passAt tk σ))))) (fun ae oe cls d pn hz hf => (pss_one (ps_ret (pe_makeW (k := 1) (p := (ae, oe)) T.m_Run GW ((L2H.roomH_mark hr _).mono (by decide)) List.mem_cons_self rfl T.g_Run bW (pa_cons pe_bl (pa_cons (pe_callTy call_dictD (by rfl) T.n_dict (by decide +kernel) (pa_cons (pv 3) pa_nil)) (pa_cons pe_int (pa_cons (pe_fldK (K := K) rfl (pv 4) rfl) pa_nil)))))))))
      (pss_cons (ps_setDc (i := 5) (own := [("key", 6)]) (g := (gName 6)) rfl sc_run.nd rfl rfl (sw_trueD rfl rfl rfl (by decide +kernel)) (pi_list (pe_callB (cr_sortDs rfl) (by rfl) T.n_sorted (by decide +kernel) (pa_cons (pe_fld (pv 4) rfl) pa_nil))) (blkOk_by (own := [("key", 6)]) (N := sc_run_N) (sc := defScope s_run) (by decide +kernel)) (fun _ _ _ _ _ => (pg_name (i := 6) sc_run.nd rfl (Or.inl rfl))) (fun _ _ _ _ _ => (pts_one (pt_cmpR op_ne (pe_dget (hu_of hr) (pe_fldK (K := K) rfl (pv 4) rfl) (pv 6) (fun _ _ => rfl)) pe_int (nomark _)))) (fun _ _ _ _ _ => (pv 6)) (fun _ _ _ _ _ => (pe_dget (hu_of hr) (pe_fldK (K := K) rfl (pv 4) rfl) (pv 6) (fun _ _ => rfl))))
      (pss_one (ps_ret (pe_make T.m_Run G_Run_init (hr.mono (by decide)) (by rfl) T.g_Run b_Run_init .nil pass0 (pa_cons pe_bl (pa_cons (pv 5) (pa_cons (pe_fld (pv 4) rfl) (pa_cons (pe_fld (pv 4) rfl) pa_nil)))))))))), ?_⟩
    walk_at "rs"
    intro p dx hp0 hdx0 ndx
    have dne : d ≠ p ∧ d ≠ dx := ⟨ne_of_none hd hp0, ne_of_none hd hdx0⟩
    refine ⟨p, dx, d, G, kv, rfl, upd_same, .inl (by rw [upd_ne dne.1, upd_ne dne.2]; exact hd), fun D L H1 nD nL hm keep => ?_⟩
    refine ⟨rfl, ?_⟩
    have off : ∀ {t : Addr}, (upd (upd H dx (.own p)) p (.ins a.C_Machine dx [])) t = none → H t = none := fun {t} e => by
      by_cases c1 : t = p
      · rw [c1]; exact hp0
      by_cases c2 : t = dx
      · rw [c2]; exact hdx0
      rw [upd_ne c1, upd_ne c2] at e
      exact e
    have nD := off nD
    have nL := off nL
    have s1 : Same H H1 := fun b o e => keep b o (fun q => by rw [q, hp0] at e; cases e) (by rw [upd_ne (fun q => by rw [q, hp0] at e; cases e), upd_ne (fun q => by rw [q, hdx0] at e; cases e)]; exact e)
    have on : ∀ {H' : Hp}, Oth p D L H1 H' → Same H H' := fun {H'} o b u e => o b u (fun q => by rw [q, hp0] at e; cases e) (fun q => by rw [q, nD] at e; cases e) (fun q => by rw [q, nL] at e; cases e) (s1 b u e)
    clear keep off
    walk_at "rs"
    obtain ⟨dx1, hp, hD, hL⟩ := id hm
    refine ⟨p, dx1, _, rfl, hp, rfl, ?_⟩
    refine ⟨p, D, L, G, _, rfl, hm, ⟨by show 0 ≤ 16; decide, by show kv.length ≤ 30900; have := few.2.2; omega, fun v hv => nomatch hv⟩, rfl, by show kv.length ≤ 30600; have := few.2.2; omega, lc, fun m' n H2 e2 h2 f2 o2 => ?_, fun n e2 m' H2 h2 s2 o2 => ?_⟩
    · obtain ⟨hk, hs, -⟩ := Keep.fin (k0 := 30000) (by decide) (Keep.start few.nd few.2.2 (by decide) few.2.1) rfl (Nat.zero_le _) e2
      have small := hk.small (by decide) hs
      have nd := hk.2.1
      have k1 := k1 m' n e2
      have s2 := on o2
      obtain ⟨dx2, hp2, hD2, hL2⟩ := id h2
      walk_at "rs"
      refine ⟨p, _, dx2, _, .ref D, rfl, hp2, T.cl_Machine, T.a_Machine_store, rfl, ?_⟩
      walk_at "rs"
      have lk : (m'.kv.map fun x => (x.1 : Int)).length = m'.kv.length := List.length_map ..
      refine ⟨D, kvV m'.kv, m'.kv.map fun x => (x.1 : Int), rfl, .of hD2, by unfold kvV; rw [List.map_map, List.map_map]; rfl, fun zs q hperm hpw hq => ?_⟩
      obtain ⟨ys, rfl, yp, yw⟩ : ∃ ys : List Nat, zs = ys.map (fun n : Nat => (n : Int)) ∧ ys.Perm (m'.kv.map (·.1)) ∧ ys.Pairwise (· ≤ ·) := by
        refine ⟨zs.map Int.toNat, ?_, ?_, ?_⟩
        · rw [List.map_map]
          conv => lhs; rw [← List.map_id zs]
          refine List.map_congr_left fun z hz => ?_
          obtain ⟨x, _, rfl⟩ := List.mem_map.mp (hperm.mem_iff.mp hz)
          rfl
        · have := hperm.map Int.toNat
          rw [List.map_map] at this
          exact this
        · rw [List.pairwise_map]
          exact hpw.imp fun h => Int.toNat_le_toNat h
      have hq0 := s2.free hq
      have s3 := same_upd (o := .lst ((ys.map fun n : Nat => (n : Int)).map V.int)) s2 hq0
      have nodys : ys.Nodup := yp.nodup_iff.mpr nd
      have ly : ys.length = m'.kv.length := by rw [yp.length_eq, List.length_map]
      have hp3 : ∀ o, upd H2 q o p = H2 p := fun o => upd_ne (ne_of_none hp2 hq)
      have hD3 : ∀ o, upd H2 q o D = H2 D := fun o => upd_ne (ne_of_none hD2 hq)
      walk_at "rs"
      refine ⟨⟨_, SqL.of upd_same⟩, fun B hB => ?_⟩
      generalize hH3 : upd H2 q (.lst ((ys.map fun n : Nat => (n : Int)).map V.int)) = H3 at s3 hB ⊢
      have hq3 : H3 q = some (.lst ((ys.map fun n : Nat => (n : Int)).map V.int)) := by rw [← hH3]; exact upd_same
      have hp3 : H3 p = H2 p := by rw [← hH3, hp3]
      have hD3 : H3 D = H2 D := by rw [← hH3, hD3]
      rw [hp2] at hp3
      rw [hD2] at hD3
      have hB0 := s3.free hB
      refine dc_ints (K := K) (a := q) (xs := (ys.map fun n : Nat => (n : Int)).map V.int) (fun i H4 => Same H3 H4 ∧ H4 B = some (.dK (kvV (pickM (ys.take i) m'.kv)))) ⟨same_new hB, upd_same⟩ (fun i H4 ⟨s4, _⟩ => SqL.of (s4 _ _ hq3)) ?_ ?_
      · rintro i y H4 hy ⟨s4, hB4⟩
        obtain ⟨k, hk, rfl⟩ : ∃ k, ys[i]? = some k ∧ y = V.int (k : Int) := by
          rw [List.getElem?_map, List.getElem?_map] at hy
          cases h : ys[i]? with
          | none => rw [h] at hy; cases hy
          | some k =>
            rw [h] at hy
            exact ⟨k, rfl, (Option.some.inj hy).symm⟩
        have hmem : k ∈ m'.kv.map (·.1) := yp.mem_iff.mp (List.mem_of_getElem? hk)
        have hp4 := s4 _ _ hp3
        have hg4 : DGet H4 D (V.int (k : Int)) (some (V.int (getN m'.kv k : Nat))) := by
          have := DGet.k (k := Sum.inl (k : Int)) (s4 _ _ hD3)
          rw [val_mem hmem] at this
          exact this
        have pt := pick_take (kv := m'.kv) hk
        refine ⟨rfl, ?_⟩
        walk_at "rs"
        refine ⟨p, _, dx2, _, .ref D, rfl, hp4, T.cl_Machine, T.a_Machine_store, rfl, ?_⟩
        walk_at "rs"
        refine ⟨D, _, rfl, hg4, ?_⟩
        walk_at "rs"
        refine ite2 (fun c => ?_) (fun c => ?_)
        · have c : getN m'.kv k ≠ 0 := fun e => by
            rw [e] at c
            simp at c
          rw [if_pos c] at pt
          walk_at "rs"
          refine ⟨p, _, dx2, _, .ref D, rfl, hp4, T.cl_Machine, T.a_Machine_store, rfl, ?_⟩
          walk_at "rs"
          refine ⟨D, _, rfl, hg4, ?_⟩
          have lp : (pickM (ys.take i) m'.kv).length ≤ 30200 := by
            unfold pickM
            rw [List.length_map]
            have h1 := List.length_filter_le (fun k => decide (getN m'.kv k ≠ 0)) (ys.take i)
            have h2 := List.length_take_le' i ys
            omega
          refine ⟨_, Sum.inl (k : Int), rfl, hB4, by rw [len_kv]; exact small8000 (by omega), same_upd s4 hB, ?_⟩
          rw [upd_same, put_kv, put_new (k := k) (fun x hx e => nodup_take nodys hk (by rw [← e]; exact pick_keys hx)), pt]
        · have c : ¬ getN m'.kv k ≠ 0 := fun h => c (by simpa using h)
          rw [if_neg c] at pt
          refine ⟨s4, ?_⟩
          rw [pt]
          exact hB4
      · rintro H4 ⟨s4, hB4⟩
        rw [List.take_of_length_le (by simp)] at hB4
        have s5 := s3.trans s4
        have hp4 := s4 _ _ hp3
        walk_at "rs"
        refine ⟨p, _, dx2, _, .int (m'.pd : Nat), rfl, hp4, T.cl_Machine, T.a_Machine_paid, rfl, ?_⟩
        walk_at "rs"
        refine ⟨p, _, dx2, _, .int (m'.st : Nat), rfl, hp4, T.cl_Machine, T.a_Machine_steps, rfl, ?_⟩
        walk_at "rs"
        intro j dj hj hdj nj
        refine ⟨j, dj, _, _, _, _, rfl, upd_same, fun H5 h5 keep => ?_⟩
        have s6 := made hj hdj keep
        refine ⟨rfl, ?_⟩
        exact k1 j B dj H5 (s5.trans s6) hB0 (by unfold leftM; rw [← ord_is yp yw]; exact s6 _ _ hB4) h5
    · have s3 := on o2
      obtain ⟨dx2, hp2, hD2, hL2⟩ := id h2
      refine ⟨true, TE.exm_Failed_Failed, fun _ ex hex => ?_, fun z => nomatch z⟩
      walk_at "rs"
      refine ⟨d, _, rfl, .inl (s3 _ _ hd), fun S hS => ?_⟩
      have nS := s3.free hS
      have s4 := same_upd (o := .dK (kvV kv)) s3 nS
      walk_at "rs"
      refine ⟨p, _, dx2, _, .int (m'.st : Nat), rfl, by rw [upd_ne (ne_of_none hp2 hS)]; exact hp2, T.cl_Machine, T.a_Machine_steps, rfl, ?_⟩
      walk_at "rs"
      intro j dj hj hdj nj
      refine ⟨j, dj, _, _, _, _, rfl, upd_same, fun H5 h5 keep => ?_⟩
      have s5 := made hj hdj keep
      refine ⟨rfl, ?_⟩
      rw [s2] at h5
      exact k2 n e2 j S dj H5 (s4.trans s5) nS (s5 _ _ upd_same) h5

/-! ### accounts -/
structure Ac where
  bal : List Int
  cds : List Str
  sts : List (List (Nat × Nat))
structure GoodA (n k : Nat) (A : Ac) : Prop where
  lb : A.bal.length = n
  lc : A.cds.length = n
  ls : A.sts.length = n
  few : n ≤ 100
  nn : ∀ b ∈ A.bal, 0 ≤ b
  co : ∀ z ∈ A.cds, z.length ≤ 1000 ∧ Sgn z
  st : ∀ kv ∈ A.sts, GoodS k kv
def moveA (bal : List Int) (i j : Nat) (x : Int) : List Int := (bal.set i (bal.getD i 0 - x)).set j ((bal.set i (bal.getD i 0 - x)).getD j 0 + x)
def callG (A : Ac) (j : Nat) (g : Int) : Gv := ⟨A.cds.getD j "", g.toNat, (A.bal.getD j 0).toNat⟩
/-- the accounts after a command; none: it is refused -/
def afterA (A : Ac) : Cm → Option Ac
  | .w _ _ => none
  | .d a z => if a < A.bal.length then some ⟨A.bal, A.cds.set a.toNat z, A.sts.set a.toNat []⟩ else none
  | .p a b c => if (a < A.bal.length ∧ b < A.bal.length) ∧ c ≤ A.bal.getD a.toNat 0 then some ⟨moveA A.bal a.toNat b.toNat c, A.cds, A.sts⟩ else none
  | .k a b g => if (a < A.bal.length ∧ b < A.bal.length) ∧ A.cds.getD b.toNat "" ≠ "" then
      match (finM (callG A b.toNat g) 201 ⟨[], A.sts.getD b.toNat [], 0, 0, 0⟩).1 with
      | some m => if (m.pd : Int) ≤ A.bal.getD b.toNat 0 then some ⟨moveA A.bal b.toNat a.toNat (m.pd : Int), A.cds, A.sts.set b.toNat (leftM m)⟩ else none
      | none => none
    else none
/-- a command whose parts fit -/
def Cm.fine : Cm → Prop
  | .p a b c => NOk a ∧ NOk b ∧ NOk c
  | .w a b => NOk a ∧ NOk b
  | .k a b c => NOk a ∧ NOk b ∧ NOk c
  | .d a s => NOk a ∧ s.length ≤ 1000 ∧ Sgn s
theorem Cm.good.fine : ∀ {c : Cm}, c.good → c.fine
  | .p _ _ _, h => h
  | .w _ _, h => h
  | .k _ _ _, h => h
  | .d _ _, h => ⟨h.1, Nat.le_trans h.2.1 (by decide), h.2.2⟩
theorem moveA_len (bal : List Int) (i j : Nat) (x : Int) : (moveA bal i j x).length = bal.length := by
  unfold moveA
  rw [List.length_set, List.length_set]
theorem set_mem {α : Type} {xs : List α} {i : Nat} {x y : α} (h : y ∈ xs.set i x) : y ∈ xs ∨ y = x := List.mem_or_eq_of_mem_set h
theorem moveA_nn {bal : List Int} (h : ∀ b ∈ bal, 0 ≤ b) {i j : Nat} {x : Int} (h0 : 0 ≤ x) (hx : x ≤ bal.getD i 0) : ∀ b ∈ moveA bal i j x, 0 ≤ b := by
  have one : ∀ b ∈ bal.set i (bal.getD i 0 - x), 0 ≤ b := fun b hb => by
    rcases set_mem hb with hb | rfl
    · exact h b hb
    · omega
  intro b hb
  unfold moveA at hb
  rcases set_mem hb with hb | rfl
  · exact one b hb
  · rcases Nat.lt_or_ge j (bal.set i (bal.getD i 0 - x)).length with lt | ge
    · have := one _ (getD_mem lt)
      omega
    · rw [List.getD_eq_getElem?_getD, List.getElem?_eq_none ge]
      show (0 : Int) ≤ 0 + x
      omega
theorem GoodS.mono {k l : Nat} {kv : List (Nat × Nat)} (g : GoodS k kv) (h : k ≤ l) : GoodS l kv := ⟨g.1, g.2.1, Nat.le_trans g.2.2 h⟩
theorem GoodA.mono {n k l : Nat} {A : Ac} (g : GoodA n k A) (h : k ≤ l) : GoodA n l A := { g with st := fun kv hk => (g.st kv hk).mono h }
theorem getD_memS {α : Type} {xs : List α} {d : α} {i : Nat} (h : i < xs.length) : xs.getD i d ∈ xs := by
  rw [List.getD_eq_getElem?_getD, List.getElem?_eq_getElem h]
  exact List.getElem_mem h
theorem fin_good {G : Gv} {kv : List (Nat × Nat)} {k n : Nat} {m : Mc} (g : GoodS k kv) (hk : k ≤ 30000) (e : finM G 201 ⟨[], kv, 0, 0, 0⟩ = (some m, n)) : GoodS (k + 200) (leftM m) := by
  obtain ⟨hm, hs, -⟩ := Keep.fin (k0 := k) hk (Keep.start g.nd g.2.2 hk g.2.1) rfl (Nat.zero_le _) e
  exact left_good hm hs
theorem afterA_good {n k : Nat} {A B : Ac} {c : Cm} (g : GoodA n k A) (hk : k ≤ 30000) (hc : c.fine) (e : afterA A c = some B) : GoodA n (k + 200) B := by
  cases c with
  | w a b => cases e
  | d a z =>
    rw [afterA] at e
    split at e
    · cases e
      refine ⟨g.lb, (List.length_set ..).trans g.lc, (List.length_set ..).trans g.ls, g.few, g.nn, fun y hy => ?_, fun kv hkv => ?_⟩
      · rcases set_mem hy with hy | rfl
        · exact g.co y hy
        · exact hc.2
      · rcases set_mem hkv with h | rfl
        · exact (g.st kv h).mono (by omega)
        · exact ⟨.nil, fun x hx => absurd hx List.not_mem_nil, Nat.zero_le _⟩
    · cases e
  | p a b x =>
    rw [afterA] at e
    split at e
    · rename_i h
      cases e
      exact ⟨(moveA_len ..).trans g.lb, g.lc, g.ls, g.few, moveA_nn g.nn hc.2.2.1 h.2, g.co, (g.mono (Nat.le_add_right k 200)).st⟩
    · cases e
  | k a b x =>
    rw [afterA] at e
    split at e
    · rename_i h
      obtain ⟨r, er⟩ : ∃ r, r = finM (callG A b.toNat x) 201 ⟨[], A.sts.getD b.toNat [], 0, 0, 0⟩ := ⟨_, rfl⟩
      rw [← er] at e
      obtain ⟨o, n'⟩ := r
      cases o with
      | none => cases e
      | some m =>
        replace e : (if (m.pd : Int) ≤ A.bal.getD b.toNat 0 then some (⟨moveA A.bal b.toNat a.toNat (m.pd : Int), A.cds, A.sts.set b.toNat (leftM m)⟩ : Ac) else none) = some B := e
        split at e
        · rename_i hp
          cases e
          refine ⟨(moveA_len ..).trans g.lb, g.lc, (List.length_set ..).trans g.ls, g.few, moveA_nn g.nn (Int.natCast_nonneg _) hp, g.co, fun kv hkv => ?_⟩
          rcases set_mem hkv with h' | rfl
          · exact (g.st kv h').mono (by omega)
          · have hb : b.toNat < A.sts.length := by
              have := h.1.2
              have := hc.2.1.1
              have := g.lb
              have := g.ls
              omega
            exact fin_good (g.st _ (getD_memS hb)) hk er.symm
        · cases e
    · cases e
/-! ### ledgers in the heap -/
def PrAt (H : Hp) (p : Addr) (x : Nat × Nat) : Prop := H p = some (.tup [.int (x.1 : Int), .int (x.2 : Int)])
/-- a store as a tuple of pairs, its object told -/
def TsAt (H : Hp) (t : Addr) (kv : List (Nat × Nat)) : Prop := ∃ (o : Obj) (ps : List Addr), H t = some (.frz o (.tup (ps.map V.ref))) ∧ o.dict = none ∧ Paired (PrAt H) ps kv
theorem imp_paired {α β : Type} {F G : α → β → Prop} {xs : List α} {ys : List β} (h : Paired F xs ys) (i : ∀ a b, F a b → G a b) : Paired G xs ys := L2.Paired.mapP h i
theorem TsAt.same {H H' : Hp} {t : Addr} {kv : List (Nat × Nat)} (h : TsAt H t kv) (s : Same H H') : TsAt H' t kv := by
  obtain ⟨o, ps, h1, h2, h3⟩ := h
  exact ⟨o, ps, s _ _ h1, h2, imp_paired h3 fun a b => s _ _⟩
def LgAt (C : Addr) (H : Hp) (p : Addr) (A : Ac) : Prop := ∃ (dx b c s : Addr) (ts : List Addr), H p = some (.ins C dx [("balances", .ref b), ("codes", .ref c), ("stores", .ref s)]) ∧
  H b = some (.tup (A.bal.map V.int)) ∧ H c = some (.tup (A.cds.map V.str)) ∧ H s = some (.tup (ts.map V.ref)) ∧ Paired (TsAt H) ts A.sts
theorem LgAt.same {C : Addr} {H H' : Hp} {p : Addr} {A : Ac} (h : LgAt C H p A) (s : Same H H') : LgAt C H' p A := by
  obtain ⟨dx, b, c, t, ts, h1, h2, h3, h4, h5⟩ := h
  exact ⟨dx, b, c, t, ts, s _ _ h1, s _ _ h2, s _ _ h3, s _ _ h4, imp_paired h5 fun a b z => z.same s⟩
/-- how a store is compared -/
def TpAt (K : PySem.W.Frag) (H : Hp) (t : Addr) (kv : List (Nat × Nat)) : Prop := ∃ ps : List Addr, SqT K H t (ps.map V.ref) ∧ Paired (PrAt H) ps kv
theorem TsAt.tp {K : PySem.W.Frag} {H : Hp} {t : Addr} {kv : List (Nat × Nat)} (h : TsAt H t kv) : TpAt K H t kv := by
  obtain ⟨o, ps, h1, _, h3⟩ := h
  exact ⟨ps, .inl (.inr ⟨o, h1⟩), h3⟩
def prA (x : Nat × Nat) : PyData := .tuple [.int (x.1 : Int), .int (x.2 : Int)]
def kvA (kv : List (Nat × Nat)) : PyData := .tuple (kv.map prA)
def stsA (sts : List (List (Nat × Nat))) : PyData := .tuple (sts.map kvA)
theorem dp_pairs {K : PySem.W.Frag} {H : Hp} : ∀ {ps : List Addr} {kv : List (Nat × Nat)}, Paired (PrAt H) ps kv → DpAll K H (ps.map V.ref) (kv.map prA)
  | _, _, .nil => .nil
  | _, _, .cons h t => .cons (.tup (SqT.of h) (.cons (.int _) (.cons (.int _) .nil))) (dp_pairs t)
theorem dp_kv {K : PySem.W.Frag} {H : Hp} {t : Addr} {kv : List (Nat × Nat)} (h : TpAt K H t kv) : Dp K H (.ref t) (kvA kv) := by
  obtain ⟨ps, h1, h2⟩ := h
  exact .tup h1 (dp_pairs h2)
theorem dp_kvs {K : PySem.W.Frag} {H : Hp} : ∀ {ts : List Addr} {sts : List (List (Nat × Nat))}, Paired (TpAt K H) ts sts → DpAll K H (ts.map V.ref) (sts.map kvA)
  | _, _, .nil => .nil
  | _, _, .cons h t => .cons (dp_kv h) (dp_kvs t)
theorem dp_sts {K : PySem.W.Frag} {H : Hp} {s : Addr} {ts : List Addr} {sts : List (List (Nat × Nat))} (h : SqT K H s (ts.map V.ref)) (p : Paired (TpAt K H) ts sts) : Dp K H (.ref s) (stsA sts) := .tup h (dp_kvs p)
theorem dp_intsA {K : PySem.W.Frag} {H : Hp} : ∀ xs : List Int, DpAll K H (xs.map V.int) (xs.map PyData.int)
  | [] => .nil
  | x :: xs => .cons (.int x) (dp_intsA xs)
theorem dp_strsA {K : PySem.W.Frag} {H : Hp} : ∀ xs : List Str, DpAll K H (xs.map V.str) (xs.map PyData.str)
  | [] => .nil
  | x :: xs => .cons (.str x) (dp_strsA xs)
theorem lay_all {α : Type} {f : α → PyData} : ∀ {xs : List α}, (∀ x ∈ xs, PyData.canLay0 (f x) = true) → PyData.canLayAll0 (xs.map f) = true
  | [], _ => by simp [PyData.canLayAll0]
  | x :: xs, h => by
    simp only [List.map_cons, PyData.canLayAll0, h x List.mem_cons_self, lay_all fun y hy => h y (List.mem_cons_of_mem _ hy)]
    rfl
theorem deep_all {α : Type} {f : α → PyData} {d : Nat} : ∀ {xs : List α}, (∀ x ∈ xs, (f x).depth ≤ d) → PyData.depthAll (xs.map f) ≤ d
  | [], _ => by simp [PyData.depthAll]
  | x :: xs, h => by
    simp only [List.map_cons, PyData.depthAll]
    exact Nat.max_le.mpr ⟨h x List.mem_cons_self, deep_all fun y hy => h y (List.mem_cons_of_mem _ hy)⟩
theorem deep_tup {α : Type} {f : α → PyData} {d : Nat} {xs : List α} (h : ∀ x ∈ xs, (f x).depth ≤ d) : (PyData.tuple (xs.map f)).depth ≤ d + 1 := by
  simp only [PyData.depth]
  have := deep_all h
  omega
theorem lay_tup {α : Type} {f : α → PyData} {xs : List α} (h : ∀ x ∈ xs, PyData.canLay0 (f x) = true) : PyData.canLay0 (.tuple (xs.map f)) = true := by
  simp only [PyData.canLay0]
  exact lay_all h
theorem shaped_of {d : PyData} (h1 : d.canLay0 = true) (h2 : d.depth ≤ 64) : SeqAt.shaped d = true := by
  unfold SeqAt.shaped
  rw [h1, decide_eq_true h2]
  rfl
theorem lay_pr (x : Nat × Nat) : (prA x).canLay0 = true := rfl
theorem deep_pr (x : Nat × Nat) : (prA x).depth ≤ 1 := by
  show (PyData.tuple [.int _, .int _]).depth ≤ 1
  simp [PyData.depth, PyData.depthAll]
theorem shaped_sts (sts : List (List (Nat × Nat))) : SeqAt.shaped (stsA sts) = true :=
  shaped_of (lay_tup fun kv _ => lay_tup fun x _ => lay_pr x) (Nat.le_trans (deep_tup (d := 2) fun kv _ => deep_tup (d := 1) fun x _ => deep_pr x) (by decide))
theorem shaped_intsA (xs : List Int) : SeqAt.shaped (.tuple (xs.map PyData.int)) = true :=
  shaped_of (lay_tup fun x _ => rfl) (Nat.le_trans (deep_tup (d := 0) fun x _ => by simp [PyData.depth]) (by decide))
theorem shaped_strsA {xs : List Str} (o : ∀ x ∈ xs, PyData.strOk x = true) : SeqAt.shaped (.tuple (xs.map PyData.str)) = true :=
  shaped_of (lay_tup fun x hx => by simp only [PyData.canLay0]; exact o x hx) (Nat.le_trans (deep_tup (d := 0) fun x _ => by simp [PyData.depth]) (by decide))
theorem eqv_all {α : Type} [DecidableEq α] {f : α → PyData} (hf : ∀ x y, PyData.eqv (f x) (f y) = decide (x = y)) : ∀ xs ys : List α, PyData.eqvAll (xs.map f) (ys.map f) = decide (xs = ys)
  | [], [] => rfl
  | [], y :: ys => rfl
  | x :: xs, [] => rfl
  | x :: xs, y :: ys => by
    simp only [List.map_cons, PyData.eqvAll, hf x y, eqv_all hf xs ys, List.cons.injEq, Bool.decide_and]
theorem eqv_tupA {α : Type} [DecidableEq α] {f : α → PyData} (hf : ∀ x y, PyData.eqv (f x) (f y) = decide (x = y)) (xs ys : List α) : PyData.eqv (.tuple (xs.map f)) (.tuple (ys.map f)) = decide (xs = ys) := by
  simp only [PyData.eqv]
  exact eqv_all hf xs ys
theorem beq_dec {α : Type} [DecidableEq α] (x y : α) : (x == y) = decide (x = y) := by
  by_cases h : x = y
  · rw [decide_eq_true h, h, beq_self_eq_true]
  · rw [decide_eq_false h]
    exact beq_eq_false_iff_ne.mpr h
theorem eqv_intsA (xs ys : List Int) : PyData.eqv (.tuple (xs.map PyData.int)) (.tuple (ys.map PyData.int)) = decide (xs = ys) := eqv_tupA (fun x y => by simp only [PyData.eqv]; exact beq_dec x y) xs ys
theorem eqv_strsA (xs ys : List Str) : PyData.eqv (.tuple (xs.map PyData.str)) (.tuple (ys.map PyData.str)) = decide (xs = ys) := eqv_tupA (fun x y => by
  simp only [PyData.eqv]
  by_cases h : x = y
  · rw [decide_eq_true h, h, beq_self_eq_true]
  · rw [decide_eq_false h]
    exact beq_eq_false_iff_ne.mpr h) xs ys
theorem eqv_prA (x y : Nat × Nat) : PyData.eqv (prA x) (prA y) = decide (x = y) := by
  unfold prA
  simp only [PyData.eqv, PyData.eqvAll, Bool.and_true]
  obtain ⟨x1, x2⟩ := x
  obtain ⟨y1, y2⟩ := y
  rw [beq_dec, beq_dec, ← Bool.decide_and]
  exact decide_eq_decide.mpr ⟨fun h => by have h1 := h.1; have h2 := h.2; simp only at h1 h2; rw [Int.ofNat_inj.mp h1, Int.ofNat_inj.mp h2], fun h => by cases h; exact ⟨rfl, rfl⟩⟩
theorem eqv_sts (xs ys : List (List (Nat × Nat))) : PyData.eqv (stsA xs) (stsA ys) = decide (xs = ys) := eqv_tupA (fun x y => eqv_tupA eqv_prA x y) xs ys
def eqA (A B : Ac) : Bool := decide (A.bal = B.bal) && (decide (A.cds = B.cds) && decide (A.sts = B.sts))

def spLInit (C : Addr) : Sp := fun vs H Q _ => ∃ (p dx : Addr) (v1 v2 v3 : V), vs = [.ref p, v1, v2, v3] ∧ H p = some (.ins C dx []) ∧
  ∀ H', H' p = some (.ins C dx [("balances", v1), ("codes", v2), ("stores", v3)]) → (∀ b o, b ≠ p → H b = some o → H' b = some o) → Q .non H'
theorem ok_Ledger_init (T : Txt K mg a) : ∃ fd, FnOk P w K mg base CX0 1 a.d_Ledger_init fd ["self", "balances", "codes", "stores"] (spLInit a.C_Ledger) ∧ Binds K fd ["self", "balances", "codes", "stores"] [] := by
  obtain ⟨fd, F, b⟩ := T.d_Ledger_init.F
  refine ⟨fd, F.ok sc_Ledger_init (fun vs H Q E h => ?_) (fun cdv A outer s H vs Q E hr h => ?_), b⟩
  · obtain ⟨_, _, _, _, _, rfl, _⟩ := h
    rfl
  · obtain ⟨p, dx, v1, v2, v3, rfl, hp, k⟩ := h
    refine ⟨_, (pss_cons (ps_fld (pv 0) (pv 1) rfl)
      (pss_cons (ps_fld (pv 0) (pv 2) rfl)
      (pss_one (ps_fld (pv 0) (pv 3) rfl)))), ?_⟩
    walk_at "rs"
    refine ⟨p, _, dx, [], rfl, hp, T.cl_Ledger, T.a_Ledger_balances, (by show 0 < 1000; decide), ?_⟩
    walk_at "rs"
    refine ⟨p, _, dx, _, rfl, upd_same, T.cl_Ledger, T.a_Ledger_codes, (by show 1 < 1000; decide), ?_⟩
    rw [upd_upd]
    walk_at "rs"
    refine ⟨p, _, dx, _, rfl, upd_same, T.cl_Ledger, T.a_Ledger_stores, (by show 2 < 1000; decide), ?_⟩
    rw [upd_upd]
    refine k _ ?_ (fun b o n e => by rw [upd_ne n]; exact e)
    rw [upd_same]
    rfl



theorem repl_flat {α : Type} (x : α) : ∀ n : Nat, (List.replicate n [x]).flatten = List.replicate n x
  | 0 => rfl
  | n + 1 => by
    rw [List.replicate_succ, List.flatten_cons, repl_flat x n, List.replicate_succ]
    rfl
/-- the accounts at the beginning -/
def firstA (bal : List Int) : Ac := ⟨bal, List.replicate bal.length ("" : Str), List.replicate bal.length []⟩
def spFirstL (K : PySem.W.Frag) (C : Addr) : Sp := fun vs H Q _ => ∃ (g : Addr) (bal : List Int), vs = [.ref g] ∧ (SqL K H g (bal.map V.int) ∨ H g = some (.tup (bal.map V.int))) ∧ bal.length ≤ 100 ∧
  ∀ p H', Same H H' → H p = none → LgAt C H' p (firstA bal) → Q (.ref p) H'
theorem paired_rep {α β : Type} {F : α → β → Prop} {x : α} {y : β} (h : F x y) : ∀ n : Nat, Paired F (List.replicate n x) (List.replicate n y)
  | 0 => .nil
  | n + 1 => .cons h (paired_rep h n)
theorem ok_first_ledger (T : Txt K mg a) : ∃ fd, FnOk P w K mg base CX0 3 a.d_first_ledger fd ["grants"] (spFirstL K a.C_Ledger) ∧ Binds K fd ["grants"] [] := by
  obtain ⟨fd, F, b⟩ := T.d_first_ledger.F
  obtain ⟨fd_Ledger_init, G_Ledger_init, b_Ledger_init⟩ := ok_Ledger_init (P := P) (w := w) (base := base) T
  refine ⟨fd, F.ok sc_first_ledger (fun vs H Q E h => ?_) (fun cdv A outer s H vs Q E hr h => ?_), b⟩
  · obtain ⟨_, _, rfl, _⟩ := h
    rfl
  · obtain ⟨g, bal, rfl, hg, few, k⟩ := h
    refine ⟨_, (C8.pss_cut (ps_set (i := 1) sc_first_ledger.nd rfl (Or.inl rfl) (pe_callTy call_tuple_of (by rfl) T.n_tuple (by decide +kernel) (pa_cons (pv 0) pa_nil)))
      (pss_one (ps_ret (pe_make T.m_Ledger G_Ledger_init (hr.mono (by decide)) (by rfl) T.g_Ledger b_Ledger_init .nil pass0 (pa_cons (pv 1) (pa_cons (pe_op op_repB (pe_tup (pa_cons pe_str pa_nil)) (pe_callB call_len_seq (by rfl) T.n_len PySem.boot_len (pa_cons (pv 1) pa_nil))) (pa_cons (pe_op op_repB (pe_tup (pa_cons pe_tup0F pa_nil)) (pe_callB call_len_seq (by rfl) T.n_len PySem.boot_len (pa_cons (pv 1) pa_nil))) pa_nil))))))), ?_⟩
    refine ⟨fun σ H' => ∃ t, σ = [some (.ref g), some (.ref t)] ∧ Same H H' ∧ H' t = some (.tup (bal.map V.int)), ?_, ?_⟩
    · walk_at "rs"
      refine ⟨g, bal.map V.int, rfl, ?_⟩
      rcases hg with hg | hg
      · exact .inl ⟨hg, fun t ht => ⟨t, rfl, same_new ht, upd_same⟩⟩
      · exact .inr ⟨SqT.of hg, ⟨g, rfl, Same.refl _, hg⟩⟩
    rintro σ H1 ⟨t, rfl, s1, ht1⟩
    walk_at "rs"
    refine ⟨(by show 1 ≤ sizeLine; decide), fun q1 hq1 => ?_⟩
    have s2 := same_new (o := .tup [V.str ""]) hq1
    have h2 : (upd H1 q1 (.tup [V.str ""])) q1 = some (.tup [V.str ""]) := upd_same
    generalize upd H1 q1 (.tup [V.str ""]) = H2 at s2 h2 ⊢
    walk_at "rs"
    refine ⟨t, _, rfl, .inr (SqT.of (s2 _ _ ht1)), ?_⟩
    rw [List.length_map]
    refine ⟨q1, _, _, rfl, rfl, h2, (fun e => nomatch e), by omega, by omega, (by show 1 ≤ 1000; decide), fun qc H3 s3 h3 => ?_⟩
    rw [repl_flat] at h3
    walk_at "rs"
    intro q3 o3 hq3 ho3
    have s4 := same_new (o := .frz o3 (.tup [])) hq3
    have h4 : upd H3 q3 (.frz o3 (.tup [])) q3 = some (.frz o3 (.tup [])) := upd_same
    generalize upd H3 q3 (.frz o3 (.tup [])) = H4 at s4 h4 ⊢
    walk_at "rs"
    refine ⟨(by show 1 ≤ sizeLine; decide), fun q4 hq4 => ?_⟩
    have s5 := same_new (o := .tup [V.ref q3]) hq4
    have h5 : upd H4 q4 (.tup [V.ref q3]) q4 = some (.tup [V.ref q3]) := upd_same
    generalize upd H4 q4 (.tup [V.ref q3]) = H5 at s5 h5 ⊢
    walk_at "rs"
    have s25 := s2.trans (s3.trans (s4.trans s5))
    refine ⟨t, _, rfl, .inr (SqT.of (s25 _ _ ht1)), ?_⟩
    rw [List.length_map]
    refine ⟨q4, _, _, rfl, rfl, h5, (fun e => nomatch e), by omega, by omega, (by show 1 ≤ 1000; decide), fun qs H6 s6 h6 => ?_⟩
    rw [repl_flat] at h6
    walk_at "rs"
    intro p dx hp hdx ndx
    refine ⟨p, dx, _, _, _, rfl, upd_same, fun H7 h7 keep => ⟨rfl, ?_⟩⟩
    have s7 : Same H6 H7 := fun b o e => keep b o (fun q => by rw [q, hp] at e; cases e) (by rw [upd_ne (fun q => by rw [q, hp] at e; cases e), upd_ne (fun q => by rw [q, hdx] at e; cases e)]; exact e)
    have s37 := s4.trans (s5.trans (s6.trans s7))
    have s17 := s1.trans (s2.trans (s3.trans s37))
    refine k p H7 s17 ((s1.trans (s25.trans s6)).free hp) ⟨dx, t, qc, qs, List.replicate bal.length q3, h7, s7 _ _ (s6 _ _ (s25 _ _ ht1)), ?_, ?_, paired_rep ⟨o3, [], s7 _ _ (s6 _ _ (s5 _ _ h4)), ho3, .nil⟩ _⟩
    · have e := s37 _ _ h3
      rw [e, Int.toNat_natCast]
      show _ = some (HO.tup ((List.replicate bal.length ("" : Str)).map V.str))
      rw [List.map_replicate]
    · have e := s7 _ _ h6
      rw [e, Int.toNat_natCast, List.map_replicate]

def inA (n : Nat) (xs : List Int) : Bool := xs.all fun x => decide (0 ≤ x ∧ x < (n : Int))
def spExist (K : PySem.W.Frag) (C : Addr) : Sp := fun vs H Q _ => ∃ (p l : Addr) (A : Ac) (xs : List Int), vs = [.ref p, .ref l] ∧ LgAt C H p A ∧ SqL K H l (xs.map V.int) ∧ xs.length ≤ 100 ∧ ∀ H', Same H H' → Q (.bl (inA A.bal.length xs)) H'
theorem ok_exist (T : Txt K mg a) : ∃ fd, FnOk P w K mg base CX0 1 a.d_exist fd ["ledger", "accounts"] (spExist K a.C_Ledger) ∧ Binds K fd ["ledger", "accounts"] [] := by
  obtain ⟨fd, F, b⟩ := T.d_exist.F
  refine ⟨fd, F.ok sc_exist (fun vs H Q E h => ?_) (fun cdv A outer s H vs Q E hr h => ?_), b⟩
  · obtain ⟨_, _, _, _, rfl, _⟩ := h
    rfl
  · obtain ⟨p, l, A1, xs, rfl, hp, hl, few, k⟩ := h
    obtain ⟨dx, b1, c1, s1, ts, h1, h2, h3, h4, h5⟩ := hp
    refine ⟨_, (pss_one (ps_ret (pe_callB (cr_all rfl) (by rfl) T.n_all (by decide +kernel) (pa_cons (pe_lc (own := [("account", 2)]) (g := (gName 2)) (tt := tYes) rfl sc_exist.nd (pi_list (pv 1)) (blkOk_by (own := [("account", 2)]) (N := sc_exist_N) (sc := defScope s_exist) (by decide +kernel)) (fun _ _ _ _ _ => (pg_name (i := 2) sc_exist.nd rfl (Or.inl rfl))) (fun _ _ _ _ _ => pts_nil) (fun _ _ _ _ _ => (pe_chain op_le op_lt pe_int (pv 2) (pe_callB (id := "len") (r := rLenOf K) (cr_lenK rfl) (by rfl) T.n_len PySem.boot_len (pa_cons (pe_fldK (K := K) rfl (pv 0) rfl) pa_nil))))) pa_nil)))), ?_⟩
    walk_at "rs"
    refine ⟨⟨_, hl⟩, fun D hD => ?_⟩
    refine lc_list (K := K) (a := l) (xs := xs.map V.int) (fun i H2 => Same H H2 ∧ H2 D = some (.lst ((xs.take i).map fun x : Int => V.bl (decide (0 ≤ x ∧ x < (A1.bal.length : Int)))))) ⟨same_new hD, upd_same⟩ (fun i H2 _ ⟨s2, _⟩ => s2.seq hl) ?_ ?_
    · rintro i y H2 hy ⟨s2, hd⟩
      have hi : i < xs.length := by
        have e := (List.getElem?_eq_some_iff.mp hy).1
        rwa [List.length_map] at e
      have et : xs.take (i + 1) = xs.take i ++ [xs.getD i 0] := by
        rw [List.take_add_one, List.getElem?_eq_getElem hi, List.getD_eq_getElem?_getD, List.getElem?_eq_getElem hi]
        rfl
      rw [at_ints hi] at hy
      cases hy
      refine ⟨rfl, ?_⟩
      walk_at "rs"
      have put : ∀ {b : Bool}, b = decide (0 ≤ xs.getD i 0 ∧ xs.getD i 0 < (A1.bal.length : Int)) → ∃ acc, H2 D = some (.lst acc) ∧ acc.length < sizeLine ∧ Same H (upd H2 D (.lst (acc ++ [V.bl b]))) ∧ upd H2 D (.lst (acc ++ [V.bl b])) D = some (.lst ((xs.take (i + 1)).map fun x : Int => V.bl (decide (0 ≤ x ∧ x < (A1.bal.length : Int))))) :=
        fun {b} e => ⟨_, hd, by rw [List.length_map]; exact small1000 (by have := List.length_take_le' i xs; omega), same_upd s2 hD, by rw [upd_same, et, List.map_append, e]; rfl⟩
      refine ite2 (fun c => ?_) (fun c => ?_)
      · have c := of_decide_eq_true c
        walk_at "rs"
        refine ⟨p, _, dx, _, .ref b1, rfl, s2 _ _ h1, T.cl_Ledger, T.a_Ledger_balances, rfl, ?_⟩
        walk_at "rs"
        refine ⟨b1, _, rfl, .inr (SqT.of (s2 _ _ h2)), ?_⟩
        rw [List.length_map]
        walk_at "rs"
        exact put (decide_eq_decide.mpr ⟨fun h => ⟨c, h⟩, fun h => h.2⟩)
      · exact put (by rw [decide_eq_false (fun h => c (decide_eq_true h.1))])
    · rintro H2 ⟨s2, hd⟩
      rw [List.length_map, List.take_length] at hd
      walk_at "rs"
      refine ⟨D, xs.map fun x : Int => decide (0 ≤ x ∧ x < (A1.bal.length : Int)), rfl, SqL.of (by rw [hd, List.map_map]; rfl), ?_⟩
      rw [List.all_map]
      exact k H2 s2
theorem ixN_at {n j : Nat} (h : j < n) : ixN n (j : Int) = some j := by
  unfold ixN
  rw [if_pos (Int.natCast_nonneg j), if_pos (by omega), Int.toNat_natCast]
def spMoved (K : PySem.W.Frag) : Sp := fun vs H Q _ => ∃ (t : Addr) (bal : List Int) (i j : Nat) (x : Int), vs = [.ref t, .int i, .int j, .int x] ∧ H t = some (.tup (bal.map V.int)) ∧ bal.length ≤ 100 ∧ i < bal.length ∧ j < bal.length ∧ ∀ q H', Same H H' → H' q = some (.tup ((moveA bal i j x).map V.int)) → Q (.ref q) H'
theorem ok_moved (T : Txt K mg a) : ∃ fd, FnOk P w K mg base CX0 1 a.d_moved fd ["balances", "payer", "payee", "amount"] (spMoved K) ∧ Binds K fd ["balances", "payer", "payee", "amount"] [] := by
  obtain ⟨fd, F, b⟩ := T.d_moved.F
  refine ⟨fd, F.ok sc_moved (fun vs H Q E h => ?_) (fun cdv A outer s H vs Q E hr h => ?_), b⟩
  · obtain ⟨_, _, _, _, _, rfl, _⟩ := h
    rfl
  · obtain ⟨t, bal, i, j, x, rfl, ht, few, hi, hj, k⟩ := h
    refine ⟨_, (pss_cons (ps_set (i := 4) sc_moved.nd rfl (Or.inl rfl) (pe_callTy call_list_of (by rfl) T.n_list (by decide +kernel) (pa_cons (pv 0) pa_nil)))
      (pss_cons (ps_augS (pv 4) (pv 1) get_listN (pv 3) ip_sub set_list)
      (pss_cons (ps_augS (pv 4) (pv 2) get_listN (pv 3) ip_add set_list)
      (pss_one (ps_ret (pe_callTy call_tuple_of (by rfl) T.n_tuple (by decide +kernel) (pa_cons (pv 4) pa_nil))))))), ?_⟩
    walk_at "rs"
    refine ⟨t, _, rfl, .inr (SqT.of ht), fun l hl => ?_⟩
    have s1 := same_new (o := .lst (bal.map V.int)) hl
    have h1 : (upd H l (.lst (bal.map V.int))) l = some (.lst (bal.map V.int)) := upd_same
    have only : ∀ b o, b ≠ l → H b = some o → (upd H l (.lst (bal.map V.int))) b = some o := fun b o n e => by rw [upd_ne n]; exact e
    generalize upd H l (.lst (bal.map V.int)) = H1 at s1 h1 only ⊢
    walk_at "rs"
    refine ⟨l, _, i, .int (bal.getD i 0), rfl, rfl, SqL.of h1, at_ints hi, ?_⟩
    walk_at "rs"
    refine ⟨l, _, _, i, rfl, rfl, h1, ixN_at (by rw [List.length_map]; exact hi), ?_⟩
    have h2 : (upd H1 l (.lst ((bal.map V.int).set i (.int (bal.getD i 0 - x))))) l = some (.lst ((bal.set i (bal.getD i 0 - x)).map V.int)) := by rw [upd_same, List.map_set]
    have only2 : ∀ b o, b ≠ l → H b = some o → (upd H1 l (.lst ((bal.map V.int).set i (.int (bal.getD i 0 - x))))) b = some o := fun b o n e => by rw [upd_ne n]; exact only b o n e
    generalize upd H1 l (.lst ((bal.map V.int).set i (.int (bal.getD i 0 - x)))) = H2 at h2 only2 ⊢
    walk_at "rs"
    refine ⟨l, _, j, .int ((bal.set i (bal.getD i 0 - x)).getD j 0), rfl, rfl, SqL.of h2, at_ints (by rw [List.length_set]; exact hj), ?_⟩
    walk_at "rs"
    refine ⟨l, _, _, j, rfl, rfl, h2, ixN_at (by rw [List.length_map, List.length_set]; exact hj), ?_⟩
    have h3 : (upd H2 l (.lst (((bal.set i (bal.getD i 0 - x)).map V.int).set j (.int ((bal.set i (bal.getD i 0 - x)).getD j 0 + x))))) l = some (.lst ((moveA bal i j x).map V.int)) := by
      rw [upd_same]
      unfold moveA
      rw [List.map_set (l := bal.set i (bal.getD i 0 - x))]
    have s3 : Same H (upd H2 l (.lst (((bal.set i (bal.getD i 0 - x)).map V.int).set j (.int ((bal.set i (bal.getD i 0 - x)).getD j 0 + x))))) := fun b o e => by
      have n := ne_of_none e hl
      rw [upd_ne n]
      exact only2 b o n e
    generalize upd H2 l (.lst (((bal.set i (bal.getD i 0 - x)).map V.int).set j (.int ((bal.set i (bal.getD i 0 - x)).getD j 0 + x)))) = H3 at s3 h3 ⊢
    walk_at "rs"
    refine ⟨l, _, rfl, .inl ⟨SqL.of h3, fun q hq => ?_⟩⟩
    exact k q _ (s3.trans (same_new hq)) upd_same
def spRepl (K : PySem.W.Frag) : Sp := fun vs H Q _ => ∃ (t : Addr) (xs : List V) (j : Nat) (v : V), vs = [.ref t, .int j, v] ∧ H t = some (.tup xs) ∧ xs.length ≤ 1000 ∧ j < xs.length ∧ ∀ q H', Same H H' → H' q = some (.tup (xs.set j v)) → Q (.ref q) H'
theorem ok_replaced (T : Txt K mg a) : ∃ fd, FnOk P w K mg base CX0 1 a.d_replaced fd ["parts", "at", "part"] (spRepl K) ∧ Binds K fd ["parts", "at", "part"] [] := by
  obtain ⟨fd, F, b⟩ := T.d_replaced.F
  refine ⟨fd, F.ok sc_replaced (fun vs H Q E h => ?_) (fun cdv A outer s H vs Q E hr h => ?_), b⟩
  · obtain ⟨_, _, _, _, rfl, _⟩ := h
    rfl
  · obtain ⟨t, xs, j, v, rfl, ht, few, hj, k⟩ := h
    have nw1 : ¬ (HT.sIx xs.length 0 none = 0 ∧ HT.sIx xs.length xs.length (some (j : Int)) = xs.length) := by
      rw [HT.sIx_nat]
      omega
    have nw2 : ¬ (HT.sIx xs.length 0 (some ((j : Int) + 1)) = 0 ∧ HT.sIx xs.length xs.length none = xs.length) := by
      rw [show (j : Int) + 1 = ((j + 1 : Nat) : Int) from rfl, HT.sIx_nat]
      omega
    have hput : cutV xs none (some (j : Int)) ++ [v] ++ cutV xs (some ((j : Int) + 1)) none = xs.set j v := by
      unfold cutV
      rw [show (j : Int) + 1 = ((j + 1 : Nat) : Int) from rfl, HT.sIx_nat, HT.sIx_nat, HT.sIx_none, HT.sIx_none, Nat.min_eq_left (Nat.le_of_lt hj), Nat.min_eq_left hj, Nat.sub_zero, List.drop_zero, List.take_of_length_le (l := xs.drop (j + 1)) (by rw [List.length_drop]; exact Nat.le_refl _), List.set_eq_take_append_cons_drop, if_pos hj, List.append_assoc]
      rfl
    have lA := cutV_length xs none (some (j : Int))
    have lC := cutV_length xs (some ((j : Int) + 1)) none
    refine ⟨_, (pss_one (ps_ret (pe_op op_catB (pe_op op_catB (pe_slice sl_tup (pv 0) po_none (po_some (pv 1))) (pe_tup (pa_cons (pv 2) pa_nil))) (pe_slice sl_tup (pv 0) (po_some (pe_op op_add (pv 1) pe_int)) po_none)))), ?_⟩
    walk_at "rs"
    refine ⟨t, _, rfl, SqT.of ht, nw1, fun q1 hq1 => ?_⟩
    generalize cutV xs none (some (j : Int)) = A1 at hput lA
    have s1 := same_new (o := .tup A1) hq1
    have h1 : (upd H q1 (.tup A1)) q1 = some (.tup A1) := upd_same
    generalize upd H q1 (.tup A1) = H1 at s1 h1 ⊢
    walk_at "rs"
    refine ⟨(by show 1 ≤ sizeLine; decide), fun q2 hq2 => ?_⟩
    have s2 := same_new (o := .tup [v]) hq2
    have h2 : (upd H1 q2 (.tup [v])) q2 = some (.tup [v]) := upd_same
    have h12 := s2 _ _ h1
    generalize upd H1 q2 (.tup [v]) = H2 at s2 h2 h12 ⊢
    refine ⟨q1, q2, A1, [v], rfl, rfl, h12, h2, by rw [sizeLine_eq]; show A1.length + 1 ≤ _; omega, fun q3 H3 s3 h3 => ?_⟩
    walk_at "rs"
    have s13 := s1.trans (s2.trans s3)
    refine ⟨t, _, rfl, SqT.of (s13 _ _ ht), nw2, fun q4 hq4 => ?_⟩
    generalize cutV xs (some ((j : Int) + 1)) none = C1 at hput lC
    have s4 := same_new (o := .tup C1) hq4
    have h4 : (upd H3 q4 (.tup C1)) q4 = some (.tup C1) := upd_same
    have h34 := s4 _ _ h3
    generalize upd H3 q4 (.tup C1) = H4 at s4 h4 h34 ⊢
    refine ⟨q3, q4, A1 ++ [v], C1, rfl, rfl, h34, h4, by rw [List.length_append, sizeLine_eq]; show A1.length + 1 + C1.length ≤ _; omega, fun q5 H5 s5 h5 => ?_⟩
    rw [hput] at h5
    exact k q5 H5 (s13.trans (s4.trans s5)) h5

def spPay (C : Addr) : Sp := fun vs H Q _ => ∃ (p : Addr) (A : Ac) (x y z : Int), vs = [.ref p, .int x, .int y, .int z] ∧ LgAt C H p A ∧ A.bal.length ≤ 100 ∧ NOk x ∧ NOk y ∧ NOk z ∧
  (afterA A (.p x y z) = none → ∀ H', Same H H' → Q .non H') ∧ ∀ r H' B, afterA A (.p x y z) = some B → Same H H' → LgAt C H' r B → Q (.ref r) H'
theorem at_tup {xs : List Int} {j : Nat} (h : j < xs.length) : atI (xs.map V.int) (j : Int) = some (.int (xs.getD j 0)) := atI_nat (at_ints h)
theorem ok_payment (T : Txt K mg a) : ∃ fd, FnOk P w K mg base CX0 3 a.d_payment fd ["ledger", "payer", "payee", "amount"] (spPay a.C_Ledger) ∧ Binds K fd ["ledger", "payer", "payee", "amount"] [] := by
  obtain ⟨fd, F, b⟩ := T.d_payment.F
  obtain ⟨fd_Ledger_init, G_Ledger_init, b_Ledger_init⟩ := ok_Ledger_init (P := P) (w := w) (base := base) T
  obtain ⟨fd_moved, G_moved, b_moved⟩ := ok_moved (P := P) (w := w) (base := base) T
  obtain ⟨fd_exist, G_exist, b_exist⟩ := ok_exist (P := P) (w := w) (base := base) T
  refine ⟨fd, F.ok sc_payment (fun vs H Q E h => ?_) (fun cdv A outer s H vs Q E hr h => ?_), b⟩
  · obtain ⟨_, _, _, _, _, rfl, _⟩ := h
    rfl
  · obtain ⟨p, A1, x, y, z, rfl, hp, few, ox, oy, oz, k1, k2⟩ := h
    obtain ⟨i, rfl⟩ : ∃ i : Nat, x = (i : Int) := ⟨x.toNat, by have := ox.1; omega⟩
    obtain ⟨j, rfl⟩ : ∃ j : Nat, y = (j : Int) := ⟨y.toNat, by have := oy.1; omega⟩
    obtain ⟨dx, b1, cd, s1, ts, h1, h2, h3, h4, h5⟩ := id hp
    refine ⟨_, (pss_cons (ps_if (PW.pt (pw_or (pt_not (pt_val (pe_call G_exist (hr.mono (by decide)) rfl T.d_exist.g T.d_exist.kp b_exist .nil pass0 (pa_cons (pv 0) (pa_cons (pe_lst (pa_cons (pv 1) (pa_cons (pv 2) pa_nil))) pa_nil))))) (pw_or (pt_cmpR op_lt (pv 3) pe_int (nomark _)) (pw_or1 (pt_cmpR op_gt (pv 3) (pe_ix ix_tup (pe_fld (pv 0) rfl) (pv 1) (fun _ _ => rfl)) (nomark _))))))
      (pss_one (ps_ret pe_non))
      pss_nil)
      (pss_one (ps_ret (pe_make T.m_Ledger G_Ledger_init (hr.mono (by decide)) (by rfl) T.g_Ledger b_Ledger_init .nil pass0 (pa_cons (pe_call G_moved (hr.mono (by decide)) rfl T.d_moved.g T.d_moved.kp b_moved .nil pass0 (pa_cons (pe_fld (pv 0) rfl) (pa_cons (pv 1) (pa_cons (pv 2) (pa_cons (pv 3) pa_nil))))) (pa_cons (pe_fld (pv 0) rfl) (pa_cons (pe_fld (pv 0) rfl) pa_nil))))))), ?_⟩
    walk_at "rs"
    refine ⟨(by show 2 ≤ sizeLine; decide), fun l hl => ?_⟩
    have s1' := same_new (o := .lst [V.int (i : Int), V.int (j : Int)]) hl
    refine ⟨p, l, A1, [(i : Int), (j : Int)], rfl, hp.same s1', SqL.of upd_same, (by show 2 ≤ 100; decide), fun H2 s2' => ?_⟩
    have s2 := s1'.trans s2'
    clear s1' s2'
    have ex : inA A1.bal.length [(i : Int), (j : Int)] = decide ((i : Int) < A1.bal.length ∧ (j : Int) < A1.bal.length) := by
      show (decide (0 ≤ (i : Int) ∧ (i : Int) < A1.bal.length) && (decide (0 ≤ (j : Int) ∧ (j : Int) < A1.bal.length) && true)) = _
      rw [Bool.and_true, ← Bool.decide_and]
      exact decide_eq_decide.mpr ⟨fun h => ⟨h.1.2, h.2.2⟩, fun h => ⟨⟨Int.natCast_nonneg _, h.1⟩, ⟨Int.natCast_nonneg _, h.2⟩⟩⟩
    rw [ex]
    rw [afterA] at k1 k2
    walk_at "rs"
    refine ite2 (fun c1 => ?_) (fun c1 => ?_)
    · have c1 : ¬ ((i : Int) < A1.bal.length ∧ (j : Int) < A1.bal.length) := fun h => by rw [decide_eq_true h] at c1; exact Bool.false_ne_true c1
      walk_at "rs"
      exact k1 (if_neg fun h => c1 h.1) H2 s2
    have c1 : (i : Int) < A1.bal.length ∧ (j : Int) < A1.bal.length := by
      by_cases h : (i : Int) < A1.bal.length ∧ (j : Int) < A1.bal.length
      · exact h
      · exact absurd (by rw [decide_eq_false h]; rfl) c1
    walk_at "rs"
    refine ite2 (fun c2 => absurd (of_decide_eq_true c2) (by have := oz.1; omega)) (fun _ => ?_)
    walk_at "rs"
    refine ⟨p, _, dx, _, .ref b1, rfl, s2 _ _ h1, T.cl_Ledger, T.a_Ledger_balances, rfl, ?_⟩
    walk_at "rs"
    refine ⟨b1, _, _, _, rfl, rfl, SqT.of (s2 _ _ h2), at_tup (by omega), ?_⟩
    walk_at "rs"
    refine ite2 (fun c3 => ?_) (fun c3 => ?_)
    · have c3 := of_decide_eq_true c3
      walk_at "rs"
      exact k1 (if_neg fun h => by have := h.2; rw [Int.toNat_natCast] at this; omega) H2 s2
    have c3 : z ≤ A1.bal.getD i 0 := by
      have : ¬ z > A1.bal.getD i 0 := fun h => c3 (decide_eq_true h)
      omega
    walk_at "rs"
    refine ⟨p, _, dx, _, .ref b1, rfl, s2 _ _ h1, T.cl_Ledger, T.a_Ledger_balances, rfl, ?_⟩
    walk_at "rs"
    refine ⟨b1, A1.bal, i, j, z, rfl, s2 _ _ h2, few, by omega, by omega, fun q H3 s3' hq => ?_⟩
    have s3 := s2.trans s3'
    walk_at "rs"
    refine ⟨p, _, dx, _, .ref cd, rfl, s3 _ _ h1, T.cl_Ledger, T.a_Ledger_codes, rfl, ?_⟩
    walk_at "rs"
    refine ⟨p, _, dx, _, .ref s1, rfl, s3 _ _ h1, T.cl_Ledger, T.a_Ledger_stores, rfl, ?_⟩
    walk_at "rs"
    intro r dr hr1 hdr ndr
    refine ⟨r, dr, _, _, _, rfl, upd_same, fun H4 h4' keep => ⟨rfl, ?_⟩⟩
    have s4' := made hr1 hdr keep
    have s4 := s3.trans s4'
    refine k2 r H4 ⟨moveA A1.bal i j z, A1.cds, A1.sts⟩ ?_ s4 ⟨dr, q, cd, s1, ts, h4', s4' _ _ hq, s4 _ _ h3, s4 _ _ h4, imp_paired h5 fun _ _ z => z.same s4⟩
    rw [if_pos ⟨c1, by rw [Int.toNat_natCast]; exact c3⟩, Int.toNat_natCast, Int.toNat_natCast]

theorem paired_set {α β : Type} {F : α → β → Prop} {x : α} {y : β} (h : F x y) : ∀ {xs : List α} {ys : List β} (i : Nat), Paired F xs ys → Paired F (xs.set i x) (ys.set i y)
  | _, _, _, .nil => .nil
  | _, _, 0, .cons _ t => .cons h t
  | _, _, i + 1, .cons g t => .cons g (paired_set h i t)
theorem paired_at {α β : Type} {F : α → β → Prop} {d : α} {e : β} : ∀ {xs : List α} {ys : List β} {i : Nat}, Paired F xs ys → i < ys.length → F (xs.getD i d) (ys.getD i e)
  | _, _, _, .nil, h => absurd h (Nat.not_lt_zero _)
  | _, _, 0, .cons g _, _ => g
  | _, _, i + 1, .cons _ t, h => paired_at (i := i) t (Nat.lt_of_succ_lt_succ h)
theorem paired_len {α β : Type} {F : α → β → Prop} {xs : List α} {ys : List β} (h : Paired F xs ys) : xs.length = ys.length := Paired.length h
theorem set_map {α β : Type} (f : α → β) (xs : List α) (i : Nat) (x : α) : (xs.map f).set i (f x) = (xs.set i x).map f := by rw [List.map_set]
theorem merge_kv : ∀ {kv done : List (Nat × Nat)}, ((done ++ kv).map (·.1)).Nodup → mergeK (kvV done) (kvV kv) = kvV (done ++ kv)
  | [], done, _ => by
    rw [List.append_nil]
    rfl
  | (k, v) :: kv, done, nd => by
    have hk : ∀ x ∈ done, x.1 ≠ k := fun x hx e => by
      rw [List.map_append, List.nodup_append] at nd
      exact nd.2.2 x.1 (List.mem_map.mpr ⟨x, hx, rfl⟩) k (List.mem_map.mpr ⟨(k, v), List.mem_cons_self, rfl⟩) e
    show mergeK (putK (kvV done) (Sum.inl (k : Int)) (V.int (v : Int))) (kvV kv) = _
    rw [put_kv, put_new hk]
    have e : done ++ (k, v) :: kv = done ++ [(k, v)] ++ kv := by simp
    rw [e] at nd ⊢
    exact merge_kv nd
theorem pairs_sq {K : PySem.W.Frag} {H : Hp} : ∀ {ps : List Addr} {kv : List (Nat × Nat)}, Paired (PrAt H) ps kv → Paired (fun p q => SqT K H p [kV q.1, q.2]) ps (kvV kv)
  | _, _, .nil => .nil
  | _, _, .cons h t => .cons (SqT.of h) (pairs_sq t)
theorem pairs_pr {H : Hp} : ∀ {ps : List Addr} {kv : List (Nat × Nat)}, Paired (fun t q => H t = some (.tup [kV q.1, q.2])) ps (kvV kv) → Paired (PrAt H) ps kv
  | ps, [], h => by
    cases h
    exact .nil
  | ps, x :: kv, h => by
    cases h with
    | cons g t => exact .cons g (pairs_pr t)
theorem at_strs {zs : List Str} {j : Nat} (h : j < zs.length) : atI (zs.map V.str) (j : Int) = some (.str (zs.getD j "")) := atI_nat (by
  rw [List.getElem?_map, List.getElem?_eq_getElem h, List.getD_eq_getElem?_getD, List.getElem?_eq_getElem h]
  rfl)
theorem at_refs {ps : List Addr} {j : Nat} (h : j < ps.length) : atI (ps.map V.ref) (j : Int) = some (.ref (ps.getD j 0)) := atI_nat (by
  rw [List.getElem?_map, List.getElem?_eq_getElem h, List.getD_eq_getElem?_getD, List.getElem?_eq_getElem h]
  rfl)
def spNew (C : Addr) : Sp := fun vs H Q _ => ∃ (p : Addr) (A : Ac) (n k : Nat) (x : Int) (z : Str), vs = [.ref p, .int x, .str z] ∧ LgAt C H p A ∧ GoodA n k A ∧ NOk x ∧
  (afterA A (.d x z) = none → ∀ H', Same H H' → Q .non H') ∧ ∀ r H' B, afterA A (.d x z) = some B → Same H H' → LgAt C H' r B → Q (.ref r) H'
theorem ok_new_program (T : Txt K mg a) : ∃ fd, FnOk P w K mg base CX0 3 a.d_new_program fd ["ledger", "account", "code"] (spNew a.C_Ledger) ∧ Binds K fd ["ledger", "account", "code"] [] := by
  obtain ⟨fd, F, b⟩ := T.d_new_program.F
  obtain ⟨fd_replaced, G_replaced, b_replaced⟩ := ok_replaced (P := P) (w := w) (base := base) T
  obtain ⟨fd_Ledger_init, G_Ledger_init, b_Ledger_init⟩ := ok_Ledger_init (P := P) (w := w) (base := base) T
  obtain ⟨fd_exist, G_exist, b_exist⟩ := ok_exist (P := P) (w := w) (base := base) T
  refine ⟨fd, F.ok sc_new_program (fun vs H Q E h => ?_) (fun cdv A outer s H vs Q E hr h => ?_), b⟩
  · obtain ⟨_, _, _, _, _, _, rfl, _⟩ := h
    rfl
  · obtain ⟨p, A1, n, m, x, z, rfl, hp, ga, ox, k1, k2⟩ := h
    obtain ⟨i, rfl⟩ : ∃ i : Nat, x = (i : Int) := ⟨x.toNat, by have := ox.1; omega⟩
    obtain ⟨dx, b1, cd, s1, ts, h1, h2, h3, h4, h5⟩ := id hp
    have lts := paired_len h5
    have e1 := ga.lb
    have e2 := ga.lc
    have e3 := ga.ls
    have few := ga.few
    refine ⟨_, (pss_cons (ps_if (pt_not (pt_val (pe_call G_exist (hr.mono (by decide)) rfl T.d_exist.g T.d_exist.kp b_exist .nil pass0 (pa_cons (pv 0) (pa_cons (pe_lst (pa_cons (pv 1) pa_nil)) pa_nil)))))
      (pss_one (ps_ret pe_non))
      pss_nil)
      (pss_cons (ps_set (i := 3) sc_new_program.nd rfl (Or.inl rfl) (pe_call G_replaced (hr.mono (by decide)) rfl T.d_replaced.g T.d_replaced.kp b_replaced .nil pass0 (pa_cons (pe_fld (pv 0) rfl) (pa_cons (pv 1) (pa_cons (pv 2) pa_nil)))))
      (pss_one (ps_ret (pe_make T.m_Ledger G_Ledger_init (hr.mono (by decide)) (by rfl) T.g_Ledger b_Ledger_init .nil pass0 (pa_cons (pe_fld (pv 0) rfl) (pa_cons (pv 3) (pa_cons (pe_call G_replaced (hr.mono (by decide)) rfl T.d_replaced.g T.d_replaced.kp b_replaced .nil pass0 (pa_cons (pe_fld (pv 0) rfl) (pa_cons (pv 1) (pa_cons pe_tup0F pa_nil)))) pa_nil)))))))), ?_⟩
    walk_at "rs"
    refine ⟨(by show 1 ≤ sizeLine; decide), fun l hl => ?_⟩
    have s1' := same_new (o := .lst [V.int (i : Int)]) hl
    refine ⟨p, l, A1, [(i : Int)], rfl, hp.same s1', SqL.of upd_same, (by show 1 ≤ 100; decide), fun H2 s2' => ?_⟩
    have s2 := s1'.trans s2'
    clear s1' s2'
    have ex : inA A1.bal.length [(i : Int)] = decide ((i : Int) < A1.bal.length) := by
      show (decide (0 ≤ (i : Int) ∧ (i : Int) < A1.bal.length) && true) = _
      rw [Bool.and_true]
      exact decide_eq_decide.mpr ⟨fun h => h.2, fun h => ⟨Int.natCast_nonneg _, h⟩⟩
    rw [ex]
    rw [afterA] at k1 k2
    walk_at "rs"
    refine ite2 (fun c1 => ?_) (fun c1 => ?_)
    · have c1 : ¬ ((i : Int) < A1.bal.length) := fun h => by rw [decide_eq_true h] at c1; exact Bool.false_ne_true c1
      walk_at "rs"
      exact k1 (if_neg c1) H2 s2
    have c1 : (i : Int) < A1.bal.length := by
      by_cases h : (i : Int) < A1.bal.length
      · exact h
      · exact absurd (by rw [decide_eq_false h]; rfl) c1
    walk_at "rs"
    refine ⟨p, _, dx, _, .ref cd, rfl, s2 _ _ h1, T.cl_Ledger, T.a_Ledger_codes, rfl, ?_⟩
    walk_at "rs"
    refine ⟨cd, A1.cds.map V.str, i, .str z, rfl, s2 _ _ h3, by rw [List.length_map]; omega, by rw [List.length_map]; omega, fun q H3 s3' hq => ?_⟩
    rw [set_map] at hq
    have s3 := s2.trans s3'
    walk_at "rs"
    refine ⟨p, _, dx, _, .ref b1, rfl, s3 _ _ h1, T.cl_Ledger, T.a_Ledger_balances, rfl, ?_⟩
    walk_at "rs"
    refine ⟨p, _, dx, _, .ref s1, rfl, s3 _ _ h1, T.cl_Ledger, T.a_Ledger_stores, rfl, ?_⟩
    walk_at "rs"
    intro t0 o0 ht0 ho0
    have s4' := same_new (o := .frz o0 (.tup [])) ht0
    have ht04 : upd H3 t0 (.frz o0 (.tup [])) t0 = some (.frz o0 (.tup [])) := upd_same
    generalize upd H3 t0 (.frz o0 (.tup [])) = H4 at s4' ht04 ⊢
    have s4 := s3.trans s4'
    walk_at "rs"
    refine ⟨s1, ts.map V.ref, i, .ref t0, rfl, s4 _ _ h4, by rw [List.length_map]; omega, by rw [List.length_map]; omega, fun qs H5 s5' hqs => ?_⟩
    rw [set_map] at hqs
    have s5 := s4.trans s5'
    walk_at "rs"
    intro r dr hr1 hdr ndr
    refine ⟨r, dr, _, _, _, rfl, upd_same, fun H6 h6' keep => ⟨rfl, ?_⟩⟩
    have s6' := made hr1 hdr keep
    have s6 := s5.trans s6'
    refine k2 r H6 ⟨A1.bal, A1.cds.set i z, A1.sts.set i []⟩ ?_ s6 ⟨dr, b1, q, qs, ts.set i t0, h6', s6 _ _ h2, s6' _ _ (s5' _ _ (s4' _ _ hq)), s6' _ _ hqs, paired_set ⟨o0, [], s6' _ _ (s5' _ _ ht04), ho0, .nil⟩ i (imp_paired h5 fun _ _ z => z.same s6)⟩
    rw [if_pos c1, Int.toNat_natCast]
def spCallL (C : Addr) : Sp := fun vs H Q _ => ∃ (p : Addr) (A : Ac) (n k : Nat) (x y z : Int), vs = [.ref p, .int x, .int y, .int z] ∧ LgAt C H p A ∧ GoodA n k A ∧ k ≤ 30000 ∧ NOk x ∧ NOk y ∧ NOk z ∧
  (afterA A (.k x y z) = none → ∀ H', Same H H' → Q .non H') ∧ ∀ r H' B, afterA A (.k x y z) = some B → Same H H' → LgAt C H' r B → Q (.ref r) H'
theorem ok_call (TE : TxtE w K mg a) (T : Txt K mg a) : ∃ fd, FnOk P w K mg base CX0 6 a.d_call fd ["ledger", "caller", "callee", "given"] (spCallL a.C_Ledger) ∧ Binds K fd ["ledger", "caller", "callee", "given"] [] := by
  obtain ⟨fd, F, b⟩ := T.d_call.F
  obtain ⟨fd_run, G_run, b_run⟩ := ok_run (P := P) (w := w) (base := base) TE T
  obtain ⟨fd_replaced, G_replaced, b_replaced⟩ := ok_replaced (P := P) (w := w) (base := base) T
  obtain ⟨fd_Ledger_init, G_Ledger_init, b_Ledger_init⟩ := ok_Ledger_init (P := P) (w := w) (base := base) T
  obtain ⟨fd_moved, G_moved, b_moved⟩ := ok_moved (P := P) (w := w) (base := base) T
  obtain ⟨fd_exist, G_exist, b_exist⟩ := ok_exist (P := P) (w := w) (base := base) T
  refine ⟨fd, F.ok sc_call (fun vs H Q E h => ?_) (fun cdv A outer s H vs Q E hr h => ?_), b⟩
  · obtain ⟨_, _, _, _, _, _, _, rfl, _⟩ := h
    rfl
  · obtain ⟨p, A1, n, m, x, y, z, rfl, hp, ga, hm, ox, oy, oz, k1, k2⟩ := h
    obtain ⟨i, rfl⟩ : ∃ i : Nat, x = (i : Int) := ⟨x.toNat, by have := ox.1; omega⟩
    obtain ⟨j, rfl⟩ : ∃ j : Nat, y = (j : Int) := ⟨y.toNat, by have := oy.1; omega⟩
    obtain ⟨gn, rfl⟩ : ∃ g : Nat, z = (g : Int) := ⟨z.toNat, by have := oz.1; omega⟩
    obtain ⟨dx, b1, cd, s1, ts, h1, h2, h3, h4, h5⟩ := id hp
    have lts := paired_len h5
    have e1 := ga.lb
    have e2 := ga.lc
    have e3 := ga.ls
    have few := ga.few
    refine ⟨_, (pss_cons (ps_if (PW.pt (pw_or (pt_not (pt_val (pe_call G_exist (hr.mono (by decide)) rfl T.d_exist.g T.d_exist.kp b_exist .nil pass0 (pa_cons (pv 0) (pa_cons (pe_lst (pa_cons (pv 1) (pa_cons (pv 2) pa_nil))) pa_nil))))) (pw_or1 (pt_cmpR op_eq (pe_ix ix_tup (pe_fld (pv 0) rfl) (pv 2) (fun _ _ => rfl)) pe_str (nomark _)))))
      (pss_one (ps_ret pe_non))
      pss_nil)
      (pss_cons (ps_set (i := 4) sc_call.nd rfl (Or.inl rfl) (pe_ix ix_tup (pe_fld (pv 0) rfl) (pv 2) (fun _ _ => rfl)))
      (pss_cons (ps_set (i := 5) sc_call.nd rfl (Or.inl rfl) (pe_call G_run (hr.mono (by decide)) rfl T.d_run.g T.d_run.kp b_run .nil pass0 (pa_cons (pe_ix ix_tup (pe_fld (pv 0) rfl) (pv 2) (fun _ _ => rfl)) (pa_cons (pv 3) (pa_cons (pv 4) (pa_cons (pe_callTy (call_dictPT rfl) (by rfl) T.n_dict (by decide +kernel) (pa_cons (pe_ix ix_tup (pe_fld (pv 0) rfl) (pv 2) (fun _ _ => rfl)) pa_nil)) pa_nil))))))
      (pss_cons (ps_if (PW.pt (pw_or (pt_not (pt_val (pe_fld (pv 5) rfl))) (pw_or1 (pt_cmpR op_gt (pe_fld (pv 5) rfl) (pv 4) (nomark _)))))
      (pss_one (ps_ret pe_non))
      pss_nil)
      (pss_cons (ps_set (i := 6) sc_call.nd rfl (Or.inl rfl) (pe_call G_replaced (hr.mono (by decide)) rfl T.d_replaced.g T.d_replaced.kp b_replaced .nil pass0 (pa_cons (pe_fld (pv 0) rfl) (pa_cons (pv 2) (pa_cons (pe_tupItems rfl (pe_fld (pv 5) rfl) (by rfl) T.n_tuple (by decide +kernel)) pa_nil)))))
      (pss_one (ps_ret (pe_make T.m_Ledger G_Ledger_init (hr.mono (by decide)) (by rfl) T.g_Ledger b_Ledger_init .nil pass0 (pa_cons (pe_call G_moved (hr.mono (by decide)) rfl T.d_moved.g T.d_moved.kp b_moved .nil pass0 (pa_cons (pe_fld (pv 0) rfl) (pa_cons (pv 2) (pa_cons (pv 1) (pa_cons (pe_fld (pv 5) rfl) pa_nil))))) (pa_cons (pe_fld (pv 0) rfl) (pa_cons (pv 6) pa_nil))))))))))), ?_⟩
    walk_at "rs"
    refine ⟨(by show 2 ≤ sizeLine; decide), fun l hl => ?_⟩
    have s1' := same_new (o := .lst [V.int (i : Int), V.int (j : Int)]) hl
    refine ⟨p, l, A1, [(i : Int), (j : Int)], rfl, hp.same s1', SqL.of upd_same, (by show 2 ≤ 100; decide), fun H2 s2' => ?_⟩
    have s2 := s1'.trans s2'
    clear s1' s2'
    have ex : inA A1.bal.length [(i : Int), (j : Int)] = decide ((i : Int) < A1.bal.length ∧ (j : Int) < A1.bal.length) := by
      show (decide (0 ≤ (i : Int) ∧ (i : Int) < A1.bal.length) && (decide (0 ≤ (j : Int) ∧ (j : Int) < A1.bal.length) && true)) = _
      rw [Bool.and_true, ← Bool.decide_and]
      exact decide_eq_decide.mpr ⟨fun h => ⟨h.1.2, h.2.2⟩, fun h => ⟨⟨Int.natCast_nonneg _, h.1⟩, ⟨Int.natCast_nonneg _, h.2⟩⟩⟩
    rw [ex]
    rw [afterA] at k1 k2
    walk_at "rs"
    refine ite2 (fun c1 => ?_) (fun c1 => ?_)
    · have c1 : ¬ ((i : Int) < A1.bal.length ∧ (j : Int) < A1.bal.length) := fun h => by rw [decide_eq_true h] at c1; exact Bool.false_ne_true c1
      walk_at "rs"
      exact k1 (if_neg fun h => c1 h.1) H2 s2
    have c1 : (i : Int) < A1.bal.length ∧ (j : Int) < A1.bal.length := by
      by_cases h : (i : Int) < A1.bal.length ∧ (j : Int) < A1.bal.length
      · exact h
      · exact absurd (by rw [decide_eq_false h]; rfl) c1
    walk_at "rs"
    refine ⟨p, _, dx, _, .ref cd, rfl, s2 _ _ h1, T.cl_Ledger, T.a_Ledger_codes, rfl, ?_⟩
    walk_at "rs"
    refine ⟨cd, _, _, _, rfl, rfl, SqT.of (s2 _ _ h3), at_strs (by omega), ?_⟩
    walk_at "rs"
    refine ite2 (fun c2 => ?_) (fun c2 => ?_)
    · have c2 : A1.cds.getD j "" = "" := V.str.inj (of_decide_eq_true c2)
      walk_at "rs"
      exact k1 (if_neg fun h => h.2 (by rw [Int.toNat_natCast]; exact c2)) H2 s2
    have c2 : A1.cds.getD j "" ≠ "" := fun h => c2 (decide_eq_true (congrArg V.str h))
    rw [if_pos ⟨c1, by rw [Int.toNat_natCast]; exact c2⟩, Int.toNat_natCast] at k1
    rw [if_pos ⟨c1, by rw [Int.toNat_natCast]; exact c2⟩, Int.toNat_natCast, Int.toNat_natCast] at k2
    have hj : j < A1.bal.length := by omega
    have gs := ga.st _ (getD_memS (xs := A1.sts) (d := []) (i := j) (by omega))
    have bn : 0 ≤ A1.bal.getD j 0 := ga.nn _ (getD_mem hj)
    have lc : (A1.cds.getD j "").length ≤ 1000 := (ga.co _ (getD_memS (xs := A1.cds) (d := "") (i := j) (by omega))).1
    obtain ⟨o, ps, g1, g2, g3⟩ := paired_at (d := 0) (e := []) (i := j) h5 (by omega)
    have vsE : ∀ d : Addr, [V.str (A1.cds.getD j ""), V.int (gn : Int), V.int (A1.bal.getD j 0), V.ref d] = [V.str (callG A1 j gn).code, V.int ((callG A1 j gn).given : Nat), V.int ((callG A1 j gn).amount : Nat), V.ref d] := fun d => by
      show _ = [V.str (A1.cds.getD j ""), V.int (((gn : Int).toNat : Nat) : Int), V.int (((A1.bal.getD j 0).toNat : Nat) : Int), V.ref d]
      rw [Int.toNat_natCast, Int.toNat_of_nonneg bn]
    have lcode : (callG A1 j gn).code.length ≤ 5000 := Nat.le_trans lc (by decide)
    have hat := at_tup hj
    generalize callG A1 j gn = G at k1 k2 vsE lcode
    generalize A1.sts.getD j [] = kv at k1 k2 gs g3
    generalize A1.bal.getD j 0 = bv at k1 k2 vsE bn hat
    walk_at "rs"
    refine ⟨p, _, dx, _, .ref b1, rfl, s2 _ _ h1, T.cl_Ledger, T.a_Ledger_balances, rfl, ?_⟩
    walk_at "rs"
    refine ⟨b1, _, _, _, rfl, rfl, SqT.of (s2 _ _ h2), hat, ?_⟩
    walk_at "rs"
    refine ⟨p, _, dx, _, .ref cd, rfl, s2 _ _ h1, T.cl_Ledger, T.a_Ledger_codes, rfl, ?_⟩
    walk_at "rs"
    refine ⟨cd, _, _, _, rfl, rfl, SqT.of (s2 _ _ h3), at_strs (by omega), ?_⟩
    walk_at "rs"
    refine ⟨p, _, dx, _, .ref s1, rfl, s2 _ _ h1, T.cl_Ledger, T.a_Ledger_stores, rfl, ?_⟩
    walk_at "rs"
    refine ⟨s1, _, _, _, rfl, rfl, SqT.of (s2 _ _ h4), at_refs (by omega), ?_⟩
    refine ⟨_, o, ps, kvV kv, rfl, s2 _ _ g1, g2, pairs_sq (imp_paired g3 fun _ _ => s2 _ _), fun d hd => ?_⟩
    rw [show mergeK [] (kvV kv) = kvV kv from merge_kv (done := []) gs.nd]
    have s3' := same_new (o := .dK (kvV kv)) hd
    have s3 := s2.trans s3'
    have hd3 : upd H2 d (.dK (kvV kv)) d = some (.dK (kvV kv)) := upd_same
    generalize upd H2 d (.dK (kvV kv)) = H3 at s3' s3 hd3 ⊢
    refine ⟨d, G, kv, vsE d, hd3, gs.mono hm, lcode, fun m' n' ef r S dr H4 s4' nS hS hr' => ?_, fun n' ef r S dr H4 s4' nS hS hr' => ?_⟩
    · have s4 := s3.trans s4'
      rw [ef] at k1 k2
      replace k1 : (if (m'.pd : Int) ≤ bv then some (⟨moveA A1.bal j i (m'.pd : Int), A1.cds, A1.sts.set j (leftM m')⟩ : Ac) else none) = none → ∀ H', Same H H' → Q .non H' := k1
      replace k2 : ∀ r H' B, (if (m'.pd : Int) ≤ bv then some (⟨moveA A1.bal j i (m'.pd : Int), A1.cds, A1.sts.set j (leftM m')⟩ : Ac) else none) = some B → Same H H' → LgAt a.C_Ledger H' r B → Q (.ref r) H' := k2
      walk_at "rs"
      refine ⟨r, _, dr, _, .bl true, rfl, hr', T.cl_Run, T.a_Run_well, rfl, ?_⟩
      walk_at "rs"
      refine ⟨r, _, dr, _, .int (m'.pd : Nat), rfl, hr', T.cl_Run, T.a_Run_paid, rfl, ?_⟩
      walk_at "rs"
      refine ite2 (fun c3 => ?_) (fun c3 => ?_)
      · have c3 : (m'.pd : Int) > bv := of_decide_eq_true c3
        walk_at "rs"
        exact k1 (if_neg (by omega)) H4 s4
      have c3 : (m'.pd : Int) ≤ bv := by
        have : ¬ (m'.pd : Int) > bv := fun h => c3 (decide_eq_true h)
        omega
      walk_at "rs"
      refine ⟨p, _, dx, _, .ref s1, rfl, s4 _ _ h1, T.cl_Ledger, T.a_Ledger_stores, rfl, ?_⟩
      walk_at "rs"
      refine ⟨r, _, dr, _, .ref S, rfl, hr', T.cl_Run, T.a_Run_store, rfl, ?_⟩
      refine ⟨S, kvV (leftM m'), rfl, hS, fun H5 t0 o0 us s5' nt0 ho0 ht0 hus => ?_⟩
      have s5 := s4.trans s5'
      walk_at "rs"
      refine ⟨s1, ts.map V.ref, j, .ref t0, rfl, s5 _ _ h4, by rw [List.length_map]; omega, by rw [List.length_map]; omega, fun qs H6 s6' hqs => ?_⟩
      rw [set_map] at hqs
      have s6 := s5.trans s6'
      walk_at "rs"
      refine ⟨p, _, dx, _, .ref b1, rfl, s6 _ _ h1, T.cl_Ledger, T.a_Ledger_balances, rfl, ?_⟩
      walk_at "rs"
      refine ⟨r, _, dr, _, .int (m'.pd : Nat), rfl, s6' _ _ (s5' _ _ hr'), T.cl_Run, T.a_Run_paid, rfl, ?_⟩
      walk_at "rs"
      refine ⟨b1, A1.bal, j, i, _, rfl, s6 _ _ h2, by omega, by omega, by omega, fun q H7 s7' hq => ?_⟩
      have s7 := s6.trans s7'
      walk_at "rs"
      refine ⟨p, _, dx, _, .ref cd, rfl, s7 _ _ h1, T.cl_Ledger, T.a_Ledger_codes, rfl, ?_⟩
      walk_at "rs"
      intro f df hf1 hdf ndf
      refine ⟨f, df, _, _, _, rfl, upd_same, fun H8 h8' keep => ⟨rfl, ?_⟩⟩
      have s8' := made hf1 hdf keep
      have s8 := s7.trans s8'
      have s58 := s6'.trans (s7'.trans s8')
      exact k2 f H8 _ (if_pos c3) s8 ⟨df, q, cd, qs, ts.set j t0, h8', s8' _ _ hq, s8 _ _ h3, s8' _ _ (s7' _ _ hqs), paired_set ⟨o0, us, s58 _ _ ht0, ho0, imp_paired (pairs_pr hus) fun _ _ => s58 _ _⟩ j (imp_paired h5 fun _ _ z => z.same s8)⟩
    · have s4 := s3.trans s4'
      rw [ef] at k1
      walk_at "rs"
      refine ⟨r, _, dr, _, .bl false, rfl, hr', T.cl_Run, T.a_Run_well, rfl, ?_⟩
      walk_at "rs"
      refine ite2 (fun _ => ?_) (fun c => absurd rfl c)
      walk_at "rs"
      refine ite2 (fun _ => ?_) (fun c => absurd rfl c)
      walk_at "rs"
      exact k1 rfl H4 s4

def spDone (C : Addr) : Sp := fun vs H Q _ => ∃ (p c : Addr) (A : Ac) (x : Cm) (n k : Nat), vs = [.ref p, .ref c] ∧ LgAt C H p A ∧ CmAt H c x ∧ x.fine ∧ GoodA n k A ∧ k ≤ 30000 ∧
  (afterA A x = none → ∀ H', Same H H' → Q .non H') ∧ ∀ r H' B, afterA A x = some B → Same H H' → LgAt C H' r B → Q (.ref r) H'
theorem ok_done (TE : TxtE w K mg a) (T : Txt K mg a) : ∃ fd, FnOk P w K mg base CX0 7 a.d_done fd ["ledger", "command"] (spDone a.C_Ledger) ∧ Binds K fd ["ledger", "command"] [] := by
  obtain ⟨fd, F, b⟩ := T.d_done.F
  obtain ⟨fd_payment, G_payment, b_payment⟩ := ok_payment (P := P) (w := w) (base := base) T
  obtain ⟨fd_new_program, G_new_program, b_new_program⟩ := ok_new_program (P := P) (w := w) (base := base) T
  obtain ⟨fd_call, G_call, b_call⟩ := ok_call (P := P) (w := w) (base := base) TE T
  refine ⟨fd, F.ok sc_done (fun vs H Q E h => ?_) (fun cdv A outer s H vs Q E hr h => ?_), b⟩
  · obtain ⟨_, _, _, _, _, _, rfl, _⟩ := h
    rfl
  · obtain ⟨p, c, A1, x, n, m, rfl, hp, hc, fx, ga, hm, k1, k2⟩ := h
    have few : A1.bal.length ≤ 100 := by
      have := ga.lb
      have := ga.few
      omega
    have lps : x.ps.length ≤ 3 := by cases x <;> simp [Cm.ps]
    refine ⟨_, (pss_cons (ps_asg (pv 1) (pg_starT rfl (pgs_cons (pg_name (i := 2) sc_done.nd rfl (Or.inl rfl)) (pgs_cons (pg_name (i := 3) sc_done.nd rfl (Or.inl rfl)) pgs_nil))))
      (pss_cons (ps_if (pt_cmpR op_eq (pv 2) pe_str (nomark _))
      (pss_cons (ps_asg (pv 3) (pg_lst rfl (pgs_cons (pg_name (i := 4) sc_done.nd rfl (Or.inl rfl)) (pgs_cons (pg_name (i := 5) sc_done.nd rfl (Or.inl rfl)) (pgs_cons (pg_name (i := 6) sc_done.nd rfl (Or.inl rfl)) pgs_nil)))))
        (pss_one (ps_ret (pe_call G_payment (hr.mono (by decide)) rfl T.d_payment.g T.d_payment.kp b_payment .nil pass0 (pa_cons (pv 0) (pa_cons (pv 4) (pa_cons (pv 5) (pa_cons (pv 6) pa_nil))))))))
      pss_nil)
      (pss_cons (ps_if (pt_cmpR op_eq (pv 2) pe_str (nomark _))
      (pss_cons (ps_asg (pv 3) (pg_lst rfl (pgs_cons (pg_name (i := 7) sc_done.nd rfl (Or.inl rfl)) (pgs_cons (pg_name (i := 8) sc_done.nd rfl (Or.inl rfl)) pgs_nil))))
        (pss_one (ps_ret (pe_call G_new_program (hr.mono (by decide)) rfl T.d_new_program.g T.d_new_program.kp b_new_program .nil pass0 (pa_cons (pv 0) (pa_cons (pv 7) (pa_cons (pv 8) pa_nil)))))))
      pss_nil)
      (pss_cons (ps_if (pt_cmpR op_eq (pv 2) pe_str (nomark _))
      (pss_cons (ps_asg (pv 3) (pg_lst rfl (pgs_cons (pg_name (i := 9) sc_done.nd rfl (Or.inl rfl)) (pgs_cons (pg_name (i := 10) sc_done.nd rfl (Or.inl rfl)) (pgs_cons (pg_name (i := 11) sc_done.nd rfl (Or.inl rfl)) pgs_nil)))))
        (pss_one (ps_ret (pe_call G_call (hr.mono (by decide)) rfl T.d_call.g T.d_call.kp b_call .nil pass0 (pa_cons (pv 0) (pa_cons (pv 9) (pa_cons (pv 10) (pa_cons (pv 11) pa_nil))))))))
      pss_nil)
      (pss_one (ps_ret pe_non)))))), ?_⟩
    walk_at "rs"
    refine ⟨c, .str x.ki, x.ps, rfl, SqT.of hc, by omega, fun l hl => ?_⟩
    dsimp only
    have s1 := same_new (o := .lst x.ps) hl
    have h1 : upd H l (.lst x.ps) l = some (.lst x.ps) := upd_same
    generalize upd H l (.lst x.ps) = H1 at s1 h1 ⊢
    cases x with
    | p x y z =>
      change gCons _ _ [V.str ("p" : Str), V.ref l] _ _ _
      refine ⟨_, _, rfl, _, _, rfl, rfl, ?_⟩
      walk_at "rs"
      refine ⟨l, _, rfl, SqL.of h1, rfl, _, _, rfl, _, _, rfl, _, _, rfl, rfl, ?_⟩
      walk_at "rs"
      exact ⟨p, A1, x, y, z, rfl, hp.same s1, few, fx.1, fx.2.1, fx.2.2, fun e H' s' => k1 e H' (s1.trans s'), fun r H' B e s' => k2 r H' B e (s1.trans s')⟩
    | d x z =>
      change gCons _ _ [V.str ("d" : Str), V.ref l] _ _ _
      refine ⟨_, _, rfl, _, _, rfl, rfl, ?_⟩
      walk_at "rs"
      refine ⟨l, _, rfl, SqL.of h1, rfl, _, _, rfl, _, _, rfl, rfl, ?_⟩
      walk_at "rs"
      exact ⟨p, A1, n, m, x, z, rfl, hp.same s1, ga, fx.1, fun e H' s' => k1 e H' (s1.trans s'), fun r H' B e s' => k2 r H' B e (s1.trans s')⟩
    | k x y z =>
      change gCons _ _ [V.str ("k" : Str), V.ref l] _ _ _
      refine ⟨_, _, rfl, _, _, rfl, rfl, ?_⟩
      walk_at "rs"
      refine ⟨l, _, rfl, SqL.of h1, rfl, _, _, rfl, _, _, rfl, _, _, rfl, rfl, ?_⟩
      walk_at "rs"
      exact ⟨p, A1, n, m, x, y, z, rfl, hp.same s1, ga, hm, fx.1, fx.2.1, fx.2.2, fun e H' s' => k1 e H' (s1.trans s'), fun r H' B e s' => k2 r H' B e (s1.trans s')⟩
    | w x y =>
      change gCons _ _ [V.str ("w" : Str), V.ref l] _ _ _
      refine ⟨_, _, rfl, _, _, rfl, rfl, ?_⟩
      walk_at "rs"
      refine ite2 (fun c => absurd c (by decide +kernel)) (fun _ => ?_)
      walk_at "rs"
      exact k1 rfl H1 s1

def spAfter (C : Addr) : Sp := fun vs H Q _ => ∃ (p c : Addr) (A : Ac) (x : Cm) (n k : Nat), vs = [.ref p, .ref c] ∧ LgAt C H p A ∧ CmAt H c x ∧ x.fine ∧ GoodA n k A ∧ k ≤ 30000 ∧
  (afterA A x = none → ∀ q H', Same H H' → H' q = some (.tup [.ref p, .bl false]) → Q (.ref q) H') ∧ ∀ q r H' B, afterA A x = some B → Same H H' → LgAt C H' r B → H' q = some (.tup [.ref r, .bl true]) → Q (.ref q) H'
theorem ok_after_command (TE : TxtE w K mg a) (T : Txt K mg a) : ∃ fd, FnOk P w K mg base CX0 8 a.d_after_command fd ["ledger", "command"] (spAfter a.C_Ledger) ∧ Binds K fd ["ledger", "command"] [] := by
  obtain ⟨fd, F, b⟩ := T.d_after_command.F
  obtain ⟨fd_done, G_done, b_done⟩ := ok_done (P := P) (w := w) (base := base) TE T
  refine ⟨fd, F.ok sc_after_command (fun vs H Q E h => ?_) (fun cdv A outer s H vs Q E hr h => ?_), b⟩
  · obtain ⟨_, _, _, _, _, _, rfl, _⟩ := h
    rfl
  · obtain ⟨p, c, A1, x, n, m, rfl, hp, hc, fx, ga, hm, k1, k2⟩ := h
    refine ⟨_, (pss_cons (ps_set (i := 2) sc_after_command.nd rfl (Or.inl rfl) (pe_call G_done (hr.mono (by decide)) rfl T.d_done.g T.d_done.kp b_done .nil pass0 (pa_cons (pv 0) (pa_cons (pv 1) pa_nil))))
      (pss_cons (ps_if (pt_cmpR op_isN (pv 2) pe_non (nomark _))
      (pss_one (ps_ret (pe_tup (pa_cons (pv 0) (pa_cons pe_bl pa_nil)))))
      pss_nil)
      (pss_one (ps_ret (pe_tup (pa_cons (pv 2) (pa_cons pe_bl pa_nil))))))), ?_⟩
    walk_at "rs"
    refine ⟨p, c, A1, x, n, m, rfl, hp, hc, fx, ga, hm, fun e H1 s1 => ?_, fun r H1 B e s1 hr1 => ?_⟩
    · walk_at "rs"
      refine ⟨(by show 2 ≤ sizeLine; decide), fun q hq => ?_⟩
      exact k1 e q _ (same_upd s1 (s1.free hq)) upd_same
    · walk_at "rs"
      refine ⟨(by show 2 ≤ sizeLine; decide), fun q hq => ?_⟩
      exact k2 q r _ B e (same_upd s1 (s1.free hq)) (hr1.same (same_new hq)) upd_same

theorem ok_law_cell (T : Txt K mg a) : ∃ fd, FnOk P w K mg base CX0 1 a.d_law_cell fd ["script", "k"] (spCell K) ∧ Binds K fd ["script", "k"] [] := by
  obtain ⟨fd, F, b⟩ := T.d_law_cell.F
  refine ⟨fd, F.ok sc_law_cell (fun vs H Q E h => ?_) (fun cdv A outer s H vs Q E hr h => ?_), b⟩
  · obtain ⟨a, ns, k, rfl, _⟩ := h
    rfl
  · obtain ⟨l, ns, k, rfl, hS, hl, hk, q⟩ := h
    refine ⟨_, (pss_cons (ps_if (pt_cmpR op_lt (pv 1) (pe_callB call_len_seq (by rfl) T.n_len PySem.boot_len (pa_cons (pv 0) pa_nil)) (nomark _))
      (pss_one (ps_ret (pe_ix ix_list (pv 0) (pv 1) (fun _ _ => rfl))))
      pss_nil)
      (pss_one (ps_ret pe_int))), ?_⟩
    refine ⟨_, rfl, _, rfl, l, _, rfl, .inl hS, _, _, rfl, rfl, _, rfl, ?_⟩
    refine ite2 (fun hlt => ?_) (fun hge => ?_)
    · have hlt : k < ((ns.map V.int).length : Int) := of_decide_eq_true hlt
      rw [List.length_map] at hlt
      have hj : k.toNat < ns.length := by omega
      have e : ns.getD k.toNat 0 = ns[k.toNat] := by rw [List.getD_eq_getElem?_getD, List.getElem?_eq_getElem hj]; rfl
      rw [e] at q
      refine ⟨_, rfl, _, rfl, l, _, k, .int ns[k.toNat], rfl, rfl, hS, at_of (j := k.toNat) (by omega) (by rw [List.getElem?_map, List.getElem?_eq_getElem hj]; rfl), q⟩
    · have hge : ¬ k < ((ns.map V.int).length : Int) := fun e => hge (decide_eq_true e)
      rw [List.length_map] at hge
      have e : ns.getD k.toNat 0 = 0 := by rw [List.getD_eq_getElem?_getD, List.getElem?_eq_none (by omega)]; rfl
      rw [e] at q
      exact q

theorem ok_law_row (T : Txt K mg a) : ∃ fd, FnOk P w K mg base CX0 1 a.d_law_row fd ["cell", "count", "size"] (spRow K) ∧ Binds K fd ["cell", "count", "size"] [] := by
  obtain ⟨fd, F, b⟩ := T.d_law_row.F
  refine ⟨fd, F.ok sc_law_row (fun vs H Q E h => ?_) (fun cdv A outer s H vs Q E hr h => ?_), b⟩
  · obtain ⟨_, _, _, rfl, _⟩ := h
    rfl
  · obtain ⟨cell, count, size, rfl, c0, c1, z0, z1, k⟩ := h
    refine ⟨_, (pss_cons (ps_set (i := 3) sc_law_row.nd rfl (Or.inl rfl) (pv 0))
      (pss_cons (ps_set (i := 4) sc_law_row.nd rfl (Or.inl rfl) (pe_lst pa_nil))
      (pss_cons (ps_for PassesOwn.never rfl (pi_range1 rfl T.n_range (pa_cons (pv 1) pa_nil)) (pg_name (i := 5) sc_law_row.nd rfl (Or.inl rfl))
      (pss_one (ps_if (pt_cmpR op_ge (pv 0) (pe_op op_pow pe_int pe_int) (nomark _))
        (pss_cons (ps_expr (pe_bm PySem.F.plainAttrs_list PySem.F.slot_list_append PySem.F.type_list_append mt_append (pv 4) (pa_cons (pe_op op_mod (pe_callTy call_int1 (by rfl) T.n_int (by decide +kernel) (pa_cons (pv 3) pa_nil)) (pv 2)) pa_nil)))
          (pss_one (ps_set (i := 3) sc_law_row.nd rfl (Or.inl rfl) (pe_op op_fdivN (pv 3) (pv 2)))))
        (pss_cons (ps_set (i := 3) sc_law_row.nd rfl (Or.inl rfl) (pe_op op_mod (pe_callTy call_int1 (by rfl) T.n_int (by decide +kernel) (pa_cons (pe_op op_add (pe_op op_mul (pv 3) pe_int) pe_int) pa_nil)) pe_int))
          (pss_one (ps_expr (pe_bm PySem.F.plainAttrs_list PySem.F.slot_list_append PySem.F.type_list_append mt_append (pv 4) (pa_cons (pe_op op_mod (pe_op op_mod (pe_callTy call_int1 (by rfl) T.n_int (by decide +kernel) (pa_cons (pe_op op_add (pe_op op_mul (pv 3) pe_int) (pe_op op_mul (pv 5) pe_int)) pa_nil)) pe_int) (pv 2)) pa_nil))))))))
      (pss_one (ps_ret (pv 4)))))), ?_⟩
    walk_at "rs"
    refine ⟨(by show 0 ≤ sizeLine; decide), fun p hp => ?_⟩
    walk_at "rs"
    refine ⟨(by show -(2 ^ 62 : Int) ≤ _; omega), (by show _ < (2 ^ 62 : Int); omega), ?_⟩
    refine for_range (lo := 0) (n := count.toNat) (fun i σ H2 => ∃ (st : Int) (row : List Int) (v5 : Option V), σ = [some (.int cell), some (.int count), some (.int size), some (.int st), some (.ref p), v5] ∧ Same H H2 ∧
      H2 p = some (.lst (row.map V.int)) ∧ row.length = i ∧ ∀ x ∈ row, 0 ≤ x ∧ x < size) ⟨_, [], _, rfl, same_new hp, upd_same, rfl, fun x hx => nomatch hx⟩ ?_ ?_
    · rintro i σ H2 hi ⟨st, row, v5, rfl, s2, hrow, hlen, hb⟩
      have fit : (row.map V.int).length < sizeLine := by
        rw [List.length_map]
        exact small1000 (by omega)
      have grow : ∀ z : Int, 0 ≤ z → z < size → ∀ x ∈ row ++ [z], 0 ≤ x ∧ x < size := fun z h0 h1 x hx => by
        rcases List.mem_append.mp hx with hx | hx
        · exact hb x hx
        · rw [List.mem_singleton.mp hx]
          exact ⟨h0, h1⟩
      walk_at "rs"
      refine ite2 (fun c1 => ?_) (fun c1 => ?_)
      · walk_at "rs"
        refine ⟨.inl ⟨rfl, _, SqL.of hrow⟩, ?_⟩
        walk_at "rs"
        refine ⟨p, _, _, rfl, rfl, hrow, fit, ?_⟩
        walk_at "rs"
        refine ⟨(show CDivN _ _ from ⟨by omega, by omega⟩), ?_⟩
        exact ⟨_, row ++ [st % size], _, rfl, same_upd s2 hp, by rw [upd_same]; simp, by simp [hlen], grow _ (Int.emod_nonneg _ (by omega)) (Int.emod_lt_of_pos _ z0)⟩
      · walk_at "rs"
        refine ⟨.inl ⟨rfl, _, SqL.of hrow⟩, ?_⟩
        walk_at "rs"
        refine ⟨p, _, _, rfl, rfl, hrow, fit, ?_⟩
        exact ⟨_, row ++ [((st * 48271 + 12345) % 2147483647 * 69621 + (i : Int) * 7919) % 2147483647 % size], _, rfl, same_upd s2 hp, by rw [upd_same]; simp, by simp [hlen], grow _ (Int.emod_nonneg _ (by omega)) (Int.emod_lt_of_pos _ z0)⟩
    · rintro σ H2 ⟨st, row, v5, rfl, s2, hrow, hlen, hb⟩
      walk_at "rs"
      exact k p row H2 s2 hrow hlen hb hp

theorem ok_law_is_integer (T : Txt K mg a) : ∃ fd, FnOk P w K mg base CX0 1 a.d_law_is_integer fd ["actual"] (spIsInt K) ∧ Binds K fd ["actual"] [] := by
  obtain ⟨fd, F, b⟩ := T.d_law_is_integer.F
  refine ⟨fd, F.ok sc_law_is_integer (fun vs H Q E h => ?_) (fun cdv A outer s H vs Q E hr h => ?_), b⟩
  · obtain ⟨_, rfl, _⟩ := h
    rfl
  · obtain ⟨i, rfl, k⟩ := h
    refine ⟨_, (pss_one (ps_ret (pe_and (pe_callB call_isi (by rfl) T.n_isinstance (by decide +kernel) (pa_cons (pv 0) (pa_cons (pe_bltn (v := .ty "int") (u := .type "int") (by rfl) T.n_int (by decide +kernel) rfl) pa_nil))) (pe_one (pe_not (pe_callB call_isi (by rfl) T.n_isinstance (by decide +kernel) (pa_cons (pv 0) (pa_cons (pe_bltn (v := .ty "bool") (u := .type "bool") (by rfl) T.n_bool (by decide +kernel) rfl) pa_nil)))))))), ?_⟩
    walk_at "rs"
    refine ⟨_, _, .type "int", .type "int", true, rfl, .ty _, .base (.int _), kit_ty (by decide +kernel), ?_⟩
    walk_at "rs"
    refine ⟨_, _, .type "int", .type "bool", false, rfl, .ty _, .base (.int _), kit_ty (by decide +kernel), ?_⟩
    walk_at "rs"
    exact k

theorem nu_tl {i : Int} (h : NOk i) : TL.tl (nu i) = TL.numL i.toNat := by
  unfold nu
  rw [← TL.tl_num, Int.toNat_of_nonneg h.1]
theorem nu_neg {n : Nat} : TL.tl (nu (Int.negSucc n)) = 45 :: TL.numL (n + 1) := by
  unfold nu
  rw [TL.tl_ofString]
  show (("-" ++ (n + 1).repr).toList.map Char.toNat) = _
  rw [String.toList_append, List.map_append]
  unfold TL.numL Nat.repr
  simp
theorem nu_len {i : Int} (h : WOk i) : (nu i).length ≤ 7 := by
  obtain ⟨h0, h1⟩ := id h
  rw [TL.len_tl]
  cases i with
  | ofNat n =>
    show (TL.tl (Str.ofString (toString ((n : Nat) : Int)))).length ≤ 7
    rw [TL.tl_num]
    exact TL.numL_len (k := 7) (by decide) (by have : ((n : Nat) : Int) ≤ 2000000 := h1; omega)
  | negSucc n =>
    rw [nu_neg, List.length_cons]
    have : n + 1 ≤ 1000 := by omega
    have := TL.numL_len (n := n + 1) (k := 4) (by decide) (by omega)
    omega
theorem nu_log {i : Int} (h : WOk i) : i.natAbs.log2 < 1920 := by
  obtain ⟨h0, h1⟩ := h
  rcases Nat.eq_zero_or_pos i.natAbs with z | z
  · rw [z]
    decide
  · have : i.natAbs.log2 < 30 := (Nat.log2_lt (Nat.ne_of_gt z)).mpr (by omega)
    omega
theorem bits_len {c : Cm} (ok : c.ok) : (c.bits.map fun x => x.length).sum ≤ 270 := by
  cases c with
  | p a b d =>
    obtain ⟨o1, o2, o3⟩ := ok
    have := nu_len o1
    have := nu_len o2
    have := nu_len o3
    simp only [Cm.bits, List.map, List.sum_cons, List.sum_nil, PySem.Str.length_append]
    have l1 : ("p" : Str).length = 1 := rfl
    have l2 : ("q" : Str).length = 1 := rfl
    have l3 : ("r" : Str).length = 1 := rfl
    omega
  | w a b =>
    obtain ⟨o1, o2⟩ := ok
    have := nu_len o1
    have := nu_len o2
    simp only [Cm.bits, List.map, List.sum_cons, List.sum_nil, PySem.Str.length_append]
    have l1 : ("w" : Str).length = 1 := rfl
    have l2 : ("x" : Str).length = 1 := rfl
    omega
  | k a b d =>
    obtain ⟨o1, o2, o3⟩ := ok
    have := nu_len o1
    have := nu_len o2
    have := nu_len o3
    simp only [Cm.bits, List.map, List.sum_cons, List.sum_nil, PySem.Str.length_append]
    have l1 : ("k" : Str).length = 1 := rfl
    have l2 : ("b" : Str).length = 1 := rfl
    have l3 : ("v" : Str).length = 1 := rfl
    omega
  | d a s =>
    obtain ⟨o1, o2, o3⟩ := ok
    have := nu_len o1
    simp only [Cm.bits, List.map, List.sum_cons, List.sum_nil, PySem.Str.length_append]
    have l1 : ("d" : Str).length = 1 := rfl
    have l2 : ("z" : Str).length = 1 := rfl
    omega
theorem join_nil_len : ∀ l : List Str, (Str.join "" l).length = (l.map fun x => x.length).sum
  | [] => rfl
  | [x] => by simp [Str.join]
  | x :: y :: r => by
    have ih := join_nil_len (y :: r)
    show ((x ++ "") ++ Str.join "" (y :: r)).length = _
    rw [PySem.Str.length_append, PySem.Str.length_append, ih]
    rfl

theorem ok_law_number (T : Txt K mg a) : ∃ fd, FnOk P w K mg base CX0 1 a.d_law_number fd ["cell"] spNumber ∧ Binds K fd ["cell"] [] := by
  obtain ⟨fd, F, b⟩ := T.d_law_number.F
  refine ⟨fd, F.ok sc_law_number (fun vs H Q E h => ?_) (fun cdv A outer s H vs Q E hr h => ?_), b⟩
  · obtain ⟨_, rfl, _⟩ := h
    rfl
  · obtain ⟨c, rfl, k⟩ := h
    refine ⟨_, (pss_cons (ps_if (pt_cmpR op_eq (pe_op op_mod (pe_callTy call_int1 (by rfl) T.n_int (by decide +kernel) (pa_cons (pv 0) pa_nil)) pe_int) pe_int (nomark _))
      (pss_one (ps_ret (pe_op op_mod (pe_op op_fdiv (pv 0) pe_int) pe_int)))
      pss_nil)
      (pss_cons (ps_if (pt_cmpR op_eq (pe_op op_mod (pe_callTy call_int1 (by rfl) T.n_int (by decide +kernel) (pa_cons (pv 0) pa_nil)) pe_int) pe_int (nomark _))
      (pss_one (ps_ret (pe_op op_mod (pe_op op_fdiv (pv 0) pe_int) pe_int)))
      pss_nil)
      (pss_one (ps_ret (pe_op op_mod (pe_op op_fdiv (pv 0) pe_int) pe_int))))), ?_⟩
    have b1 := Int.emod_nonneg (c / 3) (show (6 : Int) ≠ 0 by decide)
    have b2 := Int.emod_lt_of_pos (c / 3) (show (0 : Int) < 6 by decide)
    have b3 := Int.emod_nonneg (c / 3) (show (1000 : Int) ≠ 0 by decide)
    have b4 := Int.emod_lt_of_pos (c / 3) (show (0 : Int) < 1000 by decide)
    have b5 := Int.emod_nonneg (c / 3) (show (1000000 : Int) ≠ 0 by decide)
    have b6 := Int.emod_lt_of_pos (c / 3) (show (0 : Int) < 1000000 by decide)
    walk_at "rs"
    refine ite2 (fun c1 => ?_) (fun c1 => ?_)
    · walk_at "rs"
      exact k _ ⟨b1, by omega⟩
    · walk_at "rs"
      refine ite2 (fun c1 => ?_) (fun c1 => ?_)
      · walk_at "rs"
        exact k _ ⟨b3, by omega⟩
      · walk_at "rs"
        exact k _ ⟨b5, by omega⟩
theorem ok_law_place (T : Txt K mg a) : ∃ fd, FnOk P w K mg base CX0 1 a.d_law_place fd ["cell"] spPlace ∧ Binds K fd ["cell"] [] := by
  obtain ⟨fd, F, b⟩ := T.d_law_place.F
  refine ⟨fd, F.ok sc_law_place (fun vs H Q E h => ?_) (fun cdv A outer s H vs Q E hr h => ?_), b⟩
  · obtain ⟨_, rfl, _⟩ := h
    rfl
  · obtain ⟨c, rfl, k⟩ := h
    refine ⟨_, (pss_cons (ps_if (pt_cmpR op_eq (pe_op op_mod (pe_op op_fdiv (pe_callTy call_int1 (by rfl) T.n_int (by decide +kernel) (pa_cons (pv 0) pa_nil)) pe_int) pe_int) pe_int (nomark _))
      (pss_one (ps_ret (pe_op op_add pe_int (pe_op op_mod (pe_op op_fdiv (pe_callTy call_int1 (by rfl) T.n_int (by decide +kernel) (pa_cons (pv 0) pa_nil)) pe_int) pe_int))))
      pss_nil)
      (pss_one (ps_ret (pe_op op_mod (pe_callTy call_int1 (by rfl) T.n_int (by decide +kernel) (pa_cons (pv 0) pa_nil)) pe_int)))), ?_⟩
    have b1 := Int.emod_nonneg c (show (6 : Int) ≠ 0 by decide)
    have b2 := Int.emod_lt_of_pos c (show (0 : Int) < 6 by decide)
    have b3 := Int.emod_nonneg (c / 30) (show (994 : Int) ≠ 0 by decide)
    have b4 := Int.emod_lt_of_pos (c / 30) (show (0 : Int) < 994 by decide)
    walk_at "rs"
    refine ite2 (fun c1 => ?_) (fun c1 => ?_)
    · walk_at "rs"
      exact k _ ⟨by omega, by omega⟩
    · walk_at "rs"
      exact k _ ⟨b1, by omega⟩
theorem sgn_ok : ∀ i : Fin 27, (TL.tl "0123456789gginasmtcehlujfyo").getD i.val 0 ∈ TL.tl "0123456789ginasmtcehlujfyo" := by decide +kernel
theorem sgn_len : (TL.tl "0123456789gginasmtcehlujfyo").length = 27 := by decide +kernel
theorem at_sign {l : List Nat} {i : Int} (h0 : 0 ≤ i) (h1 : i < l.length) : atI l i = some (l.getD i.toNat 0) := by
  have e : i = (i.toNat : Int) := by omega
  rw [e]
  refine atI_nat ?_
  rw [Int.toNat_natCast, List.getD_eq_getElem?_getD, List.getElem?_eq_getElem (by omega)]
  rfl
theorem ones_sum : ∀ {ys : List Str}, (∀ y ∈ ys, y.length = 1) → (ys.map fun x => x.length).sum = ys.length
  | [], _ => rfl
  | y :: ys, h => by
    rw [List.map_cons, List.sum_cons, ones_sum fun z hz => h z (List.mem_cons_of_mem _ hz), h y List.mem_cons_self, List.length_cons]
    omega
theorem join_sgn : ∀ {ys : List Str}, (∀ y ∈ ys, Sgn y) → ∀ n ∈ TL.joinL (TL.tl "") (ys.map TL.tl), n ∈ TL.tl "0123456789ginasmtcehlujfyo"
  | [], _, n, hn => by cases hn
  | [y], h, n, hn => h y List.mem_cons_self n hn
  | y :: z :: r, h, n, hn => by
    have hn : n ∈ TL.tl y ++ ([] ++ TL.joinL (TL.tl "") ((z :: r).map TL.tl)) := hn
    rw [List.nil_append] at hn
    rcases List.mem_append.mp hn with hn | hn
    · exact h y List.mem_cons_self n hn
    · exact join_sgn (fun u hu => h u (List.mem_cons_of_mem _ hu)) n hn
theorem ok_law_code (T : Txt K mg a) : ∃ fd, FnOk P w K mg base CX0 2 a.d_law_code fd ["cell"] spCode ∧ Binds K fd ["cell"] [] := by
  obtain ⟨fd, F, b⟩ := T.d_law_code.F
  obtain ⟨fd_law_row, G_law_row, b_law_row⟩ := ok_law_row (P := P) (w := w) (base := base) T
  refine ⟨fd, F.ok sc_law_code (fun vs H Q E h => ?_) (fun cdv A outer s H vs Q E hr h => ?_), b⟩
  · obtain ⟨_, rfl, _⟩ := h
    rfl
  · obtain ⟨c, rfl, k⟩ := h
    refine ⟨_, (pss_cons (ps_set (i := 1) sc_law_code.nd rfl (Or.inr rfl) pe_str)
      (pss_cons (ps_set (i := 2) sc_law_code.nd rfl (Or.inl rfl) (pe_call G_law_row (hr.mono (by decide)) rfl T.d_law_row.g T.d_law_row.kp b_law_row .nil pass0 (pa_cons (pe_op op_fdiv (pv 0) pe_int) (pa_cons (pe_op op_mod (pe_callTy call_int1 (by rfl) T.n_int (by decide +kernel) (pa_cons (pv 0) pa_nil)) pe_int) (pa_cons pe_int pa_nil)))))
      (pss_one (ps_ret (pe_join pe_str (pe_lc (own := [("digit", 3)]) (g := (gName 3)) (tt := tYes) rfl sc_law_code.nd (pi_list (pv 2)) (blkOk_by (own := [("digit", 3)]) (N := sc_law_code_N) (sc := defScope s_law_code) (by decide +kernel)) (fun _ _ _ _ _ => (pg_name (i := 3) sc_law_code.nd rfl (Or.inl rfl))) (fun _ _ _ _ _ => pts_nil) (fun _ _ _ _ _ => (pe_ix ix_str (pv 1) (pv 3) (fun _ _ => rfl))))))))), ?_⟩
    have b1 := Int.emod_nonneg c (show (13 : Int) ≠ 0 by decide)
    have b2 := Int.emod_lt_of_pos c (show (0 : Int) < 13 by decide)
    walk_at "rs"
    refine ⟨_, _, _, rfl, b1, by omega, by decide, by decide, fun D row H1 s1 hD lrow hrow _ => ?_⟩
    refine ⟨⟨_, rfl⟩, ?_⟩
    walk_at "rs"
    refine ⟨⟨_, SqL.of hD⟩, fun D2 hD2 => ?_⟩
    have lr : row.length ≤ 12 := by rw [lrow]; omega
    refine lc_list (K := K) (a := D) (xs := row.map V.int) (fun i H2 => Same H1 H2 ∧ ∃ ys : List Str, H2 D2 = some (.lst (ys.map V.str)) ∧ ys.length = i ∧ (∀ y ∈ ys, y.length = 1) ∧ ∀ y ∈ ys, Sgn y) ⟨same_new hD2, [], upd_same, rfl, fun y hy => absurd hy List.not_mem_nil, fun y hy => absurd hy List.not_mem_nil⟩ (fun i H2 _ ⟨s2, _⟩ => SqL.of (s2 _ _ hD)) ?_ ?_
    · rintro i y H2 hy ⟨s2, ys, hd, ly, l1, sg⟩
      have hi : i < row.length := by
        have e := (List.getElem?_eq_some_iff.mp hy).1
        rwa [List.length_map] at e
      rw [at_ints hi] at hy
      cases hy
      have hz := hrow _ (getD_mem hi)
      refine ⟨rfl, ?_⟩
      walk_at "rs"
      refine ⟨_, _, _, rfl, rfl, (by rw [sizeLine_eq]; decide +kernel), at_sign (l := TL.tl "0123456789gginasmtcehlujfyo") hz.1 (by rw [sgn_len]; omega), ?_⟩
      have hs := sgn_ok ⟨(row.getD i 0).toNat, by omega⟩
      refine ⟨_, hd, by rw [List.length_map]; exact small1000 (by omega), same_upd s2 hD2, ys ++ [⟨#[(TL.tl "0123456789gginasmtcehlujfyo").getD (row.getD i 0).toNat 0]⟩], by rw [upd_same, List.map_append]; rfl, by rw [List.length_append, ly]; rfl, fun y hy => ?_, fun y hy => ?_⟩
      · rcases List.mem_append.mp hy with hy | hy
        · exact l1 y hy
        · rw [List.mem_singleton.mp hy]
          rfl
      · rcases List.mem_append.mp hy with hy | hy
        · exact sg y hy
        · rw [List.mem_singleton.mp hy]
          intro n hn
          rw [TL.tl_mk, List.mem_singleton] at hn
          rw [hn]
          exact hs
    · rintro H2 ⟨s2, ys, hd, ly, l1, sg⟩
      walk_at "rs"
      refine ⟨_, _, ys, rfl, rfl, .inl (SqL.of hd), ?_, ?_⟩
      · have e : (ys.map fun x => x.length).sum = ys.length := ones_sum l1
        rw [List.length_map] at ly
        have l0 : ("" : Str).length = 0 := rfl
        rw [e, l0]
        omega
      · have e : (ys.map fun x => x.length).sum = ys.length := ones_sum l1
        rw [List.length_map] at ly
        refine k _ H2 (s1.trans s2) ?_ ?_
        · rw [TL.join_eq, join_nil_len, e]
          omega
        · intro n hn
          rw [TL.join_eq, TL.tl_join] at hn
          exact join_sgn sg n hn
theorem ok_law_command (T : Txt K mg a) : ∃ fd, FnOk P w K mg base CX0 3 a.d_law_command fd ["cell", "more"] spMake ∧ Binds K fd ["cell", "more"] [] := by
  obtain ⟨fd, F, b⟩ := T.d_law_command.F
  obtain ⟨fd_law_place, G_law_place, b_law_place⟩ := ok_law_place (P := P) (w := w) (base := base) T
  obtain ⟨fd_law_number, G_law_number, b_law_number⟩ := ok_law_number (P := P) (w := w) (base := base) T
  obtain ⟨fd_law_code, G_law_code, b_law_code⟩ := ok_law_code (P := P) (w := w) (base := base) T
  refine ⟨fd, F.ok sc_law_command (fun vs H Q E h => ?_) (fun cdv A outer s H vs Q E hr h => ?_), b⟩
  · obtain ⟨_, _, rfl, _⟩ := h
    rfl
  · obtain ⟨c, m, rfl, k⟩ := h
    refine ⟨_, (pss_cons (ps_set (i := 2) sc_law_command.nd rfl (Or.inl rfl) (pe_call G_law_place (hr.mono (by decide)) rfl T.d_law_place.g T.d_law_place.kp b_law_place .nil pass0 (pa_cons (pe_op op_fdiv (pv 0) pe_int) pa_nil)))
      (pss_cons (ps_if (pt_cmpR op_eq (pe_op op_mod (pe_callTy call_int1 (by rfl) T.n_int (by decide +kernel) (pa_cons (pv 0) pa_nil)) pe_int) pe_int (nomark _))
      (pss_one (ps_ret (pe_tup (pa_cons pe_str (pa_cons (pv 2) (pa_cons (pe_op op_mod (pe_callTy call_int1 (by rfl) T.n_int (by decide +kernel) (pa_cons (pv 1) pa_nil)) pe_int) pa_nil))))))
      pss_nil)
      (pss_cons (ps_if (pt_cmpR op_eq (pe_op op_mod (pe_callTy call_int1 (by rfl) T.n_int (by decide +kernel) (pa_cons (pv 0) pa_nil)) pe_int) pe_int (nomark _))
      (pss_one (ps_ret (pe_tup (pa_cons pe_str (pa_cons (pv 2) (pa_cons (pe_call G_law_code (hr.mono (by decide)) rfl T.d_law_code.g T.d_law_code.kp b_law_code .nil pass0 (pa_cons (pv 1) pa_nil)) pa_nil))))))
      pss_nil)
      (pss_cons (ps_if (pt_cmpR op_eq (pe_op op_mod (pe_callTy call_int1 (by rfl) T.n_int (by decide +kernel) (pa_cons (pv 0) pa_nil)) pe_int) pe_int (nomark _))
      (pss_one (ps_ret (pe_tup (pa_cons pe_str (pa_cons (pv 2) (pa_cons (pe_call G_law_place (hr.mono (by decide)) rfl T.d_law_place.g T.d_law_place.kp b_law_place .nil pass0 (pa_cons (pe_op op_fdiv (pv 0) pe_int) pa_nil)) (pa_cons (pe_call G_law_number (hr.mono (by decide)) rfl T.d_law_number.g T.d_law_number.kp b_law_number .nil pass0 (pa_cons (pv 1) pa_nil)) pa_nil)))))))
      pss_nil)
      (pss_one (ps_ret (pe_tup (pa_cons pe_str (pa_cons (pv 2) (pa_cons (pe_call G_law_place (hr.mono (by decide)) rfl T.d_law_place.g T.d_law_place.kp b_law_place .nil pass0 (pa_cons (pe_op op_fdiv (pv 0) pe_int) pa_nil)) (pa_cons (pe_call G_law_number (hr.mono (by decide)) rfl T.d_law_number.g T.d_law_number.kp b_law_number .nil pass0 (pa_cons (pv 1) pa_nil)) pa_nil))))))))))), ?_⟩
    have b1 := Int.emod_nonneg m (show (10 : Int) ≠ 0 by decide)
    have b2 := Int.emod_lt_of_pos m (show (0 : Int) < 10 by decide)
    walk_at "rs"
    intro one ho
    walk_at "rs"
    refine ite2 (fun c1 => ?_) (fun c1 => ?_)
    · walk_at "rs"
      refine ⟨(by show 3 ≤ sizeLine; decide), fun p hp => ?_⟩
      exact k p (.w one (m % 10)) _ (same_new hp) hp upd_same ⟨ho, b1, by omega⟩
    · walk_at "rs"
      refine ite2 (fun c2 => ?_) (fun c2 => ?_)
      · walk_at "rs"
        intro z H1 s1 lz sz
        walk_at "rs"
        refine ⟨(by show 3 ≤ sizeLine; decide), fun p hp => ?_⟩
        have hpH : H p = none := by
          cases e : H p with
          | none => rfl
          | some o => rw [s1 _ _ e] at hp; cases hp
        exact k p (.d one z) _ (same_upd s1 hpH) hpH upd_same ⟨ho, lz, sz⟩
      · walk_at "rs"
        refine ite2 (fun c3 => ?_) (fun c3 => ?_)
        · walk_at "rs"
          intro two ht
          walk_at "rs"
          intro n hn
          walk_at "rs"
          refine ⟨(by show 4 ≤ sizeLine; decide), fun p hp => ?_⟩
          exact k p (.k one two n) _ (same_new hp) hp upd_same ⟨ho, ht, hn⟩
        · walk_at "rs"
          intro two ht
          walk_at "rs"
          intro n hn
          walk_at "rs"
          refine ⟨(by show 4 ≤ sizeLine; decide), fun p hp => ?_⟩
          exact k p (.p one two n) _ (same_new hp) hp upd_same ⟨ho, ht, hn⟩
theorem ok_law_text (T : Txt K mg a) : ∃ fd, FnOk P w K mg base CX0 1 a.d_law_text fd ["command"] (spText K) ∧ Binds K fd ["command"] [] := by
  obtain ⟨fd, F, b⟩ := T.d_law_text.F
  refine ⟨fd, F.ok sc_law_text (fun vs H Q E h => ?_) (fun cdv A outer s H vs Q E hr h => ?_), b⟩
  · obtain ⟨_, _, rfl, _⟩ := h
    rfl
  · obtain ⟨p, c, rfl, hp, ok, k⟩ := h
    refine ⟨_, (pss_cons (ps_if (pt_cmpR op_eq (pe_ix ix_tup (pv 0) pe_int (fun _ _ => rfl)) pe_str (nomark _))
      (pss_one (ps_ret (pe_op op_add_str (pe_op op_add_str (pe_op op_add_str (pe_op op_add_str (pe_op op_add_str pe_str (pe_callTy call_str_int (by rfl) T.n_str (by decide +kernel) (pa_cons (pe_ix ix_tup (pv 0) pe_int (fun _ _ => rfl)) pa_nil))) pe_str) (pe_callTy call_str_int (by rfl) T.n_str (by decide +kernel) (pa_cons (pe_ix ix_tup (pv 0) pe_int (fun _ _ => rfl)) pa_nil))) pe_str) (pe_callTy call_str_int (by rfl) T.n_str (by decide +kernel) (pa_cons (pe_ix ix_tup (pv 0) pe_int (fun _ _ => rfl)) pa_nil)))))
      pss_nil)
      (pss_cons (ps_if (pt_cmpR op_eq (pe_ix ix_tup (pv 0) pe_int (fun _ _ => rfl)) pe_str (nomark _))
      (pss_one (ps_ret (pe_op op_add_str (pe_op op_add_str (pe_op op_add_str pe_str (pe_callTy call_str_int (by rfl) T.n_str (by decide +kernel) (pa_cons (pe_ix ix_tup (pv 0) pe_int (fun _ _ => rfl)) pa_nil))) pe_str) (pe_callTy call_str_int (by rfl) T.n_str (by decide +kernel) (pa_cons (pe_ix ix_tup (pv 0) pe_int (fun _ _ => rfl)) pa_nil)))))
      pss_nil)
      (pss_cons (ps_if (pt_cmpR op_eq (pe_ix ix_tup (pv 0) pe_int (fun _ _ => rfl)) pe_str (nomark _))
      (pss_one (ps_ret (pe_op op_add_str (pe_op op_add_str (pe_op op_add_str (pe_op op_add_str (pe_op op_add_str pe_str (pe_callTy call_str_int (by rfl) T.n_str (by decide +kernel) (pa_cons (pe_ix ix_tup (pv 0) pe_int (fun _ _ => rfl)) pa_nil))) pe_str) (pe_callTy call_str_int (by rfl) T.n_str (by decide +kernel) (pa_cons (pe_ix ix_tup (pv 0) pe_int (fun _ _ => rfl)) pa_nil))) pe_str) (pe_callTy call_str_int (by rfl) T.n_str (by decide +kernel) (pa_cons (pe_ix ix_tup (pv 0) pe_int (fun _ _ => rfl)) pa_nil)))))
      pss_nil)
      (pss_one (ps_ret (pe_op op_add_str (pe_op op_add_str (pe_op op_add_str (pe_op op_add_str pe_str (pe_callTy call_str_int (by rfl) T.n_str (by decide +kernel) (pa_cons (pe_ix ix_tup (pv 0) pe_int (fun _ _ => rfl)) pa_nil))) pe_str) (pe_ix ix_tup (pv 0) pe_int (fun _ _ => rfl))) pe_str)))))), ?_⟩
    cases c with
    | p x y z =>
      obtain ⟨o1, o2, o3⟩ := ok
      have hp' : H p = some (.tup [.str "p", .int x, .int y, .int z]) := hp
      have l0 : ("p" : Str).length = 1 := rfl
      have l1 : ("q" : Str).length = 1 := rfl
      have l2 : ("r" : Str).length = 1 := rfl
      have n0 : (Str.ofString (toString x)).length ≤ 7 := nu_len o1
      have n1 : (Str.ofString (toString y)).length ≤ 7 := nu_len o2
      have n2 : (Str.ofString (toString z)).length ≤ 7 := nu_len o3
      walk_at "rs"
      refine ⟨p, _, _, _, rfl, rfl, SqT.of hp', rfl, ?_⟩
      walk_at "rs"
      refine ⟨p, _, _, _, rfl, rfl, SqT.of hp', rfl, ?_⟩
      walk_at "rs"
      refine ⟨nu_log o1, ?_⟩
      walk_at "rs"
      refine ⟨(by rw [sizeLine_eq]; (try simp only [PySem.Str.length_append]); omega), ?_⟩
      walk_at "rs"
      refine ⟨(by rw [sizeLine_eq]; (try simp only [PySem.Str.length_append]); omega), ?_⟩
      walk_at "rs"
      refine ⟨p, _, _, _, rfl, rfl, SqT.of hp', rfl, ?_⟩
      walk_at "rs"
      refine ⟨nu_log o2, ?_⟩
      walk_at "rs"
      refine ⟨(by rw [sizeLine_eq]; (try simp only [PySem.Str.length_append]); omega), ?_⟩
      walk_at "rs"
      refine ⟨(by rw [sizeLine_eq]; (try simp only [PySem.Str.length_append]); omega), ?_⟩
      walk_at "rs"
      refine ⟨p, _, _, _, rfl, rfl, SqT.of hp', rfl, ?_⟩
      walk_at "rs"
      refine ⟨nu_log o3, ?_⟩
      walk_at "rs"
      refine ⟨(by rw [sizeLine_eq]; (try simp only [PySem.Str.length_append]); omega), ?_⟩
      walk_at "rs"
      exact k H (Same.refl H)
    | w x y =>
      obtain ⟨o1, o2⟩ := ok
      have hp' : H p = some (.tup [.str "w", .int x, .int y]) := hp
      have l0 : ("w" : Str).length = 1 := rfl
      have l1 : ("x" : Str).length = 1 := rfl
      have n0 : (Str.ofString (toString x)).length ≤ 7 := nu_len o1
      have n1 : (Str.ofString (toString y)).length ≤ 7 := nu_len o2
      walk_at "rs"
      refine ⟨p, _, _, _, rfl, rfl, SqT.of hp', rfl, ?_⟩
      walk_at "rs"
      refine ⟨p, _, _, _, rfl, rfl, SqT.of hp', rfl, ?_⟩
      walk_at "rs"
      refine ⟨p, _, _, _, rfl, rfl, SqT.of hp', rfl, ?_⟩
      walk_at "rs"
      refine ⟨nu_log o1, ?_⟩
      walk_at "rs"
      refine ⟨(by rw [sizeLine_eq]; (try simp only [PySem.Str.length_append]); omega), ?_⟩
      walk_at "rs"
      refine ⟨(by rw [sizeLine_eq]; (try simp only [PySem.Str.length_append]); omega), ?_⟩
      walk_at "rs"
      refine ⟨p, _, _, _, rfl, rfl, SqT.of hp', rfl, ?_⟩
      walk_at "rs"
      refine ⟨nu_log o2, ?_⟩
      walk_at "rs"
      refine ⟨(by rw [sizeLine_eq]; (try simp only [PySem.Str.length_append]); omega), ?_⟩
      walk_at "rs"
      exact k H (Same.refl H)
    | k x y z =>
      obtain ⟨o1, o2, o3⟩ := ok
      have hp' : H p = some (.tup [.str "k", .int x, .int y, .int z]) := hp
      have l0 : ("k" : Str).length = 1 := rfl
      have l1 : ("b" : Str).length = 1 := rfl
      have l2 : ("v" : Str).length = 1 := rfl
      have n0 : (Str.ofString (toString x)).length ≤ 7 := nu_len o1
      have n1 : (Str.ofString (toString y)).length ≤ 7 := nu_len o2
      have n2 : (Str.ofString (toString z)).length ≤ 7 := nu_len o3
      walk_at "rs"
      refine ⟨p, _, _, _, rfl, rfl, SqT.of hp', rfl, ?_⟩
      walk_at "rs"
      refine ⟨p, _, _, _, rfl, rfl, SqT.of hp', rfl, ?_⟩
      walk_at "rs"
      refine ⟨p, _, _, _, rfl, rfl, SqT.of hp', rfl, ?_⟩
      walk_at "rs"
      refine ⟨p, _, _, _, rfl, rfl, SqT.of hp', rfl, ?_⟩
      walk_at "rs"
      refine ⟨nu_log o1, ?_⟩
      walk_at "rs"
      refine ⟨(by rw [sizeLine_eq]; (try simp only [PySem.Str.length_append]); omega), ?_⟩
      walk_at "rs"
      refine ⟨(by rw [sizeLine_eq]; (try simp only [PySem.Str.length_append]); omega), ?_⟩
      walk_at "rs"
      refine ⟨p, _, _, _, rfl, rfl, SqT.of hp', rfl, ?_⟩
      walk_at "rs"
      refine ⟨nu_log o2, ?_⟩
      walk_at "rs"
      refine ⟨(by rw [sizeLine_eq]; (try simp only [PySem.Str.length_append]); omega), ?_⟩
      walk_at "rs"
      refine ⟨(by rw [sizeLine_eq]; (try simp only [PySem.Str.length_append]); omega), ?_⟩
      walk_at "rs"
      refine ⟨p, _, _, _, rfl, rfl, SqT.of hp', rfl, ?_⟩
      walk_at "rs"
      refine ⟨nu_log o3, ?_⟩
      walk_at "rs"
      refine ⟨(by rw [sizeLine_eq]; (try simp only [PySem.Str.length_append]); omega), ?_⟩
      walk_at "rs"
      exact k H (Same.refl H)
    | d x z =>
      obtain ⟨o1, o2, o3⟩ := ok
      have hp' : H p = some (.tup [.str "d", .int x, .str z]) := hp
      have l0 : ("d" : Str).length = 1 := rfl
      have l1 : ("z" : Str).length = 1 := rfl
      have n0 : (Str.ofString (toString x)).length ≤ 7 := nu_len o1
      walk_at "rs"
      refine ⟨p, _, _, _, rfl, rfl, SqT.of hp', rfl, ?_⟩
      walk_at "rs"
      refine ⟨p, _, _, _, rfl, rfl, SqT.of hp', rfl, ?_⟩
      walk_at "rs"
      refine ⟨p, _, _, _, rfl, rfl, SqT.of hp', rfl, ?_⟩
      walk_at "rs"
      refine ⟨p, _, _, _, rfl, rfl, SqT.of hp', rfl, ?_⟩
      walk_at "rs"
      refine ⟨nu_log o1, ?_⟩
      walk_at "rs"
      refine ⟨(by rw [sizeLine_eq]; (try simp only [PySem.Str.length_append]); omega), ?_⟩
      walk_at "rs"
      refine ⟨(by rw [sizeLine_eq]; (try simp only [PySem.Str.length_append]); omega), ?_⟩
      walk_at "rs"
      refine ⟨p, _, _, _, rfl, rfl, SqT.of hp', rfl, ?_⟩
      walk_at "rs"
      refine ⟨(by rw [sizeLine_eq]; (try simp only [PySem.Str.length_append]); omega), ?_⟩
      walk_at "rs"
      refine ⟨(by rw [sizeLine_eq]; (try simp only [PySem.Str.length_append]); omega), ?_⟩
      walk_at "rs"
      exact k H (Same.refl H)

theorem ok_Reader_init (T : Txt K mg a) : ∃ fd, FnOk P w K mg base CX0 1 a.d_Reader_init fd ["self", "text"] (spRInit a.C_Reader) ∧ Binds K fd ["self", "text"] [] := by
  obtain ⟨fd, F, b⟩ := T.d_Reader_init.F
  refine ⟨fd, F.ok sc_Reader_init (fun vs H Q E h => ?_) (fun cdv A outer s H vs Q E hr h => ?_), b⟩
  · obtain ⟨_, _, _, rfl, _⟩ := h
    rfl
  · obtain ⟨p, dx, z, rfl, hp, k⟩ := h
    refine ⟨_, (pss_cons (ps_fld (pv 0) (pv 1) rfl)
      (pss_one (ps_fld (pv 0) pe_int rfl))), ?_⟩
    walk_at "rs"
    refine ⟨p, _, dx, [], rfl, hp, T.cl_Reader, T.a_Reader_text, (by show 0 < 1000; decide), ?_⟩
    walk_at "rs"
    refine ⟨p, _, dx, _, rfl, upd_same, T.cl_Reader, T.a_Reader_at, (by show 1 < 1000; decide), ?_⟩
    rw [upd_upd]
    walk_at "rs"
    refine k _ ⟨dx, ?_⟩ (fun b o n e => by rw [upd_ne n]; exact e)
    rw [upd_same]
    rfl
theorem ok_Reader_read_signs (T : Txt K mg a) : ∃ fd, FnOk P w K mg base CX0 1 a.d_Reader_read_signs fd ["self", "allowed"] (spSigns a.C_Reader) ∧ Binds K fd ["self", "allowed"] [] := by
  obtain ⟨fd, F, b⟩ := T.d_Reader_read_signs.F
  refine ⟨fd, F.ok sc_Reader_read_signs (fun vs H Q E h => ?_) (fun cdv A outer s H vs Q E hr h => ?_), b⟩
  · obtain ⟨_, _, _, _, rfl, _⟩ := h
    rfl
  · obtain ⟨p, z, al, i, rfl, ⟨dx, hp⟩, lz, li, k⟩ := h
    refine ⟨_, (pss_cons (ps_set (i := 2) sc_Reader_read_signs.nd rfl (Or.inl rfl) (pe_fld (pv 0) rfl))
      (pss_cons (ps_while PassesOwn.never (PW.pt (pw_and (pt_cmpR op_lt (pe_fld (pv 0) rfl) (pe_callB call_len_str (by rfl) T.n_len PySem.boot_len (pa_cons (pe_fld (pv 0) rfl) pa_nil)) (nomark _)) (pw_and1 (pt_cmpR op_in_sign (pe_ix ix_str (pe_fld (pv 0) rfl) (pe_fld (pv 0) rfl) (fun _ _ => rfl)) (pv 1) (by rfl)))))
      (pss_one (ps_fldaug (pv 0) pe_int in_add)))
      (pss_one (ps_ret (pe_slice sl_str (pe_fld (pv 0) rfl) (po_some (pv 2)) (po_some (pe_fld (pv 0) rfl))))))), ?_⟩
    walk_at "rs"
    refine ⟨p, _, dx, _, .int (i : Int), rfl, hp, T.cl_Reader, T.a_Reader_at, rfl, ?_⟩
    walk_at "rs"
    refine ⟨fun m σ H2 => ∃ j : Nat, m = z.length - j ∧ σ = [some (.ref p), some (.str al), some (.int (i : Int))] ∧ H2 p = some (.ins a.C_Reader dx [("text", .str z), ("at", .int (j : Int))]) ∧ (∀ b o, b ≠ p → H b = some o → H2 b = some o) ∧ i ≤ j ∧ j ≤ z.length ∧ i + runL (TL.tl al) ((TL.tl z).drop i) = j + runL (TL.tl al) ((TL.tl z).drop j),
      ⟨_, i, rfl, rfl, hp, fun b o _ e => e, Nat.le_refl _, li, rfl⟩, ?_⟩
    rintro m σ H2 ⟨j, rfl, rfl, h2, k2, ij, jz, ej⟩
    walk_at "rs"
    refine ⟨p, _, dx, _, .int (j : Int), rfl, h2, T.cl_Reader, T.a_Reader_at, rfl, ?_⟩
    walk_at "rs"
    refine ⟨p, _, dx, _, .str z, rfl, h2, T.cl_Reader, T.a_Reader_text, rfl, ?_⟩
    walk_at "rs"
    refine ⟨(by rw [sizeLine_eq]; omega), ?_⟩
    walk_at "rs"
    have fin : runL (TL.tl al) ((TL.tl z).drop j) = 0 → Q (V.str (cutS z (some (i : Int)) (some (j : Int)))) H2 := fun e0 => by
      have ejj : j = i + runL (TL.tl al) ((TL.tl z).drop i) := by omega
      have ec : cutS z (some (i : Int)) (some (j : Int)) = ⟨(((TL.tl z).drop i).take (runL (TL.tl al) ((TL.tl z).drop i))).toArray⟩ := by
        unfold cutS
        rw [HT.sIx_nat, HT.sIx_nat, Nat.min_eq_left li, Nat.min_eq_left jz, show j - i = runL (TL.tl al) ((TL.tl z).drop i) by omega]
      rw [ec]
      refine k H2 ⟨dx, ?_⟩ k2
      rw [← ejj]
      exact h2
    refine ite2 (fun c1 => ?_) (fun c1 => ?_)
    · have c1 : j < z.length := by
        have := of_decide_eq_true c1
        omega
      have c1' : j < (TL.tl z).length := by rw [← TL.len_tl]; exact c1
      walk_at "rs"
      refine ⟨p, _, dx, _, .str z, rfl, h2, T.cl_Reader, T.a_Reader_text, rfl, ?_⟩
      walk_at "rs"
      refine ⟨p, _, dx, _, .int (j : Int), rfl, h2, T.cl_Reader, T.a_Reader_at, rfl, ?_⟩
      walk_at "rs"
      obtain ⟨c, rest, ed⟩ : ∃ c rest, (TL.tl z).drop j = c :: rest := by
        cases e : (TL.tl z).drop j with
        | nil =>
          have := congrArg List.length e
          rw [List.length_drop, List.length_nil] at this
          omega
        | cons c rest => exact ⟨c, rest, rfl⟩
      have eg : (TL.tl z)[j]? = some c := by
        have : ((TL.tl z).drop j)[0]? = some c := by rw [ed]; rfl
        rw [List.getElem?_drop] at this
        simpa using this
      have er : (TL.tl z).drop (j + 1) = rest := by
        rw [← List.drop_drop, ed]
        rfl
      refine ⟨z, j, c, rfl, rfl, (by rw [sizeLine_eq]; omega), atI_nat eg, ?_⟩
      walk_at "rs"
      refine ite2 (fun c2 => ?_) (fun c2 => ?_)
      · have c2 : c ∈ TL.tl al := of_decide_eq_true c2
        have e1 : runL (TL.tl al) ((TL.tl z).drop j) = runL (TL.tl al) ((TL.tl z).drop (j + 1)) + 1 := by
          rw [ed, er, runL, if_pos c2]
        refine ⟨fun σ' H' => σ' = [some (.ref p), some (.str al), some (.int (i : Int))] ∧ H' = upd H2 p (.ins a.C_Reader dx [("text", .str z), ("at", .int ((j + 1 : Nat) : Int))]), fun σ' H' w => ?_, ?_⟩
        · obtain ⟨rfl, rfl⟩ := w
          exact ⟨z.length - (j + 1), by omega, j + 1, rfl, rfl, upd_same, fun b o n e => by rw [upd_ne n]; exact k2 b o n e, by omega, by omega, by omega⟩
        walk_at "rs"
        refine ⟨p, _, dx, _, .int (j : Int), rfl, h2, T.cl_Reader, T.a_Reader_at, rfl, ?_⟩
        walk_at "rs"
        exact ⟨dx, _, h2, (by show 2 < 1000; decide), rfl, rfl⟩
      · have c2 : ¬ c ∈ TL.tl al := fun h => c2 (decide_eq_true h)
        have e0 : runL (TL.tl al) ((TL.tl z).drop j) = 0 := by
          rw [ed, runL, if_neg c2]
        walk_at "rs"
        refine ⟨p, _, dx, _, .str z, rfl, h2, T.cl_Reader, T.a_Reader_text, rfl, ?_⟩
        walk_at "rs"
        refine ⟨p, _, dx, _, .int (j : Int), rfl, h2, T.cl_Reader, T.a_Reader_at, rfl, ?_⟩
        walk_at "rs"
        exact ⟨(by rw [sizeLine_eq]; omega), fin e0⟩
    · have c1 : ¬ j < z.length := fun h => c1 (decide_eq_true (by omega))
      have e0 : runL (TL.tl al) ((TL.tl z).drop j) = 0 := by
        rw [List.drop_eq_nil_of_le (by rw [← TL.len_tl]; omega)]
        rfl
      walk_at "rs"
      refine ⟨p, _, dx, _, .str z, rfl, h2, T.cl_Reader, T.a_Reader_text, rfl, ?_⟩
      walk_at "rs"
      refine ⟨p, _, dx, _, .int (j : Int), rfl, h2, T.cl_Reader, T.a_Reader_at, rfl, ?_⟩
      walk_at "rs"
      exact ⟨(by rw [sizeLine_eq]; omega), fin e0⟩

theorem starts_one {z : Str} {c i : Nat} (li : i ≤ z.length) : Txt.startswith3 z ⟨#[c]⟩ (i : Int) = decide ((TL.tl z)[i]? = some c) := by
  have ef : PySem.fromIndex z.length (i : Int) = i := by
    unfold PySem.fromIndex
    rw [if_neg (by omega)]
    omega
  unfold Txt.startswith3
  rw [ef]
  have h := PySem.StrLaws.subAt_one z c i
  rw [Bool.eq_iff_iff, Bool.and_eq_true, decide_eq_true_iff, decide_eq_true_iff]
  exact h
theorem ok_Reader_skip (TE : TxtE w K mg a) (T : Txt K mg a) : ∃ fd, FnOk P w K mg base (L2.CX P w) 1 a.d_Reader_skip fd ["self", "mark"] (spSkip a.C_Reader a.C_BadCommand) ∧ Binds K fd ["self", "mark"] [] := by
  obtain ⟨fd, F, b⟩ := T.d_Reader_skip.F
  refine ⟨fd, F.okX sc_Reader_skip (fun vs H Q E h => ?_) (fun cdv A outer s H vs Q E hr h => ?_), b⟩
  · obtain ⟨_, _, _, _, rfl, _⟩ := h
    rfl
  · obtain ⟨p, z, c, i, rfl, ⟨dx, hp⟩, lz, li, k1, k2⟩ := h
    refine ⟨_, (pss_cons (ps_if (pt_not (pt_val (pe_bm PySem.F.plainAttrs_str PySem.F.slot_str_startswith PySem.F.type_str_startswith mt_startswith3 (pe_fld (pv 0) rfl) (pa_cons (pv 1) (pa_cons (pe_fld (pv 0) rfl) pa_nil)))))
      (pss_one (ps_raise rfl (takes_of rfl rfl rfl rfl) (pmk_own PySem.F.excBase_ValueError TE.x_BadCommand TE.g_BadCommand TE.kc_BadCommand (raises_own TE.b_BadCommand TE.t_BadCommand) rfl)))
      pss_nil)
      (pss_one (ps_fldaug (pv 0) pe_int in_add))), ?_⟩
    walk_at "rs"
    refine ⟨p, _, dx, _, .str z, rfl, hp, T.cl_Reader, T.a_Reader_text, rfl, ?_⟩
    walk_at "rs"
    refine ⟨p, _, dx, _, .int (i : Int), rfl, hp, T.cl_Reader, T.a_Reader_at, rfl, ?_⟩
    walk_at "rs"
    refine ⟨z, _, _, rfl, rfl, ?_⟩
    rw [starts_one li]
    by_cases c0 : (TL.tl z)[i]? = some c
    · rw [decide_eq_true c0]
      walk_at "rs"
      refine ⟨p, _, dx, _, .int (i : Int), rfl, hp, T.cl_Reader, T.a_Reader_at, rfl, ?_⟩
      walk_at "rs"
      refine ⟨dx, _, hp, (by show 2 < 1000; decide), ?_⟩
      exact k1 c0 _ ⟨dx, upd_same⟩ fun b o n e => by rw [upd_ne n]; exact e
    · rw [decide_eq_false c0]
      walk_at "rs"
      exact k2 c0

theorem run_le (al : List Nat) : ∀ l : List Nat, runL al l ≤ l.length
  | [] => Nat.le_refl _
  | c :: r => by
    have := run_le al r
    rw [runL]
    split
    · rw [List.length_cons]
      omega
    · exact Nat.zero_le _
theorem run_mem (al : List Nat) : ∀ (l : List Nat), ∀ n ∈ l.take (runL al l), n ∈ al
  | [], n, h => by cases h
  | c :: r, n, h => by
    rw [runL] at h
    split at h
    · rename_i hc
      rw [List.take_succ_cons] at h
      rcases List.mem_cons.mp h with rfl | h
      · exact hc
      · exact run_mem al r n h
    · rw [List.take_zero] at h
      cases h
theorem digs_len (z : Str) (i : Nat) : (digsAt z i).length = runL (TL.tl "0123456789") ((TL.tl z).drop i) := by
  unfold digsAt
  rw [List.length_take]
  exact Nat.min_eq_left (run_le _ _)
theorem digs_all (z : Str) (i : Nat) : NumText.AllDigits (digsAt z i) := fun n hn => by
  have h := run_mem _ _ n hn
  have e : TL.tl "0123456789" = [48, 49, 50, 51, 52, 53, 54, 55, 56, 57] := by decide +kernel
  rw [e] at h
  simp only [List.mem_cons, List.not_mem_nil, or_false] at h
  omega
theorem ok_Reader_read_number (TE : TxtE w K mg a) (T : Txt K mg a) : ∃ fd, FnOk P w K mg base (L2.CX P w) 2 a.d_Reader_read_number fd ["self"] (spNumR a.C_Reader a.C_BadCommand) ∧ Binds K fd ["self"] [] := by
  obtain ⟨fd, F, b⟩ := T.d_Reader_read_number.F
  obtain ⟨fd_Reader_read_signs, G_Reader_read_signs, b_Reader_read_signs⟩ := ok_Reader_read_signs (P := P) (w := w) (base := base) T
  refine ⟨fd, F.okX sc_Reader_read_number (fun vs H Q E h => ?_) (fun cdv A outer s H vs Q E hr h => ?_), b⟩
  · obtain ⟨_, _, _, rfl, _⟩ := h
    rfl
  · obtain ⟨p, z, i, rfl, ⟨dx, hp⟩, lz, li, k1, k2⟩ := h
    refine ⟨_, (pss_cons (ps_set (i := 1) sc_Reader_read_number.nd rfl (Or.inl rfl) (pe_meth (pv 0) T.cl_Reader T.me_Reader_read_signs G_Reader_read_signs (hr.mono (by decide)) b_Reader_read_signs .nil pass0 (pa_cons (pe_glob (v := (.str "0123456789")) rfl T.c_DIGITS.choose_spec ⟨_, rfl⟩) pa_nil)))
      (pss_cons (ps_if (PW.pt (pw_or (pt_cmpR op_lt (pe_callB call_len_str (by rfl) T.n_len PySem.boot_len (pa_cons (pv 1) pa_nil)) pe_int (nomark _)) (pw_or (pt_cmpR op_gt (pe_callB call_len_str (by rfl) T.n_len PySem.boot_len (pa_cons (pv 1) pa_nil)) (pe_glob (v := (.int 6)) rfl T.c_MOST_DIGITS.choose_spec ⟨_, rfl⟩) (nomark _)) (pw_or1 (PW.pt (pw_and (pt_cmpR op_eq (pe_ix ix_str (pv 1) pe_int (fun _ _ => rfl)) pe_str (nomark _)) (pw_and1 (pt_cmpR op_ne (pv 1) pe_str (nomark _)))))))))
      (pss_one (ps_raise rfl (takes_of rfl rfl rfl rfl) (pmk_own PySem.F.excBase_ValueError TE.x_BadCommand TE.g_BadCommand TE.kc_BadCommand (raises_own TE.b_BadCommand TE.t_BadCommand) rfl)))
      pss_nil)
      (pss_one (ps_ret (pe_callTy call_int_str (by rfl) T.n_int (by decide +kernel) (pa_cons (pv 1) pa_nil)))))), ?_⟩
    walk_at "rs"
    refine ⟨p, dx, _, rfl, hp, rfl, ?_⟩
    walk_at "rs"
    refine ⟨p, z, _, i, rfl, ⟨dx, hp⟩, lz, li, fun H1 h1 kp => ?_⟩
    rw [show (⟨(((TL.tl z).drop i).take (runL (TL.tl "0123456789") ((TL.tl z).drop i))).toArray⟩ : Str) = ⟨(digsAt z i).toArray⟩ from rfl]
    rw [← digs_len] at h1
    have hall := digs_all z i
    have lw : (digsAt z i).length ≤ 1000 := by
      rw [digs_len]
      have := run_le (TL.tl "0123456789") ((TL.tl z).drop i)
      rw [List.length_drop, ← TL.len_tl] at this
      omega
    have k1 := fun g => k1 g H1 h1 kp
    have k2 := fun g => k2 g H1 kp
    generalize digsAt z i = dg at hall lw k1 k2 ⊢
    have el : (⟨dg.toArray⟩ : Str).length = dg.length := by
      rw [TL.len_tl, TL.tl_mk]
    walk_at "rs"
    refine ⟨(by rw [el, sizeLine_eq]; omega), ?_⟩
    walk_at "rs"
    refine ite2 (fun c1 => ?_) (fun c1 => ?_)
    · have c1 := of_decide_eq_true c1
      refine k2 fun g => ?_
      have := g.1
      rw [el] at c1
      omega
    · have c1 : ¬ dg.length < 1 := fun h => c1 (decide_eq_true (by rw [el]; omega))
      walk_at "rs"
      refine ⟨(by rw [el, sizeLine_eq]; omega), ?_⟩
      walk_at "rs"
      refine ite2 (fun c2 => ?_) (fun c2 => ?_)
      · have c2 := of_decide_eq_true c2
        refine k2 fun g => ?_
        have := g.2.1
        rw [el] at c2
        omega
      · have c2 : ¬ 6 < dg.length := fun h => c2 (decide_eq_true (by rw [el]; omega))
        cases dg with
        | nil => exact absurd (by decide) c1
        | cons d r =>
          walk_at "rs"
          refine ⟨_, 0, d, rfl, rfl, (by rw [el, sizeLine_eq]; omega), atI_nat (j := 0) rfl, ?_⟩
          walk_at "rs"
          have z48 : (Str.ofString "0") = ⟨#[48]⟩ := rfl
          have fin : NumW (d :: r) → (∃ (x : Str) (n : Int), [V.str ⟨(d :: r).toArray⟩] = [V.str x] ∧ PySem.intText? x = some n ∧ x.length ≤ 640 ∧ Q (.int n) H1) := fun g =>
            ⟨_, _, rfl, PySem.intText_digits (x := ⟨(d :: r).toArray⟩) hall (fun e => nomatch e) (by rw [el]; have := g.2.1; omega), by rw [el]; have := g.2.1; omega, k1 g⟩
          refine ite2 (fun c3 => ?_) (fun c3 => ?_)
          · have c3 : d = 48 := by
              have := of_decide_eq_true c3
              rw [z48] at this
              simpa using this
            walk_at "rs"
            refine ite2 (fun c4 => ?_) (fun c4 => ?_)
            · refine k2 fun g => g.2.2 ⟨by rw [c3]; rfl, fun e => ?_⟩
              rw [e, z48] at c4
              simp at c4
            · have e : d :: r = [48] := by
                rw [z48] at c4
                simp at c4
                rw [c4.1, c4.2]
              walk_at "rs"
              exact fin ⟨by rw [e]; decide, by rw [e]; decide, fun g => g.2 e⟩
          · have c3 : d ≠ 48 := fun e => c3 (by rw [e, z48]; simp)
            walk_at "rs"
            exact fin ⟨by simp, by omega, fun g => c3 (by simpa using g.1)⟩

/-- the signs of a program that stand at i -/
def codeAt (z : Str) (i : Nat) : List Nat := ((TL.tl z).drop i).take (runL (TL.tl "0123456789ginasmtcehlujfyo") ((TL.tl z).drop i))
def spCodeR (C CE : Addr) : Sp := fun vs H Q E => ∃ (p : Addr) (z : Str) (i : Nat), vs = [.ref p] ∧ RdAt C H p z i ∧ z.length ≤ 1000 ∧ i ≤ z.length ∧
  ((TL.tl z)[i + (codeAt z i).length]? = some 122 → ∀ H', RdAt C H' p z (i + (codeAt z i).length + 1) → (∀ b o, b ≠ p → H b = some o → H' b = some o) → Q (.str ⟨(codeAt z i).toArray⟩) H') ∧
  ((TL.tl z)[i + (codeAt z i).length]? ≠ some 122 → ∀ H', (∀ b o, b ≠ p → H b = some o → H' b = some o) → E (.ref CE) none H')
theorem code_len (z : Str) (i : Nat) : (codeAt z i).length = runL (TL.tl "0123456789ginasmtcehlujfyo") ((TL.tl z).drop i) := by
  unfold codeAt
  rw [List.length_take]
  exact Nat.min_eq_left (run_le _ _)
theorem ok_Reader_read_code (TE : TxtE w K mg a) (T : Txt K mg a) : ∃ fd, FnOk P w K mg base (L2.CX P w) 2 a.d_Reader_read_code fd ["self"] (spCodeR a.C_Reader a.C_BadCommand) ∧ Binds K fd ["self"] [] := by
  obtain ⟨fd, F, b⟩ := T.d_Reader_read_code.F
  obtain ⟨fd_Reader_read_signs, G_Reader_read_signs, b_Reader_read_signs⟩ := ok_Reader_read_signs (P := P) (w := w) (base := base) T
  obtain ⟨fd_Reader_skip, G_Reader_skip, b_Reader_skip⟩ := ok_Reader_skip (P := P) (w := w) (base := base) TE T
  refine ⟨fd, F.okX sc_Reader_read_code (fun vs H Q E h => ?_) (fun cdv A outer s H vs Q E hr h => ?_), b⟩
  · obtain ⟨_, _, _, rfl, _⟩ := h
    rfl
  · obtain ⟨p, z, i, rfl, ⟨dx, hp⟩, lz, li, k1, k2⟩ := h
    refine ⟨_, (pss_cons (ps_set (i := 1) sc_Reader_read_code.nd rfl (Or.inl rfl) (pe_meth (pv 0) T.cl_Reader T.me_Reader_read_signs G_Reader_read_signs (hr.mono (by decide)) b_Reader_read_signs .nil pass0 (pa_cons (pe_glob (v := (.str "0123456789ginasmtcehlujfyo")) rfl T.c_SIGNS.choose_spec ⟨_, rfl⟩) pa_nil)))
      (pss_cons (ps_expr (pe_meth (pv 0) T.cl_Reader T.me_Reader_skip G_Reader_skip (hr.mono (by decide)) b_Reader_skip .nil (L2.passes_call (W := fun c d _ H => E c d H) (E := E) (L2.takes_of rfl rfl rfl rfl) (fun _ _ _ _ h => h)) (pa_cons (pe_glob (v := (.str "z")) rfl T.c_CODE_END.choose_spec ⟨_, rfl⟩) pa_nil)))
      (pss_one (ps_ret (pv 1))))), ?_⟩
    walk_at "rs"
    refine ⟨p, dx, _, rfl, hp, rfl, ?_⟩
    walk_at "rs"
    refine ⟨p, z, _, i, rfl, ⟨dx, hp⟩, lz, li, fun H1 h1 kp => ?_⟩
    rw [show (⟨(((TL.tl z).drop i).take (runL (TL.tl "0123456789ginasmtcehlujfyo") ((TL.tl z).drop i))).toArray⟩ : Str) = ⟨(codeAt z i).toArray⟩ from rfl]
    rw [← code_len] at h1
    have lc : i + (codeAt z i).length ≤ z.length := by
      rw [code_len]
      have := run_le (TL.tl "0123456789ginasmtcehlujfyo") ((TL.tl z).drop i)
      rw [List.length_drop, ← TL.len_tl] at this
      omega
    obtain ⟨dx1, hp1⟩ := id h1
    walk_at "rs"
    refine ⟨p, dx1, _, rfl, hp1, rfl, ?_⟩
    walk_at "rs"
    refine ⟨p, z, 122, _, rfl, h1, lz, lc, fun e H2 h2 kp2 => ?_, fun e => k2 e H1 kp⟩
    walk_at "rs"
    exact k1 e H2 h2 fun b o n q => kp2 b o n (kp b o n q)

/-! ### the reader's model -/
theorem dig10 : TL.tl "0123456789" = [48, 49, 50, 51, 52, 53, 54, 55, 56, 57] := by decide +kernel
theorem run_app {al : List Nat} : ∀ {v : List Nat} {r : List Nat}, (∀ n ∈ v, n ∈ al) → runL al (v ++ r) = v.length + runL al r
  | [], r, _ => by simp
  | c :: v, r, h => by
    rw [List.cons_append, runL, if_pos (h c List.mem_cons_self), run_app fun n hn => h n (List.mem_cons_of_mem _ hn), List.length_cons]
    omega
theorem run_stop {al : List Nat} : ∀ {r : List Nat}, (∀ c, r.head? = some c → c ∉ al) → runL al r = 0
  | [], _ => rfl
  | c :: r, h => by rw [runL, if_neg (h c rfl)]
theorem run_cut {al v r : List Nat} (h : ∀ n ∈ v, n ∈ al) (hr : ∀ c, r.head? = some c → c ∉ al) : runL al (v ++ r) = v.length := by
  rw [run_app h, run_stop hr]
  rfl
instance decNumW (v : List Nat) : Decidable (NumW v) := by unfold NumW; infer_instance
def numP (l : List Nat) : Option (V × List Nat) :=
  if NumW (l.take (runL (TL.tl "0123456789") l)) then some (.int (NumText.digitsVal (l.take (runL (TL.tl "0123456789") l)) : Nat), l.drop (runL (TL.tl "0123456789") l)) else none
def codeP (l : List Nat) : Option (V × List Nat) :=
  if l[runL (TL.tl "0123456789ginasmtcehlujfyo") l]? = some 122 then some (.str ⟨(l.take (runL (TL.tl "0123456789ginasmtcehlujfyo") l)).toArray⟩, l.drop (runL (TL.tl "0123456789ginasmtcehlujfyo") l + 1)) else none
def partP (m : Nat) : List Nat → Option (V × List Nat)
  | [] => none
  | c :: r => if c = m then (if m = 122 then codeP r else numP r) else none
def partsP : List Nat → List Nat → Option (List V × List Nat)
  | [], l => some ([], l)
  | m :: ms, l => match partP m l with
    | none => none
    | some (v, r) => match partsP ms r with
      | none => none
      | some (vs, q) => some (v :: vs, q)
theorem numL_head2 : ∀ (n : Nat), 0 < n → (TL.numL n).head? ≠ some 48
  | n, h => by
    rcases Nat.lt_or_ge n 10 with z | z
    · rw [TL.numL_lt z]
      simp
      omega
    · rw [TL.numL_step z]
      have ih := numL_head2 (n / 10) (by omega)
      have ne := TL.numL_ne (n / 10)
      cases e : TL.numL (n / 10) with
      | nil => exact absurd e ne
      | cons c l =>
        rw [e] at ih
        exact ih
theorem numL_long : ∀ (k n : Nat), 10 ^ k ≤ n → k < (TL.numL n).length
  | 0, n, _ => List.length_pos_iff.mpr (TL.numL_ne n)
  | k + 1, n, h => by
    have p : 0 < 10 ^ k := Nat.pow_pos (by decide)
    rw [Nat.pow_succ] at h
    have := numL_long k (n / 10) (by omega)
    rw [TL.numL_step (by omega), List.length_append, List.length_singleton]
    omega
theorem digs_toNat : ∀ {v : List Nat}, NumText.AllDigits v → (v.map Char.ofNat).map Char.toNat = v
  | [], _ => rfl
  | c :: v, h => by
    have hc := h c List.mem_cons_self
    have ih := digs_toNat (v := v) fun n hn => h n (List.mem_cons_of_mem _ hn)
    rw [List.map_cons, List.map_cons, ih]
    congr 1
    have : ∀ i : Fin 58, (Char.ofNat i.val).toNat = i.val := by decide +kernel
    exact this ⟨c, by omega⟩
theorem num_back {v : List Nat} (h : NumW v) (d : NumText.AllDigits v) : NOk (NumText.digitsVal v : Nat) ∧ TL.tl (nu (NumText.digitsVal v : Nat)) = v := by
  obtain ⟨h1, h2, h3⟩ := h
  have e : TL.numL (NumText.digitsVal v) = v := by
    unfold TL.numL
    rw [NumText.toDigits_digitsVal (v.length - 1) v (by omega) d, digs_toNat d]
    rcases Nat.lt_or_ge 1 v.length with z | z
    · right
      cases v with
      | nil => simp at h1
      | cons c r =>
        refine ⟨c, r, rfl, ?_⟩
        have hc := d c List.mem_cons_self
        rcases Nat.lt_or_ge c 49 with y | y
        · exfalso
          refine h3 ⟨?_, fun q => ?_⟩
          · have : c = 48 := by omega
            rw [this]
            rfl
          · rw [q] at z
            simp at z
        · exact y
    · left
      omega
  refine ⟨⟨Int.natCast_nonneg _, ?_⟩, ?_⟩
  · rcases Nat.lt_or_ge (NumText.digitsVal v) (10 ^ 6) with z | z
    · have : (10 : Nat) ^ 6 = 1000000 := by decide
      omega
    · have := numL_long 6 _ z
      rw [e] at this
      omega
  · show TL.tl (Str.ofString (toString ((NumText.digitsVal v : Nat) : Int))) = v
    rw [TL.tl_num, e]
theorem take_run_digits (l : List Nat) : NumText.AllDigits (l.take (runL (TL.tl "0123456789") l)) := fun n hn => by
  have h := run_mem _ _ n hn
  rw [dig10] at h
  simp only [List.mem_cons, List.not_mem_nil, or_false] at h
  omega
theorem numP_ok {l : List Nat} {v : V} {r : List Nat} (h : numP l = some (v, r)) : ∃ i, v = .int i ∧ NOk i ∧ TL.tl (nu i) ++ r = l := by
  unfold numP at h
  split at h
  · rename_i c
    cases h
    obtain ⟨h1, h2⟩ := num_back c (take_run_digits l)
    refine ⟨_, rfl, h1, ?_⟩
    rw [h2]
    exact List.take_append_drop _ _
  · cases h
theorem codeP_ok {l : List Nat} {v : V} {r : List Nat} (h : codeP l = some (v, r)) : ∃ s : Str, v = .str s ∧ Sgn s ∧ TL.tl s ++ 122 :: r = l := by
  unfold codeP at h
  split at h
  · rename_i c
    cases h
    refine ⟨_, rfl, fun n hn => run_mem _ _ n hn, ?_⟩
    rw [TL.tl_mk]
    have hlt := (List.getElem?_eq_some_iff.mp c).1
    have e : l.drop (runL (TL.tl "0123456789ginasmtcehlujfyo") l) = 122 :: l.drop (runL (TL.tl "0123456789ginasmtcehlujfyo") l + 1) := by
      rw [List.drop_eq_getElem_cons hlt, (List.getElem?_eq_some_iff.mp c).2]
    rw [← e]
    exact List.take_append_drop _ _
  · cases h
theorem partP_ok {m : Nat} {l : List Nat} {v : V} {r : List Nat} (h : partP m l = some (v, r)) : (m ≠ 122 ∧ ∃ i, v = .int i ∧ NOk i ∧ m :: (TL.tl (nu i) ++ r) = l) ∨ (m = 122 ∧ ∃ s : Str, v = .str s ∧ Sgn s ∧ 122 :: (TL.tl s ++ 122 :: r) = l) := by
  cases l with
  | nil => cases h
  | cons c q =>
    rw [partP] at h
    split at h
    · rename_i e
      subst e
      split at h
      · rename_i e
        obtain ⟨s, h1, h2, h3⟩ := codeP_ok h
        exact .inr ⟨e, s, h1, h2, by rw [h3, e]⟩
      · rename_i e
        obtain ⟨i, h1, h2, h3⟩ := numP_ok h
        exact .inl ⟨e, i, h1, h2, by rw [h3]⟩
    · cases h
theorem partP_int {m : Nat} {l : List Nat} {v : V} {r : List Nat} (hm : m ≠ 122) (h : partP m l = some (v, r)) : ∃ i, v = .int i ∧ NOk i ∧ m :: (TL.tl (nu i) ++ r) = l := by
  rcases partP_ok h with ⟨_, h⟩ | ⟨h, _⟩
  · exact h
  · exact absurd h hm
theorem partP_code {l : List Nat} {v : V} {r : List Nat} (h : partP 122 l = some (v, r)) : ∃ s : Str, v = .str s ∧ Sgn s ∧ 122 :: (TL.tl s ++ 122 :: r) = l := by
  rcases partP_ok h with ⟨h, _⟩ | ⟨_, h⟩
  · exact absurd rfl h
  · exact h
theorem partsP_cons {m : Nat} {ms l : List Nat} {vs : List V} {q : List Nat} (h : partsP (m :: ms) l = some (vs, q)) : ∃ v r us, partP m l = some (v, r) ∧ partsP ms r = some (us, q) ∧ vs = v :: us := by
  rw [partsP] at h
  split at h
  · cases h
  · rename_i v r e
    split at h
    · cases h
    · rename_i us q' e2
      cases h
      exact ⟨v, r, us, e, e2, rfl⟩
theorem partsP_nil {l : List Nat} {vs : List V} {q : List Nat} (h : partsP [] l = some (vs, q)) : vs = [] ∧ q = l := by
  cases h
  exact ⟨rfl, rfl⟩
def kdOf (c : Nat) : Option (List Nat) := if c = 112 then some [112, 113, 114] else if c = 119 then some [119, 120] else if c = 100 then some [100, 122] else if c = 107 then some [107, 98, 118] else none
def mkC (c : Nat) : List V → Cm
  | [.int a, .int b, .int d] => if c = 112 then .p a b d else .k a b d
  | [.int a, .int b] => .w a b
  | [.int a, .str s] => .d a s
  | _ => default
def cmdP : List Nat → Option (Cm × List Nat)
  | [] => none
  | c :: r => match kdOf c with
    | none => none
    | some ms => match partsP ms (c :: r) with
      | none => none
      | some (vs, q) => some (mkC c vs, q)
theorem tl1 {c : Nat} : TL.tl ⟨#[c]⟩ = [c] := rfl
theorem mk_ok {c : Nat} {ms r : List Nat} {vs : List V} {q : List Nat} (hk : kdOf c = some ms) (h : partsP ms (c :: r) = some (vs, q)) :
    (mkC c vs).ki = ⟨#[c]⟩ ∧ (mkC c vs).ps = vs ∧ TL.tl (mkC c vs).txt ++ q = c :: r ∧ (mkC c vs).right := by
  unfold kdOf at hk
  split at hk
  · rename_i e
    cases hk
    subst e
    obtain ⟨v1, r1, u1, a1, b1, rfl⟩ := partsP_cons h
    obtain ⟨v2, r2, u2, a2, b2, rfl⟩ := partsP_cons b1
    obtain ⟨v3, r3, u3, a3, b3, rfl⟩ := partsP_cons b2
    obtain ⟨rfl, rfl⟩ := partsP_nil b3
    obtain ⟨i1, rfl, o1, e1⟩ := partP_int (by decide) a1
    obtain ⟨i2, rfl, o2, e2⟩ := partP_int (by decide) a2
    obtain ⟨i3, rfl, o3, e3⟩ := partP_int (by decide) a3
    refine ⟨rfl, rfl, ?_, o1, o2, o3⟩
    rw [← e1, ← e2, ← e3]
    show TL.tl ("p" ++ nu i1 ++ "q" ++ nu i2 ++ "r" ++ nu i3) ++ q = _
    simp only [TL.tl_append, List.append_assoc]
    rfl
  · split at hk
    · rename_i e
      cases hk
      subst e
      obtain ⟨v1, r1, u1, a1, b1, rfl⟩ := partsP_cons h
      obtain ⟨v2, r2, u2, a2, b2, rfl⟩ := partsP_cons b1
      obtain ⟨rfl, rfl⟩ := partsP_nil b2
      obtain ⟨i1, rfl, o1, e1⟩ := partP_int (by decide) a1
      obtain ⟨i2, rfl, o2, e2⟩ := partP_int (by decide) a2
      refine ⟨rfl, rfl, ?_, o1, o2⟩
      rw [← e1, ← e2]
      show TL.tl ("w" ++ nu i1 ++ "x" ++ nu i2) ++ q = _
      simp only [TL.tl_append, List.append_assoc]
      rfl
    · split at hk
      · rename_i e
        cases hk
        subst e
        obtain ⟨v1, r1, u1, a1, b1, rfl⟩ := partsP_cons h
        obtain ⟨v2, r2, u2, a2, b2, rfl⟩ := partsP_cons b1
        obtain ⟨rfl, rfl⟩ := partsP_nil b2
        obtain ⟨i1, rfl, o1, e1⟩ := partP_int (by decide) a1
        obtain ⟨i2, rfl, o2, e2⟩ := partP_code a2
        refine ⟨rfl, rfl, ?_, o1, o2⟩
        rw [← e1, ← e2]
        show TL.tl ("d" ++ nu i1 ++ "z" ++ i2 ++ "z") ++ q = _
        simp only [TL.tl_append, List.append_assoc]
        rfl
      · split at hk
        · rename_i e
          cases hk
          subst e
          obtain ⟨v1, r1, u1, a1, b1, rfl⟩ := partsP_cons h
          obtain ⟨v2, r2, u2, a2, b2, rfl⟩ := partsP_cons b1
          obtain ⟨v3, r3, u3, a3, b3, rfl⟩ := partsP_cons b2
          obtain ⟨rfl, rfl⟩ := partsP_nil b3
          obtain ⟨i1, rfl, o1, e1⟩ := partP_int (by decide) a1
          obtain ⟨i2, rfl, o2, e2⟩ := partP_int (by decide) a2
          obtain ⟨i3, rfl, o3, e3⟩ := partP_int (by decide) a3
          refine ⟨rfl, rfl, ?_, o1, o2, o3⟩
          rw [← e1, ← e2, ← e3]
          show TL.tl ("k" ++ nu i1 ++ "b" ++ nu i2 ++ "v" ++ nu i3) ++ q = _
          simp only [TL.tl_append, List.append_assoc]
          rfl
        · cases hk
theorem cmdP_ok {l : List Nat} {x : Cm} {q : List Nat} (h : cmdP l = some (x, q)) : TL.tl x.txt ++ q = l ∧ x.right := by
  cases l with
  | nil => cases h
  | cons c r =>
    rw [cmdP] at h
    split at h
    · cases h
    · rename_i ms hk
      split at h
      · cases h
      · rename_i vs q' hp
        cases h
        exact (mk_ok hk hp).2.2
def NoDig (r : List Nat) : Prop := ∀ c, r.head? = some c → c ∉ TL.tl "0123456789"
theorem num_w {i : Int} (h : NOk i) : NumW (TL.tl (nu i)) := by
  obtain ⟨h0, h1⟩ := id h
  rw [nu_tl h]
  refine ⟨List.length_pos_iff.mpr (TL.numL_ne _), TL.numL_len (by decide) (by omega), fun ⟨g1, g2⟩ => ?_⟩
  rcases Nat.eq_zero_or_pos i.toNat with z | z
  · rw [z] at g2
    exact g2 (by decide +kernel)
  · exact numL_head2 _ z g1
theorem numP_nu {i : Int} (h : NOk i) {r : List Nat} (hr : NoDig r) : numP (TL.tl (nu i) ++ r) = some (.int i, r) := by
  have hd : ∀ n ∈ TL.tl (nu i), n ∈ TL.tl "0123456789" := fun n hn => by
    rw [nu_tl h] at hn
    have := TL.numL_digits _ n hn
    rw [dig10]
    simp only [List.mem_cons, List.not_mem_nil, or_false]
    omega
  have er : runL (TL.tl "0123456789") (TL.tl (nu i) ++ r) = (TL.tl (nu i)).length := run_cut hd hr
  unfold numP
  rw [er, List.take_left', List.drop_left', if_pos (num_w h)]
  · rw [nu_tl h, TL.numL_val, Int.toNat_of_nonneg h.1]
  · rfl
  · rfl
theorem codeP_s {s : Str} (h : Sgn s) {r : List Nat} : codeP (TL.tl s ++ 122 :: r) = some (.str s, r) := by
  have er : runL (TL.tl "0123456789ginasmtcehlujfyo") (TL.tl s ++ 122 :: r) = (TL.tl s).length := run_cut h fun c hc => by
    cases hc
    decide +kernel
  unfold codeP
  have e1 : (TL.tl s ++ 122 :: r).drop ((TL.tl s).length + 1) = r := by
    rw [← List.drop_drop, List.drop_left' rfl]
    rfl
  have e2 : (TL.tl s ++ 122 :: r)[(TL.tl s).length]? = some 122 := by
    rw [List.getElem?_append_right (Nat.le_refl _), Nat.sub_self]
    rfl
  rw [er, if_pos e2, List.take_left' rfl, e1]
theorem partP_nu {m : Nat} (hm : m ≠ 122) {i : Int} (h : NOk i) {r : List Nat} (hr : NoDig r) : partP m (m :: (TL.tl (nu i) ++ r)) = some (.int i, r) := by
  rw [partP, if_pos rfl, if_neg hm]
  exact numP_nu h hr
theorem partP_s {s : Str} (h : Sgn s) {r : List Nat} : partP 122 (122 :: (TL.tl s ++ 122 :: r)) = some (.str s, r) := by
  rw [partP, if_pos rfl, if_pos rfl]
  exact codeP_s h
theorem noDig_cons {c : Nat} {r : List Nat} (h : c ∉ TL.tl "0123456789") : NoDig (c :: r) := fun d hd => by
  cases hd
  exact h
theorem partsP_step {m : Nat} {ms l : List Nat} {v : V} {r : List Nat} {us : List V} {q : List Nat} (h1 : partP m l = some (v, r)) (h2 : partsP ms r = some (us, q)) : partsP (m :: ms) l = some (v :: us, q) := by
  rw [partsP, h1]
  dsimp only
  rw [h2]
theorem partsP_end (r : List Nat) : partsP [] r = some ([], r) := rfl
theorem cmdP_txt {x : Cm} (h : x.right) {r : List Nat} (hr : NoDig r) : cmdP (TL.tl x.txt ++ r) = some (x, r) := by
  cases x with
  | p a b c =>
    obtain ⟨o1, o2, o3⟩ := h
    have e : TL.tl (Cm.p a b c).txt ++ r = 112 :: (TL.tl (nu a) ++ 113 :: (TL.tl (nu b) ++ 114 :: (TL.tl (nu c) ++ r))) := by
      show TL.tl ("p" ++ nu a ++ "q" ++ nu b ++ "r" ++ nu c) ++ r = _
      simp only [TL.tl_append, List.append_assoc]
      rfl
    have hp := partsP_step (partP_nu (m := 112) (by decide) o1 (noDig_cons (by decide +kernel))) (partsP_step (partP_nu (m := 113) (by decide) o2 (noDig_cons (by decide +kernel))) (partsP_step (partP_nu (m := 114) (by decide) o3 hr) (partsP_end r)))
    have hk : kdOf 112 = some [112, 113, 114] := rfl
    rw [e, cmdP, hk]
    dsimp only
    rw [hp]
    rfl
  | w a b =>
    obtain ⟨o1, o2⟩ := h
    have e : TL.tl (Cm.w a b).txt ++ r = 119 :: (TL.tl (nu a) ++ 120 :: (TL.tl (nu b) ++ r)) := by
      show TL.tl ("w" ++ nu a ++ "x" ++ nu b) ++ r = _
      simp only [TL.tl_append, List.append_assoc]
      rfl
    have hp := partsP_step (partP_nu (m := 119) (by decide) o1 (noDig_cons (by decide +kernel))) (partsP_step (partP_nu (m := 120) (by decide) o2 hr) (partsP_end r))
    have hk : kdOf 119 = some [119, 120] := rfl
    rw [e, cmdP, hk]
    dsimp only
    rw [hp]
    rfl
  | k a b c =>
    obtain ⟨o1, o2, o3⟩ := h
    have e : TL.tl (Cm.k a b c).txt ++ r = 107 :: (TL.tl (nu a) ++ 98 :: (TL.tl (nu b) ++ 118 :: (TL.tl (nu c) ++ r))) := by
      show TL.tl ("k" ++ nu a ++ "b" ++ nu b ++ "v" ++ nu c) ++ r = _
      simp only [TL.tl_append, List.append_assoc]
      rfl
    have hp := partsP_step (partP_nu (m := 107) (by decide) o1 (noDig_cons (by decide +kernel))) (partsP_step (partP_nu (m := 98) (by decide) o2 (noDig_cons (by decide +kernel))) (partsP_step (partP_nu (m := 118) (by decide) o3 hr) (partsP_end r)))
    have hk : kdOf 107 = some [107, 98, 118] := rfl
    rw [e, cmdP, hk]
    dsimp only
    rw [hp]
    rfl
  | d a s =>
    obtain ⟨o1, o2⟩ := h
    have e : TL.tl (Cm.d a s).txt ++ r = 100 :: (TL.tl (nu a) ++ 122 :: (TL.tl s ++ 122 :: r)) := by
      show TL.tl ("d" ++ nu a ++ "z" ++ s ++ "z") ++ r = _
      simp only [TL.tl_append, List.append_assoc]
      rfl
    have hp := partsP_step (partP_nu (m := 100) (by decide) o1 (noDig_cons (by decide +kernel))) (partsP_step (partP_s o2 (r := r)) (partsP_end r))
    have hk : kdOf 100 = some [100, 122] := rfl
    rw [e, cmdP, hk]
    dsimp only
    rw [hp]
    rfl
def cmdsP : Nat → List Nat → Option (List Cm)
  | _, [] => some []
  | 0, _ :: _ => none
  | n + 1, c :: r => match cmdP (c :: r) with
    | none => none
    | some (x, q) => match cmdsP n q with
      | none => none
      | some xs => some (x :: xs)
def cmdsOf (z : Str) : List Cm := (cmdsP z.length (TL.tl z)).getD []
def catL (xs : List Cm) : List Nat := (xs.map fun c => TL.tl c.txt).flatten
theorem tl_cat : ∀ xs : List Cm, TL.tl (cat xs) = catL xs := fun xs => by
  have h : ∀ (xs : List Cm) (z : Str), TL.tl (xs.foldl (fun z c => z ++ c.txt) z) = TL.tl z ++ catL xs := fun xs => by
    induction xs with
    | nil => intro z; simp [catL]
    | cons c xs ih =>
      intro z
      rw [List.foldl_cons, ih, TL.tl_append]
      simp [catL, List.append_assoc]
  have := h xs Str.empty
  have e : TL.tl Str.empty = [] := rfl
  rw [e, List.nil_append] at this
  exact this
theorem cmdsP_ok : ∀ (n : Nat) (l : List Nat) (xs : List Cm), cmdsP n l = some xs → catL xs = l ∧ ∀ x ∈ xs, x.right
  | n, [], xs, h => by
    have : xs = [] := by cases n <;> (cases h; rfl)
    subst this
    exact ⟨rfl, fun x hx => absurd hx List.not_mem_nil⟩
  | 0, c :: r, xs, h => by cases h
  | n + 1, c :: r, xs, h => by
    rw [cmdsP] at h
    split at h
    · cases h
    · rename_i x q hx
      split at h
      · cases h
      · rename_i ys hy
        cases h
        obtain ⟨e1, g1⟩ := cmdP_ok hx
        obtain ⟨e2, g2⟩ := cmdsP_ok n q ys hy
        refine ⟨?_, fun y hy => ?_⟩
        · rw [← e1, ← e2]
          simp [catL]
        · rcases List.mem_cons.mp hy with rfl | hy
          · exact g1
          · exact g2 y hy
theorem txt_first (x : Cm) : ∃ c r, TL.tl x.txt = c :: r ∧ c ∉ TL.tl "0123456789" := by
  cases x with
  | p a b c => exact ⟨112, _, by show TL.tl ("p" ++ nu a ++ "q" ++ nu b ++ "r" ++ nu c) = _; simp only [TL.tl_append, List.append_assoc]; rfl, by decide +kernel⟩
  | w a b => exact ⟨119, _, by show TL.tl ("w" ++ nu a ++ "x" ++ nu b) = _; simp only [TL.tl_append, List.append_assoc]; rfl, by decide +kernel⟩
  | k a b c => exact ⟨107, _, by show TL.tl ("k" ++ nu a ++ "b" ++ nu b ++ "v" ++ nu c) = _; simp only [TL.tl_append, List.append_assoc]; rfl, by decide +kernel⟩
  | d a s => exact ⟨100, _, by show TL.tl ("d" ++ nu a ++ "z" ++ s ++ "z") = _; simp only [TL.tl_append, List.append_assoc]; rfl, by decide +kernel⟩
theorem catL_cons (x : Cm) (xs : List Cm) : catL (x :: xs) = TL.tl x.txt ++ catL xs := by simp [catL]
theorem catL_noDig : ∀ xs : List Cm, NoDig (catL xs)
  | [] => fun c h => by cases h
  | x :: xs => by
    obtain ⟨c, r, e, h⟩ := txt_first x
    rw [catL_cons, e]
    exact noDig_cons h
theorem cmdsP_cat : ∀ (xs : List Cm) (n : Nat), (∀ x ∈ xs, x.right) → xs.length ≤ n → cmdsP n (catL xs) = some xs
  | [], n, _, _ => by cases n <;> rfl
  | x :: xs, 0, _, h => by simp at h
  | x :: xs, n + 1, g, h => by
    have ih := cmdsP_cat xs n (fun y hy => g y (List.mem_cons_of_mem _ hy)) (by simpa using h)
    have hx := cmdP_txt (g x List.mem_cons_self) (catL_noDig xs)
    obtain ⟨c, r, e, _⟩ := txt_first x
    rw [catL_cons]
    rw [e, List.cons_append] at hx ⊢
    rw [cmdsP, hx]
    dsimp only
    rw [ih]
theorem cat_long : ∀ xs : List Cm, xs.length ≤ (catL xs).length
  | [] => Nat.le_refl _
  | x :: xs => by
    have := cat_long xs
    obtain ⟨c, r, e, _⟩ := txt_first x
    rw [catL_cons, List.length_append, e, List.length_cons, List.length_cons]
    omega
theorem cmdsOf_cat {xs : List Cm} (g : ∀ x ∈ xs, x.right) : cmdsOf (cat xs) = xs := by
  unfold cmdsOf
  rw [TL.len_tl, tl_cat, cmdsP_cat xs _ g (cat_long xs)]
  rfl
theorem cat_one (x : Cm) : cat [x] = x.txt := by
  refine TL.ext_tl ?_
  rw [tl_cat]
  simp [catL]
theorem cmdsOf_one {x : Cm} (g : x.right) : cmdsOf x.txt = [x] := by
  have := cmdsOf_cat (xs := [x]) fun y hy => by rw [List.mem_singleton.mp hy]; exact g
  rwa [cat_one] at this
theorem cmdsOf_right {z : Str} : ∀ x ∈ cmdsOf z, x.right := by
  unfold cmdsOf
  cases e : cmdsP z.length (TL.tl z) with
  | none => intro x hx; cases hx
  | some xs => exact (cmdsP_ok _ _ _ e).2
theorem cmdsOf_text {z : Str} : cmdsOf z = [] ∨ cat (cmdsOf z) = z := by
  unfold cmdsOf
  cases e : cmdsP z.length (TL.tl z) with
  | none => exact .inl rfl
  | some xs =>
    refine .inr (TL.ext_tl ?_)
    rw [tl_cat]
    exact (cmdsP_ok _ _ _ e).1
theorem cmdsOf_iff {x : Cm} : cmdsOf x.txt = [x] ↔ x.right := ⟨fun h => cmdsOf_right x (by rw [h]; exact List.mem_singleton.mpr rfl), cmdsOf_one⟩
theorem cmdsOf_long (z : Str) : (cmdsOf z).length ≤ z.length := by
  rcases cmdsOf_text (z := z) with h | h
  · rw [h]
    exact Nat.zero_le _
  · have := cat_long (cmdsOf z)
    rw [← tl_cat, h, ← TL.len_tl] at this
    exact this

def spReadC (C CE : Addr) : Sp := fun vs H Q E => ∃ (p : Addr) (z : Str) (i : Nat), vs = [.ref p] ∧ RdAt C H p z i ∧ z.length ≤ 1000 ∧ i < z.length ∧
  (∀ c q, cmdP ((TL.tl z).drop i) = some (c, q) → q = (TL.tl z).drop (i + c.txt.length) → i + c.txt.length ≤ z.length → ∀ t H', RdAt C H' p z (i + c.txt.length) → (∀ b o, b ≠ p → H b = some o → H' b = some o) → H t = none → CmAt H' t c → Q (.ref t) H') ∧
  (cmdP ((TL.tl z).drop i) = none → ∀ H', (∀ b o, b ≠ p → H b = some o → H' b = some o) → E (.ref CE) none H')
/-- what stands before each part, by its sign -/
def mksV (ms : List Nat) : List V := ms.map fun m => V.str ⟨#[m]⟩
theorem sign_ne {c d : Nat} (h : c ≠ d) : ((⟨#[c]⟩ : Str) == ⟨#[d]⟩) = false := beq_eq_false_iff_ne.mpr fun e => h (by simpa using e)
theorem marks_get (TE : TxtE w K mg a) (c : Nat) : (kdOf c = none ∧ [(("p" : Str), a.M_MARKS_p), ("w", a.M_MARKS_w), ("d", a.M_MARKS_d), ("k", a.M_MARKS_k)].lookup ⟨#[c]⟩ = none) ∨
    ∃ ms M, kdOf c = some ms ∧ [(("p" : Str), a.M_MARKS_p), ("w", a.M_MARKS_w), ("d", a.M_MARKS_d), ("k", a.M_MARKS_k)].lookup ⟨#[c]⟩ = some M ∧ (∀ H, SqT K H M (mksV ms)) ∧ ms.length ≤ 3 := by
  by_cases h1 : c = 112
  · subst h1
    exact .inr ⟨_, _, rfl, rfl, fun H => TE.s_MARKS_p H, by decide⟩
  by_cases h2 : c = 119
  · subst h2
    exact .inr ⟨_, _, rfl, rfl, fun H => TE.s_MARKS_w H, by decide⟩
  by_cases h3 : c = 100
  · subst h3
    exact .inr ⟨_, _, rfl, rfl, fun H => TE.s_MARKS_d H, by decide⟩
  by_cases h4 : c = 107
  · subst h4
    exact .inr ⟨_, _, rfl, rfl, fun H => TE.s_MARKS_k H, by decide⟩
  refine .inl ⟨by rw [kdOf, if_neg h1, if_neg h2, if_neg h3, if_neg h4], ?_⟩
  show [((⟨#[112]⟩ : Str), a.M_MARKS_p), (⟨#[119]⟩, a.M_MARKS_w), (⟨#[100]⟩, a.M_MARKS_d), (⟨#[107]⟩, a.M_MARKS_k)].lookup ⟨#[c]⟩ = none
  simp only [List.lookup, sign_ne h1, sign_ne h2, sign_ne h3, sign_ne h4]
/-- what is to come, behind the parts read so far -/
def contP (us : List V) (o : Option (List V × List Nat)) : Option (List V × List Nat) := o.map fun x => (us ++ x.1, x.2)
theorem contP_step {us : List V} {m : Nat} {ms l : List Nat} {v : V} {r : List Nat} (h : partP m l = some (v, r)) : contP us (partsP (m :: ms) l) = contP (us ++ [v]) (partsP ms r) := by
  rw [partsP, h]
  dsimp only
  cases partsP ms r with
  | none => rfl
  | some x => simp [contP]
theorem ok_Reader_read_command (TE : TxtE w K mg a) (T : Txt K mg a) : ∃ fd, FnOk P w K mg base (L2.CX P w) 3 a.d_Reader_read_command fd ["self"] (spReadC a.C_Reader a.C_BadCommand) ∧ Binds K fd ["self"] [] := by
  obtain ⟨fd, F, b⟩ := T.d_Reader_read_command.F
  obtain ⟨fd_Reader_skip, G_Reader_skip, b_Reader_skip⟩ := ok_Reader_skip (P := P) (w := w) (base := base) TE T
  obtain ⟨fd_Reader_read_code, G_Reader_read_code, b_Reader_read_code⟩ := ok_Reader_read_code (P := P) (w := w) (base := base) TE T
  obtain ⟨fd_Reader_read_number, G_Reader_read_number, b_Reader_read_number⟩ := ok_Reader_read_number (P := P) (w := w) (base := base) TE T
  refine ⟨fd, F.okX sc_Reader_read_command (fun vs H Q E h => ?_) (fun cdv A outer s H vs Q E hr h => ?_), b⟩
  · obtain ⟨_, _, _, rfl, _⟩ := h
    rfl
  · obtain ⟨p, z, i, rfl, ⟨dx, hp⟩, lz, li, k1, k2⟩ := h
    refine ⟨_, (pss_cons (ps_set (i := 1) sc_Reader_read_command.nd rfl (Or.inl rfl) (pe_ix ix_str (pe_fld (pv 0) rfl) (pe_fld (pv 0) rfl) (fun _ _ => rfl)))
      (pss_cons (ps_if (pt_cmpR op_notInKd (pv 1) (pe_glob (v := .ref a.P_MARKS) rfl TE.g_MARKS rfl) (by rfl))
      (pss_one (ps_raise rfl (takes_of rfl rfl rfl rfl) (pmk_own PySem.F.excBase_ValueError TE.x_BadCommand TE.g_BadCommand TE.kc_BadCommand (raises_own TE.b_BadCommand TE.t_BadCommand) rfl)))
      pss_nil)
      (pss_cons (ps_set (i := 2) sc_Reader_read_command.nd rfl (Or.inl rfl) (pe_lst pa_nil))
      (pss_cons (ps_for (passes_of rfl) rfl (pi_tup (pe_ix ix_kdict (pe_glob (v := .ref a.P_MARKS) rfl TE.g_MARKS rfl) (pv 1) (fun _ _ => rfl))) (pg_name (i := 3) sc_Reader_read_command.nd rfl (Or.inl rfl))
      (pss_cons (ps_expr (pe_meth (pv 0) T.cl_Reader T.me_Reader_skip G_Reader_skip (hr.mono (by decide)) b_Reader_skip .nil (L2.passes_call (W := fun c d _ H => E c d H) (E := E) (L2.takes_of rfl rfl rfl rfl) (fun _ _ _ _ h => h)) (pa_cons (pv 3) pa_nil)))
        (pss_cons (ps_set (i := 4) sc_Reader_read_command.nd rfl (Or.inl rfl) (pe_ifExp (pt_cmpR op_eq (pv 3) (pe_glob (v := (.str "z")) rfl T.c_CODE_END.choose_spec ⟨_, rfl⟩) (nomark _)) (pe_meth0 (pv 0) T.cl_Reader T.me_Reader_read_code G_Reader_read_code (hr.mono (by decide)) b_Reader_read_code .nil (L2.passes_call (W := fun c d _ H => E c d H) (E := E) (L2.takes_of rfl rfl rfl rfl) (fun _ _ _ _ h => h))) (pe_meth0 (pv 0) T.cl_Reader T.me_Reader_read_number G_Reader_read_number (hr.mono (by decide)) b_Reader_read_number .nil (L2.passes_call (W := fun c d _ H => E c d H) (E := E) (L2.takes_of rfl rfl rfl rfl) (fun _ _ _ _ h => h)))))
        (pss_one (ps_expr (pe_bm PySem.F.plainAttrs_list PySem.F.slot_list_append PySem.F.type_list_append mt_append (pv 2) (pa_cons (pv 4) pa_nil)))))))
      (pss_one (ps_ret (pe_tup (pa_cons (pv 1) (StX.pa_star (pv 2) pa_nil))))))))), ?_⟩
    walk_at "rs"
    refine ⟨p, _, dx, _, .str z, rfl, hp, T.cl_Reader, T.a_Reader_text, rfl, ?_⟩
    walk_at "rs"
    refine ⟨p, _, dx, _, .int (i : Int), rfl, hp, T.cl_Reader, T.a_Reader_at, rfl, ?_⟩
    walk_at "rs"
    obtain ⟨c, rest, ed⟩ : ∃ c rest, (TL.tl z).drop i = c :: rest := by
      cases e : (TL.tl z).drop i with
      | nil =>
        have := congrArg List.length e
        rw [List.length_drop, List.length_nil, ← TL.len_tl] at this
        omega
      | cons c rest => exact ⟨c, rest, rfl⟩
    have eg : (TL.tl z)[i]? = some c := by
      have : ((TL.tl z).drop i)[0]? = some c := by rw [ed]; rfl
      rw [List.getElem?_drop] at this
      simpa using this
    refine ⟨z, i, c, rfl, rfl, (by rw [sizeLine_eq]; omega), atI_nat eg, ?_⟩
    walk_at "rs"
    refine ⟨_, _, _, rfl, rfl, TE.tab_MARKS.has _, ?_⟩
    rcases marks_get TE c with ⟨hk, hm⟩ | ⟨ms, M, hk, hm, hM, lm⟩
    · have ex : cmdP ((TL.tl z).drop i) = none := by rw [ed, cmdP, hk]
      rw [hm]
      walk_at "rs"
      exact k2 ex H fun b o _ e => e
    have ex : ∀ vs q, partsP ms ((TL.tl z).drop i) = some (vs, q) → cmdP ((TL.tl z).drop i) = some (mkC c vs, q) := fun vs q e => by
      rw [ed] at e ⊢
      rw [cmdP, hk]
      dsimp only
      rw [e]
    have ex0 : partsP ms ((TL.tl z).drop i) = none → cmdP ((TL.tl z).drop i) = none := fun e => by
      rw [ed] at e ⊢
      rw [cmdP, hk]
      dsimp only
      rw [e]
    rw [hm]
    walk_at "rs"
    refine iteF ?_
    walk_at "rs"
    refine ⟨(by show 0 ≤ sizeLine; decide), fun L hL => ?_⟩
    have pL : p ≠ L := fun e => by rw [← e, hp] at hL; cases hL
    walk_at "rs"
    refine ⟨_, _, _, rfl, rfl, TE.tab_MARKS.get hm, ?_⟩
    refine ⟨_, rfl, ⟨_, hM _⟩, for_tup (K := K) (a := M) (xs := mksV ms) (fun n σ H2 => ∃ (v3 v4 : Option V) (j : Nat) (us : List V), σ = [some (.ref p), some (.str ⟨#[c]⟩), some (.ref L), v3, v4] ∧ RdAt a.C_Reader H2 p z j ∧ j ≤ z.length ∧ H2 L = some (.lst us) ∧ us.length = n ∧
        (∀ b o, b ≠ p → H b = some o → H2 b = some o) ∧ partsP ms ((TL.tl z).drop i) = contP us (partsP (ms.drop n) ((TL.tl z).drop j)))
      ⟨none, none, i, [], rfl, ⟨dx, by rw [upd_ne pL]; exact hp⟩, Nat.le_of_lt li, upd_same, rfl, fun b o _ e => by rw [upd_ne (fun q => by rw [q, hL] at e; cases e)]; exact e, by
        rw [List.drop_zero]
        cases partsP ms ((TL.tl z).drop i) <;> rfl⟩ (fun _ _ _ _ _ => hM _) ?_ ?_⟩
    · rintro n y σ H2 hy ⟨v3, v4, j, us, rfl, ⟨dx2, hp2⟩, lj, hL2, lu, kp, er⟩
      obtain ⟨m, hm2, rfl⟩ : ∃ m, ms[n]? = some m ∧ y = V.str ⟨#[m]⟩ := by
        unfold mksV at hy
        rw [List.getElem?_map] at hy
        cases e : ms[n]? with
        | none => rw [e] at hy; cases hy
        | some m => rw [e] at hy; cases hy; exact ⟨m, rfl, rfl⟩
      have hn := (List.getElem?_eq_some_iff.mp hm2).1
      have em : ms.drop n = m :: ms.drop (n + 1) := by
        rw [List.drop_eq_getElem_cons hn, (List.getElem?_eq_some_iff.mp hm2).2]
      rw [em] at er
      have bad : partP m ((TL.tl z).drop j) = none → cmdP ((TL.tl z).drop i) = none := fun e => ex0 (by
        rw [er, partsP, e]
        rfl)
      walk_at "rs"
      refine ⟨p, dx2, _, rfl, hp2, rfl, ?_⟩
      walk_at "rs"
      refine ⟨p, z, m, j, rfl, ⟨dx2, hp2⟩, lz, lj, fun e H3 h3 kp3 => ?_, fun e => ?_⟩
      · have lj1 : j < z.length := by
          rw [TL.len_tl]
          exact (List.getElem?_eq_some_iff.mp e).1
        have ej : (TL.tl z).drop j = m :: (TL.tl z).drop (j + 1) := by
          rw [List.drop_eq_getElem_cons (by rw [← TL.len_tl]; exact lj1), (List.getElem?_eq_some_iff.mp e).2]
        rw [ej, partP, if_pos rfl] at bad
        obtain ⟨dx3, hp3⟩ := id h3
        have kp23 : ∀ b o, b ≠ p → H b = some o → H3 b = some o := fun b o q e => kp3 b o q (kp b o q e)
        walk_at "rs"
        have hL3 := kp3 _ _ (fun q => pL q.symm) hL2
        have partP_mk : ∀ {v : V} {r : List Nat}, (if m = 122 then codeP ((TL.tl z).drop (j + 1)) else numP ((TL.tl z).drop (j + 1))) = some (v, r) → partP m ((TL.tl z).drop j) = some (v, r) := fun q => by
          rw [ej, partP, if_pos rfl]
          exact q
        refine ite2 (fun c1 => ?_) (fun c1 => ?_)
        · have c1 : m = 122 := by
            have := of_decide_eq_true c1
            have z122 : (Str.ofString "z") = ⟨#[122]⟩ := rfl
            rw [z122] at this
            simpa using this
          rw [if_pos c1] at bad partP_mk
          have ec : codeP ((TL.tl z).drop (j + 1)) = if (TL.tl z)[j + 1 + (codeAt z (j + 1)).length]? = some 122 then some (.str ⟨(codeAt z (j + 1)).toArray⟩, (TL.tl z).drop (j + 1 + (codeAt z (j + 1)).length + 1)) else none := by
            unfold codeP
            rw [code_len, List.getElem?_drop, List.drop_drop]
            rfl
          walk_at "rs"
          refine ⟨p, dx3, _, rfl, hp3, rfl, ?_⟩
          walk_at "rs"
          refine ⟨p, z, j + 1, rfl, h3, lz, lj1, fun e H4 ⟨dx4, hp4⟩ kp4 => ?_, fun e H4 kp4 => ?_⟩
          · rw [if_pos e] at ec
            have hL4 := kp4 _ _ (fun q => pL q.symm) hL3
            have lj4 : j + 1 + (codeAt z (j + 1)).length + 1 ≤ z.length := by
              rw [TL.len_tl]
              exact (List.getElem?_eq_some_iff.mp e).1
            walk_at "rs"
            refine ⟨.inl ⟨rfl, _, SqL.of hL4⟩, ?_⟩
            walk_at "rs"
            refine ⟨L, _, _, rfl, rfl, hL4, small1000 (by omega), ?_⟩
            refine ⟨_, _, j + 1 + (codeAt z (j + 1)).length + 1, us ++ [V.str ⟨(codeAt z (j + 1)).toArray⟩], rfl, ⟨dx4, by rw [upd_ne pL]; exact hp4⟩, lj4, upd_same, by rw [List.length_append, lu]; rfl, fun b o q e => ?_, ?_⟩
            · rw [upd_ne (fun q => by rw [q, hL] at e; cases e)]
              exact kp4 b o q (kp23 b o q e)
            · rw [er, contP_step (partP_mk (ec))]
          · rw [if_neg e] at ec
            exact k2 (bad ec) H4 fun b o q e => kp4 b o q (kp23 b o q e)
        · have c1 : ¬ m = 122 := fun q => c1 (decide_eq_true (by rw [q]; rfl))
          rw [if_neg c1] at bad partP_mk
          have ec : numP ((TL.tl z).drop (j + 1)) = if NumW (digsAt z (j + 1)) then some (.int (NumText.digitsVal (digsAt z (j + 1)) : Nat), (TL.tl z).drop (j + 1 + (digsAt z (j + 1)).length)) else none := by
            unfold numP
            rw [digs_len, List.drop_drop]
            rfl
          walk_at "rs"
          refine ⟨p, dx3, _, rfl, hp3, rfl, ?_⟩
          walk_at "rs"
          refine ⟨p, z, j + 1, rfl, h3, lz, lj1, fun e H4 ⟨dx4, hp4⟩ kp4 => ?_, fun e H4 kp4 => ?_⟩
          · rw [if_pos e] at ec
            have hL4 := kp4 _ _ (fun q => pL q.symm) hL3
            have lj4 : j + 1 + (digsAt z (j + 1)).length ≤ z.length := by
              rw [digs_len]
              have := run_le (TL.tl "0123456789") ((TL.tl z).drop (j + 1))
              rw [List.length_drop, ← TL.len_tl] at this
              omega
            walk_at "rs"
            refine ⟨.inl ⟨rfl, _, SqL.of hL4⟩, ?_⟩
            walk_at "rs"
            refine ⟨L, _, _, rfl, rfl, hL4, small1000 (by omega), ?_⟩
            refine ⟨_, _, j + 1 + (digsAt z (j + 1)).length, us ++ [V.int (NumText.digitsVal (digsAt z (j + 1)) : Nat)], rfl, ⟨dx4, by rw [upd_ne pL]; exact hp4⟩, lj4, upd_same, by rw [List.length_append, lu]; rfl, fun b o q e => ?_, ?_⟩
            · rw [upd_ne (fun q => by rw [q, hL] at e; cases e)]
              exact kp4 b o q (kp23 b o q e)
            · rw [er, contP_step (partP_mk (ec))]
          · rw [if_neg e] at ec
            exact k2 (bad ec) H4 fun b o q e => kp4 b o q (kp23 b o q e)
      · refine k2 (bad ?_) H2 kp
        cases ed2 : (TL.tl z).drop j with
        | nil => rfl
        | cons d r =>
          rw [partP, if_neg]
          intro q
          refine e ?_
          have : ((TL.tl z).drop j)[0]? = some d := by rw [ed2]; rfl
          rw [List.getElem?_drop] at this
          rw [← q]
          simpa using this
    · rintro σ H2 ⟨v3, v4, j, us, rfl, ⟨dx2, hp2⟩, lj, hL2, lu, kp, er⟩
      have ln : (mksV ms).length = ms.length := List.length_map _
      rw [ln, List.drop_length] at er
      have er : partsP ms ((TL.tl z).drop i) = some (us ++ [], (TL.tl z).drop j) := er
      rw [List.append_nil] at er
      have em := ex _ _ er
      have hmk := mk_ok hk (by rw [← ed]; exact er)
      have et := hmk.2.2.1
      rw [← ed] at et
      have ej : j = i + (mkC c us).txt.length := by
        have := congrArg List.length et
        rw [List.length_append, List.length_drop, List.length_drop, ← TL.len_tl, ← TL.len_tl] at this
        omega
      walk_at "rs"
      refine ⟨L, us, rfl, .inr (SqL.of hL2), ?_⟩
      walk_at "rs"
      refine ⟨by rw [sizeLine_eq]; simp; omega, fun t ht => ?_⟩
      refine k1 _ _ em (by rw [ej]) (by omega) t _ ⟨dx2, ?_⟩ ?_ ?_ ?_
      · rw [upd_ne (fun q => by rw [← q, hp2] at ht; cases ht), ← ej]
        exact hp2
      · intro b o q e
        rw [upd_ne (fun q => by rw [← q, kp b o ‹_› e] at ht; cases ht)]
        exact kp b o q e
      · cases e : H t with
        | none => rfl
        | some o =>
          by_cases q : t = p
          · rw [q, hp2] at ht
            cases ht
          · rw [kp t o q e] at ht
            cases ht
      · show upd H2 t _ t = _
        rw [upd_same, hmk.1, hmk.2.1]
        simp


def spCof (K : PySem.W.Frag) : Sp := fun vs H Q _ => ∃ z : Str, vs = [.str z] ∧ z.length ≤ 1000 ∧ ∀ (q : Addr) (ps : List Addr) H', Same H H' → H q = none → H' q = some (.lst (ps.map V.ref)) → CmsAt H' ps (cmdsOf z) → Q (.ref q) H'
theorem CmsAt.snoc {H : Hp} {ps : List Addr} {cs : List Cm} {p : Addr} {c : Cm} (h : CmsAt H ps cs) (e : CmAt H p c) : CmsAt H (ps ++ [p]) (cs ++ [c]) := by
  refine ⟨by rw [List.length_append, List.length_append, h.1]; rfl, fun i hi => ?_⟩
  rw [List.length_append, List.length_singleton] at hi
  rw [List.getD_eq_getElem?_getD, List.getD_eq_getElem?_getD]
  rcases Nat.lt_or_ge i cs.length with z | z
  · rw [List.getElem?_append_left (by rw [h.1]; exact z), List.getElem?_append_left z, ← List.getD_eq_getElem?_getD, ← List.getD_eq_getElem?_getD]
    exact h.2 i z
  · have ei : i = cs.length := by omega
    rw [ei, List.getElem?_append_right (Nat.le_of_eq h.1), List.getElem?_append_right (Nat.le_refl _), h.1, Nat.sub_self]
    exact e
theorem ok_commands_of (TE : TxtE w K mg a) (T : Txt K mg a) : ∃ fd, FnOk P w K mg base CX0 4 a.d_commands_of fd ["block"] (spCof K) ∧ Binds K fd ["block"] [] := by
  obtain ⟨fd, F, b⟩ := T.d_commands_of.F
  obtain ⟨fd_Reader_init, G_Reader_init, b_Reader_init⟩ := ok_Reader_init (P := P) (w := w) (base := base) T
  obtain ⟨fd_Reader_read_command, G_Reader_read_command, b_Reader_read_command⟩ := ok_Reader_read_command (P := P) (w := w) (base := base) TE T
  refine ⟨fd, F.ok sc_commands_of (fun vs H Q E h => ?_) (fun cdv A outer s H vs Q E hr h => ?_), b⟩
  · obtain ⟨_, rfl, _⟩ := h
    rfl
  · obtain ⟨z, rfl, lz, k⟩ := h
    refine ⟨_, (pss_cons (ps_set (i := 1) sc_commands_of.nd rfl (Or.inl rfl) (pe_make T.m_Reader G_Reader_init (hr.mono (by decide)) (by rfl) T.g_Reader b_Reader_init .nil pass0 (pa_cons (pv 0) pa_nil)))
      (pss_cons (ps_set (i := 2) sc_commands_of.nd rfl (Or.inl rfl) (pe_lst pa_nil))
      (pss_cons (ps_try_only rfl rfl ⟨rfl, by decide, .inl TE.g_BadCommand⟩ takes0 (fun W pn xe tk po => (pss_one (ps_while po (pt_cmpR op_lt (pe_fldK (K := K) rfl (pv 1) rfl) (pe_callB call_len_str (by rfl) T.n_len PySem.boot_len (pa_cons (pv 0) pa_nil)) (nomark _)) (pss_one (ps_expr (pe_bmK (K := K) rfl PySem.F.plainAttrs_list PySem.F.slot_list_append PySem.F.type_list_append mt_append (pv 2) (pa_cons (pe_methT0 (pv 1) T.cl_Reader T.me_Reader_read_command G_Reader_read_command (hr.mono (by decide)) b_Reader_read_command (E := fun σ cls d H => W cls d σ H) (fun σ => passAt tk σ)) pa_nil))))))) (fun ae oe cls d pn hz hf => (pss_one (ps_ret (pe_lst pa_nil)))))
      (pss_one (ps_ret (pv 2)))))), ?_⟩
    walk_at "rs"
    intro rd dx hrd hdx ndx
    refine ⟨rd, dx, z, rfl, upd_same, fun H1 h1 keep => ?_⟩
    have s1 : Same H H1 := fun b o e => keep b o (fun q => by rw [q, hrd] at e; cases e) (by rw [upd_ne (fun q => by rw [q, hrd] at e; cases e), upd_ne (fun q => by rw [q, hdx] at e; cases e)]; exact e)
    refine ⟨rfl, ?_⟩
    clear keep
    walk_at "rs"
    refine ⟨(by show 0 ≤ sizeLine; decide), fun L hL => ?_⟩
    have hL0 := s1.free hL
    have rL : rd ≠ L := fun e => by
      obtain ⟨d, h⟩ := h1
      rw [e, hL] at h
      cases h
    have s2 := same_new (o := .lst []) hL
    walk_at "rs"
    refine ⟨fun m σ H2 => ∃ (j n : Nat) (ps : List Addr) (cs : List Cm), m = z.length - j ∧ σ = [some (.str z), some (.ref rd), some (.ref L)] ∧ RdAt a.C_Reader H2 rd z j ∧ j ≤ z.length ∧ H2 L = some (.lst (ps.map V.ref)) ∧ CmsAt H2 ps cs ∧ Same H H2 ∧ z.length - j ≤ n ∧ cs.length ≤ j ∧
        cmdsP z.length (TL.tl z) = (cmdsP n ((TL.tl z).drop j)).map (cs ++ ·),
      ⟨_, 0, z.length, [], [], rfl, rfl, h1.elim fun d h => ⟨d, by rw [upd_ne rL]; exact h⟩, Nat.zero_le _, upd_same, ⟨rfl, fun i hi => absurd hi (Nat.not_lt_zero i)⟩, s1.trans s2, Nat.le_of_eq (Nat.sub_zero _), Nat.le_refl _, by
        rw [List.drop_zero]
        cases cmdsP z.length (TL.tl z) <;> rfl⟩, ?_⟩
    clear s2 h1
    rintro m σ H2 ⟨j, n, ps, cs, rfl, rfl, ⟨dx2, h2⟩, lj, hL2, hc, s2, ln, lcs, er⟩
    walk_at "rs"
    refine ⟨rd, _, dx2, _, .int (j : Int), rfl, h2, T.cl_Reader, T.a_Reader_at, rfl, ?_⟩
    walk_at "rs"
    refine ⟨(by rw [sizeLine_eq]; omega), ?_⟩
    walk_at "rs"
    refine ite2 (fun c1 => ?_) (fun c1 => ?_)
    · have c1 : j < z.length := by
        have := of_decide_eq_true c1
        omega
      obtain ⟨n, rfl⟩ : ∃ k, n = k + 1 := ⟨n - 1, by omega⟩
      obtain ⟨d, rest, ed⟩ : ∃ c rest, (TL.tl z).drop j = c :: rest := by
        cases e : (TL.tl z).drop j with
        | nil =>
          have := congrArg List.length e
          rw [List.length_drop, List.length_nil, ← TL.len_tl] at this
          omega
        | cons c rest => exact ⟨c, rest, rfl⟩
      refine ⟨fun σ' H' => ∃ (t : Addr) (x : Cm) (q : List Nat), cmdP ((TL.tl z).drop j) = some (x, q) ∧ q = (TL.tl z).drop (j + x.txt.length) ∧ j + x.txt.length ≤ z.length ∧ σ' = [some (.str z), some (.ref rd), some (.ref L)] ∧ RdAt a.C_Reader H' rd z (j + x.txt.length) ∧ H' L = some (.lst ((ps ++ [t]).map V.ref)) ∧ CmsAt H' (ps ++ [t]) (cs ++ [x]) ∧ Same H H', ?_, ?_⟩
      · rintro σ' H' ⟨t, x, q, e1, e2, e3, rfl, h4, hL4, hc4, s4⟩
        have lx : 0 < x.txt.length := by
          obtain ⟨c, r, e, _⟩ := txt_first x
          rw [TL.len_tl, e]
          exact Nat.succ_pos _
        refine ⟨z.length - (j + x.txt.length), by omega, j + x.txt.length, n, ps ++ [t], cs ++ [x], rfl, rfl, h4, e3, hL4, hc4, s4, by omega, by rw [List.length_append]; show cs.length + 1 ≤ _; omega, ?_⟩
        rw [er, ← e2]
        rw [ed] at e1 ⊢
        rw [cmdsP, e1]
        dsimp only
        cases cmdsP n q with
        | none => rfl
        | some xs => simp
      walk_at "rs"
      refine ⟨.inl ⟨rfl, _, SqL.of hL2⟩, ?_⟩
      walk_at "rs"
      refine ⟨rd, dx2, _, rfl, h2, rfl, ?_⟩
      have Lr : L ≠ rd := fun e => rL e.symm
      refine ⟨rd, z, j, rfl, ⟨dx2, h2⟩, lz, c1, fun x q e1 e2 e3 t H4 h4 kp ht ct => ?_, fun e H4 kp => ?_⟩
      · have s4 : Same H H4 := fun b o e => kp b o (fun q => by rw [q, hrd] at e; cases e) (s2 b o e)
        have tL : t ≠ L := fun e => by rw [e, hL2] at ht; cases ht
        walk_at "rs"
        refine ⟨L, _, _, rfl, rfl, kp _ _ Lr hL2, by rw [List.length_map, hc.1]; exact small1000 (by omega), ?_⟩
        refine ⟨t, x, q, e1, e2, e3, rfl, ?_, by rw [upd_same, List.map_append]; rfl, ?_, same_upd s4 hL0⟩
        · obtain ⟨d4, h4⟩ := h4
          exact ⟨d4, by rw [upd_ne rL]; exact h4⟩
        · have hne : ∀ {b : Addr} {y : Cm}, CmAt H2 b y → b ≠ rd ∧ b ≠ L := fun {b y} h => by
            have h : H2 b = some (.tup _) := h
            constructor
            · intro e
              rw [e, h2] at h
              cases h
            · intro e
              rw [e, hL2] at h
              cases h
          refine CmsAt.snoc ⟨hc.1, fun i hi => ?_⟩ ?_
          · have h := hc.2 i hi
            obtain ⟨n1, n2⟩ := hne h
            show upd H4 L _ _ = _
            rw [upd_ne n2]
            exact kp _ _ n1 h
          · show upd H4 L _ _ = _
            rw [upd_ne tL]
            exact ct
      · have s4 : Same H H4 := fun b o e => kp b o (fun q => by rw [q, hrd] at e; cases e) (s2 b o e)
        have eall : cmdsOf z = [] := by
          unfold cmdsOf
          rw [er]
          rw [ed] at e ⊢
          rw [cmdsP, e]
          rfl
        refine ⟨true, TE.exm_BadCommand_BadCommand, fun _ ex hex => ?_, fun z => nomatch z⟩
        walk_at "rs"
        refine ⟨(by show 0 ≤ sizeLine; decide), fun R hR => ?_⟩
        refine k R [] _ (s4.trans (same_new hR)) (s4.free hR) upd_same ?_
        rw [eall]
        exact ⟨rfl, fun i hi => absurd hi (Nat.not_lt_zero i)⟩
    · have c1 : j = z.length := by
        have : ¬ j < z.length := fun h => c1 (decide_eq_true (by omega))
        omega
      have eall : cmdsOf z = cs := by
        unfold cmdsOf
        rw [er, List.drop_of_length_le (by rw [← TL.len_tl]; omega)]
        cases n <;> simp [cmdsP]
      walk_at "rs"
      exact k L ps H2 s2 hL0 hL2 (by rw [eall]; exact hc)

theorem getD_mem3 {α : Type} {d : α} {xs : List α} {i : Nat} (h : i < xs.length) : xs.getD i d ∈ xs := by
  rw [List.getD_eq_getElem?_getD, List.getElem?_eq_getElem h]
  exact List.getElem_mem h
theorem take_snoc {α : Type} {d : α} {xs : List α} {i : Nat} (h : i < xs.length) : xs.take (i + 1) = xs.take i ++ [xs.getD i d] := by
  rw [List.take_add_one, List.getElem?_eq_getElem h, List.getD_eq_getElem?_getD, List.getElem?_eq_getElem h]
  rfl
theorem at_refs2 {ps : List Addr} {i : Nat} (h : i < ps.length) : (ps.map V.ref)[i]? = some (.ref (ps.getD i 0)) := by
  rw [List.getElem?_map, List.getD_eq_getElem?_getD, List.getElem?_eq_getElem h]
  rfl
theorem txt_len {c : Cm} (ok : c.ok) : c.txt.length ≤ 271 := by
  have h := bits_len ok
  cases c with
  | d a s =>
    have l1 : ("z" : Str).length = 1 := rfl
    simp only [Cm.bits, Cm.txt, List.map, List.sum_cons, List.sum_nil, PySem.Str.length_append] at h ⊢
    omega
  | _ =>
    simp only [Cm.bits, Cm.txt, List.map, List.sum_cons, List.sum_nil, PySem.Str.length_append] at h ⊢
    omega
theorem ok_law_fitting (T : Txt K mg a) : ∃ fd, FnOk P w K mg base CX0 2 a.d_law_fitting fd ["commands"] (spFitting K) ∧ Binds K fd ["commands"] [] := by
  obtain ⟨fd, F, b⟩ := T.d_law_fitting.F
  obtain ⟨fd_law_text, G_law_text, b_law_text⟩ := ok_law_text (P := P) (w := w) (base := base) T
  refine ⟨fd, F.ok sc_law_fitting (fun vs H Q E h => ?_) (fun cdv A outer s H vs Q E hr h => ?_), b⟩
  · obtain ⟨_, _, _, rfl, _⟩ := h
    rfl
  · obtain ⟨l, ps, cs, rfl, hl, hc, few, okc, k⟩ := h
    have np := hc.1
    refine ⟨_, (pss_cons (ps_set (i := 1) sc_law_fitting.nd rfl (Or.inl rfl) pe_str)
      (pss_cons (ps_set (i := 2) sc_law_fitting.nd rfl (Or.inl rfl) (pe_lst pa_nil))
      (pss_cons (ps_for PassesOwn.never rfl (pi_list (pv 0)) (pg_name (i := 3) sc_law_fitting.nd rfl (Or.inl rfl))
      (pss_cons (ps_if (pt_cmpR op_gt (pe_callB call_len_str (by rfl) T.n_len PySem.boot_len (pa_cons (pe_op op_add_str (pv 1) (pe_call G_law_text (hr.mono (by decide)) rfl T.d_law_text.g T.d_law_text.kp b_law_text .nil pass0 (pa_cons (pv 3) pa_nil))) pa_nil)) pe_int (nomark _))
        (pss_one (ps_ret (pe_tup (pa_cons (pv 1) (pa_cons (pv 2) pa_nil)))))
        pss_nil)
        (pss_cons (ps_set (i := 1) sc_law_fitting.nd rfl (Or.inl rfl) (pe_op op_add_str (pv 1) (pe_call G_law_text (hr.mono (by decide)) rfl T.d_law_text.g T.d_law_text.kp b_law_text .nil pass0 (pa_cons (pv 3) pa_nil))))
        (pss_one (ps_expr (pe_bm PySem.F.plainAttrs_list PySem.F.slot_list_append PySem.F.type_list_append mt_append (pv 2) (pa_cons (pv 3) pa_nil)))))))
      (pss_one (ps_ret (pe_tup (pa_cons (pv 1) (pa_cons (pv 2) pa_nil)))))))), ?_⟩
    walk_at "rs"
    refine ⟨(by show 0 ≤ sizeLine; decide), fun tk htk => ?_⟩
    have s1 : Same H (upd H tk (.lst [])) := same_new htk
    have h1 : (upd H tk (.lst [])) tk = some (.lst (([] : List Addr).map V.ref)) := upd_same
    walk_at "rs"
    refine ⟨⟨_, SqL.of (s1 _ _ hl)⟩, for_list (K := K) (a := l) (xs := ps.map V.ref) (fun i σ H2 => ∃ v3 : Option V, σ = [some (.ref l), some (.str (cat (cs.take i))), some (.ref tk), v3] ∧ Same H H2 ∧ H2 tk = some (.lst ((ps.take i).map V.ref)) ∧ ∀ j, j ≤ i → (cat (cs.take j)).length ≤ 60)
      ⟨none, rfl, s1, h1, fun j hj => by rw [Nat.le_zero.mp hj]; exact Nat.zero_le _⟩ (fun i σ H2 _ ⟨_, _, s2, _⟩ => SqL.of (s2 _ _ hl)) ?_ ?_⟩
    · rintro i y σ H2 hy ⟨v3, rfl, s2, h2, le⟩
      have hi : i < ps.length := by
        have e := (List.getElem?_eq_some_iff.mp hy).1
        rwa [List.length_map] at e
      rw [at_refs2 hi] at hy
      cases hy
      have hi' : i < cs.length := by omega
      have hcm := s2 _ _ (hc.2 i hi')
      have ok := okc _ (getD_mem3 (d := default) hi')
      have et := take_snoc (d := default) hi'
      have etp := take_snoc (d := 0) hi
      have tl := txt_len ok
      have li := le i (Nat.le_refl i)
      generalize cs.getD i default = c at hcm ok et tl
      generalize ps.getD i 0 = p at hcm etp
      walk_at "rs"
      refine ⟨p, c, rfl, hcm, ok, fun H3 s3 => ?_⟩
      walk_at "rs"
      refine ⟨(by rw [sizeLine_eq]; omega), ?_⟩
      walk_at "rs"
      have s23 := s2.trans s3
      refine ⟨(by rw [PySem.Str.length_append, sizeLine_eq]; omega), ?_⟩
      walk_at "rs"
      refine ite2 (fun c1 => ?_) (fun c1 => ?_)
      · have c1 : (60 : Int) < (((cat (cs.take i) ++ c.txt).length : Nat) : Int) := by simpa using c1
        walk_at "rs"
        refine ⟨(by show 2 ≤ sizeLine; decide), fun q hq => ?_⟩
        have s4 := same_new (o := .tup [V.str (cat (cs.take i)), V.ref tk]) hq
        refine k q tk i _ (s23.trans s4) upd_same (s4 _ _ (s3 _ _ h2)) ⟨by omega, le, fun _ => ?_⟩
        rw [et, cat_snoc]
        omega
      · have c1 : ¬ (60 : Int) < (((cat (cs.take i) ++ c.txt).length : Nat) : Int) := by simpa using c1
        walk_at "rs"
        refine ⟨p, c, rfl, s3 _ _ hcm, ok, fun H4 s4 => ?_⟩
        walk_at "rs"
        refine ⟨(by rw [sizeLine_eq]; omega), ?_⟩
        walk_at "rs"
        refine ⟨.inl ⟨rfl, _, SqL.of (s4 _ _ (s3 _ _ h2))⟩, ?_⟩
        walk_at "rs"
        refine ⟨tk, _, _, rfl, rfl, s4 _ _ (s3 _ _ h2), by rw [List.length_map, List.length_take]; exact small1000 (by omega), ?_⟩
        refine ⟨some (.ref p), ?_, same_upd (s23.trans s4) htk, ?_, fun j hj => ?_⟩
        · rw [et, cat_snoc]
          rfl
        · rw [upd_same, etp]
          simp
        · rcases Nat.lt_or_ge i j with h | h
          · have : j = i + 1 := by omega
            rw [this, et, cat_snoc]
            omega
          · exact le j h
    · rintro σ H2 ⟨v3, rfl, s2, h2, le⟩
      rw [List.length_map] at h2 le
      have ep : ps.take ps.length = ps.take cs.length := by rw [np]
      have e2 : (ps.map V.ref).length = cs.length := by rw [List.length_map, np]
      rw [e2]
      rw [ep] at h2
      walk_at "rs"
      refine ⟨(by show 2 ≤ sizeLine; decide), fun q hq => ?_⟩
      have s4 := same_new (o := .tup [V.str (cat (cs.take cs.length)), V.ref tk]) hq
      exact k q tk cs.length _ (s2.trans s4) upd_same (s4 _ _ h2) ⟨Nat.le_refl _, fun j hj => le j (by omega), fun h => absurd h (Nat.lt_irrefl _)⟩

theorem LgAt.ins {C : Addr} {H : Hp} {p : Addr} {A : Ac} (h : LgAt C H p A) : ∃ dx fs, H p = some (.ins C dx fs) := by
  obtain ⟨dx, b, c, s, ts, h1, _⟩ := h
  exact ⟨dx, _, h1⟩
theorem first_good {bal : List Int} (h : bal.length ≤ 100) (nn : ∀ b ∈ bal, 0 ≤ b) (k : Nat) : GoodA bal.length k (firstA bal) :=
  ⟨rfl, List.length_replicate .., List.length_replicate .., h, nn, fun z hz => by
    rw [List.eq_of_mem_replicate hz]
    exact ⟨Nat.zero_le _, fun n hn => absurd hn List.not_mem_nil⟩, fun kv hkv => by
    rw [List.eq_of_mem_replicate hkv]
    exact ⟨.nil, fun x hx => absurd hx List.not_mem_nil, Nat.zero_le _⟩⟩

/-! ### chains -/
/-- what stands where in a chain -/
structure CnP where
  B : Addr
  R : Addr
  D : Addr
  L : Addr
/-- blocks, receipts (where and what), committees (where, their weights), ledgers (where and what) -/
structure CnV where
  zs : List Str
  rs : List Addr
  bs : List (List Bool)
  ps : List Addr
  ws : List (List Int)
  ls : List Addr
  az : List Ac
instance : Inhabited Ac := ⟨⟨[], [], []⟩⟩
structure CnAt (C1 C2 C3 : Addr) (n k : Nat) (H : Hp) (p : Addr) (q : CnP) (v : CnV) : Prop where
  ins : ∃ dx, H p = some (.ins C1 dx [("blocks", .ref q.B), ("receipts", .ref q.R), ("committees", .ref q.D), ("ledgers", .ref q.L)])
  hB : H q.B = some (.lst (v.zs.map V.str))
  hR : H q.R = some (.lst (v.rs.map V.ref))
  hD : H q.D = some (.lst (v.ps.map V.ref))
  hL : H q.L = some (.lst (v.ls.map V.ref))
  nr : v.rs.length = v.zs.length
  nb : v.bs.length = v.zs.length
  np : v.ps.length = v.zs.length + 1
  nw : v.ws.length = v.zs.length + 1
  nl : v.ls.length = v.zs.length + 1
  na : v.az.length = v.zs.length + 1
  ne1 : q.B ≠ q.R
  ne2 : q.B ≠ q.D
  ne3 : q.B ≠ q.L
  ne4 : q.R ≠ q.D
  ne5 : q.R ≠ q.L
  ne6 : q.D ≠ q.L
  cm : ∀ i, i < v.ws.length → CommAt C2 H (v.ps.getD i 0) (v.ws.getD i []) ∧ GoodW (v.ws.getD i [])
  ld : ∀ i, i < v.az.length → LgAt C3 H (v.ls.getD i 0) (v.az.getD i default) ∧ GoodA n k (v.az.getD i default)
  rc : ∀ i, i < v.bs.length → H (v.rs.getD i 0) = some (.tup ((v.bs.getD i []).map V.bl))
theorem CnAt.same {C1 C2 C3 : Addr} {n k : Nat} {H H' : Hp} {p : Addr} {q : CnP} {v : CnV} (c : CnAt C1 C2 C3 n k H p q v) (s : Same H H') : CnAt C1 C2 C3 n k H' p q v :=
  { c with
    ins := c.ins.elim fun d h => ⟨d, s _ _ h⟩
    hB := s _ _ c.hB
    hR := s _ _ c.hR
    hD := s _ _ c.hD
    hL := s _ _ c.hL
    cm := fun i hi => ⟨(c.cm i hi).1.same s, (c.cm i hi).2⟩
    ld := fun i hi => ⟨(c.ld i hi).1.same s, (c.ld i hi).2⟩
    rc := fun i hi => s _ _ (c.rc i hi) }
theorem CnAt.mono {C1 C2 C3 : Addr} {n k l : Nat} {H : Hp} {p : Addr} {q : CnP} {v : CnV} (c : CnAt C1 C2 C3 n k H p q v) (h : k ≤ l) : CnAt C1 C2 C3 n l H p q v :=
  { c with ld := fun i hi => ⟨(c.ld i hi).1, (c.ld i hi).2.mono h⟩ }
def But1 (p : Addr) (H H' : Hp) : Prop := ∀ b o, b ≠ p → H b = some o → H' b = some o
theorem But1.trans {p : Addr} {H H' H'' : Hp} (h : But1 p H H') (g : But1 p H' H'') : But1 p H H'' := fun b o n e => g b o n (h b o n e)
theorem But1.seq {p : Addr} {H H' : Hp} {C dx : Addr} {fs : List (Str × V)} {l : Addr} {xs : List V} (h : But1 p H H') (hp : H p = some (.ins C dx fs)) (s : SqL K H l xs) : SqL K H' l xs := by
  rcases s with (s | ⟨o, s⟩) | s
  · exact .inl (.inl (h _ _ (fun e => by rw [e, hp] at s; cases s) s))
  · exact .inl (.inr ⟨o, h _ _ (fun e => by rw [e, hp] at s; cases s) s⟩)
  · exact .inr s
theorem CommAt.but {C : Addr} {p : Addr} {H H' : Hp} {C1 dx : Addr} {fs : List (Str × V)} {c : Addr} {ws : List Int} (h : CommAt C H c ws) (k : But1 p H H') (n : c ≠ p) (hp : H p = some (.ins C1 dx fs)) : CommAt C H' c ws := by
  obtain ⟨d, t, h1, h2⟩ := h
  exact ⟨d, t, k _ _ n h1, k _ _ (fun e => by rw [e, hp] at h2; cases h2) h2⟩
def spCInit (K : PySem.W.Frag) (C1 C2 C3 : Addr) : Sp := fun vs H Q _ => ∃ (p dx l g : Addr) (ws bal : List Int), vs = [.ref p, .ref l, .ref g] ∧ H p = some (.ins C1 dx []) ∧ SqL K H l (ws.map V.int) ∧ GoodW ws ∧ SqL K H g (bal.map V.int) ∧ bal.length ≤ 100 ∧ (∀ b ∈ bal, 0 ≤ b) ∧
  ∀ q c d H', CnAt C1 C2 C3 bal.length 0 H' p q ⟨[], [], [], [c], [ws], [d], [firstA bal]⟩ → H q.B = none → H q.R = none → H q.D = none → H q.L = none → (∀ b o, b ≠ p → H b = some o → H' b = some o) → Q .non H'
theorem ok_Chain_init (T : Txt K mg a) : ∃ fd, FnOk P w K mg base CX0 4 a.d_Chain_init fd ["self", "weights", "grants"] (spCInit K a.C_Chain a.C_Committee a.C_Ledger) ∧ Binds K fd ["self", "weights", "grants"] [] := by
  obtain ⟨fd, F, b⟩ := T.d_Chain_init.F
  obtain ⟨fd_Committee_init, G_Committee_init, b_Committee_init⟩ := ok_Committee_init (P := P) (w := w) (base := base) T
  obtain ⟨fd_first_ledger, G_first_ledger, b_first_ledger⟩ := ok_first_ledger (P := P) (w := w) (base := base) T
  refine ⟨fd, F.ok sc_Chain_init (fun vs H Q E h => ?_) (fun cdv A outer s H vs Q E hr h => ?_), b⟩
  · obtain ⟨_, _, _, _, _, _, rfl, _⟩ := h
    rfl
  · obtain ⟨p, dx, l, g, ws, bal, rfl, hp, hl, gw, hg, few, nn, k⟩ := h
    refine ⟨_, (pss_cons (ps_fld (pv 0) (pe_lst pa_nil) rfl)
      (pss_cons (ps_fld (pv 0) (pe_lst pa_nil) rfl)
      (pss_cons (ps_fld (pv 0) (pe_lst (pa_cons (pe_make T.m_Committee G_Committee_init (hr.mono (by decide)) (by rfl) T.g_Committee b_Committee_init .nil pass0 (pa_cons (pv 1) pa_nil)) pa_nil)) rfl)
      (pss_one (ps_fld (pv 0) (pe_lst (pa_cons (pe_call G_first_ledger (hr.mono (by decide)) rfl T.d_first_ledger.g T.d_first_ledger.kp b_first_ledger .nil pass0 (pa_cons (pv 2) pa_nil)) pa_nil)) rfl))))), ?_⟩
    walk_at "rs"
    refine ⟨(by show 0 ≤ sizeLine; decide), fun B hB => ?_⟩
    have pB : p ≠ B := fun e => by rw [e, hB] at hp; cases hp
    walk_at "rs"
    refine ⟨p, _, dx, [], rfl, (by rw [upd_ne pB]; exact hp), T.cl_Chain, T.a_Chain_blocks, (by show 0 < 1000; decide), ?_⟩
    have k1 : But1 p H (upd (upd H B (.lst [])) p (.ins a.C_Chain dx (putF "blocks" (.ref B) []))) := fun b o n e => by
      rw [upd_ne n, upd_ne (fun q => by rw [q, hB] at e; cases e)]
      exact e
    have hB1 : (upd (upd H B (.lst [])) p (.ins a.C_Chain dx (putF "blocks" (.ref B) []))) B = some (.lst []) := by rw [upd_ne pB.symm, upd_same]
    have hp1 : (upd (upd H B (.lst [])) p (.ins a.C_Chain dx (putF "blocks" (.ref B) []))) p = some (.ins a.C_Chain dx [("blocks", .ref B)]) := by rw [upd_same]; rfl
    generalize (upd (upd H B (.lst [])) p (.ins a.C_Chain dx (putF "blocks" (.ref B) []))) = H1 at k1 hB1 hp1 ⊢
    walk_at "rs"
    refine ⟨(by show 0 ≤ sizeLine; decide), fun R hR => ?_⟩
    have pR : p ≠ R := fun e => by rw [e, hR] at hp1; cases hp1
    have BR : B ≠ R := fun e => by rw [e, hR] at hB1; cases hB1
    walk_at "rs"
    refine ⟨p, _, dx, _, rfl, (by rw [upd_ne pR]; exact hp1), T.cl_Chain, T.a_Chain_receipts, (by show 1 < 1000; decide), ?_⟩
    have k2 : But1 p H1 (upd (upd H1 R (.lst [])) p (.ins a.C_Chain dx (putF "receipts" (.ref R) [("blocks", .ref B)]))) := fun b o n e => by
      rw [upd_ne n, upd_ne (fun q => by rw [q, hR] at e; cases e)]
      exact e
    have hR2 : (upd (upd H1 R (.lst [])) p (.ins a.C_Chain dx (putF "receipts" (.ref R) [("blocks", .ref B)]))) R = some (.lst []) := by rw [upd_ne pR.symm, upd_same]
    have hp2 : (upd (upd H1 R (.lst [])) p (.ins a.C_Chain dx (putF "receipts" (.ref R) [("blocks", .ref B)]))) p = some (.ins a.C_Chain dx [("blocks", .ref B), ("receipts", .ref R)]) := by rw [upd_same]; rfl
    generalize (upd (upd H1 R (.lst [])) p (.ins a.C_Chain dx (putF "receipts" (.ref R) [("blocks", .ref B)]))) = H2 at k2 hR2 hp2 ⊢
    have k12 := k1.trans k2
    have hB2 := k2 _ _ pB.symm hB1
    walk_at "rs"
    intro c dc hc hdc ndc
    have sM : Same H2 (upd (upd H2 dc (.own c)) c (.ins a.C_Committee dc [])) := same_upd (same_new hdc) hc
    refine ⟨c, dc, l, ws, rfl, upd_same, sM.seq (k12.seq hp hl), gw, fun H3 hcm keep => ⟨rfl, ?_⟩⟩
    have s3 : Same H2 H3 := fun b o e => keep b o (sM _ _ e) (fun q => by rw [q, hc] at e; cases e)
    walk_at "rs"
    refine ⟨(by show 1 ≤ sizeLine; decide), fun D hD => ?_⟩
    have hp3 := s3 _ _ hp2
    have pD : p ≠ D := fun e => by rw [e, hD] at hp3; cases hp3
    have BD : B ≠ D := fun e => by rw [← e, s3 _ _ hB2] at hD; cases hD
    have RD : R ≠ D := fun e => by rw [← e, s3 _ _ hR2] at hD; cases hD
    walk_at "rs"
    refine ⟨p, _, dx, _, rfl, (by rw [upd_ne pD]; exact hp3), T.cl_Chain, T.a_Chain_committees, (by show 2 < 1000; decide), ?_⟩
    have k4 : But1 p H3 (upd (upd H3 D (.lst [V.ref c])) p (.ins a.C_Chain dx (putF "committees" (.ref D) [("blocks", .ref B), ("receipts", .ref R)]))) := fun b o n e => by
      rw [upd_ne n, upd_ne (fun q => by rw [q, hD] at e; cases e)]
      exact e
    have hD4 : (upd (upd H3 D (.lst [V.ref c])) p (.ins a.C_Chain dx (putF "committees" (.ref D) [("blocks", .ref B), ("receipts", .ref R)]))) D = some (.lst [V.ref c]) := by rw [upd_ne pD.symm, upd_same]
    have hp4 : (upd (upd H3 D (.lst [V.ref c])) p (.ins a.C_Chain dx (putF "committees" (.ref D) [("blocks", .ref B), ("receipts", .ref R)]))) p = some (.ins a.C_Chain dx [("blocks", .ref B), ("receipts", .ref R), ("committees", .ref D)]) := by rw [upd_same]; rfl
    have pc : c ≠ p := fun e => by rw [e, hp2] at hc; cases hc
    have hcm4 := hcm.but k4 pc hp3
    generalize (upd (upd H3 D (.lst [V.ref c])) p (.ins a.C_Chain dx (putF "committees" (.ref D) [("blocks", .ref B), ("receipts", .ref R)]))) = H4 at k4 hD4 hp4 hcm4 ⊢
    have k3 : But1 p H2 H3 := fun b o _ e => s3 _ _ e
    have k14 := (k12.trans k3).trans k4
    have hB4 := k4 _ _ pB.symm (s3 _ _ hB2)
    have hR4 := k4 _ _ pR.symm (s3 _ _ hR2)
    walk_at "rs"
    refine ⟨g, bal, rfl, .inl (k14.seq hp hg), few, fun d H5 s5 hd0 hld => ?_⟩
    walk_at "rs"
    refine ⟨(by show 1 ≤ sizeLine; decide), fun L hL => ?_⟩
    have hp5 := s5 _ _ hp4
    have pL : p ≠ L := fun e => by rw [e, hL] at hp5; cases hp5
    have BL : B ≠ L := fun e => by rw [← e, s5 _ _ hB4] at hL; cases hL
    have RL : R ≠ L := fun e => by rw [← e, s5 _ _ hR4] at hL; cases hL
    have DL : D ≠ L := fun e => by rw [← e, s5 _ _ hD4] at hL; cases hL
    walk_at "rs"
    refine ⟨p, _, dx, _, rfl, (by rw [upd_ne pL]; exact hp5), T.cl_Chain, T.a_Chain_ledgers, (by show 3 < 1000; decide), ?_⟩
    have k6 : But1 p H5 (upd (upd H5 L (.lst [V.ref d])) p (.ins a.C_Chain dx (putF "ledgers" (.ref L) [("blocks", .ref B), ("receipts", .ref R), ("committees", .ref D)]))) := fun b o n e => by
      rw [upd_ne n, upd_ne (fun q => by rw [q, hL] at e; cases e)]
      exact e
    have hL6 : (upd (upd H5 L (.lst [V.ref d])) p (.ins a.C_Chain dx (putF "ledgers" (.ref L) [("blocks", .ref B), ("receipts", .ref R), ("committees", .ref D)]))) L = some (.lst [V.ref d]) := by rw [upd_ne pL.symm, upd_same]
    have hp6 : (upd (upd H5 L (.lst [V.ref d])) p (.ins a.C_Chain dx (putF "ledgers" (.ref L) [("blocks", .ref B), ("receipts", .ref R), ("committees", .ref D)]))) p = some (.ins a.C_Chain dx [("blocks", .ref B), ("receipts", .ref R), ("committees", .ref D), ("ledgers", .ref L)]) := by rw [upd_same]; rfl
    generalize (upd (upd H5 L (.lst [V.ref d])) p (.ins a.C_Chain dx (putF "ledgers" (.ref L) [("blocks", .ref B), ("receipts", .ref R), ("committees", .ref D)]))) = H6 at k6 hL6 hp6 ⊢
    have k5 : But1 p H4 H5 := fun b o _ e => s5 _ _ e
    have kAll := (k14.trans k5).trans k6
    have hcm6 := (hcm4.same s5).but k6 pc hp5
    have dp : d ≠ p := fun e => by rw [e, hp4] at hd0; cases hd0
    have fr : ∀ {b : Addr} {Hx : Hp}, But1 p H Hx → b ≠ p → Hx b = none → H b = none := fun {b Hx} kx n e => by
      cases q : H b with
      | none => rfl
      | some o => rw [kx _ _ n q] at e; cases e
    refine k ⟨B, R, D, L⟩ c d H6 ⟨⟨dx, hp6⟩, k6 _ _ pB.symm (s5 _ _ hB4), k6 _ _ pR.symm (s5 _ _ hR4), k6 _ _ pD.symm (s5 _ _ hD4), hL6, rfl, rfl, rfl, rfl, rfl, rfl, BR, BD, BL, RD, RL, DL, fun i hi => ?_, fun i hi => ?_, fun i hi => absurd hi (Nat.not_lt_zero _)⟩ hB (fr k1 pR.symm hR) (fr (k12.trans k3) pD.symm hD) (fr (k14.trans k5) pL.symm hL) kAll
    · have : i = 0 := Nat.lt_one_iff.mp hi
      rw [this]
      exact ⟨hcm6, gw⟩
    · have : i = 0 := Nat.lt_one_iff.mp hi
      rw [this]
      refine ⟨?_, first_good few nn 0⟩
      obtain ⟨dd, b1, c1, s1, ts, e1, e2, e3, e4, e5⟩ := hld
      have o6 : ∀ {b : Addr} {o : HO}, b ≠ p → H5 b = some o → H6 b = some o := fun n e => k6 _ _ n e
      have ot : ∀ {b : Addr} {xs : List V}, H5 b = some (.tup xs) → H6 b = some (.tup xs) := fun e => o6 (fun q => by rw [q, hp5] at e; cases e) e
      refine ⟨dd, b1, c1, s1, ts, o6 dp e1, ot e2, ot e3, ot e4, imp_paired e5 fun a b z => ?_⟩
      obtain ⟨o, us, z1, z2, z3⟩ := z
      exact ⟨o, us, o6 (fun q => by rw [q, hp5] at z1; cases z1) z1, z2, imp_paired z3 fun _ _ e => ot e⟩
def spCComm (C1 C2 C3 : Addr) : Sp := fun vs H Q _ => ∃ (p : Addr) (n k : Nat) (q : CnP) (v : CnV), vs = [.ref p] ∧ CnAt C1 C2 C3 n k H p q v ∧ Q (.ref (v.ps.getD v.zs.length 0)) H
theorem at_last {α : Type} {xs : List α} {d : α} {n : Nat} (h : xs.length = n + 1) : atI xs (-1) = some (xs.getD n d) := by
  have ne : xs ≠ [] := fun e => by rw [e] at h; cases h
  have e := List.dropLast_concat_getLast ne
  rw [← e, atI_last]
  congr 1
  have l : xs.dropLast.length = n := by rw [List.length_dropLast]; omega
  rw [List.getD_eq_getElem?_getD, List.getElem?_append_right (Nat.le_of_eq l), l, Nat.sub_self]
  rfl
theorem map_getD {ps : List Addr} {n : Nat} (h : n < ps.length) : (ps.map V.ref).getD n .non = .ref (ps.getD n 0) := by
  rw [List.getD_eq_getElem?_getD, List.getD_eq_getElem?_getD, List.getElem?_map, List.getElem?_eq_getElem h]
  rfl
theorem ok_Chain_committee (T : Txt K mg a) : ∃ fd, FnOk P w K mg base CX0 1 a.d_Chain_committee fd ["self"] (spCComm a.C_Chain a.C_Committee a.C_Ledger) ∧ Binds K fd ["self"] [] := by
  obtain ⟨fd, F, b⟩ := T.d_Chain_committee.F
  refine ⟨fd, F.ok sc_Chain_committee (fun vs H Q E h => ?_) (fun cdv A outer s H vs Q E hr h => ?_), b⟩
  · obtain ⟨_, _, _, _, _, rfl, _⟩ := h
    rfl
  · obtain ⟨p, n, m, q, v, rfl, c, k⟩ := h
    obtain ⟨dx, hp⟩ := c.ins
    refine ⟨_, (pss_one (ps_ret (pe_ix ix_list (pe_fld (pv 0) rfl) (pe_un un_neg pe_int) (fun _ _ => rfl)))), ?_⟩
    walk_at "rs"
    refine ⟨p, _, dx, _, .ref q.D, rfl, hp, T.cl_Chain, T.a_Chain_committees, rfl, ?_⟩
    walk_at "rs"
    have e : atI (v.ps.map V.ref) (-1) = some (.ref (v.ps.getD v.zs.length 0)) := by
      rw [at_last (d := .non) (n := v.zs.length) (by rw [List.length_map]; exact c.np), map_getD (by have := c.np; omega)]
    refine ⟨q.D, _, _, _, rfl, rfl, SqL.of c.hD, e, ?_⟩
    exact k


def afterW (ws : List Int) (m v : Int) : List Int := if (ws.length : Int) ≤ m ∨ v < 1 then ws else ws.set m.toNat v
theorem afterW_len (ws : List Int) (m v : Int) : (afterW ws m v).length = ws.length := by
  unfold afterW
  split
  · rfl
  · rw [List.length_set]
theorem afterW_good {ws : List Int} {m v : Int} (g : GoodW ws) (hv : NOk v) : GoodW (afterW ws m v) := by
  unfold afterW
  split
  · exact g
  · rename_i c
    refine ⟨by rw [List.length_set]; exact g.1, by rw [List.length_set]; exact g.2.1, fun x hx => ?_⟩
    rcases List.mem_or_eq_of_mem_set hx with h | h
    · exact g.2.2 x h
    · rw [h]
      have := hv.2
      omega
/-- whether a new weight is taken -/
def doneW (ws : List Int) (m v : Int) : Bool := decide (m < ws.length ∧ 1 ≤ v)
def spAW (K : PySem.W.Frag) : Sp := fun vs H Q _ => ∃ (t c : Addr) (ws : List Int) (m v : Int), vs = [.ref t, .ref c] ∧ H t = some (.tup (ws.map V.int)) ∧ GoodW ws ∧ CmAt H c (.w m v) ∧ NOk m ∧ NOk v ∧
  ∀ q t' H', Same H H' → H' q = some (.tup [.ref t', .bl (doneW ws m v)]) → H' t' = some (.tup ((afterW ws m v).map V.int)) → Q (.ref q) H'
theorem ok_after_weight (T : Txt K mg a) : ∃ fd, FnOk P w K mg base CX0 1 a.d_after_weight fd ["weights", "command"] (spAW K) ∧ Binds K fd ["weights", "command"] [] := by
  obtain ⟨fd, F, b⟩ := T.d_after_weight.F
  refine ⟨fd, F.ok sc_after_weight (fun vs H Q E h => ?_) (fun cdv A outer s H vs Q E hr h => ?_), b⟩
  · obtain ⟨_, _, _, _, _, rfl, _⟩ := h
    rfl
  · obtain ⟨t, c, ws, m, v, rfl, ht, gw, hc, om, ov, k⟩ := h
    have hc' : H c = some (.tup [.str "w", .int m, .int v]) := hc
    refine ⟨_, (pss_cons (ps_asg (pv 1) (pg_tup rfl (pgs_cons (pg_name (i := 2) sc_after_weight.nd rfl (Or.inl rfl)) (pgs_cons (pg_name (i := 3) sc_after_weight.nd rfl (Or.inl rfl)) (pgs_cons (pg_name (i := 4) sc_after_weight.nd rfl (Or.inl rfl)) pgs_nil)))))
      (pss_cons (ps_if (PW.pt (pw_or (pt_cmpR op_ge (pv 3) (pe_callB call_len_seq (by rfl) T.n_len PySem.boot_len (pa_cons (pv 0) pa_nil)) (nomark _)) (pw_or1 (pt_cmpR op_lt (pv 4) pe_int (nomark _)))))
      (pss_one (ps_ret (pe_tup (pa_cons (pv 0) (pa_cons pe_bl pa_nil)))))
      pss_nil)
      (pss_one (ps_ret (pe_tup (pa_cons (pe_op op_catB (pe_op op_catB (pe_slice sl_tup (pv 0) po_none (po_some (pv 3))) (pe_tup (pa_cons (pv 4) pa_nil))) (pe_slice sl_tup (pv 0) (po_some (pe_op op_add (pv 3) pe_int)) po_none)) (pa_cons pe_bl pa_nil))))))), ?_⟩
    walk_at "rs"
    refine ⟨c, _, rfl, SqT.of hc', rfl, ?_⟩
    refine ⟨_, _, rfl, _, _, rfl, _, _, rfl, rfl, ?_⟩
    walk_at "rs"
    refine ⟨t, _, rfl, .inr (SqT.of ht), ?_⟩
    have ln : (ws.map V.int).length = ws.length := List.length_map _
    rw [ln]
    have g2 := gw.2.1
    have no : (ws.length : Int) ≤ m ∨ v < 1 → ∀ q, H q = none → Q (.ref q) (upd H q (.tup [.ref t, .bl false])) := fun h q hq => by
      refine k q t _ (same_new hq) ?_ ?_
      · rw [upd_same, show doneW ws m v = false from decide_eq_false (by omega)]
      · unfold afterW
        rw [if_pos h]
        exact same_new hq _ _ ht
    walk_at "rs"
    refine ite2 (fun c1 => ?_) (fun c1 => ?_)
    · have c1 : (ws.length : Int) ≤ m := by simpa using c1
      walk_at "rs"
      exact ⟨(by show 2 ≤ sizeLine; decide), no (.inl c1)⟩
    have c1 : ¬ (ws.length : Int) ≤ m := by simpa using c1
    walk_at "rs"
    refine ite2 (fun c2 => ?_) (fun c2 => ?_)
    · have c2 : v < 1 := by simpa using c2
      walk_at "rs"
      exact ⟨(by show 2 ≤ sizeLine; decide), no (.inr c2)⟩
    have c2 : ¬ v < 1 := by simpa using c2
    clear no
    have ea : afterW ws m v = ws.set m.toNat v := by
      unfold afterW
      rw [if_neg (by omega)]
    have ed : doneW ws m v = true := decide_eq_true (by omega)
    rw [ea, ed] at k
    obtain ⟨j, rfl⟩ : ∃ j : Nat, m = (j : Int) := ⟨m.toNat, by have := om.1; omega⟩
    rw [Int.toNat_natCast] at k
    have hj : j < ws.length := by omega
    have nw1 : ¬ (HT.sIx (ws.map V.int).length 0 none = 0 ∧ HT.sIx (ws.map V.int).length (ws.map V.int).length (some (j : Int)) = (ws.map V.int).length) := by
      rw [HT.sIx_nat]
      omega
    have nw2 : ¬ (HT.sIx (ws.map V.int).length 0 (some ((j : Int) + 1)) = 0 ∧ HT.sIx (ws.map V.int).length (ws.map V.int).length none = (ws.map V.int).length) := by
      rw [show (j : Int) + 1 = ((j + 1 : Nat) : Int) from rfl, HT.sIx_nat]
      omega
    have hput : cutV (ws.map V.int) none (some (j : Int)) ++ [V.int v] ++ cutV (ws.map V.int) (some ((j : Int) + 1)) none = (ws.set j v).map V.int := by
      unfold cutV
      rw [show (j : Int) + 1 = ((j + 1 : Nat) : Int) from rfl, HT.sIx_nat, HT.sIx_nat, HT.sIx_none, HT.sIx_none, ln, Nat.min_eq_left (Nat.le_of_lt hj), Nat.min_eq_left hj, Nat.sub_zero, List.drop_zero, List.take_of_length_le (l := (ws.map V.int).drop (j + 1)) (by rw [List.length_drop, ln]; exact Nat.le_refl _), List.map_set, List.set_eq_take_append_cons_drop, if_pos (by rw [ln]; exact hj), List.append_assoc]
      rfl
    have lA := cutV_length (ws.map V.int) none (some (j : Int))
    have lC := cutV_length (ws.map V.int) (some ((j : Int) + 1)) none
    rw [ln] at lA lC
    walk_at "rs"
    refine ⟨t, _, rfl, SqT.of ht, nw1, fun q1 hq1 => ?_⟩
    generalize cutV (ws.map V.int) none (some (j : Int)) = A1 at hput lA
    have s1 := same_new (o := .tup A1) hq1
    have h1 : (upd H q1 (.tup A1)) q1 = some (.tup A1) := upd_same
    generalize upd H q1 (.tup A1) = H1 at s1 h1 ⊢
    walk_at "rs"
    refine ⟨(by show 1 ≤ sizeLine; decide), fun q2 hq2 => ?_⟩
    have s2 := same_new (o := .tup [V.int v]) hq2
    have h2 : (upd H1 q2 (.tup [V.int v])) q2 = some (.tup [V.int v]) := upd_same
    have h12 := s2 _ _ h1
    generalize upd H1 q2 (.tup [V.int v]) = H2 at s2 h2 h12 ⊢
    refine ⟨q1, q2, A1, [V.int v], rfl, rfl, h12, h2, by rw [sizeLine_eq]; show A1.length + 1 ≤ _; omega, fun q3 H3 s3 h3 => ?_⟩
    walk_at "rs"
    have s13 := s1.trans (s2.trans s3)
    refine ⟨t, _, rfl, SqT.of (s13 _ _ ht), nw2, fun q4 hq4 => ?_⟩
    generalize cutV (ws.map V.int) (some ((j : Int) + 1)) none = C1 at hput lC
    have s4 := same_new (o := .tup C1) hq4
    have h4 : (upd H3 q4 (.tup C1)) q4 = some (.tup C1) := upd_same
    have h34 := s4 _ _ h3
    generalize upd H3 q4 (.tup C1) = H4 at s4 h4 h34 ⊢
    refine ⟨q3, q4, A1 ++ [V.int v], C1, rfl, rfl, h34, h4, by rw [List.length_append, sizeLine_eq]; show A1.length + 1 + C1.length ≤ _; omega, fun q5 H5 s5 h5 => ?_⟩
    rw [hput] at h5
    walk_at "rs"
    refine ⟨(by show 2 ≤ sizeLine; decide), fun r hr => ?_⟩
    exact k r q5 _ (s13.trans (s4.trans (s5.trans (same_new hr)))) upd_same (same_new hr _ _ h5)
/-- what a command makes of weights, accounts, receipts -/
def stepB (st : List Int × Ac × List Bool) (c : Cm) : List Int × Ac × List Bool := match c with
  | .w m v => (afterW st.1 m v, st.2.1, st.2.2 ++ [doneW st.1 m v])
  | .p x y z => match afterA st.2.1 (.p x y z) with
    | some B => (st.1, B, st.2.2 ++ [true])
    | none => (st.1, st.2.1, st.2.2 ++ [false])
  | .k x y z => match afterA st.2.1 (.k x y z) with
    | some B => (st.1, B, st.2.2 ++ [true])
    | none => (st.1, st.2.1, st.2.2 ++ [false])
  | .d x z => match afterA st.2.1 (.d x z) with
    | some B => (st.1, B, st.2.2 ++ [true])
    | none => (st.1, st.2.1, st.2.2 ++ [false])
theorem stepB_some {st : List Int × Ac × List Bool} {c : Cm} {B : Ac} (h : afterA st.2.1 c = some B) : stepB st c = (st.1, B, st.2.2 ++ [true]) := by
  cases c with
  | w m v => cases h
  | p x y z => show (match afterA st.2.1 (.p x y z) with | some B => _ | none => _) = _; rw [h]
  | k x y z => show (match afterA st.2.1 (.k x y z) with | some B => _ | none => _) = _; rw [h]
  | d x z => show (match afterA st.2.1 (.d x z) with | some B => _ | none => _) = _; rw [h]
theorem stepB_none {st : List Int × Ac × List Bool} {c : Cm} (h : afterA st.2.1 c = none) (nw : ∀ m v, c ≠ .w m v) : stepB st c = (st.1, st.2.1, st.2.2 ++ [false]) := by
  cases c with
  | w m v => exact absurd rfl (nw m v)
  | p x y z => show (match afterA st.2.1 (.p x y z) with | some B => _ | none => _) = _; rw [h]
  | k x y z => show (match afterA st.2.1 (.k x y z) with | some B => _ | none => _) = _; rw [h]
  | d x z => show (match afterA st.2.1 (.d x z) with | some B => _ | none => _) = _; rw [h]
def runB (ws : List Int) (A : Ac) (cs : List Cm) : List Int × Ac × List Bool := cs.foldl stepB (ws, A, [])
theorem runB_snoc (ws : List Int) (A : Ac) (cs : List Cm) (c : Cm) : runB ws A (cs ++ [c]) = stepB (runB ws A cs) c := by
  unfold runB
  rw [List.foldl_append]
  rfl
theorem stepB_good {st : List Int × Ac × List Bool} {n k : Nat} {c : Cm} (gw : GoodW st.1) (ga : GoodA n k st.2.1) (hk : k ≤ 30000) (hc : c.fine) : GoodW (stepB st c).1 ∧ GoodA n (k + 200) (stepB st c).2.1 ∧ (stepB st c).2.2.length = st.2.2.length + 1 := by
  have other : (∀ m v, c ≠ .w m v) → GoodW (stepB st c).1 ∧ GoodA n (k + 200) (stepB st c).2.1 ∧ (stepB st c).2.2.length = st.2.2.length + 1 := fun nw => by
    cases e : afterA st.2.1 c with
    | none =>
      rw [stepB_none e nw]
      exact ⟨gw, ga.mono (by omega), List.length_append ..⟩
    | some B =>
      rw [stepB_some e]
      exact ⟨gw, afterA_good ga hk hc e, List.length_append ..⟩
  cases c with
  | w m v => exact ⟨afterW_good gw hc.2, ga.mono (by omega), List.length_append ..⟩
  | p x y z => exact other (fun _ _ e => nomatch e)
  | k x y z => exact other (fun _ _ e => nomatch e)
  | d x z => exact other (fun _ _ e => nomatch e)
theorem runB_good {ws : List Int} {A : Ac} {n k : Nat} (gw : GoodW ws) (ga : GoodA n k A) : ∀ (cs : List Cm), k + 200 * cs.length ≤ 30000 → (∀ c ∈ cs, c.fine) → GoodW (runB ws A cs).1 ∧ GoodA n (k + 200 * cs.length) (runB ws A cs).2.1 ∧ (runB ws A cs).2.2.length = cs.length := by
  intro cs
  induction h : cs.length generalizing cs with
  | zero =>
    intro _ _
    rw [List.eq_nil_of_length_eq_zero h]
    exact ⟨gw, ga, rfl⟩
  | succ i ih =>
    intro hk hf
    rcases List.eq_nil_or_concat cs with e | ⟨s, c, e⟩
    · rw [e] at h; cases h
    · rw [List.concat_eq_append] at e
      subst e
      rw [List.length_append, List.length_singleton] at h
      obtain ⟨g1, g2, g3⟩ := ih s (by omega) (by omega) fun c hc => hf c (List.mem_append_left _ hc)
      rw [runB_snoc]
      obtain ⟨e1, e2, e3⟩ := stepB_good g1 g2 (by omega) (hf c (List.mem_append_right _ (List.mem_singleton.mpr rfl)))
      exact ⟨e1, e2.mono (by omega), by rw [e3, g3]⟩
theorem runB_take {ws : List Int} {A : Ac} {cs : List Cm} {i : Nat} (h : i < cs.length) : runB ws A (cs.take (i + 1)) = stepB (runB ws A (cs.take i)) (cs.getD i default) := by
  rw [← runB_snoc]
  congr 1
  rw [List.take_add_one, List.getElem?_eq_getElem h, List.getD_eq_getElem?_getD, List.getElem?_eq_getElem h]
  rfl
/-- all but what a chain may change stays -/
def ButC (q : CnP) (H H' : Hp) : Prop := ∀ b o, b ≠ q.B → b ≠ q.R → b ≠ q.D → b ≠ q.L → H b = some o → H' b = some o
theorem getD_memC {α : Type} {d : α} {xs : List α} {i : Nat} (h : i < xs.length) : xs.getD i d ∈ xs := by
  rw [List.getD_eq_getElem?_getD, List.getElem?_eq_getElem h]
  exact List.getElem_mem h
theorem take_snocC {α : Type} {d : α} {xs : List α} {i : Nat} (h : i < xs.length) : xs.take (i + 1) = xs.take i ++ [xs.getD i d] := by
  rw [List.take_add_one, List.getElem?_eq_getElem h, List.getD_eq_getElem?_getD, List.getElem?_eq_getElem h]
  rfl
theorem getD_app {α : Type} {d : α} {xs ys : List α} {i : Nat} (h : i < xs.length) : (xs ++ ys).getD i d = xs.getD i d := by
  rw [List.getD_eq_getElem?_getD, List.getD_eq_getElem?_getD, List.getElem?_append_left h]
theorem getD_end {α : Type} {d x : α} {xs : List α} : (xs ++ [x]).getD xs.length d = x := by
  rw [List.getD_eq_getElem?_getD, List.getElem?_append_right (Nat.le_refl _), Nat.sub_self]
  rfl
def NL (o : HO) : Prop := ∀ xs, o ≠ .lst xs
theorem ButC.nl {C1 C2 C3 : Addr} {n m : Nat} {H H' : Hp} {p : Addr} {q : CnP} {v : CnV} (k : ButC q H H') (c : CnAt C1 C2 C3 n m H p q v) {b : Addr} {o : HO} (h : H b = some o) (n : NL o) : H' b = some o := by
  refine k b o (fun e => ?_) (fun e => ?_) (fun e => ?_) (fun e => ?_) h
  · rw [e, c.hB] at h; exact n _ (Option.some.inj h).symm
  · rw [e, c.hR] at h; exact n _ (Option.some.inj h).symm
  · rw [e, c.hD] at h; exact n _ (Option.some.inj h).symm
  · rw [e, c.hL] at h; exact n _ (Option.some.inj h).symm
theorem LgAt.but {C C1 C2 C3 : Addr} {n m : Nat} {H H' : Hp} {p x : Addr} {q : CnP} {v : CnV} {A : Ac} (k : ButC q H H') (c : CnAt C1 C2 C3 n m H p q v) (h : LgAt C H x A) : LgAt C H' x A := by
  obtain ⟨dd, b1, c1, s1, ts, e1, e2, e3, e4, e5⟩ := h
  have ot : ∀ {b : Addr} {xs : List V}, H b = some (.tup xs) → H' b = some (.tup xs) := fun e => k.nl c e (fun _ e => nomatch e)
  refine ⟨dd, b1, c1, s1, ts, k.nl c e1 (fun _ e => nomatch e), ot e2, ot e3, ot e4, imp_paired e5 fun a b z => ?_⟩
  obtain ⟨o, us, z1, z2, z3⟩ := z
  exact ⟨o, us, k.nl c z1 (fun _ e => nomatch e), z2, imp_paired z3 fun _ _ e => ot e⟩

def spExtend (C1 C2 C3 : Addr) : Sp := fun vs H Q _ => ∃ (p : Addr) (n m : Nat) (q : CnP) (v : CnV) (z : Str), vs = [.ref p, .str z] ∧ CnAt C1 C2 C3 n m H p q v ∧ z.length ≤ 1000 ∧ (∀ c ∈ cmdsOf z, c.fine) ∧ m + 200 * (cmdsOf z).length ≤ 30000 ∧ v.zs.length ≤ 900 ∧
  ∀ r c l H', CnAt C1 C2 C3 n (m + 200 * (cmdsOf z).length) H' p q ⟨v.zs ++ [z], v.rs ++ [r], v.bs ++ [(runB (v.ws.getD v.zs.length []) (v.az.getD v.zs.length default) (cmdsOf z)).2.2], v.ps ++ [c], v.ws ++ [(runB (v.ws.getD v.zs.length []) (v.az.getD v.zs.length default) (cmdsOf z)).1], v.ls ++ [l], v.az ++ [(runB (v.ws.getD v.zs.length []) (v.az.getD v.zs.length default) (cmdsOf z)).2.1]⟩ → ButC q H H' → Q .non H'
theorem ok_Chain_extend (TE : TxtE w K mg a) (T : Txt K mg a) : ∃ fd, FnOk P w K mg base CX0 9 a.d_Chain_extend fd ["self", "block"] (spExtend a.C_Chain a.C_Committee a.C_Ledger) ∧ Binds K fd ["self", "block"] [] := by
  obtain ⟨fd, F, b⟩ := T.d_Chain_extend.F
  obtain ⟨fd_commands_of, G_commands_of, b_commands_of⟩ := ok_commands_of (P := P) (w := w) (base := base) TE T
  obtain ⟨fd_Chain_committee, G_Chain_committee, b_Chain_committee⟩ := ok_Chain_committee (P := P) (w := w) (base := base) T
  obtain ⟨fd_Committee_init, G_Committee_init, b_Committee_init⟩ := ok_Committee_initT (P := P) (w := w) (base := base) T
  obtain ⟨fd_after_weight, G_after_weight, b_after_weight⟩ := ok_after_weight (P := P) (w := w) (base := base) T
  obtain ⟨fd_after_command, G_after_command, b_after_command⟩ := ok_after_command (P := P) (w := w) (base := base) TE T
  refine ⟨fd, F.ok sc_Chain_extend (fun vs H Q E h => ?_) (fun cdv A outer s H vs Q E hr h => ?_), b⟩
  · obtain ⟨_, _, _, _, _, _, rfl, _⟩ := h
    rfl
  · obtain ⟨p, n, m, q, v, z, rfl, c, lz, fine, hm, few, k⟩ := h
    obtain ⟨dx, hp⟩ := id c.ins
    refine ⟨_, (pss_cons (ps_set (i := 2) sc_Chain_extend.nd rfl (Or.inl rfl) (pe_fld (pe_meth0 (pv 0) T.cl_Chain T.me_Chain_committee G_Chain_committee (hr.mono (by decide)) b_Chain_committee .nil pass0) rfl))
      (pss_cons (ps_set (i := 3) sc_Chain_extend.nd rfl (Or.inl rfl) (pe_ix ix_list (pe_fld (pv 0) rfl) (pe_un un_neg pe_int) (fun _ _ => rfl)))
      (pss_cons (ps_set (i := 4) sc_Chain_extend.nd rfl (Or.inl rfl) (pe_lst pa_nil))
      (pss_cons (ps_for PassesOwn.never rfl (pi_list (pe_call G_commands_of (hr.mono (by decide)) rfl T.d_commands_of.g T.d_commands_of.kp b_commands_of .nil pass0 (pa_cons (pv 1) pa_nil))) (pg_name (i := 5) sc_Chain_extend.nd rfl (Or.inl rfl))
      (pss_cons (ps_if (pt_cmpR op_eq (pe_ix ix_tup (pv 5) pe_int (fun _ _ => rfl)) pe_str (nomark _))
        (pss_one (ps_asg (pe_call G_after_weight (hr.mono (by decide)) rfl T.d_after_weight.g T.d_after_weight.kp b_after_weight .nil pass0 (pa_cons (pv 2) (pa_cons (pv 5) pa_nil))) (pg_tup rfl (pgs_cons (pg_name (i := 2) sc_Chain_extend.nd rfl (Or.inl rfl)) (pgs_cons (pg_name (i := 6) sc_Chain_extend.nd rfl (Or.inl rfl)) pgs_nil)))))
        (pss_one (ps_asg (pe_call G_after_command (hr.mono (by decide)) rfl T.d_after_command.g T.d_after_command.kp b_after_command .nil pass0 (pa_cons (pv 3) (pa_cons (pv 5) pa_nil))) (pg_tup rfl (pgs_cons (pg_name (i := 3) sc_Chain_extend.nd rfl (Or.inl rfl)) (pgs_cons (pg_name (i := 6) sc_Chain_extend.nd rfl (Or.inl rfl)) pgs_nil))))))
        (pss_one (ps_expr (pe_bm PySem.F.plainAttrs_list PySem.F.slot_list_append PySem.F.type_list_append mt_append (pv 4) (pa_cons (pv 6) pa_nil))))))
      (pss_cons (ps_expr (pe_bm PySem.F.plainAttrs_list PySem.F.slot_list_append PySem.F.type_list_append mt_append (pe_fld (pv 0) rfl) (pa_cons (pv 1) pa_nil)))
      (pss_cons (ps_expr (pe_bm PySem.F.plainAttrs_list PySem.F.slot_list_append PySem.F.type_list_append mt_append (pe_fld (pv 0) rfl) (pa_cons (pe_callTy call_tuple_of (by rfl) T.n_tuple (by decide +kernel) (pa_cons (pv 4) pa_nil)) pa_nil)))
      (pss_cons (ps_expr (pe_bm PySem.F.plainAttrs_list PySem.F.slot_list_append PySem.F.type_list_append mt_append (pe_fld (pv 0) rfl) (pa_cons (pe_make T.m_Committee G_Committee_init (hr.mono (by decide)) (by rfl) T.g_Committee b_Committee_init .nil pass0 (pa_cons (pv 2) pa_nil)) pa_nil)))
      (pss_one (ps_expr (pe_bm PySem.F.plainAttrs_list PySem.F.slot_list_append PySem.F.type_list_append mt_append (pe_fld (pv 0) rfl) (pa_cons (pv 3) pa_nil))))))))))), ?_⟩
    walk_at "rs"
    refine ⟨p, dx, _, rfl, hp, rfl, ?_⟩
    walk_at "rs"
    refine ⟨p, n, m, q, v, rfl, c, ?_⟩
    obtain ⟨⟨dc, t, hc1, hc2⟩, gw⟩ := c.cm v.zs.length (by have := c.nw; omega)
    obtain ⟨hlg, ga⟩ := c.ld v.zs.length (by have := c.na; omega)
    walk_at "rs"
    refine ⟨_, _, dc, _, .ref t, rfl, hc1, T.cl_Committee, T.a_Committee_weights, cfs_w _ _, ?_⟩
    walk_at "rs"
    refine ⟨p, _, dx, _, .ref q.L, rfl, hp, T.cl_Chain, T.a_Chain_ledgers, rfl, ?_⟩
    walk_at "rs"
    have eL : atI (v.ls.map V.ref) (-1) = some (.ref (v.ls.getD v.zs.length 0)) := by
      rw [at_last (d := .non) (n := v.zs.length) (by rw [List.length_map]; exact c.nl), map_getD (by have := c.nl; omega)]
    refine ⟨q.L, _, _, _, rfl, rfl, SqL.of c.hL, eL, ?_⟩
    walk_at "rs"
    refine ⟨(by show 0 ≤ sizeLine; decide), fun rl hrl => ?_⟩
    have s1 := same_new (o := .lst []) hrl
    have hrl1 : (upd H rl (.lst [])) rl = some (.lst (([] : List Bool).map V.bl)) := upd_same
    generalize upd H rl (.lst []) = H1 at s1 hrl1 ⊢
    walk_at "rs"
    refine ⟨lz, fun u cps H2 s2 hu0 hu hcs => ?_⟩
    have ncs := hcs.1
    have lcs := cmdsOf_long z
    have url : u ≠ rl := fun e => by rw [e, hrl1] at hu0; cases hu0
    generalize cmdsOf z = cs at fine hm hcs ncs lcs k
    generalize hw0 : v.ws.getD v.zs.length [] = ws0 at gw hc2 k
    generalize hA0 : v.az.getD v.zs.length default = A0 at hlg ga k
    generalize hl0 : v.ls.getD v.zs.length 0 = ld0 at hlg
    refine ⟨u, rfl, ⟨_, SqL.of hu⟩, for_list (K := K) (a := u) (xs := cps.map V.ref) (fun i σ H3 => ∃ (t' l' : Addr) (v5 v6 : Option V), σ = [some (.ref p), some (.str z), some (.ref t'), some (.ref l'), some (.ref rl), v5, v6] ∧ Same H H3 ∧ H3 rl = some (.lst ((runB ws0 A0 (cs.take i)).2.2.map V.bl)) ∧
        H3 u = some (.lst (cps.map V.ref)) ∧ CmsAt H3 cps cs ∧ H3 t' = some (.tup ((runB ws0 A0 (cs.take i)).1.map V.int)) ∧ LgAt a.C_Ledger H3 l' (runB ws0 A0 (cs.take i)).2.1)
      ⟨t, ld0, _, _, by rw [← hl0]; rfl, s1.trans s2, s2 _ _ hrl1, hu, hcs, s2 _ _ (s1 _ _ hc2), (hlg.same s1).same s2⟩ (fun i σ H3 _ ⟨_, _, _, _, _, _, _, h, _⟩ => SqL.of h) ?_ ?_⟩
    · rintro i y' σ H3 hy ⟨t', l', v5, v6, rfl, s3, hr3, hu3, hc3, ht3, hl3⟩
      have hi : i < cps.length := by
        have e := (List.getElem?_eq_some_iff.mp hy).1
        rwa [List.length_map] at e
      rw [List.getElem?_map, List.getElem?_eq_getElem hi] at hy
      cases hy
      have hi' : i < cs.length := by omega
      have hcm := hc3.2 i hi'
      have et := runB_take (ws := ws0) (A := A0) hi'
      have ea : cps.getD i 0 = cps[i] := by rw [List.getD_eq_getElem?_getD, List.getElem?_eq_getElem hi]; rfl
      rw [ea] at hcm
      obtain ⟨gi, gai, lri⟩ := runB_good gw ga (cs.take i) (by have := List.length_take_le' i cs; rw [List.length_take]; omega) fun c hc => fine c (List.mem_of_mem_take hc)
      rw [List.length_take, Nat.min_eq_left (Nat.le_of_lt hi')] at gai lri
      have fx := fine _ (getD_memC (d := default) hi')
      generalize cs.getD i default = x at hcm et fx
      generalize runB ws0 A0 (cs.take i) = S at hr3 ht3 hl3 et gi gai lri
      generalize runB ws0 A0 (cs.take (i + 1)) = S' at et
      have fin : ∀ (t5 l5 q5 : Addr) (b5 : Bool) (H4 : Hp) (v5 v6 : Option V), Same H3 H4 → H4 t5 = some (.tup (S'.1.map V.int)) → LgAt a.C_Ledger H4 l5 S'.2.1 → S'.2.2 = S.2.2 ++ [b5] →
          ∃ (t' l' : Addr) (w5 w6 : Option V), [some (V.ref p), some (.str z), some (.ref t5), some (.ref l5), some (.ref rl), v5, v6] = [some (V.ref p), some (.str z), some (.ref t'), some (.ref l'), some (.ref rl), w5, w6] ∧ Same H (upd H4 rl (.lst (S.2.2.map V.bl ++ [V.bl b5]))) ∧ (upd H4 rl (.lst (S.2.2.map V.bl ++ [V.bl b5]))) rl = some (.lst (S'.2.2.map V.bl)) ∧
            (upd H4 rl (.lst (S.2.2.map V.bl ++ [V.bl b5]))) u = some (.lst (cps.map V.ref)) ∧ CmsAt (upd H4 rl (.lst (S.2.2.map V.bl ++ [V.bl b5]))) cps cs ∧ (upd H4 rl (.lst (S.2.2.map V.bl ++ [V.bl b5]))) t' = some (.tup (S'.1.map V.int)) ∧ LgAt a.C_Ledger (upd H4 rl (.lst (S.2.2.map V.bl ++ [V.bl b5]))) l' S'.2.1 := fun t5 l5 q5 b5 H4 v5 v6 s4 ht5 hl5 eb => by
        have hr4 := s4 _ _ hr3
        have nrl : ∀ {b : Addr} {xs : List V}, H4 b = some (.tup xs) → b ≠ rl := fun {b xs} h e => by
          rw [e, hr4] at h
          cases h
        have ot : ∀ {b : Addr} {xs : List V}, H4 b = some (.tup xs) → (upd H4 rl (.lst (S.2.2.map V.bl ++ [V.bl b5]))) b = some (.tup xs) := fun e => by rw [upd_ne (nrl e)]; exact e
        refine ⟨t5, l5, _, _, rfl, same_upd (s3.trans s4) hrl, by rw [upd_same, eb, List.map_append]; rfl, by rw [upd_ne url]; exact s4 _ _ hu3, ⟨hc3.1, fun i' hi2 => ?_⟩, ot ht5, ?_⟩
        · exact ot (s4 _ _ (hc3.2 i' hi2))
        · obtain ⟨dd, b1, c1, z1, ts, e1, e2, e3, e4, e5⟩ := hl5
          refine ⟨dd, b1, c1, z1, ts, by rw [upd_ne (fun e => by rw [e, hr4] at e1; cases e1)]; exact e1, ot e2, ot e3, ot e4, imp_paired e5 fun a b zz => ?_⟩
          obtain ⟨o, us, y1, y2, y3⟩ := zz
          exact ⟨o, us, by rw [upd_ne (fun e => by rw [e, hr4] at y1; cases y1)]; exact y1, y2, imp_paired y3 fun _ _ e => ot e⟩
      have lbs : S.2.2.length ≤ 1000 := by omega
      cases x with
      | w mm vv =>
        have hcm' : H3 cps[i] = some (.tup [.str "w", .int mm, .int vv]) := hcm
        walk_at "rs"
        refine ⟨_, _, _, _, rfl, rfl, SqT.of hcm', atI_nat (j := 0) rfl, ?_⟩
        walk_at "rs"
        refine ⟨t', cps[i], _, mm, vv, rfl, ht3, gi, hcm', fx.1, fx.2, fun q5 t5 H4 s4 hq5 ht5 => ?_⟩
        refine ⟨q5, _, rfl, SqT.of hq5, rfl, ?_⟩
        refine ⟨_, _, rfl, _, _, rfl, rfl, ?_⟩
        walk_at "rs"
        have hr4 := s4 _ _ hr3
        refine ⟨.inl ⟨rfl, _, SqL.of hr4⟩, ?_⟩
        walk_at "rs"
        refine ⟨rl, _, _, rfl, rfl, hr4, by rw [List.length_map]; exact small1000 (by omega), ?_⟩
        subst et
        exact fin t5 l' 0 _ H4 _ _ s4 ht5 (hl3.same s4) rfl
      | p x y zz =>
        have hcm' : H3 cps[i] = some (.tup [.str "p", .int x, .int y, .int zz]) := hcm
        walk_at "rs"
        refine ⟨_, _, _, _, rfl, rfl, SqT.of hcm', atI_nat (j := 0) rfl, ?_⟩
        walk_at "rs"
        refine ⟨l', cps[i], _, .p x y zz, n, m + 200 * i, rfl, hl3, hcm, fx, gai, by omega, fun e q5 H4 s4 hq5 => ?_, fun e q5 H4 B e2 s4 hr5 hq5 => ?_⟩
        · rw [stepB_none e (fun _ _ e => nomatch e)] at et
          subst et
          refine ⟨q5, _, rfl, SqT.of hq5, rfl, ?_⟩
          refine ⟨_, _, rfl, _, _, rfl, rfl, ?_⟩
          walk_at "rs"
          have hr4 := s4 _ _ hr3
          refine ⟨.inl ⟨rfl, _, SqL.of hr4⟩, ?_⟩
          walk_at "rs"
          refine ⟨rl, _, _, rfl, rfl, hr4, by rw [List.length_map]; exact small1000 (by omega), ?_⟩
          exact fin t' l' 0 _ H4 _ _ s4 (s4 _ _ ht3) (hl3.same s4) rfl
        · rw [stepB_some e2] at et
          subst et
          refine ⟨e, _, rfl, SqT.of hq5, rfl, ?_⟩
          refine ⟨_, _, rfl, _, _, rfl, rfl, ?_⟩
          walk_at "rs"
          have hr4 := s4 _ _ hr3
          refine ⟨.inl ⟨rfl, _, SqL.of hr4⟩, ?_⟩
          walk_at "rs"
          refine ⟨rl, _, _, rfl, rfl, hr4, by rw [List.length_map]; exact small1000 (by omega), ?_⟩
          exact fin t' q5 0 _ H4 _ _ s4 (s4 _ _ ht3) hr5 rfl
      | k x y zz =>
        have hcm' : H3 cps[i] = some (.tup [.str "k", .int x, .int y, .int zz]) := hcm
        walk_at "rs"
        refine ⟨_, _, _, _, rfl, rfl, SqT.of hcm', atI_nat (j := 0) rfl, ?_⟩
        walk_at "rs"
        refine ⟨l', cps[i], _, .k x y zz, n, m + 200 * i, rfl, hl3, hcm, fx, gai, by omega, fun e q5 H4 s4 hq5 => ?_, fun e q5 H4 B e2 s4 hr5 hq5 => ?_⟩
        · rw [stepB_none e (fun _ _ e => nomatch e)] at et
          subst et
          refine ⟨q5, _, rfl, SqT.of hq5, rfl, ?_⟩
          refine ⟨_, _, rfl, _, _, rfl, rfl, ?_⟩
          walk_at "rs"
          have hr4 := s4 _ _ hr3
          refine ⟨.inl ⟨rfl, _, SqL.of hr4⟩, ?_⟩
          walk_at "rs"
          refine ⟨rl, _, _, rfl, rfl, hr4, by rw [List.length_map]; exact small1000 (by omega), ?_⟩
          exact fin t' l' 0 _ H4 _ _ s4 (s4 _ _ ht3) (hl3.same s4) rfl
        · rw [stepB_some e2] at et
          subst et
          refine ⟨e, _, rfl, SqT.of hq5, rfl, ?_⟩
          refine ⟨_, _, rfl, _, _, rfl, rfl, ?_⟩
          walk_at "rs"
          have hr4 := s4 _ _ hr3
          refine ⟨.inl ⟨rfl, _, SqL.of hr4⟩, ?_⟩
          walk_at "rs"
          refine ⟨rl, _, _, rfl, rfl, hr4, by rw [List.length_map]; exact small1000 (by omega), ?_⟩
          exact fin t' q5 0 _ H4 _ _ s4 (s4 _ _ ht3) hr5 rfl
      | d x zz =>
        have hcm' : H3 cps[i] = some (.tup [.str "d", .int x, .str zz]) := hcm
        walk_at "rs"
        refine ⟨_, _, _, _, rfl, rfl, SqT.of hcm', atI_nat (j := 0) rfl, ?_⟩
        walk_at "rs"
        refine ⟨l', cps[i], _, .d x zz, n, m + 200 * i, rfl, hl3, hcm, fx, gai, by omega, fun e q5 H4 s4 hq5 => ?_, fun e q5 H4 B e2 s4 hr5 hq5 => ?_⟩
        · rw [stepB_none e (fun _ _ e => nomatch e)] at et
          subst et
          refine ⟨q5, _, rfl, SqT.of hq5, rfl, ?_⟩
          refine ⟨_, _, rfl, _, _, rfl, rfl, ?_⟩
          walk_at "rs"
          have hr4 := s4 _ _ hr3
          refine ⟨.inl ⟨rfl, _, SqL.of hr4⟩, ?_⟩
          walk_at "rs"
          refine ⟨rl, _, _, rfl, rfl, hr4, by rw [List.length_map]; exact small1000 (by omega), ?_⟩
          exact fin t' l' 0 _ H4 _ _ s4 (s4 _ _ ht3) (hl3.same s4) rfl
        · rw [stepB_some e2] at et
          subst et
          refine ⟨e, _, rfl, SqT.of hq5, rfl, ?_⟩
          refine ⟨_, _, rfl, _, _, rfl, rfl, ?_⟩
          walk_at "rs"
          have hr4 := s4 _ _ hr3
          refine ⟨.inl ⟨rfl, _, SqL.of hr4⟩, ?_⟩
          walk_at "rs"
          refine ⟨rl, _, _, rfl, rfl, hr4, by rw [List.length_map]; exact small1000 (by omega), ?_⟩
          exact fin t' q5 0 _ H4 _ _ s4 (s4 _ _ ht3) hr5 rfl
    · rintro σ H3 ⟨t', l', v5, v6, rfl, s3, hr3, hu3, hc3, ht3, hl3⟩
      rw [List.length_map, ncs, List.take_length] at hr3 ht3 hl3
      obtain ⟨gwn, gan, lrn⟩ := runB_good gw ga cs hm fine
      generalize hS : runB ws0 A0 cs = S at hr3 ht3 hl3 gwn gan lrn k
      obtain ⟨wn, An, bs⟩ := S
      have hr3 : H3 rl = some (.lst (bs.map V.bl)) := hr3
      have ht3 : H3 t' = some (.tup (wn.map V.int)) := ht3
      have hl3 : LgAt a.C_Ledger H3 l' An := hl3
      have c3 := c.same s3
      have lzs : v.zs.length ≤ 900 := few
      clear hcs hc3 hu3 hu hu0
      walk_at "rs"
      refine ⟨p, _, dx, _, .ref q.B, rfl, s3 _ _ hp, T.cl_Chain, T.a_Chain_blocks, rfl, ?_⟩
      refine ⟨.inl ⟨rfl, _, SqL.of c3.hB⟩, ?_⟩
      walk_at "rs"
      refine ⟨q.B, _, _, rfl, rfl, c3.hB, by rw [List.length_map]; exact small1000 (by omega), ?_⟩
      have hpB : p ≠ q.B := fun e => by rw [e, c.hB] at hp; cases hp
      have hpR : p ≠ q.R := fun e => by rw [e, c.hR] at hp; cases hp
      have hpD : p ≠ q.D := fun e => by rw [e, c.hD] at hp; cases hp
      have hpL : p ≠ q.L := fun e => by rw [e, c.hL] at hp; cases hp
      have u4 : ∀ {b : Addr} {o : HO}, b ≠ q.B → H3 b = some o → (upd H3 q.B (.lst (v.zs.map V.str ++ [V.str z]))) b = some o := fun n e => by rw [upd_ne n]; exact e
      have hB4 : (upd H3 q.B (.lst (v.zs.map V.str ++ [V.str z]))) q.B = some (.lst ((v.zs ++ [z]).map V.str)) := by rw [upd_same]; simp
      have rlB : rl ≠ q.B := fun e => by rw [e, c.hB] at hrl; cases hrl
      have rlR : rl ≠ q.R := fun e => by rw [e, c.hR] at hrl; cases hrl
      have tB : t' ≠ q.B := fun e => by rw [e, c3.hB] at ht3; cases ht3
      have tR : t' ≠ q.R := fun e => by rw [e, c3.hR] at ht3; cases ht3
      have hp4 := u4 hpB (s3 _ _ hp)
      have hr4 := u4 rlB hr3
      have ht4 := u4 tB ht3
      have hR4 := u4 c.ne1.symm c3.hR
      have hD4 := u4 c.ne2.symm c3.hD
      have hL4 := u4 c.ne3.symm c3.hL
      generalize upd H3 q.B (.lst (v.zs.map V.str ++ [V.str z])) = H4 at u4 hB4 hp4 hr4 ht4 hR4 hD4 hL4 ⊢
      walk_at "rs"
      refine ⟨p, _, dx, _, .ref q.R, rfl, hp4, T.cl_Chain, T.a_Chain_receipts, rfl, ?_⟩
      refine ⟨.inl ⟨rfl, _, SqL.of hR4⟩, ?_⟩
      walk_at "rs"
      refine ⟨rl, _, rfl, .inl ⟨SqL.of hr4, fun r hr => ?_⟩⟩
      have s5 := same_new (o := .tup (bs.map V.bl)) hr
      have hr5 : (upd H4 r (.tup (bs.map V.bl))) r = some (.tup (bs.map V.bl)) := upd_same
      generalize upd H4 r (.tup (bs.map V.bl)) = H5 at s5 hr5 ⊢
      walk_at "rs"
      refine ⟨q.R, _, _, rfl, rfl, s5 _ _ hR4, by rw [List.length_map, c.nr]; exact small1000 (by omega), ?_⟩
      have u6 : ∀ {b : Addr} {o : HO}, b ≠ q.R → H5 b = some o → (upd H5 q.R (.lst (v.rs.map V.ref ++ [V.ref r]))) b = some o := fun n e => by rw [upd_ne n]; exact e
      have hR6 : (upd H5 q.R (.lst (v.rs.map V.ref ++ [V.ref r]))) q.R = some (.lst ((v.rs ++ [r]).map V.ref)) := by rw [upd_same]; simp
      have hr6 := u6 (fun e => by rw [e, s5 _ _ hR4] at hr5; cases hr5) hr5
      have hp6 := u6 hpR (s5 _ _ hp4)
      have ht6 := u6 tR (s5 _ _ ht4)
      have hB6 := u6 c.ne1 (s5 _ _ hB4)
      have hD6 := u6 c.ne4.symm (s5 _ _ hD4)
      have hL6 := u6 c.ne5.symm (s5 _ _ hL4)
      generalize upd H5 q.R (.lst (v.rs.map V.ref ++ [V.ref r])) = H6 at u6 hr6 hR6 hp6 ht6 hB6 hD6 hL6 ⊢
      walk_at "rs"
      refine ⟨p, _, dx, _, .ref q.D, rfl, hp6, T.cl_Chain, T.a_Chain_committees, rfl, ?_⟩
      refine ⟨.inl ⟨rfl, _, SqL.of hD6⟩, ?_⟩
      walk_at "rs"
      intro cn dn hcn hdn ndn
      have sM : Same H6 (upd (upd H6 dn (.own cn)) cn (.ins a.C_Committee dn [])) := same_upd (same_new hdn) hcn
      refine ⟨cn, dn, t', wn, rfl, upd_same, sM _ _ ht6, gwn, fun H7 hcm keep => ⟨rfl, ?_⟩⟩
      have s7 : Same H6 H7 := fun b o e => keep b o (sM _ _ e) (fun q => by rw [q, hcn] at e; cases e)
      clear keep sM
      walk_at "rs"
      refine ⟨q.D, _, _, rfl, rfl, s7 _ _ hD6, by rw [List.length_map, c.np]; exact small1000 (by omega), ?_⟩
      have u8 : ∀ {b : Addr} {o : HO}, b ≠ q.D → H7 b = some o → (upd H7 q.D (.lst (v.ps.map V.ref ++ [V.ref cn]))) b = some o := fun n e => by rw [upd_ne n]; exact e
      have hD8 : (upd H7 q.D (.lst (v.ps.map V.ref ++ [V.ref cn]))) q.D = some (.lst ((v.ps ++ [cn]).map V.ref)) := by rw [upd_same]; simp
      have hr8 := u8 (fun e => by have h := s7 _ _ hr6; rw [e, s7 _ _ hD6] at h; cases h) (s7 _ _ hr6)
      have hp8 := u8 hpD (s7 _ _ hp6)
      have hB8 := u8 c.ne2 (s7 _ _ hB6)
      have hR8 := u8 c.ne4 (s7 _ _ hR6)
      have hL8 := u8 c.ne6.symm (s7 _ _ hL6)
      have hD7 := s7 _ _ hD6
      have hcm8 : CommAt a.C_Committee (upd H7 q.D (.lst (v.ps.map V.ref ++ [V.ref cn]))) cn wn := by
        obtain ⟨d1, t1, e1, e2⟩ := hcm
        exact ⟨d1, t1, u8 (fun e => by rw [e, hD7] at e1; cases e1) e1, u8 (fun e => by rw [e, hD7] at e2; cases e2) e2⟩
      generalize upd H7 q.D (.lst (v.ps.map V.ref ++ [V.ref cn])) = H8 at u8 hr8 hD8 hp8 hB8 hR8 hL8 hcm8 ⊢
      walk_at "rs"
      refine ⟨p, _, dx, _, .ref q.L, rfl, hp8, T.cl_Chain, T.a_Chain_ledgers, rfl, ?_⟩
      refine ⟨.inl ⟨rfl, _, SqL.of hL8⟩, ?_⟩
      walk_at "rs"
      refine ⟨q.L, _, _, rfl, rfl, hL8, by rw [List.length_map, c.nl]; exact small1000 (by omega), ?_⟩
      have u9 : ∀ {b : Addr} {o : HO}, b ≠ q.L → H8 b = some o → (upd H8 q.L (.lst (v.ls.map V.ref ++ [V.ref l']))) b = some o := fun n e => by rw [upd_ne n]; exact e
      have hL9 : (upd H8 q.L (.lst (v.ls.map V.ref ++ [V.ref l']))) q.L = some (.lst ((v.ls ++ [l']).map V.ref)) := by rw [upd_same]; simp
      have hcm9 : CommAt a.C_Committee (upd H8 q.L (.lst (v.ls.map V.ref ++ [V.ref l']))) cn wn := by
        obtain ⟨d1, t1, e1, e2⟩ := hcm8
        exact ⟨d1, t1, u9 (fun e => by rw [e, hL8] at e1; cases e1) e1, u9 (fun e => by rw [e, hL8] at e2; cases e2) e2⟩
      have hr9 := u9 (fun e => by rw [e, hL8] at hr8; cases hr8) hr8
      have hp9 := u9 hpL hp8
      have hB9 := u9 c.ne3 hB8
      have hR9 := u9 c.ne5 hR8
      have hD9 := u9 c.ne6 hD8
      generalize upd H8 q.L (.lst (v.ls.map V.ref ++ [V.ref l'])) = H9 at u9 hr9 hL9 hcm9 hp9 hB9 hR9 hD9 ⊢
      have kq : ButC q H H9 := fun b o n1 n2 n3 n4 e => u9 n4 (u8 n3 (s7 _ _ (u6 n2 (s5 _ _ (u4 n1 (s3 _ _ e))))))
      have kq3 : ButC q H3 H9 := fun b o n1 n2 n3 n4 e => u9 n4 (u8 n3 (s7 _ _ (u6 n2 (s5 _ _ (u4 n1 e)))))
      have hl9 := hl3.but kq3 c3
      have l1 := c.nr
      have l2 := c.np
      have l3 := c.nw
      have l4 := c.nl
      have l5 := c.nb
      have l6 := c.na
      refine k r cn l' H9 ⟨⟨dx, hp9⟩, hB9, hR9, hD9, hL9, ?_, ?_, ?_, ?_, ?_, ?_, c.ne1, c.ne2, c.ne3, c.ne4, c.ne5, c.ne6, fun i hi => ?_, fun i hi => ?_, fun i hi => ?_⟩ kq
      · show (v.rs ++ [r]).length = (v.zs ++ [z]).length
        rw [List.length_append, List.length_append, l1]
        rfl
      · show (v.bs ++ [bs]).length = (v.zs ++ [z]).length
        rw [List.length_append, List.length_append, l5]
        rfl
      · show (v.ps ++ [cn]).length = (v.zs ++ [z]).length + 1
        rw [List.length_append, List.length_append, l2]
        rfl
      · show (v.ws ++ [wn]).length = (v.zs ++ [z]).length + 1
        rw [List.length_append, List.length_append, l3]
        rfl
      · show (v.ls ++ [l']).length = (v.zs ++ [z]).length + 1
        rw [List.length_append, List.length_append, l4]
        rfl
      · show (v.az ++ [An]).length = (v.zs ++ [z]).length + 1
        rw [List.length_append, List.length_append, l6]
        rfl
      · have hi : i < (v.ws ++ [wn]).length := hi
        rw [List.length_append, List.length_singleton] at hi
        show CommAt _ _ ((v.ps ++ [cn]).getD i 0) ((v.ws ++ [wn]).getD i []) ∧ GoodW ((v.ws ++ [wn]).getD i [])
        rcases Nat.lt_or_ge i v.ws.length with z1 | z1
        · rw [getD_app (by omega), getD_app z1]
          obtain ⟨⟨d1, t1, e1, e2⟩, g1⟩ := c.cm i z1
          exact ⟨⟨d1, t1, kq.nl c e1 (fun _ e => nomatch e), kq.nl c e2 (fun _ e => nomatch e)⟩, g1⟩
        · have ei : i = v.ws.length := by omega
          rw [ei, getD_end, show v.ws.length = v.ps.length by omega, getD_end]
          exact ⟨hcm9, gwn⟩
      · have hi : i < (v.az ++ [An]).length := hi
        rw [List.length_append, List.length_singleton] at hi
        show LgAt _ _ ((v.ls ++ [l']).getD i 0) ((v.az ++ [An]).getD i default) ∧ GoodA n _ ((v.az ++ [An]).getD i default)
        rcases Nat.lt_or_ge i v.az.length with z1 | z1
        · rw [getD_app (by omega), getD_app z1]
          obtain ⟨e1, e2⟩ := c.ld i z1
          exact ⟨e1.but kq c, e2.mono (by omega)⟩
        · have ei : i = v.az.length := by omega
          rw [ei, getD_end, show v.az.length = v.ls.length by omega, getD_end]
          exact ⟨hl9, gan⟩
      · have hi : i < (v.bs ++ [bs]).length := hi
        rw [List.length_append, List.length_singleton] at hi
        show H9 ((v.rs ++ [r]).getD i 0) = some (.tup (((v.bs ++ [bs]).getD i []).map V.bl))
        rcases Nat.lt_or_ge i v.bs.length with z1 | z1
        · rw [getD_app (by omega), getD_app z1]
          exact kq.nl c (c.rc i z1) (fun _ e => nomatch e)
        · have ei : i = v.bs.length := by omega
          rw [ei, getD_end, show v.bs.length = v.rs.length by omega, getD_end]
          exact hr9

theorem sum_set : ∀ {xs : List Int} {i : Nat} {v : Int}, i < xs.length → (xs.set i v).sum = xs.sum - xs.getD i 0 + v
  | [], _, _, h => absurd h (Nat.not_lt_zero _)
  | x :: xs, 0, v, _ => by
    show v + xs.sum = x + xs.sum - x + v
    omega
  | x :: xs, i + 1, v, h => by
    have ih := sum_set (xs := xs) (i := i) (v := v) (Nat.lt_of_succ_lt_succ h)
    show x + (xs.set i v).sum = x + xs.sum - xs.getD i 0 + v
    rw [ih]
    omega
theorem moveA_sum {bal : List Int} {i j : Nat} {x : Int} (hi : i < bal.length) (hj : j < bal.length) : (moveA bal i j x).sum = bal.sum := by
  unfold moveA
  rw [sum_set (by rw [List.length_set]; exact hj), sum_set hi]
  omega
theorem afterA_sum {A B : Ac} {c : Cm} (hc : c.fine) (e : afterA A c = some B) : B.bal.sum = A.bal.sum := by
  cases c with
  | w a b => cases e
  | d a z =>
    rw [afterA] at e
    split at e
    · cases e
      rfl
    · cases e
  | p a b x =>
    rw [afterA] at e
    split at e
    · rename_i h
      cases e
      exact moveA_sum (by have := hc.1.1; omega) (by have := hc.2.1.1; omega)
    · cases e
  | k a b x =>
    rw [afterA] at e
    split at e
    · rename_i h
      obtain ⟨r, er⟩ : ∃ r, r = finM (callG A b.toNat x) 201 ⟨[], A.sts.getD b.toNat [], 0, 0, 0⟩ := ⟨_, rfl⟩
      rw [← er] at e
      obtain ⟨o, n'⟩ := r
      cases o with
      | none => cases e
      | some m =>
        replace e : (if (m.pd : Int) ≤ A.bal.getD b.toNat 0 then some (⟨moveA A.bal b.toNat a.toNat (m.pd : Int), A.cds, A.sts.set b.toNat (leftM m)⟩ : Ac) else none) = some B := e
        split at e
        · cases e
          exact moveA_sum (by have := hc.2.1.1; omega) (by have := hc.1.1; omega)
        · cases e
    · cases e
theorem stepB_sum {st : List Int × Ac × List Bool} {c : Cm} (hc : c.fine) : (stepB st c).2.1.bal.sum = st.2.1.bal.sum := by
  have other : (∀ m v, c ≠ .w m v) → (stepB st c).2.1.bal.sum = st.2.1.bal.sum := fun nw => by
    cases e : afterA st.2.1 c with
    | none => rw [stepB_none e nw]
    | some B =>
      rw [stepB_some e]
      exact afterA_sum hc e
  cases c with
  | w m v => rfl
  | p x y z => exact other (fun _ _ e => nomatch e)
  | k x y z => exact other (fun _ _ e => nomatch e)
  | d x z => exact other (fun _ _ e => nomatch e)
theorem runB_sum {cs : List Cm} (h : ∀ c ∈ cs, c.fine) (ws : List Int) (A : Ac) : (runB ws A cs).2.1.bal.sum = A.bal.sum := by
  have gen : ∀ (cs : List Cm) (st : List Int × Ac × List Bool), (∀ c ∈ cs, c.fine) → (cs.foldl stepB st).2.1.bal.sum = st.2.1.bal.sum := fun cs => by
    induction cs with
    | nil => exact fun _ _ => rfl
    | cons c cs ih =>
      intro st h
      rw [List.foldl_cons, ih _ fun x hx => h x (List.mem_cons_of_mem _ hx), stepB_sum (h c List.mem_cons_self)]
  exact gen cs _ h
def spPaying : Sp := fun vs H Q _ => ∃ c : Int, vs = [.int c] ∧ ∀ (p : Addr) (x : Cm) H', Same H H' → H p = none → CmAt H' p x → x.good → Q (.ref p) H'
def payCodes : List Str := ["12ty", "iy", "gy", "12tyi1sy", "ghy1su", "5y0j", "giay", "1y2y3y"]
theorem pay_codes : ∀ i : Fin 8, (payCodes.getD i.val "").length ≤ 12 ∧ ∀ n ∈ TL.tl (payCodes.getD i.val ""), n ∈ TL.tl "0123456789ginasmtcehlujfyo" := by decide +kernel
theorem ok_law_paying (T : Txt K mg a) : ∃ fd, FnOk P w K mg base CX0 1 a.d_law_paying fd ["cell"] spPaying ∧ Binds K fd ["cell"] [] := by
  obtain ⟨fd, F, b⟩ := T.d_law_paying.F
  refine ⟨fd, F.ok sc_law_paying (fun vs H Q E h => ?_) (fun cdv A outer s H vs Q E hr h => ?_), b⟩
  · obtain ⟨_, rfl, _⟩ := h
    rfl
  · obtain ⟨c, rfl, k⟩ := h
    refine ⟨_, (pss_cons (ps_set (i := 1) sc_law_paying.nd rfl (Or.inl rfl) (pe_ix ix_tup (pe_tup (pa_cons pe_str (pa_cons pe_str (pa_cons pe_str (pa_cons pe_str (pa_cons pe_str (pa_cons pe_str (pa_cons pe_str (pa_cons pe_str pa_nil))))))))) (pe_op op_mod (pe_callTy call_int1 (by rfl) T.n_int (by decide +kernel) (pa_cons (pv 0) pa_nil)) pe_int) (fun _ _ => rfl)))
      (pss_one (ps_ret (pe_tup (pa_cons pe_str (pa_cons (pe_op op_mod (pe_op op_fdiv (pv 0) pe_int) pe_int) (pa_cons (pv 1) pa_nil))))))), ?_⟩
    have b1 := Int.emod_nonneg c (show (8 : Int) ≠ 0 by decide)
    have b2 := Int.emod_lt_of_pos c (show (0 : Int) < 8 by decide)
    have b3 := Int.emod_nonneg (c / 8) (show (6 : Int) ≠ 0 by decide)
    have b4 := Int.emod_lt_of_pos (c / 8) (show (0 : Int) < 6 by decide)
    walk_at "rs"
    refine ⟨(by show 8 ≤ sizeLine; decide), fun t ht => ?_⟩
    have s1 := same_new (o := .tup (payCodes.map V.str)) ht
    have h1 : upd H t (.tup (payCodes.map V.str)) t = some (.tup (payCodes.map V.str)) := upd_same
    change _
    walk_at "rs"
    obtain ⟨i, ei, hi⟩ : ∃ i : Nat, c % 8 = (i : Int) ∧ i < 8 := ⟨(c % 8).toNat, by omega, by omega⟩
    have hat : atI (payCodes.map V.str) (c % 8) = some (V.str (payCodes.getD i "")) := by
      rw [ei]
      exact at_strs hi
    obtain ⟨p1, p2⟩ := pay_codes ⟨i, hi⟩
    refine ⟨t, _, _, _, rfl, rfl, SqT.of h1, hat, ?_⟩
    change _
    generalize payCodes.getD i "" = z at p1 p2 ⊢
    walk_at "rs"
    refine ⟨(by show 3 ≤ sizeLine; decide), fun p hp => ?_⟩
    exact k p (.d (c / 8 % 6) z) _ (same_upd s1 (s1.free hp)) (s1.free hp) upd_same ⟨⟨b3, by omega⟩, p1, p2⟩

theorem ok_law {f : Addr} {fd : FuncData} (F : Fun K "law" "law" s_law f fd) (TE : TxtE w K mg a) (T : Txt K mg a) : FnOk P w K mg base CX0 10 f fd ["script"] (spLaw K) := by
  obtain ⟨fd_Chain_init, G_Chain_init, b_Chain_init⟩ := ok_Chain_init (P := P) (w := w) (base := base) T
  obtain ⟨fd_Chain_extend, G_Chain_extend, b_Chain_extend⟩ := ok_Chain_extend (P := P) (w := w) (base := base) TE T
  obtain ⟨fd_law_row, G_law_row, b_law_row⟩ := ok_law_row (P := P) (w := w) (base := base) T
  obtain ⟨fd_law_command, G_law_command, b_law_command⟩ := ok_law_command (P := P) (w := w) (base := base) T
  obtain ⟨fd_law_paying, G_law_paying, b_law_paying⟩ := ok_law_paying (P := P) (w := w) (base := base) T
  obtain ⟨fd_law_cell, G_law_cell, b_law_cell⟩ := ok_law_cell (P := P) (w := w) (base := base) T
  obtain ⟨fd_law_fitting, G_law_fitting, b_law_fitting⟩ := ok_law_fitting (P := P) (w := w) (base := base) T
  obtain ⟨fd_law_is_integer, G_law_is_integer, b_law_is_integer⟩ := ok_law_is_integer (P := P) (w := w) (base := base) T
  refine F.ok sc_law (fun vs H Q E h => ?_) (fun cdv A outer s H vs Q E hr h => ?_)
  · obtain ⟨_, _, rfl, _⟩ := h
    rfl
  · obtain ⟨l, ns, rfl, hS, hl, k⟩ := h
    have k : ∀ H', Q (.bl true) H' := k
    refine ⟨_, (pss_cons (ps_setLc (i := 1) (own := [("value", 8)]) (g := (gName 8)) (tt := tYes) rfl sc_law.nd rfl rfl (sw_true rfl rfl rfl (by decide +kernel)) (pi_list (pe_call G_law_row (hr.mono (by decide)) rfl T.d_law_row.g T.d_law_row.kp b_law_row .nil pass0 (pa_cons (pe_call G_law_cell (hr.mono (by decide)) rfl T.d_law_cell.g T.d_law_cell.kp b_law_cell .nil pass0 (pa_cons (pv 0) (pa_cons pe_int pa_nil))) (pa_cons (pe_op op_mod (pe_callTy call_int1 (by rfl) T.n_int (by decide +kernel) (pa_cons (pe_call G_law_cell (hr.mono (by decide)) rfl T.d_law_cell.g T.d_law_cell.kp b_law_cell .nil pass0 (pa_cons (pv 0) (pa_cons pe_int pa_nil))) pa_nil)) pe_int) (pa_cons pe_int pa_nil))))) (blkOk_by (own := [("value", 8)]) (N := sc_law_N) (sc := defScope s_law) (by decide +kernel)) (fun _ _ _ _ _ => (pg_name (i := 8) sc_law.nd rfl (Or.inl rfl))) (fun _ _ _ _ _ => pts_nil) (fun _ _ _ _ _ => (pe_op op_mul (pv 8) (pv 8))))
      (pss_cons (ps_set (i := 2) sc_law.nd rfl (Or.inl rfl) (pe_make T.m_Chain G_Chain_init (hr.mono (by decide)) (by rfl) T.g_Chain b_Chain_init .nil pass0 (pa_cons (pe_lst (pa_cons pe_int (pa_cons pe_int pa_nil))) (pa_cons (pe_callTy call_list_of (by rfl) T.n_list (by decide +kernel) (pa_cons (pv 1) pa_nil)) pa_nil))))
      (pss_cons (ps_for PassesOwn.never rfl (pi_range1 rfl T.n_range (pa_cons (pe_op op_fdiv (pe_op op_add (pe_callB call_len_seq (by rfl) T.n_len PySem.boot_len (pa_cons (pv 0) pa_nil)) pe_int) pe_int) pa_nil)) (pg_name (i := 3) sc_law.nd rfl (Or.inr rfl))
      (pss_cons (ps_setLc (i := 4) (own := [("at", 9)]) (g := (gName 9)) (tt := tYes) rfl sc_law.nd rfl rfl (sw_true rfl rfl rfl (by decide +kernel)) (pi_range1 rfl T.n_range (pa_cons pe_int pa_nil)) (blkOk_by (own := [("at", 9)]) (N := sc_law_N) (sc := defScope s_law) (by decide +kernel)) (fun _ _ _ _ _ => (pg_name (i := 9) sc_law.nd rfl (Or.inl rfl))) (fun _ _ _ _ _ => pts_nil) (fun _ _ _ _ _ => (pe_callB call_abs (by rfl) T.n_abs (by decide +kernel) (pa_cons (pe_call G_law_cell (hr.mono (by decide)) rfl T.d_law_cell.g T.d_law_cell.kp b_law_cell .nil pass0 (pa_cons (pv 0) (pa_cons (pe_op op_add (pe_op op_mul pe_int (pv 3)) (pv 9)) pa_nil))) pa_nil))))
        (pss_cons (ps_set (i := 5) sc_law.nd rfl (Or.inl rfl) (pe_lst (pa_cons (pe_call G_law_command (hr.mono (by decide)) rfl T.d_law_command.g T.d_law_command.kp b_law_command .nil pass0 (pa_cons (pe_ix ix_list (pv 4) pe_int (fun _ _ => rfl)) (pa_cons (pe_ix ix_list (pv 4) pe_int (fun _ _ => rfl)) pa_nil))) (pa_cons (pe_call G_law_paying (hr.mono (by decide)) rfl T.d_law_paying.g T.d_law_paying.kp b_law_paying .nil pass0 (pa_cons (pe_op op_fdiv (pe_ix ix_list (pv 4) pe_int (fun _ _ => rfl)) pe_int) pa_nil)) (pa_cons (pe_call G_law_command (hr.mono (by decide)) rfl T.d_law_command.g T.d_law_command.kp b_law_command .nil pass0 (pa_cons (pe_ix ix_list (pv 4) pe_int (fun _ _ => rfl)) (pa_cons (pe_ix ix_list (pv 4) pe_int (fun _ _ => rfl)) pa_nil))) pa_nil)))))
        (pss_cons (ps_expr (pe_bm PySem.F.plainAttrs_list PySem.F.slot_list_append PySem.F.type_list_append mt_append (pv 5) (pa_cons (pe_tup (pa_cons pe_str (pa_cons (pe_op op_mod (pe_callTy call_int1 (by rfl) T.n_int (by decide +kernel) (pa_cons (pe_ix ix_list (pv 4) pe_int (fun _ _ => rfl)) pa_nil)) pe_int) (pa_cons (pe_op op_mod (pe_op op_fdiv (pe_ix ix_list (pv 4) pe_int (fun _ _ => rfl)) pe_int) pe_int) (pa_cons (pe_op op_mod (pe_callTy call_int1 (by rfl) T.n_int (by decide +kernel) (pa_cons (pe_ix ix_list (pv 4) pe_int (fun _ _ => rfl)) pa_nil)) pe_int) pa_nil))))) pa_nil)))
        (pss_cons (ps_expr (pe_bm PySem.F.plainAttrs_list PySem.F.slot_list_append PySem.F.type_list_append mt_append (pv 5) (pa_cons (pe_call G_law_command (hr.mono (by decide)) rfl T.d_law_command.g T.d_law_command.kp b_law_command .nil pass0 (pa_cons (pe_ix ix_list (pv 4) pe_int (fun _ _ => rfl)) (pa_cons (pe_ix ix_list (pv 4) pe_int (fun _ _ => rfl)) pa_nil))) pa_nil)))
        (C8.pss_cut (ps_if (pt_cmpR op_eq (pe_op op_mod (pe_callTy call_int1 (by rfl) T.n_int (by decide +kernel) (pa_cons (pe_ix ix_list (pv 4) pe_int (fun _ _ => rfl)) pa_nil)) pe_int) pe_int (nomark _))
        (pss_one (ps_set (i := 5) sc_law.nd rfl (Or.inl rfl) (pe_slice sl_list (pv 5) (po_some pe_int) (po_some pe_int))))
        pss_nil)
        (pss_one (ps_expr (pe_meth (pv 2) T.cl_Chain T.me_Chain_extend G_Chain_extend (hr.mono (by decide)) b_Chain_extend .nil pass0 (pa_cons (pe_ix ix_tup (pe_call G_law_fitting (hr.mono (by decide)) rfl T.d_law_fitting.g T.d_law_fitting.kp b_law_fitting .nil pass0 (pa_cons (pv 5) pa_nil)) pe_int (fun _ _ => rfl)) pa_nil))))))))))
      (pss_cons (ps_for PassesOwn.never rfl (pi_list (pe_fld (pv 2) rfl)) (pg_name (i := 6) sc_law.nd rfl (Or.inl rfl))
      (pss_cons (ps_if (PW.pt (pw_or (pt_not (pt_val (pe_callB call_isi (by rfl) T.n_isinstance (by decide +kernel) (pa_cons (pe_fld (pv 6) rfl) (pa_cons (pe_bltn (v := .ty "tuple") (u := .type "tuple") (by rfl) T.n_tuple (by decide +kernel) rfl) pa_nil))))) (pw_or1 (pt_cmpR op_ne (pe_callB call_len_seq (by rfl) T.n_len PySem.boot_len (pa_cons (pe_fld (pv 6) rfl) pa_nil)) (pe_callB call_len_seq (by rfl) T.n_len PySem.boot_len (pa_cons (pv 1) pa_nil)) (nomark _)))))
        (pss_one (ps_ret pe_bl))
        pss_nil)
        (pss_cons (ps_for PassesOwn.never rfl (pi_tup (pe_fld (pv 6) rfl)) (pg_name (i := 7) sc_law.nd rfl (Or.inl rfl))
        (pss_one (ps_if (PW.pt (pw_or (pt_not (pt_val (pe_call G_law_is_integer (hr.mono (by decide)) rfl T.d_law_is_integer.g T.d_law_is_integer.kp b_law_is_integer .nil pass0 (pa_cons (pv 7) pa_nil)))) (pw_or1 (pt_cmpR op_lt (pv 7) pe_int (nomark _)))))
          (pss_one (ps_ret pe_bl))
          pss_nil)))
        (pss_one (ps_if (pt_cmpR op_ne (pe_callB (cr_sumT rfl) (by rfl) T.n_sum (by decide +kernel) (pa_cons (pe_fld (pv 6) rfl) pa_nil)) (pe_callB (cr_sum rfl) (by rfl) T.n_sum (by decide +kernel) (pa_cons (pv 1) pa_nil)) (nomark _))
        (pss_one (ps_ret pe_bl))
        pss_nil)))))
      (pss_one (ps_ret (pe_cmpR op_eq (pe_callB call_len_seq (by rfl) T.n_len PySem.boot_len (pa_cons (pe_fld (pv 2) rfl) pa_nil)) (pe_op op_add pe_int (pe_callB call_len_seq (by rfl) T.n_len PySem.boot_len (pa_cons (pe_fld (pv 2) rfl) pa_nil))) (nomark _)))))))), ?_⟩
    walk_at "rs"
    refine ⟨l, ns, 0, rfl, hS, hl, by decide, ?_⟩
    have r0 := Int.emod_nonneg (ns.getD 0 0) (show (6 : Int) ≠ 0 by decide)
    have r1 := Int.emod_lt_of_pos (ns.getD 0 0) (show (0 : Int) < 6 by decide)
    walk_at "rs"
    refine ⟨l, ns, 0, rfl, hS, hl, by decide, ?_⟩
    walk_at "rs"
    refine ⟨_, _, _, rfl, r0, by omega, by decide, by decide, fun q row H1 s1 hq lrow brow nq => ?_⟩
    walk_at "rs"
    refine ⟨⟨_, SqL.of hq⟩, fun D hD => ?_⟩
    refine lc_list (K := K) (a := q) (xs := row.map V.int) (fun i H2 => Same H1 H2 ∧ H2 D = some (.lst (((row.take i).map fun v => v * v).map V.int))) ⟨same_new hD, upd_same⟩ (fun i H2 _ ⟨s2, _⟩ => SqL.of (s2 _ _ hq)) ?_ ?_
    · rintro i y H2 hy ⟨s2, hd⟩
      have hi : i < row.length := by
        have e := (List.getElem?_eq_some_iff.mp hy).1
        rwa [List.length_map] at e
      have et : row.take (i + 1) = row.take i ++ [row.getD i 0] := by
        rw [List.take_add_one, List.getElem?_eq_getElem hi, List.getD_eq_getElem?_getD, List.getElem?_eq_getElem hi]
        rfl
      rw [at_ints hi] at hy
      cases hy
      have hz := brow _ (getD_mem hi)
      refine ⟨rfl, ?_⟩
      walk_at "rs"
      refine ⟨(show CMul _ _ from .inl ⟨by omega, by omega⟩), ?_⟩
      refine ⟨_, hd, by rw [List.length_map, List.length_map]; exact small1000 (by have := List.length_take_le' i row; omega), same_upd s2 hD, ?_⟩
      rw [upd_same, et, List.map_append, List.map_append]
      rfl
    rintro H2 ⟨s2, hd⟩
    rw [List.length_map, List.take_length] at hd
    have s12 := s1.trans s2
    have nn2 : ∀ v ∈ row.map (fun v => v * v), (0 : Int) ≤ v := fun v hv => by
      obtain ⟨x, hx, rfl⟩ := List.mem_map.mp hv
      exact Int.mul_nonneg (brow x hx).1 (brow x hx).1
    have ll : (row.map fun v => v * v).length ≤ 5 := by rw [List.length_map, lrow]; omega
    generalize (row.map fun v => v * v) = gr at hd nn2 ll
    clear brow lrow s1 s2
    walk_at "rs"
    refine ⟨(by show 2 ≤ sizeLine; decide), fun w0 hw0 => ?_⟩
    have s3' := same_new (o := .lst [V.int 1, V.int 2]) hw0
    have gw0 : upd H2 w0 (.lst [V.int 1, V.int 2]) w0 = some (.lst ([1, 2].map V.int)) := upd_same
    generalize upd H2 w0 (.lst [V.int 1, V.int 2]) = H3 at s3' gw0 ⊢
    have s3 := s12.trans s3'
    have hd := s3' _ _ hd
    walk_at "rs"
    refine ⟨D, _, rfl, .inl (SqL.of hd), fun g0 hg0 => ?_⟩
    have s4' := same_new (o := .lst (gr.map V.int)) hg0
    have gg0 : upd H3 g0 (.lst (gr.map V.int)) g0 = some (.lst (gr.map V.int)) := upd_same
    generalize upd H3 g0 (.lst (gr.map V.int)) = H4 at s4' gg0 ⊢
    have s4 := s3.trans s4'
    have hd := s4' _ _ hd
    have gw0 := s4' _ _ gw0
    walk_at "rs"
    intro p dx hp hdx ndx
    refine ⟨p, dx, w0, g0, [1, 2], gr, rfl, upd_same, ?_, ⟨by decide, by decide, by decide⟩, ?_, by omega, nn2, fun q c0 d0 H5 cn nB nR nD nL keep => ⟨rfl, ?_⟩⟩
    · exact (same_upd (same_new hdx) hp).seq (SqL.of gw0)
    · exact (same_upd (same_new hdx) hp).seq (SqL.of gg0)
    have s5' := made hp hdx keep
    have s5 := s4.trans s5'
    have hd := s5' _ _ hd
    have sMade : Same H4 (upd (upd H4 dx (.own p)) p (.ins a.C_Chain dx [])) := same_upd (same_new hdx) hp
    have nB := sMade.free nB
    have nR := sMade.free nR
    have nD := sMade.free nD
    have nL := sMade.free nL
    have hd4 := s4' _ _ (s3' _ _ (by assumption : H2 D = some (.lst (gr.map V.int))))
    have DB : D ≠ q.B := fun e => by rw [e, nB] at hd4; cases hd4
    have DR : D ≠ q.R := fun e => by rw [e, nR] at hd4; cases hd4
    have DD : D ≠ q.D := fun e => by rw [e, nD] at hd4; cases hd4
    have DL : D ≠ q.L := fun e => by rw [e, nL] at hd4; cases hd4
    have nB := s4.free nB
    have nR := s4.free nR
    have nD := s4.free nD
    have nL := s4.free nL
    have keepC : ∀ {Hx Hy : Hp}, Same H Hx → ButC q Hx Hy → Same H Hy := fun s kq b o e => kq b o (ne_of_none e nB) (ne_of_none e nR) (ne_of_none e nD) (ne_of_none e nL) (s b o e)
    have keepD : ∀ {Hx Hy : Hp}, Hx D = some (.lst (gr.map V.int)) → ButC q Hx Hy → Hy D = some (.lst (gr.map V.int)) := fun e kq => kq D _ DB DR DD DL e
    clear sMade hd4 nB nR nD nL DB DR DD DL
    walk_at "rs"
    refine ⟨l, _, rfl, .inl (s5.seq hS), ?_⟩
    rw [List.length_map]
    walk_at "rs"
    have q0 : 0 ≤ ((ns.length : Int) + 2) / 3 ∧ ((ns.length : Int) + 2) / 3 ≤ 21 := by omega
    refine ⟨(by show -(2 ^ 62 : Int) ≤ _; omega), (by show _ < (2 ^ 62 : Int); omega), ?_⟩
    refine for_range (lo := 0) (n := (((ns.length : Int) + 2) / 3).toNat) (fun i σ H6 => ∃ (v : CnV) (v3 v4 v5 : Option V), σ = [some (.ref l), some (.ref D), some (.ref p), v3, v4, v5, none, none, none, none] ∧ Same H H6 ∧ CnAt a.C_Chain a.C_Committee a.C_Ledger gr.length (1000 * i) H6 p q v ∧ H6 D = some (.lst (gr.map V.int)) ∧
        v.zs.length = i ∧ ∀ j, j < v.az.length → (v.az.getD j default).bal.sum = gr.sum)
      ⟨_, _, _, _, rfl, s5, cn, hd, rfl, fun j hj => by
        have : j = 0 := Nat.lt_one_iff.mp hj
        rw [this]
        rfl⟩ ?_ ?_
    · rintro i σ H6 hi ⟨v, v3, v4, v5, rfl, s6, cn, hd, lz, sums⟩
      have hi : i < 21 := by omega
      walk_at "rs"
      refine ⟨by decide, by decide, fun cl hcl => ?_⟩
      refine lc_range (lo := 0) (n := (3 : Int).toNat) (fun j H7 => Same H6 H7 ∧ ∃ cs : List Int, H7 cl = some (.lst (cs.map V.int)) ∧ cs.length = j ∧ ∀ c ∈ cs, 0 ≤ c) ⟨same_new hcl, [], upd_same, rfl, fun c hc => absurd hc List.not_mem_nil⟩ ?_ ?_
      · rintro j H7 hj ⟨s7, cs, hcs, lcs, pos⟩
        have hj : j < 3 := hj
        refine ⟨rfl, ?_⟩
        walk_at "rs"
        refine ⟨l, ns, _, rfl, (s6.trans s7).seq hS, hl, by omega, ?_⟩
        refine ⟨_, rfl, ?_⟩
        refine ⟨_, hcs, by rw [List.length_map]; exact small1000 (by omega), same_upd s7 hcl, cs ++ [_], by rw [upd_same, List.map_append]; rfl, by rw [List.length_append, lcs]; rfl, fun c hc => ?_⟩
        rcases List.mem_append.mp hc with hc | hc
        · exact pos c hc
        · rw [List.mem_singleton.mp hc]
          split <;> omega
      rintro H7 ⟨s7, cs, hcs, lcs, pos⟩
      obtain ⟨c0, c1, c2, rfl⟩ : ∃ c0 c1 c2, cs = [c0, c1, c2] := by
        match cs, lcs with
        | [x, y, z], _ => exact ⟨x, y, z, rfl⟩
      have p0 := pos c0 (by simp)
      have p1 := pos c1 (by simp)
      have p2 := pos c2 (by simp)
      have hcs : H7 cl = some (.lst [.int c0, .int c1, .int c2]) := hcs
      have cn := cn.same s7
      have hd := s7 _ _ hd
      have s7 := s6.trans s7
      walk_at "rs"
      refine ⟨cl, _, _, _, rfl, rfl, SqL.of hcs, rfl, ?_⟩
      walk_at "rs"
      refine ⟨cl, _, _, _, rfl, rfl, SqL.of hcs, rfl, ?_⟩
      refine ⟨c0, c1, rfl, fun x1 m1 H8 s8 _ h1 g1 => ?_⟩
      walk_at "rs"
      refine ⟨cl, _, _, _, rfl, rfl, SqL.of (s8 _ _ hcs), rfl, ?_⟩
      walk_at "rs"
      intro x2 m2 H9 s9' _ h2 g2
      have s9 := s8.trans s9'
      walk_at "rs"
      refine ⟨cl, _, _, _, rfl, rfl, SqL.of (s9 _ _ hcs), rfl, ?_⟩
      walk_at "rs"
      refine ⟨cl, _, _, _, rfl, rfl, SqL.of (s9 _ _ hcs), rfl, ?_⟩
      refine ⟨c1, c2, rfl, fun x3 m3 H10 s10' _ h3 g3 => ?_⟩
      have s10 := s9.trans s10'
      walk_at "rs"
      refine ⟨(by show 3 ≤ sizeLine; decide), fun cm hcm0 => ?_⟩
      have s11' := same_new (o := .lst [.ref x1, .ref x2, .ref x3]) hcm0
      have hcm : upd H10 cm (.lst [.ref x1, .ref x2, .ref x3]) cm = some (.lst ([x1, x2, x3].map V.ref)) := upd_same
      have only : ∀ b o, b ≠ cm → H10 b = some o → (upd H10 cm (.lst [.ref x1, .ref x2, .ref x3])) b = some o := fun b o n e => by rw [upd_ne n]; exact e
      generalize upd H10 cm (.lst [.ref x1, .ref x2, .ref x3]) = H11 at s11' hcm only ⊢
      have h1 := s11' _ _ (s10' _ _ (s9' _ _ h1))
      have h2 := s11' _ _ (s10' _ _ h2)
      have h3 := s11' _ _ h3
      have s11 := s10.trans s11'
      walk_at "rs"
      refine ⟨.inl ⟨rfl, _, SqL.of hcm⟩, ?_⟩
      walk_at "rs"
      refine ⟨cl, _, _, _, rfl, rfl, SqL.of (s11 _ _ hcs), rfl, ?_⟩
      walk_at "rs"
      refine ⟨cl, _, _, _, rfl, rfl, SqL.of (s11 _ _ hcs), rfl, ?_⟩
      walk_at "rs"
      refine ⟨cl, _, _, _, rfl, rfl, SqL.of (s11 _ _ hcs), rfl, ?_⟩
      walk_at "rs"
      refine ⟨(by show 4 ≤ sizeLine; decide), fun x4 hx4 => ?_⟩
      have s12' := same_new (o := .tup [.str "k", .int (c2 % 6), .int (c2 / 6 % 6), .int (c0 % 1000)]) hx4
      have h4 : CmAt (upd H11 x4 (.tup [.str "k", .int (c2 % 6), .int (c2 / 6 % 6), .int (c0 % 1000)])) x4 (.k (c2 % 6) (c2 / 6 % 6) (c0 % 1000)) := upd_same
      have g4 : (Cm.k (c2 % 6) (c2 / 6 % 6) (c0 % 1000)).good := ⟨⟨by omega, by omega⟩, ⟨by omega, by omega⟩, ⟨by omega, by omega⟩⟩
      generalize upd H11 x4 (.tup [.str "k", .int (c2 % 6), .int (c2 / 6 % 6), .int (c0 % 1000)]) = H12 at s12' h4 ⊢
      generalize Cm.k (c2 % 6) (c2 / 6 % 6) (c0 % 1000) = m4 at h4 g4
      have hcm := s12' _ _ hcm
      walk_at "rs"
      refine ⟨cm, _, _, rfl, rfl, hcm, (by show 3 < sizeLine; decide), ?_⟩
      have sA := same_upd (o := .lst ([x1, x2, x3].map V.ref ++ [V.ref x4])) (s11'.trans s12') hcm0
      have off : ∀ {y : Addr} {m : Cm}, CmAt H12 y m → CmAt (upd H12 cm (.lst ([x1, x2, x3].map V.ref ++ [V.ref x4]))) y m := fun {y m} e => by
        have e : H12 y = _ := e
        show upd _ _ _ _ = _
        rw [upd_ne (fun q => by rw [q, hcm] at e; cases e)]
        exact e
      have h1 := off (s12' _ _ h1)
      have h2 := off (s12' _ _ h2)
      have h3 := off (s12' _ _ h3)
      have h4 := off h4
      have hcm : upd H12 cm (.lst ([x1, x2, x3].map V.ref ++ [V.ref x4])) cm = some (.lst ([x1, x2, x3, x4].map V.ref)) := upd_same
      clear off only
      generalize upd H12 cm (.lst ([x1, x2, x3].map V.ref ++ [V.ref x4])) = H13 at sA h1 h2 h3 h4 hcm ⊢
      have s13 := s10.trans sA
      walk_at "rs"
      refine ⟨.inl ⟨rfl, _, SqL.of hcm⟩, ?_⟩
      walk_at "rs"
      refine ⟨cl, _, _, _, rfl, rfl, SqL.of (s13 _ _ hcs), rfl, ?_⟩
      walk_at "rs"
      refine ⟨cl, _, _, _, rfl, rfl, SqL.of (s13 _ _ hcs), rfl, ?_⟩
      refine ⟨c2, c0, rfl, fun x5 m5 H14 s14' _ h5 g5 => ?_⟩
      have hcm := s14' _ _ hcm
      walk_at "rs"
      refine ⟨cm, _, _, rfl, rfl, hcm, (by show 4 < sizeLine; decide), ?_⟩
      have sB := same_upd (o := .lst ([x1, x2, x3, x4].map V.ref ++ [V.ref x5])) (sA.trans s14') hcm0
      have off : ∀ {y : Addr} {m : Cm}, CmAt H14 y m → CmAt (upd H14 cm (.lst ([x1, x2, x3, x4].map V.ref ++ [V.ref x5]))) y m := fun {y m} e => by
        have e : H14 y = _ := e
        show upd _ _ _ _ = _
        rw [upd_ne (fun q => by rw [q, hcm] at e; cases e)]
        exact e
      have h1 := off (s14' _ _ h1)
      have h2 := off (s14' _ _ h2)
      have h3 := off (s14' _ _ h3)
      have h4 := off (s14' _ _ h4)
      have h5 := off h5
      have hcm : upd H14 cm (.lst ([x1, x2, x3, x4].map V.ref ++ [V.ref x5])) cm = some (.lst ([x1, x2, x3, x4, x5].map V.ref)) := upd_same
      clear off
      generalize upd H14 cm (.lst ([x1, x2, x3, x4].map V.ref ++ [V.ref x5])) = H15 at sB h1 h2 h3 h4 h5 hcm ⊢
      have s15 := s10.trans sB
      have cn := cn.same s15
      have hd := s15 _ _ hd
      have hcs := s15 _ _ hcs
      have s15 := s7.trans s15
      clear sA sB s14' s13 s12' s11 s11' s10 s10' s9 s9' s8 s7
      refine ⟨fun σ H16 => ∃ (cm : Addr) (ps : List Addr) (cs : List Cm) (v3 v4 : Option V), σ = [some (.ref l), some (.ref D), some (.ref p), v3, v4, some (.ref cm), none, none, none, none] ∧ Same H H16 ∧ CnAt a.C_Chain a.C_Committee a.C_Ledger gr.length (1000 * i) H16 p q v ∧ H16 D = some (.lst (gr.map V.int)) ∧
        H16 cm = some (.lst (ps.map V.ref)) ∧ CmsAt H16 ps cs ∧ cs.length ≤ 5 ∧ ∀ c ∈ cs, c.good, ?_, ?_⟩
      · walk_at "rs"
        refine ⟨cl, _, _, _, rfl, rfl, SqL.of hcs, rfl, ?_⟩
        walk_at "rs"
        refine ite2 (fun c => ?_) (fun c => ?_)
        · walk_at "rs"
          refine ⟨cm, _, rfl, SqL.of hcm, fun cm2 hcm2 => ?_⟩
          have ecut : cutV ([x1, x2, x3, x4, x5].map V.ref) (some 1) (some 4) = [x2, x3, x4].map V.ref := rfl
          rw [ecut]
          have s16' := same_new (o := .lst ([x2, x3, x4].map V.ref)) hcm2
          exact ⟨cm2, [x2, x3, x4], [m2, m3, m4], _, _, rfl, s15.trans s16', cn.same s16', s16' _ _ hd, upd_same, ⟨rfl, fun i hi => by
            have hi : i < 3 := hi
            match i, hi with
            | 0, _ => exact s16' _ _ h2
            | 1, _ => exact s16' _ _ h3
            | 2, _ => exact s16' _ _ h4⟩, (by show 3 ≤ 5; decide), by
            intro c hc
            simp only [List.mem_cons, List.not_mem_nil, or_false] at hc
            rcases hc with rfl | rfl | rfl
            · exact g2
            · exact g3
            · exact g4⟩
        · exact ⟨cm, [x1, x2, x3, x4, x5], [m1, m2, m3, m4, m5], _, _, rfl, s15, cn, hd, hcm, ⟨rfl, fun i hi => by
            have hi : i < 5 := hi
            match i, hi with
            | 0, _ => exact h1
            | 1, _ => exact h2
            | 2, _ => exact h3
            | 3, _ => exact h4
            | 4, _ => exact h5⟩, (by show 5 ≤ 5; decide), by
            intro c hc
            simp only [List.mem_cons, List.not_mem_nil, or_false] at hc
            rcases hc with rfl | rfl | rfl | rfl | rfl
            · exact g1
            · exact g2
            · exact g3
            · exact g4
            · exact g5⟩
      rintro σ H16 ⟨cm, ps, cs, v3, v4, rfl, s16, cn, hd, hcm, hcs, lcs, gcs⟩
      walk_at "rs"
      obtain ⟨dxc, hpi⟩ := cn.ins
      refine ⟨p, dxc, _, rfl, hpi, rfl, ?_⟩
      walk_at "rs"
      refine ⟨cm, ps, cs, rfl, hcm, hcs, by omega, fun c hc => (gcs c hc).ok, fun qf tk n H17 s17 hqf htk fit => ?_⟩
      walk_at "rs"
      refine ⟨qf, _, _, _, rfl, rfl, SqT.of hqf, rfl, ?_⟩
      have ec : cmdsOf (cat (cs.take n)) = cs.take n := cmdsOf_cat fun c hc => (gcs c (List.mem_of_mem_take hc)).right
      have fine : ∀ c ∈ cmdsOf (cat (cs.take n)), c.fine := by
        rw [ec]
        exact fun c hc => (gcs c (List.mem_of_mem_take hc)).fine
      have lec : (cmdsOf (cat (cs.take n))).length ≤ 5 := by
        rw [ec]
        exact Nat.le_trans (List.length_take_le' _ _) lcs
      have l60 := fit.2.1 n (Nat.le_refl _)
      have hd17 := s17 _ _ hd
      refine ⟨p, gr.length, 1000 * i, q, v, cat (cs.take n), rfl, cn.same s17, by omega, fine, by omega, by omega, fun r c l H18 cn' kq => ?_⟩
      refine ⟨_, _, _, _, rfl, keepC (s16.trans s17) kq, cn'.mono (by omega), keepD hd17 kq, (by show (v.zs ++ [_]).length = i + 1; rw [List.length_append, lz]; rfl), fun j hj => ?_⟩
      have lna := cn.na
      have hj : j < (v.az ++ [(runB (v.ws.getD v.zs.length []) (v.az.getD v.zs.length default) (cmdsOf (cat (cs.take n)))).2.1]).length := hj
      rw [List.length_append, List.length_singleton] at hj
      show ((v.az ++ [(runB (v.ws.getD v.zs.length []) (v.az.getD v.zs.length default) (cmdsOf (cat (cs.take n)))).2.1]).getD j default).bal.sum = gr.sum
      rcases Nat.lt_or_ge j v.az.length with z1 | z1
      · rw [getD_app z1]
        exact sums j z1
      · have ej : j = v.az.length := by omega
        rw [ej, getD_end, runB_sum fine]
        exact sums _ (by omega)
    · rintro σ H6 ⟨v, v3, v4, v5, rfl, s6, cn, hd, lz, sums⟩
      walk_at "rs"
      obtain ⟨dxc, hpi⟩ := cn.ins
      have lna := cn.na
      have lnl := cn.nl
      refine ⟨p, _, dxc, _, .ref q.L, rfl, hpi, T.cl_Chain, T.a_Chain_ledgers, rfl, ?_⟩
      refine ⟨q.L, rfl, ⟨_, SqL.of cn.hL⟩, ?_⟩
      refine for_list (K := K) (a := q.L) (xs := v.ls.map V.ref) (fun i σ H7 => ∃ v6 v7 : Option V, σ = [some (.ref l), some (.ref D), some (.ref p), v3, v4, v5, v6, v7, none, none] ∧ Same H6 H7) ⟨_, _, rfl, Same.refl _⟩ (fun i σ H7 _ ⟨_, _, _, s7⟩ => SqL.of (s7 _ _ cn.hL)) ?_ ?_
      · rintro i y σ H7 hy ⟨v6, v7, rfl, s7⟩
        have hi : i < v.ls.length := by
          have e := (List.getElem?_eq_some_iff.mp hy).1
          rwa [List.length_map] at e
        have hy' : y = V.ref (v.ls.getD i 0) := by
          rw [List.getElem?_map, List.getElem?_eq_getElem hi] at hy
          rw [List.getD_eq_getElem?_getD, List.getElem?_eq_getElem hi]
          exact (Option.some.inj hy).symm
        subst hy'
        obtain ⟨hlg, ga⟩ := (cn.same s7).ld i (by omega)
        have hsum := sums i (by omega)
        generalize v.ls.getD i 0 = ld at hlg
        generalize v.az.getD i default = A1 at hlg ga hsum
        obtain ⟨dl, b1, c1, st1, ts, e1, e2, e3, e4, e5⟩ := hlg
        walk_at "rs"
        refine ⟨ld, _, dl, _, .ref b1, rfl, e1, T.cl_Ledger, T.a_Ledger_balances, rfl, ?_⟩
        refine ⟨.ref b1, .ty "tuple", .type "tuple", .type "tuple", true, rfl, .ty _, .base (.tup e2), kit_ty (by decide +kernel), ?_⟩
        refine ⟨_, rfl, ?_⟩
        refine ite2 (fun c => absurd c (by decide)) (fun _ => ?_)
        walk_at "rs"
        refine ⟨ld, _, dl, _, .ref b1, rfl, e1, T.cl_Ledger, T.a_Ledger_balances, rfl, ?_⟩
        walk_at "rs"
        refine ⟨b1, _, rfl, .inr (SqT.of e2), ?_⟩
        walk_at "rs"
        refine ⟨D, _, rfl, .inl (SqL.of (s7 _ _ hd)), ?_⟩
        rw [List.length_map, List.length_map, ga.lb]
        walk_at "rs"
        refine ite2 (fun c => absurd c (by simp)) (fun _ => ?_)
        walk_at "rs"
        refine ⟨ld, _, dl, _, .ref b1, rfl, e1, T.cl_Ledger, T.a_Ledger_balances, rfl, ?_⟩
        refine ⟨b1, rfl, ⟨_, SqT.of e2⟩, for_tup (K := K) (a := b1) (xs := A1.bal.map V.int) (fun j σ H8 => ∃ v7 : Option V, σ = [some (.ref l), some (.ref D), some (.ref p), v3, v4, v5, some (.ref ld), v7, none, none] ∧ H8 = H7) ⟨_, rfl, rfl⟩ (fun j σ H8 _ ⟨_, _, e⟩ => by rw [e]; exact SqT.of e2) ?_ ?_⟩
        · rintro j y σ H8 hy ⟨v7, rfl, eH⟩
          subst eH
          have hj : j < A1.bal.length := by
            have e := (List.getElem?_eq_some_iff.mp hy).1
            rwa [List.length_map] at e
          rw [at_ints hj] at hy
          cases hy
          have nn := ga.nn _ (getD_mem hj)
          walk_at "rs"
          refine ite2 (fun c => absurd (of_decide_eq_true c) (by omega)) (fun _ => ?_)
          exact ⟨_, rfl, rfl⟩
        · rintro σ H8 ⟨v7, rfl, rfl⟩
          walk_at "rs"
          refine ⟨ld, _, dl, _, .ref b1, rfl, e1, T.cl_Ledger, T.a_Ledger_balances, rfl, ?_⟩
          refine ⟨b1, A1.bal, rfl, SqT.of e2, ?_⟩
          walk_at "rs"
          refine ⟨D, gr, rfl, SqL.of (s7 _ _ hd), ?_⟩
          rw [hsum]
          walk_at "rs"
          refine ite2 (fun c => absurd c (by simp)) (fun _ => ?_)
          exact ⟨_, _, rfl, s7⟩
      · rintro σ H7 ⟨v6, v7, rfl, s7⟩
        walk_at "rs"
        have hpi7 := s7 _ _ hpi
        refine ⟨p, _, dxc, _, .ref q.L, rfl, hpi7, T.cl_Chain, T.a_Chain_ledgers, rfl, ?_⟩
        refine ⟨q.L, _, rfl, .inl (SqL.of (s7 _ _ cn.hL)), ?_⟩
        walk_at "rs"
        refine ⟨p, _, dxc, _, .ref q.B, rfl, hpi7, T.cl_Chain, T.a_Chain_blocks, rfl, ?_⟩
        refine ⟨q.B, _, rfl, .inl (SqL.of (s7 _ _ cn.hB)), ?_⟩
        rw [List.length_map, List.length_map, lnl]
        walk_at "rs"
        rw [decide_eq_true (show V.int ((v.zs.length + 1 : Nat) : Int) = V.int (1 + (v.zs.length : Int)) by rw [Int.natCast_add, Int.add_comm]; rfl)]
        exact k H7

end

theorem all_mk {l : PySem.W.OpenLaw} {w : World} {K : PySem.W.Frag} {h : Heap} {mg : Str → Option Value} {fa : Addr} (X : K.In h) (G : h.Ns mainGlobals mg) (hfa : mg "law" = some (.ref fa))
    {t_SIGNS : Tok} {t_DIGITS : Tok} {t_MOST_DIGITS : Tok} {t_CODE_END : Tok} {t_MODULUS : Tok} {t_MOST_VALUES : Tok} {t_MOST_STEPS : Tok} {t_MOST_MEMBERS : Tok} {t_MOST_WEIGHT : Tok} {C_Reader : Addr} {C_Run : Addr} {C_Machine : Addr} {C_Ledger : Addr} {C_Committee : Addr} {C_Chain : Addr} {f_Reader_init : Addr} {od_Reader_init an_Reader_init : Option Addr} {sl_Reader_init : Array (Option Value)} {oc_Reader_init kV_Reader_init dc_Reader_init pm_Reader_init cd_Reader_init ct_Reader_init : Value} {f_Reader_read_signs : Addr} {od_Reader_read_signs an_Reader_read_signs : Option Addr} {sl_Reader_read_signs : Array (Option Value)} {oc_Reader_read_signs kV_Reader_read_signs dc_Reader_read_signs pm_Reader_read_signs cd_Reader_read_signs ct_Reader_read_signs : Value} {f_Reader_skip : Addr} {od_Reader_skip an_Reader_skip : Option Addr} {sl_Reader_skip : Array (Option Value)} {oc_Reader_skip kV_Reader_skip dc_Reader_skip pm_Reader_skip cd_Reader_skip ct_Reader_skip : Value} {f_Reader_read_number : Addr} {od_Reader_read_number an_Reader_read_number : Option Addr} {sl_Reader_read_number : Array (Option Value)} {oc_Reader_read_number kV_Reader_read_number dc_Reader_read_number pm_Reader_read_number cd_Reader_read_number ct_Reader_read_number : Value} {f_Reader_read_code : Addr} {od_Reader_read_code an_Reader_read_code : Option Addr} {sl_Reader_read_code : Array (Option Value)} {oc_Reader_read_code kV_Reader_read_code dc_Reader_read_code pm_Reader_read_code cd_Reader_read_code ct_Reader_read_code : Value} {f_Reader_read_command : Addr} {od_Reader_read_command an_Reader_read_command : Option Addr} {sl_Reader_read_command : Array (Option Value)} {oc_Reader_read_command kV_Reader_read_command dc_Reader_read_command pm_Reader_read_command cd_Reader_read_command ct_Reader_read_command : Value} {f_commands_of : Addr} {od_commands_of an_commands_of : Option Addr} {sl_commands_of : Array (Option Value)} {oc_commands_of kV_commands_of dc_commands_of pm_commands_of cd_commands_of ct_commands_of : Value} {f_Run_init : Addr} {od_Run_init an_Run_init : Option Addr} {sl_Run_init : Array (Option Value)} {oc_Run_init kV_Run_init dc_Run_init pm_Run_init cd_Run_init ct_Run_init : Value} {f_run : Addr} {od_run an_run : Option Addr} {sl_run : Array (Option Value)} {oc_run kV_run dc_run pm_run cd_run ct_run : Value} {f_plus : Addr} {od_plus an_plus : Option Addr} {sl_plus : Array (Option Value)} {oc_plus kV_plus dc_plus pm_plus cd_plus ct_plus : Value} {f_minus : Addr} {od_minus an_minus : Option Addr} {sl_minus : Array (Option Value)} {oc_minus kV_minus dc_minus pm_minus cd_minus ct_minus : Value} {f_times : Addr} {od_times an_times : Option Addr} {sl_times : Array (Option Value)} {oc_times kV_times dc_times pm_times cd_times ct_times : Value} {f_append_digit : Addr} {od_append_digit an_append_digit : Option Addr} {sl_append_digit : Array (Option Value)} {oc_append_digit kV_append_digit dc_append_digit pm_append_digit cd_append_digit ct_append_digit : Value} {f_is_less : Addr} {od_is_less an_is_less : Option Addr} {sl_is_less : Array (Option Value)} {oc_is_less kV_is_less dc_is_less pm_is_less cd_is_less ct_is_less : Value} {f_is_equal : Addr} {od_is_equal an_is_equal : Option Addr} {sl_is_equal : Array (Option Value)} {oc_is_equal kV_is_equal dc_is_equal pm_is_equal cd_is_equal ct_is_equal : Value} {f_Machine_init : Addr} {od_Machine_init an_Machine_init : Option Addr} {sl_Machine_init : Array (Option Value)} {oc_Machine_init kV_Machine_init dc_Machine_init pm_Machine_init cd_Machine_init ct_Machine_init : Value} {f_Machine_push : Addr} {od_Machine_push an_Machine_push : Option Addr} {sl_Machine_push : Array (Option Value)} {oc_Machine_push kV_Machine_push dc_Machine_push pm_Machine_push cd_Machine_push ct_Machine_push : Value} {f_Machine_take : Addr} {od_Machine_take an_Machine_take : Option Addr} {sl_Machine_take : Array (Option Value)} {oc_Machine_take kV_Machine_take dc_Machine_take pm_Machine_take cd_Machine_take ct_Machine_take : Value} {f_Machine_push_number : Addr} {od_Machine_push_number an_Machine_push_number : Option Addr} {sl_Machine_push_number : Array (Option Value)} {oc_Machine_push_number kV_Machine_push_number dc_Machine_push_number pm_Machine_push_number cd_Machine_push_number ct_Machine_push_number : Value} {f_Machine_combine : Addr} {od_Machine_combine an_Machine_combine : Option Addr} {sl_Machine_combine : Array (Option Value)} {oc_Machine_combine kV_Machine_combine dc_Machine_combine pm_Machine_combine cd_Machine_combine ct_Machine_combine : Value} {f_Machine_move : Addr} {od_Machine_move an_Machine_move : Option Addr} {sl_Machine_move : Array (Option Value)} {oc_Machine_move kV_Machine_move dc_Machine_move pm_Machine_move cd_Machine_move ct_Machine_move : Value} {f_Machine_jump : Addr} {od_Machine_jump an_Machine_jump : Option Addr} {sl_Machine_jump : Array (Option Value)} {oc_Machine_jump kV_Machine_jump dc_Machine_jump pm_Machine_jump cd_Machine_jump ct_Machine_jump : Value} {f_Machine_settle : Addr} {od_Machine_settle an_Machine_settle : Option Addr} {sl_Machine_settle : Array (Option Value)} {oc_Machine_settle kV_Machine_settle dc_Machine_settle pm_Machine_settle cd_Machine_settle ct_Machine_settle : Value} {f_Machine_perform : Addr} {od_Machine_perform an_Machine_perform : Option Addr} {sl_Machine_perform : Array (Option Value)} {oc_Machine_perform kV_Machine_perform dc_Machine_perform pm_Machine_perform cd_Machine_perform ct_Machine_perform : Value} {f_Machine_finish : Addr} {od_Machine_finish an_Machine_finish : Option Addr} {sl_Machine_finish : Array (Option Value)} {oc_Machine_finish kV_Machine_finish dc_Machine_finish pm_Machine_finish cd_Machine_finish ct_Machine_finish : Value} {f_Ledger_init : Addr} {od_Ledger_init an_Ledger_init : Option Addr} {sl_Ledger_init : Array (Option Value)} {oc_Ledger_init kV_Ledger_init dc_Ledger_init pm_Ledger_init cd_Ledger_init ct_Ledger_init : Value} {f_first_ledger : Addr} {od_first_ledger an_first_ledger : Option Addr} {sl_first_ledger : Array (Option Value)} {oc_first_ledger kV_first_ledger dc_first_ledger pm_first_ledger cd_first_ledger ct_first_ledger : Value} {f_after_command : Addr} {od_after_command an_after_command : Option Addr} {sl_after_command : Array (Option Value)} {oc_after_command kV_after_command dc_after_command pm_after_command cd_after_command ct_after_command : Value} {f_done : Addr} {od_done an_done : Option Addr} {sl_done : Array (Option Value)} {oc_done kV_done dc_done pm_done cd_done ct_done : Value} {f_payment : Addr} {od_payment an_payment : Option Addr} {sl_payment : Array (Option Value)} {oc_payment kV_payment dc_payment pm_payment cd_payment ct_payment : Value} {f_new_program : Addr} {od_new_program an_new_program : Option Addr} {sl_new_program : Array (Option Value)} {oc_new_program kV_new_program dc_new_program pm_new_program cd_new_program ct_new_program : Value} {f_call : Addr} {od_call an_call : Option Addr} {sl_call : Array (Option Value)} {oc_call kV_call dc_call pm_call cd_call ct_call : Value} {f_exist : Addr} {od_exist an_exist : Option Addr} {sl_exist : Array (Option Value)} {oc_exist kV_exist dc_exist pm_exist cd_exist ct_exist : Value} {f_moved : Addr} {od_moved an_moved : Option Addr} {sl_moved : Array (Option Value)} {oc_moved kV_moved dc_moved pm_moved cd_moved ct_moved : Value} {f_replaced : Addr} {od_replaced an_replaced : Option Addr} {sl_replaced : Array (Option Value)} {oc_replaced kV_replaced dc_replaced pm_replaced cd_replaced ct_replaced : Value} {f_first_wrong : Addr} {od_first_wrong an_first_wrong : Option Addr} {sl_first_wrong : Array (Option Value)} {oc_first_wrong kV_first_wrong dc_first_wrong pm_first_wrong cd_first_wrong ct_first_wrong : Value} {f_Committee_init : Addr} {od_Committee_init an_Committee_init : Option Addr} {sl_Committee_init : Array (Option Value)} {oc_Committee_init kV_Committee_init dc_Committee_init pm_Committee_init cd_Committee_init ct_Committee_init : Value} {f_Chain_init : Addr} {od_Chain_init an_Chain_init : Option Addr} {sl_Chain_init : Array (Option Value)} {oc_Chain_init kV_Chain_init dc_Chain_init pm_Chain_init cd_Chain_init ct_Chain_init : Value} {f_Chain_committee : Addr} {od_Chain_committee an_Chain_committee : Option Addr} {sl_Chain_committee : Array (Option Value)} {oc_Chain_committee kV_Chain_committee dc_Chain_committee pm_Chain_committee cd_Chain_committee ct_Chain_committee : Value} {f_Chain_extend : Addr} {od_Chain_extend an_Chain_extend : Option Addr} {sl_Chain_extend : Array (Option Value)} {oc_Chain_extend kV_Chain_extend dc_Chain_extend pm_Chain_extend cd_Chain_extend ct_Chain_extend : Value} {f_after_weight : Addr} {od_after_weight an_after_weight : Option Addr} {sl_after_weight : Array (Option Value)} {oc_after_weight kV_after_weight dc_after_weight pm_after_weight cd_after_weight ct_after_weight : Value} {f_law_cell : Addr} {od_law_cell an_law_cell : Option Addr} {sl_law_cell : Array (Option Value)} {oc_law_cell kV_law_cell dc_law_cell pm_law_cell cd_law_cell ct_law_cell : Value} {f_law_is_integer : Addr} {od_law_is_integer an_law_is_integer : Option Addr} {sl_law_is_integer : Array (Option Value)} {oc_law_is_integer kV_law_is_integer dc_law_is_integer pm_law_is_integer cd_law_is_integer ct_law_is_integer : Value} {f_law_row : Addr} {od_law_row an_law_row : Option Addr} {sl_law_row : Array (Option Value)} {oc_law_row kV_law_row dc_law_row pm_law_row cd_law_row ct_law_row : Value} {f_law_number : Addr} {od_law_number an_law_number : Option Addr} {sl_law_number : Array (Option Value)} {oc_law_number kV_law_number dc_law_number pm_law_number cd_law_number ct_law_number : Value} {f_law_code : Addr} {od_law_code an_law_code : Option Addr} {sl_law_code : Array (Option Value)} {oc_law_code kV_law_code dc_law_code pm_law_code cd_law_code ct_law_code : Value} {f_law_place : Addr} {od_law_place an_law_place : Option Addr} {sl_law_place : Array (Option Value)} {oc_law_place kV_law_place dc_law_place pm_law_place cd_law_place ct_law_place : Value} {f_law_command : Addr} {od_law_command an_law_command : Option Addr} {sl_law_command : Array (Option Value)} {oc_law_command kV_law_command dc_law_command pm_law_command cd_law_command ct_law_command : Value} {f_law_text : Addr} {od_law_text an_law_text : Option Addr} {sl_law_text : Array (Option Value)} {oc_law_text kV_law_text dc_law_text pm_law_text cd_law_text ct_law_text : Value} {f_law_fitting : Addr} {od_law_fitting an_law_fitting : Option Addr} {sl_law_fitting : Array (Option Value)} {oc_law_fitting kV_law_fitting dc_law_fitting pm_law_fitting cd_law_fitting ct_law_fitting : Value} {f_law_paying : Addr} {od_law_paying an_law_paying : Option Addr} {sl_law_paying : Array (Option Value)} {oc_law_paying kV_law_paying dc_law_paying pm_law_paying cd_law_paying ct_law_paying : Value} {f_law : Addr} {od_law an_law : Option Addr} {sl_law : Array (Option Value)} {oc_law kV_law dc_law pm_law cd_law ct_law : Value} {P_MARKS M_MARKS_p M_MARKS_w M_MARKS_d M_MARKS_k : Addr} {n_MARKS : Nat} {h_MARKS_p h_MARKS_w h_MARKS_d h_MARKS_k : Int} {t_MARKS_p t_MARKS_w t_MARKS_d t_MARKS_k : Tok} {od_MARKS_p : Option Addr} {sl_MARKS_p : Array (Option Value)} {n_MARKS_p : Nat} {t0_MARKS_p t1_MARKS_p t2_MARKS_p : Tok} {od_MARKS_w : Option Addr} {sl_MARKS_w : Array (Option Value)} {n_MARKS_w : Nat} {t0_MARKS_w t1_MARKS_w : Tok} {od_MARKS_d : Option Addr} {sl_MARKS_d : Array (Option Value)} {n_MARKS_d : Nat} {t0_MARKS_d t1_MARKS_d : Tok} {od_MARKS_k : Option Addr} {sl_MARKS_k : Array (Option Value)} {n_MARKS_k : Nat} {t0_MARKS_k t1_MARKS_k t2_MARKS_k : Tok} {C_BadCommand : Addr} {P_OF_TWO : Addr} {n_OF_TWO : Nat} {h_OF_TWO_a h_OF_TWO_s h_OF_TWO_m h_OF_TWO_t h_OF_TWO_c h_OF_TWO_e : Int} {t_OF_TWO_a t_OF_TWO_s t_OF_TWO_m t_OF_TWO_t t_OF_TWO_c t_OF_TWO_e : Tok} {C_Failed : Addr}
    (c_SIGNS : PySem.W.nsIn K mainGlobals "SIGNS" = some (some (.str "0123456789ginasmtcehlujfyo" t_SIGNS)))
    (c_DIGITS : PySem.W.nsIn K mainGlobals "DIGITS" = some (some (.str "0123456789" t_DIGITS)))
    (c_MOST_DIGITS : PySem.W.nsIn K mainGlobals "MOST_DIGITS" = some (some (.int 6 t_MOST_DIGITS)))
    (c_CODE_END : PySem.W.nsIn K mainGlobals "CODE_END" = some (some (.str "z" t_CODE_END)))
    (c_MODULUS : PySem.W.nsIn K mainGlobals "MODULUS" = some (some (.int 1000000 t_MODULUS)))
    (c_MOST_VALUES : PySem.W.nsIn K mainGlobals "MOST_VALUES" = some (some (.int 16 t_MOST_VALUES)))
    (c_MOST_STEPS : PySem.W.nsIn K mainGlobals "MOST_STEPS" = some (some (.int 200 t_MOST_STEPS)))
    (c_MOST_MEMBERS : PySem.W.nsIn K mainGlobals "MOST_MEMBERS" = some (some (.int 16 t_MOST_MEMBERS)))
    (c_MOST_WEIGHT : PySem.W.nsIn K mainGlobals "MOST_WEIGHT" = some (some (.int 1000000000000 t_MOST_WEIGHT)))
    (n_len : PySem.W.nsIn K mainGlobals "len" = some none)
    (n_range : PySem.W.nsIn K mainGlobals "range" = some none)
    (n_isinstance : PySem.W.nsIn K mainGlobals "isinstance" = some none)
    (n_int : PySem.W.nsIn K mainGlobals "int" = some none)
    (n_bool : PySem.W.nsIn K mainGlobals "bool" = some none)
    (n_list : PySem.W.nsIn K mainGlobals "list" = some none)
    (n_tuple : PySem.W.nsIn K mainGlobals "tuple" = some none)
    (n_str : PySem.W.nsIn K mainGlobals "str" = some none)
    (n_dict : PySem.W.nsIn K mainGlobals "dict" = some none)
    (n_sorted : PySem.W.nsIn K mainGlobals "sorted" = some none)
    (n_max : PySem.W.nsIn K mainGlobals "max" = some none)
    (n_abs : PySem.W.nsIn K mainGlobals "abs" = some none)
    (n_all : PySem.W.nsIn K mainGlobals "all" = some none)
    (n_sum : PySem.W.nsIn K mainGlobals "sum" = some none)
    (n_enumerate : PySem.W.nsIn K mainGlobals "enumerate" = some none)
    (g_Reader : PySem.W.nsIn K mainGlobals "Reader" = some (some (.ref C_Reader)))
    (g_Run : PySem.W.nsIn K mainGlobals "Run" = some (some (.ref C_Run)))
    (g_Machine : PySem.W.nsIn K mainGlobals "Machine" = some (some (.ref C_Machine)))
    (g_Ledger : PySem.W.nsIn K mainGlobals "Ledger" = some (some (.ref C_Ledger)))
    (g_Committee : PySem.W.nsIn K mainGlobals "Committee" = some (some (.ref C_Committee)))
    (g_Chain : PySem.W.nsIn K mainGlobals "Chain" = some (some (.ref C_Chain)))
    (a_Reader_init : PySem.W.findIn K (.ref C_Reader) "__init__" = some (some (.ref f_Reader_init)))
    (i_Reader_init : PySem.W.isFn K (.ref f_Reader_init) = true)
    (l_Reader_init : K.lookup f_Reader_init = some ⟨oc_Reader_init, od_Reader_init, .func (PySem.W.fnOf "__init__" "Reader.__init__" (defArgs s_Reader_init) (defBody s_Reader_init) (defScope s_Reader_init) .none kV_Reader_init dc_Reader_init pm_Reader_init an_Reader_init cd_Reader_init ct_Reader_init), sl_Reader_init⟩)
    (q_Reader_init : PySem.W.codeIn K cd_Reader_init "Reader.__init__" = true)
    (k_Reader_init : PySem.W.keepIn K (.ref f_Reader_init) = true)
    (a_Reader_read_signs : PySem.W.findIn K (.ref C_Reader) "read_signs" = some (some (.ref f_Reader_read_signs)))
    (i_Reader_read_signs : PySem.W.isFn K (.ref f_Reader_read_signs) = true)
    (l_Reader_read_signs : K.lookup f_Reader_read_signs = some ⟨oc_Reader_read_signs, od_Reader_read_signs, .func (PySem.W.fnOf "read_signs" "Reader.read_signs" (defArgs s_Reader_read_signs) (defBody s_Reader_read_signs) (defScope s_Reader_read_signs) .none kV_Reader_read_signs dc_Reader_read_signs pm_Reader_read_signs an_Reader_read_signs cd_Reader_read_signs ct_Reader_read_signs), sl_Reader_read_signs⟩)
    (q_Reader_read_signs : PySem.W.codeIn K cd_Reader_read_signs "Reader.read_signs" = true)
    (k_Reader_read_signs : PySem.W.keepIn K (.ref f_Reader_read_signs) = true)
    (a_Reader_skip : PySem.W.findIn K (.ref C_Reader) "skip" = some (some (.ref f_Reader_skip)))
    (i_Reader_skip : PySem.W.isFn K (.ref f_Reader_skip) = true)
    (l_Reader_skip : K.lookup f_Reader_skip = some ⟨oc_Reader_skip, od_Reader_skip, .func (PySem.W.fnOf "skip" "Reader.skip" (defArgs s_Reader_skip) (defBody s_Reader_skip) (defScope s_Reader_skip) .none kV_Reader_skip dc_Reader_skip pm_Reader_skip an_Reader_skip cd_Reader_skip ct_Reader_skip), sl_Reader_skip⟩)
    (q_Reader_skip : PySem.W.codeIn K cd_Reader_skip "Reader.skip" = true)
    (k_Reader_skip : PySem.W.keepIn K (.ref f_Reader_skip) = true)
    (a_Reader_read_number : PySem.W.findIn K (.ref C_Reader) "read_number" = some (some (.ref f_Reader_read_number)))
    (i_Reader_read_number : PySem.W.isFn K (.ref f_Reader_read_number) = true)
    (l_Reader_read_number : K.lookup f_Reader_read_number = some ⟨oc_Reader_read_number, od_Reader_read_number, .func (PySem.W.fnOf "read_number" "Reader.read_number" (defArgs s_Reader_read_number) (defBody s_Reader_read_number) (defScope s_Reader_read_number) .none kV_Reader_read_number dc_Reader_read_number pm_Reader_read_number an_Reader_read_number cd_Reader_read_number ct_Reader_read_number), sl_Reader_read_number⟩)
    (q_Reader_read_number : PySem.W.codeIn K cd_Reader_read_number "Reader.read_number" = true)
    (k_Reader_read_number : PySem.W.keepIn K (.ref f_Reader_read_number) = true)
    (a_Reader_read_code : PySem.W.findIn K (.ref C_Reader) "read_code" = some (some (.ref f_Reader_read_code)))
    (i_Reader_read_code : PySem.W.isFn K (.ref f_Reader_read_code) = true)
    (l_Reader_read_code : K.lookup f_Reader_read_code = some ⟨oc_Reader_read_code, od_Reader_read_code, .func (PySem.W.fnOf "read_code" "Reader.read_code" (defArgs s_Reader_read_code) (defBody s_Reader_read_code) (defScope s_Reader_read_code) .none kV_Reader_read_code dc_Reader_read_code pm_Reader_read_code an_Reader_read_code cd_Reader_read_code ct_Reader_read_code), sl_Reader_read_code⟩)
    (q_Reader_read_code : PySem.W.codeIn K cd_Reader_read_code "Reader.read_code" = true)
    (k_Reader_read_code : PySem.W.keepIn K (.ref f_Reader_read_code) = true)
    (a_Reader_read_command : PySem.W.findIn K (.ref C_Reader) "read_command" = some (some (.ref f_Reader_read_command)))
    (i_Reader_read_command : PySem.W.isFn K (.ref f_Reader_read_command) = true)
    (l_Reader_read_command : K.lookup f_Reader_read_command = some ⟨oc_Reader_read_command, od_Reader_read_command, .func (PySem.W.fnOf "read_command" "Reader.read_command" (defArgs s_Reader_read_command) (defBody s_Reader_read_command) (defScope s_Reader_read_command) .none kV_Reader_read_command dc_Reader_read_command pm_Reader_read_command an_Reader_read_command cd_Reader_read_command ct_Reader_read_command), sl_Reader_read_command⟩)
    (q_Reader_read_command : PySem.W.codeIn K cd_Reader_read_command "Reader.read_command" = true)
    (k_Reader_read_command : PySem.W.keepIn K (.ref f_Reader_read_command) = true)
    (a_commands_of : PySem.W.nsIn K mainGlobals "commands_of" = some (some (.ref f_commands_of)))
    (l_commands_of : K.lookup f_commands_of = some ⟨oc_commands_of, od_commands_of, .func (PySem.W.fnOf "commands_of" "commands_of" (defArgs s_commands_of) (defBody s_commands_of) (defScope s_commands_of) .none kV_commands_of dc_commands_of pm_commands_of an_commands_of cd_commands_of ct_commands_of), sl_commands_of⟩)
    (q_commands_of : PySem.W.codeIn K cd_commands_of "commands_of" = true)
    (k_commands_of : PySem.W.keepIn K (.ref f_commands_of) = true)
    (a_Run_init : PySem.W.findIn K (.ref C_Run) "__init__" = some (some (.ref f_Run_init)))
    (i_Run_init : PySem.W.isFn K (.ref f_Run_init) = true)
    (l_Run_init : K.lookup f_Run_init = some ⟨oc_Run_init, od_Run_init, .func (PySem.W.fnOf "__init__" "Run.__init__" (defArgs s_Run_init) (defBody s_Run_init) (defScope s_Run_init) .none kV_Run_init dc_Run_init pm_Run_init an_Run_init cd_Run_init ct_Run_init), sl_Run_init⟩)
    (q_Run_init : PySem.W.codeIn K cd_Run_init "Run.__init__" = true)
    (k_Run_init : PySem.W.keepIn K (.ref f_Run_init) = true)
    (a_run : PySem.W.nsIn K mainGlobals "run" = some (some (.ref f_run)))
    (l_run : K.lookup f_run = some ⟨oc_run, od_run, .func (PySem.W.fnOf "run" "run" (defArgs s_run) (defBody s_run) (defScope s_run) .none kV_run dc_run pm_run an_run cd_run ct_run), sl_run⟩)
    (q_run : PySem.W.codeIn K cd_run "run" = true)
    (k_run : PySem.W.keepIn K (.ref f_run) = true)
    (a_plus : PySem.W.nsIn K mainGlobals "_plus" = some (some (.ref f_plus)))
    (l_plus : K.lookup f_plus = some ⟨oc_plus, od_plus, .func (PySem.W.fnOf "_plus" "_plus" (defArgs s_plus) (defBody s_plus) (defScope s_plus) .none kV_plus dc_plus pm_plus an_plus cd_plus ct_plus), sl_plus⟩)
    (q_plus : PySem.W.codeIn K cd_plus "_plus" = true)
    (k_plus : PySem.W.keepIn K (.ref f_plus) = true)
    (a_minus : PySem.W.nsIn K mainGlobals "_minus" = some (some (.ref f_minus)))
    (l_minus : K.lookup f_minus = some ⟨oc_minus, od_minus, .func (PySem.W.fnOf "_minus" "_minus" (defArgs s_minus) (defBody s_minus) (defScope s_minus) .none kV_minus dc_minus pm_minus an_minus cd_minus ct_minus), sl_minus⟩)
    (q_minus : PySem.W.codeIn K cd_minus "_minus" = true)
    (k_minus : PySem.W.keepIn K (.ref f_minus) = true)
    (a_times : PySem.W.nsIn K mainGlobals "_times" = some (some (.ref f_times)))
    (l_times : K.lookup f_times = some ⟨oc_times, od_times, .func (PySem.W.fnOf "_times" "_times" (defArgs s_times) (defBody s_times) (defScope s_times) .none kV_times dc_times pm_times an_times cd_times ct_times), sl_times⟩)
    (q_times : PySem.W.codeIn K cd_times "_times" = true)
    (k_times : PySem.W.keepIn K (.ref f_times) = true)
    (a_append_digit : PySem.W.nsIn K mainGlobals "_append_digit" = some (some (.ref f_append_digit)))
    (l_append_digit : K.lookup f_append_digit = some ⟨oc_append_digit, od_append_digit, .func (PySem.W.fnOf "_append_digit" "_append_digit" (defArgs s_append_digit) (defBody s_append_digit) (defScope s_append_digit) .none kV_append_digit dc_append_digit pm_append_digit an_append_digit cd_append_digit ct_append_digit), sl_append_digit⟩)
    (q_append_digit : PySem.W.codeIn K cd_append_digit "_append_digit" = true)
    (k_append_digit : PySem.W.keepIn K (.ref f_append_digit) = true)
    (a_is_less : PySem.W.nsIn K mainGlobals "_is_less" = some (some (.ref f_is_less)))
    (l_is_less : K.lookup f_is_less = some ⟨oc_is_less, od_is_less, .func (PySem.W.fnOf "_is_less" "_is_less" (defArgs s_is_less) (defBody s_is_less) (defScope s_is_less) .none kV_is_less dc_is_less pm_is_less an_is_less cd_is_less ct_is_less), sl_is_less⟩)
    (q_is_less : PySem.W.codeIn K cd_is_less "_is_less" = true)
    (k_is_less : PySem.W.keepIn K (.ref f_is_less) = true)
    (a_is_equal : PySem.W.nsIn K mainGlobals "_is_equal" = some (some (.ref f_is_equal)))
    (l_is_equal : K.lookup f_is_equal = some ⟨oc_is_equal, od_is_equal, .func (PySem.W.fnOf "_is_equal" "_is_equal" (defArgs s_is_equal) (defBody s_is_equal) (defScope s_is_equal) .none kV_is_equal dc_is_equal pm_is_equal an_is_equal cd_is_equal ct_is_equal), sl_is_equal⟩)
    (q_is_equal : PySem.W.codeIn K cd_is_equal "_is_equal" = true)
    (k_is_equal : PySem.W.keepIn K (.ref f_is_equal) = true)
    (a_Machine_init : PySem.W.findIn K (.ref C_Machine) "__init__" = some (some (.ref f_Machine_init)))
    (i_Machine_init : PySem.W.isFn K (.ref f_Machine_init) = true)
    (l_Machine_init : K.lookup f_Machine_init = some ⟨oc_Machine_init, od_Machine_init, .func (PySem.W.fnOf "__init__" "Machine.__init__" (defArgs s_Machine_init) (defBody s_Machine_init) (defScope s_Machine_init) .none kV_Machine_init dc_Machine_init pm_Machine_init an_Machine_init cd_Machine_init ct_Machine_init), sl_Machine_init⟩)
    (q_Machine_init : PySem.W.codeIn K cd_Machine_init "Machine.__init__" = true)
    (k_Machine_init : PySem.W.keepIn K (.ref f_Machine_init) = true)
    (a_Machine_push : PySem.W.findIn K (.ref C_Machine) "push" = some (some (.ref f_Machine_push)))
    (i_Machine_push : PySem.W.isFn K (.ref f_Machine_push) = true)
    (l_Machine_push : K.lookup f_Machine_push = some ⟨oc_Machine_push, od_Machine_push, .func (PySem.W.fnOf "push" "Machine.push" (defArgs s_Machine_push) (defBody s_Machine_push) (defScope s_Machine_push) .none kV_Machine_push dc_Machine_push pm_Machine_push an_Machine_push cd_Machine_push ct_Machine_push), sl_Machine_push⟩)
    (q_Machine_push : PySem.W.codeIn K cd_Machine_push "Machine.push" = true)
    (k_Machine_push : PySem.W.keepIn K (.ref f_Machine_push) = true)
    (a_Machine_take : PySem.W.findIn K (.ref C_Machine) "take" = some (some (.ref f_Machine_take)))
    (i_Machine_take : PySem.W.isFn K (.ref f_Machine_take) = true)
    (l_Machine_take : K.lookup f_Machine_take = some ⟨oc_Machine_take, od_Machine_take, .func (PySem.W.fnOf "take" "Machine.take" (defArgs s_Machine_take) (defBody s_Machine_take) (defScope s_Machine_take) .none kV_Machine_take dc_Machine_take pm_Machine_take an_Machine_take cd_Machine_take ct_Machine_take), sl_Machine_take⟩)
    (q_Machine_take : PySem.W.codeIn K cd_Machine_take "Machine.take" = true)
    (k_Machine_take : PySem.W.keepIn K (.ref f_Machine_take) = true)
    (a_Machine_push_number : PySem.W.findIn K (.ref C_Machine) "push_number" = some (some (.ref f_Machine_push_number)))
    (i_Machine_push_number : PySem.W.isFn K (.ref f_Machine_push_number) = true)
    (l_Machine_push_number : K.lookup f_Machine_push_number = some ⟨oc_Machine_push_number, od_Machine_push_number, .func (PySem.W.fnOf "push_number" "Machine.push_number" (defArgs s_Machine_push_number) (defBody s_Machine_push_number) (defScope s_Machine_push_number) .none kV_Machine_push_number dc_Machine_push_number pm_Machine_push_number an_Machine_push_number cd_Machine_push_number ct_Machine_push_number), sl_Machine_push_number⟩)
    (q_Machine_push_number : PySem.W.codeIn K cd_Machine_push_number "Machine.push_number" = true)
    (k_Machine_push_number : PySem.W.keepIn K (.ref f_Machine_push_number) = true)
    (a_Machine_combine : PySem.W.findIn K (.ref C_Machine) "combine" = some (some (.ref f_Machine_combine)))
    (i_Machine_combine : PySem.W.isFn K (.ref f_Machine_combine) = true)
    (l_Machine_combine : K.lookup f_Machine_combine = some ⟨oc_Machine_combine, od_Machine_combine, .func (PySem.W.fnOf "combine" "Machine.combine" (defArgs s_Machine_combine) (defBody s_Machine_combine) (defScope s_Machine_combine) .none kV_Machine_combine dc_Machine_combine pm_Machine_combine an_Machine_combine cd_Machine_combine ct_Machine_combine), sl_Machine_combine⟩)
    (q_Machine_combine : PySem.W.codeIn K cd_Machine_combine "Machine.combine" = true)
    (k_Machine_combine : PySem.W.keepIn K (.ref f_Machine_combine) = true)
    (a_Machine_move : PySem.W.findIn K (.ref C_Machine) "move" = some (some (.ref f_Machine_move)))
    (i_Machine_move : PySem.W.isFn K (.ref f_Machine_move) = true)
    (l_Machine_move : K.lookup f_Machine_move = some ⟨oc_Machine_move, od_Machine_move, .func (PySem.W.fnOf "move" "Machine.move" (defArgs s_Machine_move) (defBody s_Machine_move) (defScope s_Machine_move) .none kV_Machine_move dc_Machine_move pm_Machine_move an_Machine_move cd_Machine_move ct_Machine_move), sl_Machine_move⟩)
    (q_Machine_move : PySem.W.codeIn K cd_Machine_move "Machine.move" = true)
    (k_Machine_move : PySem.W.keepIn K (.ref f_Machine_move) = true)
    (a_Machine_jump : PySem.W.findIn K (.ref C_Machine) "jump" = some (some (.ref f_Machine_jump)))
    (i_Machine_jump : PySem.W.isFn K (.ref f_Machine_jump) = true)
    (l_Machine_jump : K.lookup f_Machine_jump = some ⟨oc_Machine_jump, od_Machine_jump, .func (PySem.W.fnOf "jump" "Machine.jump" (defArgs s_Machine_jump) (defBody s_Machine_jump) (defScope s_Machine_jump) .none kV_Machine_jump dc_Machine_jump pm_Machine_jump an_Machine_jump cd_Machine_jump ct_Machine_jump), sl_Machine_jump⟩)
    (q_Machine_jump : PySem.W.codeIn K cd_Machine_jump "Machine.jump" = true)
    (k_Machine_jump : PySem.W.keepIn K (.ref f_Machine_jump) = true)
    (a_Machine_settle : PySem.W.findIn K (.ref C_Machine) "settle" = some (some (.ref f_Machine_settle)))
    (i_Machine_settle : PySem.W.isFn K (.ref f_Machine_settle) = true)
    (l_Machine_settle : K.lookup f_Machine_settle = some ⟨oc_Machine_settle, od_Machine_settle, .func (PySem.W.fnOf "settle" "Machine.settle" (defArgs s_Machine_settle) (defBody s_Machine_settle) (defScope s_Machine_settle) .none kV_Machine_settle dc_Machine_settle pm_Machine_settle an_Machine_settle cd_Machine_settle ct_Machine_settle), sl_Machine_settle⟩)
    (q_Machine_settle : PySem.W.codeIn K cd_Machine_settle "Machine.settle" = true)
    (k_Machine_settle : PySem.W.keepIn K (.ref f_Machine_settle) = true)
    (a_Machine_perform : PySem.W.findIn K (.ref C_Machine) "perform" = some (some (.ref f_Machine_perform)))
    (i_Machine_perform : PySem.W.isFn K (.ref f_Machine_perform) = true)
    (l_Machine_perform : K.lookup f_Machine_perform = some ⟨oc_Machine_perform, od_Machine_perform, .func (PySem.W.fnOf "perform" "Machine.perform" (defArgs s_Machine_perform) (defBody s_Machine_perform) (defScope s_Machine_perform) .none kV_Machine_perform dc_Machine_perform pm_Machine_perform an_Machine_perform cd_Machine_perform ct_Machine_perform), sl_Machine_perform⟩)
    (q_Machine_perform : PySem.W.codeIn K cd_Machine_perform "Machine.perform" = true)
    (k_Machine_perform : PySem.W.keepIn K (.ref f_Machine_perform) = true)
    (a_Machine_finish : PySem.W.findIn K (.ref C_Machine) "finish" = some (some (.ref f_Machine_finish)))
    (i_Machine_finish : PySem.W.isFn K (.ref f_Machine_finish) = true)
    (l_Machine_finish : K.lookup f_Machine_finish = some ⟨oc_Machine_finish, od_Machine_finish, .func (PySem.W.fnOf "finish" "Machine.finish" (defArgs s_Machine_finish) (defBody s_Machine_finish) (defScope s_Machine_finish) .none kV_Machine_finish dc_Machine_finish pm_Machine_finish an_Machine_finish cd_Machine_finish ct_Machine_finish), sl_Machine_finish⟩)
    (q_Machine_finish : PySem.W.codeIn K cd_Machine_finish "Machine.finish" = true)
    (k_Machine_finish : PySem.W.keepIn K (.ref f_Machine_finish) = true)
    (a_Ledger_init : PySem.W.findIn K (.ref C_Ledger) "__init__" = some (some (.ref f_Ledger_init)))
    (i_Ledger_init : PySem.W.isFn K (.ref f_Ledger_init) = true)
    (l_Ledger_init : K.lookup f_Ledger_init = some ⟨oc_Ledger_init, od_Ledger_init, .func (PySem.W.fnOf "__init__" "Ledger.__init__" (defArgs s_Ledger_init) (defBody s_Ledger_init) (defScope s_Ledger_init) .none kV_Ledger_init dc_Ledger_init pm_Ledger_init an_Ledger_init cd_Ledger_init ct_Ledger_init), sl_Ledger_init⟩)
    (q_Ledger_init : PySem.W.codeIn K cd_Ledger_init "Ledger.__init__" = true)
    (k_Ledger_init : PySem.W.keepIn K (.ref f_Ledger_init) = true)
    (a_first_ledger : PySem.W.nsIn K mainGlobals "first_ledger" = some (some (.ref f_first_ledger)))
    (l_first_ledger : K.lookup f_first_ledger = some ⟨oc_first_ledger, od_first_ledger, .func (PySem.W.fnOf "first_ledger" "first_ledger" (defArgs s_first_ledger) (defBody s_first_ledger) (defScope s_first_ledger) .none kV_first_ledger dc_first_ledger pm_first_ledger an_first_ledger cd_first_ledger ct_first_ledger), sl_first_ledger⟩)
    (q_first_ledger : PySem.W.codeIn K cd_first_ledger "first_ledger" = true)
    (k_first_ledger : PySem.W.keepIn K (.ref f_first_ledger) = true)
    (a_after_command : PySem.W.nsIn K mainGlobals "after_command" = some (some (.ref f_after_command)))
    (l_after_command : K.lookup f_after_command = some ⟨oc_after_command, od_after_command, .func (PySem.W.fnOf "after_command" "after_command" (defArgs s_after_command) (defBody s_after_command) (defScope s_after_command) .none kV_after_command dc_after_command pm_after_command an_after_command cd_after_command ct_after_command), sl_after_command⟩)
    (q_after_command : PySem.W.codeIn K cd_after_command "after_command" = true)
    (k_after_command : PySem.W.keepIn K (.ref f_after_command) = true)
    (a_done : PySem.W.nsIn K mainGlobals "_done" = some (some (.ref f_done)))
    (l_done : K.lookup f_done = some ⟨oc_done, od_done, .func (PySem.W.fnOf "_done" "_done" (defArgs s_done) (defBody s_done) (defScope s_done) .none kV_done dc_done pm_done an_done cd_done ct_done), sl_done⟩)
    (q_done : PySem.W.codeIn K cd_done "_done" = true)
    (k_done : PySem.W.keepIn K (.ref f_done) = true)
    (a_payment : PySem.W.nsIn K mainGlobals "_payment" = some (some (.ref f_payment)))
    (l_payment : K.lookup f_payment = some ⟨oc_payment, od_payment, .func (PySem.W.fnOf "_payment" "_payment" (defArgs s_payment) (defBody s_payment) (defScope s_payment) .none kV_payment dc_payment pm_payment an_payment cd_payment ct_payment), sl_payment⟩)
    (q_payment : PySem.W.codeIn K cd_payment "_payment" = true)
    (k_payment : PySem.W.keepIn K (.ref f_payment) = true)
    (a_new_program : PySem.W.nsIn K mainGlobals "_new_program" = some (some (.ref f_new_program)))
    (l_new_program : K.lookup f_new_program = some ⟨oc_new_program, od_new_program, .func (PySem.W.fnOf "_new_program" "_new_program" (defArgs s_new_program) (defBody s_new_program) (defScope s_new_program) .none kV_new_program dc_new_program pm_new_program an_new_program cd_new_program ct_new_program), sl_new_program⟩)
    (q_new_program : PySem.W.codeIn K cd_new_program "_new_program" = true)
    (k_new_program : PySem.W.keepIn K (.ref f_new_program) = true)
    (a_call : PySem.W.nsIn K mainGlobals "_call" = some (some (.ref f_call)))
    (l_call : K.lookup f_call = some ⟨oc_call, od_call, .func (PySem.W.fnOf "_call" "_call" (defArgs s_call) (defBody s_call) (defScope s_call) .none kV_call dc_call pm_call an_call cd_call ct_call), sl_call⟩)
    (q_call : PySem.W.codeIn K cd_call "_call" = true)
    (k_call : PySem.W.keepIn K (.ref f_call) = true)
    (a_exist : PySem.W.nsIn K mainGlobals "_exist" = some (some (.ref f_exist)))
    (l_exist : K.lookup f_exist = some ⟨oc_exist, od_exist, .func (PySem.W.fnOf "_exist" "_exist" (defArgs s_exist) (defBody s_exist) (defScope s_exist) .none kV_exist dc_exist pm_exist an_exist cd_exist ct_exist), sl_exist⟩)
    (q_exist : PySem.W.codeIn K cd_exist "_exist" = true)
    (k_exist : PySem.W.keepIn K (.ref f_exist) = true)
    (a_moved : PySem.W.nsIn K mainGlobals "_moved" = some (some (.ref f_moved)))
    (l_moved : K.lookup f_moved = some ⟨oc_moved, od_moved, .func (PySem.W.fnOf "_moved" "_moved" (defArgs s_moved) (defBody s_moved) (defScope s_moved) .none kV_moved dc_moved pm_moved an_moved cd_moved ct_moved), sl_moved⟩)
    (q_moved : PySem.W.codeIn K cd_moved "_moved" = true)
    (k_moved : PySem.W.keepIn K (.ref f_moved) = true)
    (a_replaced : PySem.W.nsIn K mainGlobals "_replaced" = some (some (.ref f_replaced)))
    (l_replaced : K.lookup f_replaced = some ⟨oc_replaced, od_replaced, .func (PySem.W.fnOf "_replaced" "_replaced" (defArgs s_replaced) (defBody s_replaced) (defScope s_replaced) .none kV_replaced dc_replaced pm_replaced an_replaced cd_replaced ct_replaced), sl_replaced⟩)
    (q_replaced : PySem.W.codeIn K cd_replaced "_replaced" = true)
    (k_replaced : PySem.W.keepIn K (.ref f_replaced) = true)
    (a_first_wrong : PySem.W.nsIn K mainGlobals "_first_wrong" = some (some (.ref f_first_wrong)))
    (l_first_wrong : K.lookup f_first_wrong = some ⟨oc_first_wrong, od_first_wrong, .func (PySem.W.fnOf "_first_wrong" "_first_wrong" (defArgs s_first_wrong) (defBody s_first_wrong) (defScope s_first_wrong) .none kV_first_wrong dc_first_wrong pm_first_wrong an_first_wrong cd_first_wrong ct_first_wrong), sl_first_wrong⟩)
    (q_first_wrong : PySem.W.codeIn K cd_first_wrong "_first_wrong" = true)
    (k_first_wrong : PySem.W.keepIn K (.ref f_first_wrong) = true)
    (a_Committee_init : PySem.W.findIn K (.ref C_Committee) "__init__" = some (some (.ref f_Committee_init)))
    (i_Committee_init : PySem.W.isFn K (.ref f_Committee_init) = true)
    (l_Committee_init : K.lookup f_Committee_init = some ⟨oc_Committee_init, od_Committee_init, .func (PySem.W.fnOf "__init__" "Committee.__init__" (defArgs s_Committee_init) (defBody s_Committee_init) (defScope s_Committee_init) .none kV_Committee_init dc_Committee_init pm_Committee_init an_Committee_init cd_Committee_init ct_Committee_init), sl_Committee_init⟩)
    (q_Committee_init : PySem.W.codeIn K cd_Committee_init "Committee.__init__" = true)
    (k_Committee_init : PySem.W.keepIn K (.ref f_Committee_init) = true)
    (a_Chain_init : PySem.W.findIn K (.ref C_Chain) "__init__" = some (some (.ref f_Chain_init)))
    (i_Chain_init : PySem.W.isFn K (.ref f_Chain_init) = true)
    (l_Chain_init : K.lookup f_Chain_init = some ⟨oc_Chain_init, od_Chain_init, .func (PySem.W.fnOf "__init__" "Chain.__init__" (defArgs s_Chain_init) (defBody s_Chain_init) (defScope s_Chain_init) .none kV_Chain_init dc_Chain_init pm_Chain_init an_Chain_init cd_Chain_init ct_Chain_init), sl_Chain_init⟩)
    (q_Chain_init : PySem.W.codeIn K cd_Chain_init "Chain.__init__" = true)
    (k_Chain_init : PySem.W.keepIn K (.ref f_Chain_init) = true)
    (a_Chain_committee : PySem.W.findIn K (.ref C_Chain) "committee" = some (some (.ref f_Chain_committee)))
    (i_Chain_committee : PySem.W.isFn K (.ref f_Chain_committee) = true)
    (l_Chain_committee : K.lookup f_Chain_committee = some ⟨oc_Chain_committee, od_Chain_committee, .func (PySem.W.fnOf "committee" "Chain.committee" (defArgs s_Chain_committee) (defBody s_Chain_committee) (defScope s_Chain_committee) .none kV_Chain_committee dc_Chain_committee pm_Chain_committee an_Chain_committee cd_Chain_committee ct_Chain_committee), sl_Chain_committee⟩)
    (q_Chain_committee : PySem.W.codeIn K cd_Chain_committee "Chain.committee" = true)
    (k_Chain_committee : PySem.W.keepIn K (.ref f_Chain_committee) = true)
    (a_Chain_extend : PySem.W.findIn K (.ref C_Chain) "extend" = some (some (.ref f_Chain_extend)))
    (i_Chain_extend : PySem.W.isFn K (.ref f_Chain_extend) = true)
    (l_Chain_extend : K.lookup f_Chain_extend = some ⟨oc_Chain_extend, od_Chain_extend, .func (PySem.W.fnOf "extend" "Chain.extend" (defArgs s_Chain_extend) (defBody s_Chain_extend) (defScope s_Chain_extend) .none kV_Chain_extend dc_Chain_extend pm_Chain_extend an_Chain_extend cd_Chain_extend ct_Chain_extend), sl_Chain_extend⟩)
    (q_Chain_extend : PySem.W.codeIn K cd_Chain_extend "Chain.extend" = true)
    (k_Chain_extend : PySem.W.keepIn K (.ref f_Chain_extend) = true)
    (a_after_weight : PySem.W.nsIn K mainGlobals "_after_weight" = some (some (.ref f_after_weight)))
    (l_after_weight : K.lookup f_after_weight = some ⟨oc_after_weight, od_after_weight, .func (PySem.W.fnOf "_after_weight" "_after_weight" (defArgs s_after_weight) (defBody s_after_weight) (defScope s_after_weight) .none kV_after_weight dc_after_weight pm_after_weight an_after_weight cd_after_weight ct_after_weight), sl_after_weight⟩)
    (q_after_weight : PySem.W.codeIn K cd_after_weight "_after_weight" = true)
    (k_after_weight : PySem.W.keepIn K (.ref f_after_weight) = true)
    (a_law_cell : PySem.W.nsIn K mainGlobals "_law_cell" = some (some (.ref f_law_cell)))
    (l_law_cell : K.lookup f_law_cell = some ⟨oc_law_cell, od_law_cell, .func (PySem.W.fnOf "_law_cell" "_law_cell" (defArgs s_law_cell) (defBody s_law_cell) (defScope s_law_cell) .none kV_law_cell dc_law_cell pm_law_cell an_law_cell cd_law_cell ct_law_cell), sl_law_cell⟩)
    (q_law_cell : PySem.W.codeIn K cd_law_cell "_law_cell" = true)
    (k_law_cell : PySem.W.keepIn K (.ref f_law_cell) = true)
    (a_law_is_integer : PySem.W.nsIn K mainGlobals "_law_is_integer" = some (some (.ref f_law_is_integer)))
    (l_law_is_integer : K.lookup f_law_is_integer = some ⟨oc_law_is_integer, od_law_is_integer, .func (PySem.W.fnOf "_law_is_integer" "_law_is_integer" (defArgs s_law_is_integer) (defBody s_law_is_integer) (defScope s_law_is_integer) .none kV_law_is_integer dc_law_is_integer pm_law_is_integer an_law_is_integer cd_law_is_integer ct_law_is_integer), sl_law_is_integer⟩)
    (q_law_is_integer : PySem.W.codeIn K cd_law_is_integer "_law_is_integer" = true)
    (k_law_is_integer : PySem.W.keepIn K (.ref f_law_is_integer) = true)
    (a_law_row : PySem.W.nsIn K mainGlobals "_law_row" = some (some (.ref f_law_row)))
    (l_law_row : K.lookup f_law_row = some ⟨oc_law_row, od_law_row, .func (PySem.W.fnOf "_law_row" "_law_row" (defArgs s_law_row) (defBody s_law_row) (defScope s_law_row) .none kV_law_row dc_law_row pm_law_row an_law_row cd_law_row ct_law_row), sl_law_row⟩)
    (q_law_row : PySem.W.codeIn K cd_law_row "_law_row" = true)
    (k_law_row : PySem.W.keepIn K (.ref f_law_row) = true)
    (a_law_number : PySem.W.nsIn K mainGlobals "_law_number" = some (some (.ref f_law_number)))
    (l_law_number : K.lookup f_law_number = some ⟨oc_law_number, od_law_number, .func (PySem.W.fnOf "_law_number" "_law_number" (defArgs s_law_number) (defBody s_law_number) (defScope s_law_number) .none kV_law_number dc_law_number pm_law_number an_law_number cd_law_number ct_law_number), sl_law_number⟩)
    (q_law_number : PySem.W.codeIn K cd_law_number "_law_number" = true)
    (k_law_number : PySem.W.keepIn K (.ref f_law_number) = true)
    (a_law_code : PySem.W.nsIn K mainGlobals "_law_code" = some (some (.ref f_law_code)))
    (l_law_code : K.lookup f_law_code = some ⟨oc_law_code, od_law_code, .func (PySem.W.fnOf "_law_code" "_law_code" (defArgs s_law_code) (defBody s_law_code) (defScope s_law_code) .none kV_law_code dc_law_code pm_law_code an_law_code cd_law_code ct_law_code), sl_law_code⟩)
    (q_law_code : PySem.W.codeIn K cd_law_code "_law_code" = true)
    (k_law_code : PySem.W.keepIn K (.ref f_law_code) = true)
    (a_law_place : PySem.W.nsIn K mainGlobals "_law_place" = some (some (.ref f_law_place)))
    (l_law_place : K.lookup f_law_place = some ⟨oc_law_place, od_law_place, .func (PySem.W.fnOf "_law_place" "_law_place" (defArgs s_law_place) (defBody s_law_place) (defScope s_law_place) .none kV_law_place dc_law_place pm_law_place an_law_place cd_law_place ct_law_place), sl_law_place⟩)
    (q_law_place : PySem.W.codeIn K cd_law_place "_law_place" = true)
    (k_law_place : PySem.W.keepIn K (.ref f_law_place) = true)
    (a_law_command : PySem.W.nsIn K mainGlobals "_law_command" = some (some (.ref f_law_command)))
    (l_law_command : K.lookup f_law_command = some ⟨oc_law_command, od_law_command, .func (PySem.W.fnOf "_law_command" "_law_command" (defArgs s_law_command) (defBody s_law_command) (defScope s_law_command) .none kV_law_command dc_law_command pm_law_command an_law_command cd_law_command ct_law_command), sl_law_command⟩)
    (q_law_command : PySem.W.codeIn K cd_law_command "_law_command" = true)
    (k_law_command : PySem.W.keepIn K (.ref f_law_command) = true)
    (a_law_text : PySem.W.nsIn K mainGlobals "_law_text" = some (some (.ref f_law_text)))
    (l_law_text : K.lookup f_law_text = some ⟨oc_law_text, od_law_text, .func (PySem.W.fnOf "_law_text" "_law_text" (defArgs s_law_text) (defBody s_law_text) (defScope s_law_text) .none kV_law_text dc_law_text pm_law_text an_law_text cd_law_text ct_law_text), sl_law_text⟩)
    (q_law_text : PySem.W.codeIn K cd_law_text "_law_text" = true)
    (k_law_text : PySem.W.keepIn K (.ref f_law_text) = true)
    (a_law_fitting : PySem.W.nsIn K mainGlobals "_law_fitting" = some (some (.ref f_law_fitting)))
    (l_law_fitting : K.lookup f_law_fitting = some ⟨oc_law_fitting, od_law_fitting, .func (PySem.W.fnOf "_law_fitting" "_law_fitting" (defArgs s_law_fitting) (defBody s_law_fitting) (defScope s_law_fitting) .none kV_law_fitting dc_law_fitting pm_law_fitting an_law_fitting cd_law_fitting ct_law_fitting), sl_law_fitting⟩)
    (q_law_fitting : PySem.W.codeIn K cd_law_fitting "_law_fitting" = true)
    (k_law_fitting : PySem.W.keepIn K (.ref f_law_fitting) = true)
    (a_law_paying : PySem.W.nsIn K mainGlobals "_law_paying" = some (some (.ref f_law_paying)))
    (l_law_paying : K.lookup f_law_paying = some ⟨oc_law_paying, od_law_paying, .func (PySem.W.fnOf "_law_paying" "_law_paying" (defArgs s_law_paying) (defBody s_law_paying) (defScope s_law_paying) .none kV_law_paying dc_law_paying pm_law_paying an_law_paying cd_law_paying ct_law_paying), sl_law_paying⟩)
    (q_law_paying : PySem.W.codeIn K cd_law_paying "_law_paying" = true)
    (k_law_paying : PySem.W.keepIn K (.ref f_law_paying) = true)
    (a_law : PySem.W.nsIn K mainGlobals "law" = some (some (.ref f_law)))
    (l_law : K.lookup f_law = some ⟨oc_law, od_law, .func (PySem.W.fnOf "law" "law" (defArgs s_law) (defBody s_law) (defScope s_law) .none kV_law dc_law pm_law an_law cd_law ct_law), sl_law⟩)
    (q_law : PySem.W.codeIn K cd_law "law" = true)
    (k_law : PySem.W.keepIn K (.ref f_law) = true)
    (pg_Reader : PySem.W.plainGet K C_Reader Str.empty = true)
    (hd_Reader : PySem.W.hasDictIn K C_Reader = true)
    (po_Reader : PySem.W.plainOver K C_Reader = true)
    (sa_Reader : PySem.W.findIn K (.ref C_Reader) "__setattr__" = some (some (.builtin "object.__setattr__")))
    (mk_Reader : PySem.W.makesIn K C_Reader = true)
    (kc_Reader : PySem.W.keepIn K (.ref C_Reader) = true)
    (no_Reader_text : PySem.W.findIn K (.ref C_Reader) "text" = some none)
    (no_Reader_at : PySem.W.findIn K (.ref C_Reader) "at" = some none)
    (pg_Run : PySem.W.plainGet K C_Run Str.empty = true)
    (hd_Run : PySem.W.hasDictIn K C_Run = true)
    (po_Run : PySem.W.plainOver K C_Run = true)
    (sa_Run : PySem.W.findIn K (.ref C_Run) "__setattr__" = some (some (.builtin "object.__setattr__")))
    (mk_Run : PySem.W.makesIn K C_Run = true)
    (kc_Run : PySem.W.keepIn K (.ref C_Run) = true)
    (no_Run_well : PySem.W.findIn K (.ref C_Run) "well" = some none)
    (no_Run_store : PySem.W.findIn K (.ref C_Run) "store" = some none)
    (no_Run_paid : PySem.W.findIn K (.ref C_Run) "paid" = some none)
    (no_Run_steps : PySem.W.findIn K (.ref C_Run) "steps" = some none)
    (pg_Machine : PySem.W.plainGet K C_Machine Str.empty = true)
    (hd_Machine : PySem.W.hasDictIn K C_Machine = true)
    (po_Machine : PySem.W.plainOver K C_Machine = true)
    (sa_Machine : PySem.W.findIn K (.ref C_Machine) "__setattr__" = some (some (.builtin "object.__setattr__")))
    (mk_Machine : PySem.W.makesIn K C_Machine = true)
    (kc_Machine : PySem.W.keepIn K (.ref C_Machine) = true)
    (no_Machine_code : PySem.W.findIn K (.ref C_Machine) "code" = some none)
    (no_Machine_given : PySem.W.findIn K (.ref C_Machine) "given" = some none)
    (no_Machine_amount : PySem.W.findIn K (.ref C_Machine) "amount" = some none)
    (no_Machine_store : PySem.W.findIn K (.ref C_Machine) "store" = some none)
    (no_Machine_stack : PySem.W.findIn K (.ref C_Machine) "stack" = some none)
    (no_Machine_place : PySem.W.findIn K (.ref C_Machine) "place" = some none)
    (no_Machine_paid : PySem.W.findIn K (.ref C_Machine) "paid" = some none)
    (no_Machine_steps : PySem.W.findIn K (.ref C_Machine) "steps" = some none)
    (pg_Ledger : PySem.W.plainGet K C_Ledger Str.empty = true)
    (hd_Ledger : PySem.W.hasDictIn K C_Ledger = true)
    (po_Ledger : PySem.W.plainOver K C_Ledger = true)
    (sa_Ledger : PySem.W.findIn K (.ref C_Ledger) "__setattr__" = some (some (.builtin "object.__setattr__")))
    (mk_Ledger : PySem.W.makesIn K C_Ledger = true)
    (kc_Ledger : PySem.W.keepIn K (.ref C_Ledger) = true)
    (no_Ledger_balances : PySem.W.findIn K (.ref C_Ledger) "balances" = some none)
    (no_Ledger_codes : PySem.W.findIn K (.ref C_Ledger) "codes" = some none)
    (no_Ledger_stores : PySem.W.findIn K (.ref C_Ledger) "stores" = some none)
    (pg_Committee : PySem.W.plainGet K C_Committee Str.empty = true)
    (hd_Committee : PySem.W.hasDictIn K C_Committee = true)
    (po_Committee : PySem.W.plainOver K C_Committee = true)
    (sa_Committee : PySem.W.findIn K (.ref C_Committee) "__setattr__" = some (some (.builtin "object.__setattr__")))
    (mk_Committee : PySem.W.makesIn K C_Committee = true)
    (kc_Committee : PySem.W.keepIn K (.ref C_Committee) = true)
    (no_Committee_weights : PySem.W.findIn K (.ref C_Committee) "weights" = some none)
    (no_Committee_size : PySem.W.findIn K (.ref C_Committee) "size" = some none)
    (no_Committee_total : PySem.W.findIn K (.ref C_Committee) "total" = some none)
    (pg_Chain : PySem.W.plainGet K C_Chain Str.empty = true)
    (hd_Chain : PySem.W.hasDictIn K C_Chain = true)
    (po_Chain : PySem.W.plainOver K C_Chain = true)
    (sa_Chain : PySem.W.findIn K (.ref C_Chain) "__setattr__" = some (some (.builtin "object.__setattr__")))
    (mk_Chain : PySem.W.makesIn K C_Chain = true)
    (kc_Chain : PySem.W.keepIn K (.ref C_Chain) = true)
    (no_Chain_blocks : PySem.W.findIn K (.ref C_Chain) "blocks" = some none)
    (no_Chain_receipts : PySem.W.findIn K (.ref C_Chain) "receipts" = some none)
    (no_Chain_committees : PySem.W.findIn K (.ref C_Chain) "committees" = some none)
    (no_Chain_ledgers : PySem.W.findIn K (.ref C_Chain) "ledgers" = some none)
    (g_MARKS : PySem.W.nsIn K mainGlobals "MARKS" = some (some (.ref P_MARKS)))
    (l_MARKS : K.lookup P_MARKS = some ⟨.type "dict", none, .dict #[⟨h_MARKS_p, .str "p" t_MARKS_p, .ref M_MARKS_p⟩, ⟨h_MARKS_w, .str "w" t_MARKS_w, .ref M_MARKS_w⟩, ⟨h_MARKS_d, .str "d" t_MARKS_d, .ref M_MARKS_d⟩, ⟨h_MARKS_k, .str "k" t_MARKS_k, .ref M_MARKS_k⟩] n_MARKS, #[]⟩)
    (kl_MARKS : PySem.W.KeysLit w.params [⟨h_MARKS_p, .str "p" t_MARKS_p, .ref M_MARKS_p⟩, ⟨h_MARKS_w, .str "w" t_MARKS_w, .ref M_MARKS_w⟩, ⟨h_MARKS_d, .str "d" t_MARKS_d, .ref M_MARKS_d⟩, ⟨h_MARKS_k, .str "k" t_MARKS_k, .ref M_MARKS_k⟩])
    (lo_MARKS : (P_MARKS == sysModules) = false)
    (l_MARKS_p : K.lookup M_MARKS_p = some ⟨.type "tuple", od_MARKS_p, .seq #[.str "p" t0_MARKS_p, .str "q" t1_MARKS_p, .str "r" t2_MARKS_p] n_MARKS_p, sl_MARKS_p⟩)
    (l_MARKS_w : K.lookup M_MARKS_w = some ⟨.type "tuple", od_MARKS_w, .seq #[.str "w" t0_MARKS_w, .str "x" t1_MARKS_w] n_MARKS_w, sl_MARKS_w⟩)
    (l_MARKS_d : K.lookup M_MARKS_d = some ⟨.type "tuple", od_MARKS_d, .seq #[.str "d" t0_MARKS_d, .str "z" t1_MARKS_d] n_MARKS_d, sl_MARKS_d⟩)
    (l_MARKS_k : K.lookup M_MARKS_k = some ⟨.type "tuple", od_MARKS_k, .seq #[.str "k" t0_MARKS_k, .str "b" t1_MARKS_k, .str "v" t2_MARKS_k] n_MARKS_k, sl_MARKS_k⟩)
    (g_BadCommand : PySem.W.nsIn K mainGlobals "BadCommand" = some (some (.ref C_BadCommand)))
    (x_BadCommand : PySem.W.excIn K C_BadCommand [.type "ValueError", .type "Exception", .type "BaseException", .type "object"] "ValueError.__new__" = true)
    (kc_BadCommand : PySem.W.keepIn K (.ref C_BadCommand) = true)
    (b_BadCommand : PySem.W.subIn K (.ref C_BadCommand) (.type "BaseException") = some true)
    (t_BadCommand : PySem.W.typeIn K (.ref C_BadCommand) = some (.type "type"))
    (xga_BadCommand : PySem.W.findIn K (.ref C_BadCommand) "__getattribute__" = some (some (.builtin "BaseException.__getattribute__")))
    (xgt_BadCommand : PySem.W.findIn K (.ref C_BadCommand) "__getattr__" = some none)
    (xhd_BadCommand : PySem.W.hasDictIn K C_BadCommand = true)
    (xcc_BadCommand : PySem.W.findIn K (.ref C_BadCommand) "__class__" = some (some (.builtin "object.__class__")))
    (xsp_BadCommand : PySem.W.specialIn K (.builtin "object.__class__") "__get__" = some (some (.builtin "getset_descriptor.__get__")))
    (xtk_BadCommand : PySem.W.takesIn K (.builtin "object.__class__") = some true)
    (xmo_BadCommand : PySem.W.mroIn K C_BadCommand (.type "object") = some true)
    (te1_BadCommand : PySem.W.subIn K (.ref C_BadCommand) (.type "BaseException") = some true)
    (te2_BadCommand : PySem.W.hasDictIn K C_BadCommand = true)
    (te3_BadCommand : PySem.W.typeIn K (.ref C_BadCommand) = some (.type "type"))
    (te4_BadCommand_BadCommand : PySem.W.subIn K (.ref C_BadCommand) (.ref C_BadCommand) = some true)
    (g_OF_TWO : PySem.W.nsIn K mainGlobals "OF_TWO" = some (some (.ref P_OF_TWO)))
    (l_OF_TWO : K.lookup P_OF_TWO = some ⟨.type "dict", none, .dict #[⟨h_OF_TWO_a, .str "a" t_OF_TWO_a, .ref f_plus⟩, ⟨h_OF_TWO_s, .str "s" t_OF_TWO_s, .ref f_minus⟩, ⟨h_OF_TWO_m, .str "m" t_OF_TWO_m, .ref f_times⟩, ⟨h_OF_TWO_t, .str "t" t_OF_TWO_t, .ref f_append_digit⟩, ⟨h_OF_TWO_c, .str "c" t_OF_TWO_c, .ref f_is_less⟩, ⟨h_OF_TWO_e, .str "e" t_OF_TWO_e, .ref f_is_equal⟩] n_OF_TWO, #[]⟩)
    (kl_OF_TWO : PySem.W.KeysLit w.params [⟨h_OF_TWO_a, .str "a" t_OF_TWO_a, .ref f_plus⟩, ⟨h_OF_TWO_s, .str "s" t_OF_TWO_s, .ref f_minus⟩, ⟨h_OF_TWO_m, .str "m" t_OF_TWO_m, .ref f_times⟩, ⟨h_OF_TWO_t, .str "t" t_OF_TWO_t, .ref f_append_digit⟩, ⟨h_OF_TWO_c, .str "c" t_OF_TWO_c, .ref f_is_less⟩, ⟨h_OF_TWO_e, .str "e" t_OF_TWO_e, .ref f_is_equal⟩])
    (lo_OF_TWO : (P_OF_TWO == sysModules) = false)
    (g_Failed : PySem.W.nsIn K mainGlobals "Failed" = some (some (.ref C_Failed)))
    (x_Failed : PySem.W.excIn K C_Failed [.type "ValueError", .type "Exception", .type "BaseException", .type "object"] "ValueError.__new__" = true)
    (kc_Failed : PySem.W.keepIn K (.ref C_Failed) = true)
    (b_Failed : PySem.W.subIn K (.ref C_Failed) (.type "BaseException") = some true)
    (t_Failed : PySem.W.typeIn K (.ref C_Failed) = some (.type "type"))
    (xga_Failed : PySem.W.findIn K (.ref C_Failed) "__getattribute__" = some (some (.builtin "BaseException.__getattribute__")))
    (xgt_Failed : PySem.W.findIn K (.ref C_Failed) "__getattr__" = some none)
    (xhd_Failed : PySem.W.hasDictIn K C_Failed = true)
    (xcc_Failed : PySem.W.findIn K (.ref C_Failed) "__class__" = some (some (.builtin "object.__class__")))
    (xsp_Failed : PySem.W.specialIn K (.builtin "object.__class__") "__get__" = some (some (.builtin "getset_descriptor.__get__")))
    (xtk_Failed : PySem.W.takesIn K (.builtin "object.__class__") = some true)
    (xmo_Failed : PySem.W.mroIn K C_Failed (.type "object") = some true)
    (te1_Failed : PySem.W.subIn K (.ref C_Failed) (.type "BaseException") = some true)
    (te2_Failed : PySem.W.hasDictIn K C_Failed = true)
    (te3_Failed : PySem.W.typeIn K (.ref C_Failed) = some (.type "type"))
    (te4_Failed_Failed : PySem.W.subIn K (.ref C_Failed) (.ref C_Failed) = some true)
    (kt_Ledger_Ledger : PySem.W.kitOne K (.ref C_Ledger) (.ref C_Ledger) = some true)
    (icc_Ledger : PySem.W.findIn K (.ref C_Ledger) "__class__" = some (some (.builtin "object.__class__")))
    (isp_Ledger : PySem.W.specialIn K (.builtin "object.__class__") "__get__" = some (some (.builtin "getset_descriptor.__get__")))
    (itk_Ledger : PySem.W.takesIn K (.builtin "object.__class__") = some true)
    (imo_Ledger : PySem.W.mroIn K C_Ledger (.type "object") = some true) :
    ∃ fd : FuncData, (∀ (s : Shared) (v : Value), BindsTo s fd ⟨[v], []⟩ [("script", v)]) ∧ ∀ base : Heap, K.In base → base.Ns mainGlobals mg → FnOk l.prog w K mg base CX0 10 fa fd ["script"] (spLaw K) := by
  have e := hfa.symm.trans (PySem.W.mg_of X G a_law)
  cases e
  have T : Txt K mg ⟨C_Reader, C_Run, C_Machine, C_Ledger, C_Committee, C_Chain, f_Reader_init, f_Reader_read_signs, f_Reader_skip, f_Reader_read_number, f_Reader_read_code, f_Reader_read_command, f_commands_of, f_Run_init, f_run, f_plus, f_minus, f_times, f_append_digit, f_is_less, f_is_equal, f_Machine_init, f_Machine_push, f_Machine_take, f_Machine_push_number, f_Machine_combine, f_Machine_move, f_Machine_jump, f_Machine_settle, f_Machine_perform, f_Machine_finish, f_Ledger_init, f_first_ledger, f_after_command, f_done, f_payment, f_new_program, f_call, f_exist, f_moved, f_replaced, f_first_wrong, f_Committee_init, f_Chain_init, f_Chain_committee, f_Chain_extend, f_after_weight, f_law_cell, f_law_is_integer, f_law_row, f_law_number, f_law_code, f_law_place, f_law_command, f_law_text, f_law_fitting, f_law_paying, P_MARKS, M_MARKS_p, M_MARKS_w, M_MARKS_d, M_MARKS_k, C_BadCommand, C_Failed, P_OF_TWO⟩ := {
    n_len := mg_no X G n_len
    n_range := mg_no X G n_range
    n_isinstance := mg_no X G n_isinstance
    n_int := mg_no X G n_int
    n_bool := mg_no X G n_bool
    n_list := mg_no X G n_list
    n_tuple := mg_no X G n_tuple
    n_str := mg_no X G n_str
    n_dict := mg_no X G n_dict
    n_sorted := mg_no X G n_sorted
    n_max := mg_no X G n_max
    n_abs := mg_no X G n_abs
    n_all := mg_no X G n_all
    n_sum := mg_no X G n_sum
    n_enumerate := mg_no X G n_enumerate
    c_SIGNS := ⟨_, PySem.W.mg_of X G c_SIGNS⟩
    c_DIGITS := ⟨_, PySem.W.mg_of X G c_DIGITS⟩
    c_MOST_DIGITS := ⟨_, PySem.W.mg_of X G c_MOST_DIGITS⟩
    c_CODE_END := ⟨_, PySem.W.mg_of X G c_CODE_END⟩
    c_MODULUS := ⟨_, PySem.W.mg_of X G c_MODULUS⟩
    c_MOST_VALUES := ⟨_, PySem.W.mg_of X G c_MOST_VALUES⟩
    c_MOST_STEPS := ⟨_, PySem.W.mg_of X G c_MOST_STEPS⟩
    c_MOST_MEMBERS := ⟨_, PySem.W.mg_of X G c_MOST_MEMBERS⟩
    c_MOST_WEIGHT := ⟨_, PySem.W.mg_of X G c_MOST_WEIGHT⟩
    g_Reader := PySem.W.mg_of X G g_Reader
    cl_Reader := ⟨pg_Reader, hd_Reader, po_Reader, sa_Reader⟩
    kc_Reader := kc_Reader
    mk_Reader := mk_Reader
    a_Reader_text := no_Reader_text
    a_Reader_at := no_Reader_at
    g_Run := PySem.W.mg_of X G g_Run
    cl_Run := ⟨pg_Run, hd_Run, po_Run, sa_Run⟩
    kc_Run := kc_Run
    mk_Run := mk_Run
    a_Run_well := no_Run_well
    a_Run_store := no_Run_store
    a_Run_paid := no_Run_paid
    a_Run_steps := no_Run_steps
    g_Machine := PySem.W.mg_of X G g_Machine
    cl_Machine := ⟨pg_Machine, hd_Machine, po_Machine, sa_Machine⟩
    kc_Machine := kc_Machine
    mk_Machine := mk_Machine
    a_Machine_code := no_Machine_code
    a_Machine_given := no_Machine_given
    a_Machine_amount := no_Machine_amount
    a_Machine_store := no_Machine_store
    a_Machine_stack := no_Machine_stack
    a_Machine_place := no_Machine_place
    a_Machine_paid := no_Machine_paid
    a_Machine_steps := no_Machine_steps
    g_Ledger := PySem.W.mg_of X G g_Ledger
    cl_Ledger := ⟨pg_Ledger, hd_Ledger, po_Ledger, sa_Ledger⟩
    kc_Ledger := kc_Ledger
    mk_Ledger := mk_Ledger
    a_Ledger_balances := no_Ledger_balances
    a_Ledger_codes := no_Ledger_codes
    a_Ledger_stores := no_Ledger_stores
    g_Committee := PySem.W.mg_of X G g_Committee
    cl_Committee := ⟨pg_Committee, hd_Committee, po_Committee, sa_Committee⟩
    kc_Committee := kc_Committee
    mk_Committee := mk_Committee
    a_Committee_weights := no_Committee_weights
    a_Committee_size := no_Committee_size
    a_Committee_total := no_Committee_total
    g_Chain := PySem.W.mg_of X G g_Chain
    cl_Chain := ⟨pg_Chain, hd_Chain, po_Chain, sa_Chain⟩
    kc_Chain := kc_Chain
    mk_Chain := mk_Chain
    a_Chain_blocks := no_Chain_blocks
    a_Chain_receipts := no_Chain_receipts
    a_Chain_committees := no_Chain_committees
    a_Chain_ledgers := no_Chain_ledgers
    d_Reader_init := ⟨def_mk l_Reader_init q_Reader_init k_Reader_init (fun _ _ _ _ _ _ us hl => match us, hl with | [_, _], _ => rfl), a_Reader_init, i_Reader_init, k_Reader_init⟩
    d_Reader_read_signs := ⟨def_mk l_Reader_read_signs q_Reader_read_signs k_Reader_read_signs (fun _ _ _ _ _ _ us hl => match us, hl with | [_, _], _ => rfl), a_Reader_read_signs, i_Reader_read_signs, k_Reader_read_signs⟩
    d_Reader_skip := ⟨def_mk l_Reader_skip q_Reader_skip k_Reader_skip (fun _ _ _ _ _ _ us hl => match us, hl with | [_, _], _ => rfl), a_Reader_skip, i_Reader_skip, k_Reader_skip⟩
    d_Reader_read_number := ⟨def_mk l_Reader_read_number q_Reader_read_number k_Reader_read_number (fun _ _ _ _ _ _ us hl => match us, hl with | [_], _ => rfl), a_Reader_read_number, i_Reader_read_number, k_Reader_read_number⟩
    d_Reader_read_code := ⟨def_mk l_Reader_read_code q_Reader_read_code k_Reader_read_code (fun _ _ _ _ _ _ us hl => match us, hl with | [_], _ => rfl), a_Reader_read_code, i_Reader_read_code, k_Reader_read_code⟩
    d_Reader_read_command := ⟨def_mk l_Reader_read_command q_Reader_read_command k_Reader_read_command (fun _ _ _ _ _ _ us hl => match us, hl with | [_], _ => rfl), a_Reader_read_command, i_Reader_read_command, k_Reader_read_command⟩
    d_commands_of := ⟨def_mk l_commands_of q_commands_of k_commands_of (fun _ _ _ _ _ _ us hl => match us, hl with | [_], _ => rfl), PySem.W.mg_of X G a_commands_of, k_commands_of⟩
    d_Run_init := ⟨def_mk l_Run_init q_Run_init k_Run_init (fun _ _ _ _ _ _ us hl => match us, hl with | [_, _, _, _, _], _ => rfl), a_Run_init, i_Run_init, k_Run_init⟩
    d_run := ⟨def_mk l_run q_run k_run (fun _ _ _ _ _ _ us hl => match us, hl with | [_, _, _, _], _ => rfl), PySem.W.mg_of X G a_run, k_run⟩
    d_plus := ⟨def_mk l_plus q_plus k_plus (fun _ _ _ _ _ _ us hl => match us, hl with | [_, _], _ => rfl), PySem.W.mg_of X G a_plus, k_plus⟩
    d_minus := ⟨def_mk l_minus q_minus k_minus (fun _ _ _ _ _ _ us hl => match us, hl with | [_, _], _ => rfl), PySem.W.mg_of X G a_minus, k_minus⟩
    d_times := ⟨def_mk l_times q_times k_times (fun _ _ _ _ _ _ us hl => match us, hl with | [_, _], _ => rfl), PySem.W.mg_of X G a_times, k_times⟩
    d_append_digit := ⟨def_mk l_append_digit q_append_digit k_append_digit (fun _ _ _ _ _ _ us hl => match us, hl with | [_, _], _ => rfl), PySem.W.mg_of X G a_append_digit, k_append_digit⟩
    d_is_less := ⟨def_mk l_is_less q_is_less k_is_less (fun _ _ _ _ _ _ us hl => match us, hl with | [_, _], _ => rfl), PySem.W.mg_of X G a_is_less, k_is_less⟩
    d_is_equal := ⟨def_mk l_is_equal q_is_equal k_is_equal (fun _ _ _ _ _ _ us hl => match us, hl with | [_, _], _ => rfl), PySem.W.mg_of X G a_is_equal, k_is_equal⟩
    d_Machine_init := ⟨def_mk l_Machine_init q_Machine_init k_Machine_init (fun _ _ _ _ _ _ us hl => match us, hl with | [_, _, _, _, _], _ => rfl), a_Machine_init, i_Machine_init, k_Machine_init⟩
    d_Machine_push := ⟨def_mk l_Machine_push q_Machine_push k_Machine_push (fun _ _ _ _ _ _ us hl => match us, hl with | [_, _], _ => rfl), a_Machine_push, i_Machine_push, k_Machine_push⟩
    d_Machine_take := ⟨def_mk l_Machine_take q_Machine_take k_Machine_take (fun _ _ _ _ _ _ us hl => match us, hl with | [_], _ => rfl), a_Machine_take, i_Machine_take, k_Machine_take⟩
    d_Machine_push_number := ⟨def_mk l_Machine_push_number q_Machine_push_number k_Machine_push_number (fun _ _ _ _ _ _ us hl => match us, hl with | [_, _], _ => rfl), a_Machine_push_number, i_Machine_push_number, k_Machine_push_number⟩
    d_Machine_combine := ⟨def_mk l_Machine_combine q_Machine_combine k_Machine_combine (fun _ _ _ _ _ _ us hl => match us, hl with | [_, _], _ => rfl), a_Machine_combine, i_Machine_combine, k_Machine_combine⟩
    d_Machine_move := ⟨def_mk l_Machine_move q_Machine_move k_Machine_move (fun _ _ _ _ _ _ us hl => match us, hl with | [_, _], _ => rfl), a_Machine_move, i_Machine_move, k_Machine_move⟩
    d_Machine_jump := ⟨def_mk l_Machine_jump q_Machine_jump k_Machine_jump (fun _ _ _ _ _ _ us hl => match us, hl with | [_, _], _ => rfl), a_Machine_jump, i_Machine_jump, k_Machine_jump⟩
    d_Machine_settle := ⟨def_mk l_Machine_settle q_Machine_settle k_Machine_settle (fun _ _ _ _ _ _ us hl => match us, hl with | [_, _], _ => rfl), a_Machine_settle, i_Machine_settle, k_Machine_settle⟩
    d_Machine_perform := ⟨def_mk l_Machine_perform q_Machine_perform k_Machine_perform (fun _ _ _ _ _ _ us hl => match us, hl with | [_, _], _ => rfl), a_Machine_perform, i_Machine_perform, k_Machine_perform⟩
    d_Machine_finish := ⟨def_mk l_Machine_finish q_Machine_finish k_Machine_finish (fun _ _ _ _ _ _ us hl => match us, hl with | [_], _ => rfl), a_Machine_finish, i_Machine_finish, k_Machine_finish⟩
    d_Ledger_init := ⟨def_mk l_Ledger_init q_Ledger_init k_Ledger_init (fun _ _ _ _ _ _ us hl => match us, hl with | [_, _, _, _], _ => rfl), a_Ledger_init, i_Ledger_init, k_Ledger_init⟩
    d_first_ledger := ⟨def_mk l_first_ledger q_first_ledger k_first_ledger (fun _ _ _ _ _ _ us hl => match us, hl with | [_], _ => rfl), PySem.W.mg_of X G a_first_ledger, k_first_ledger⟩
    d_after_command := ⟨def_mk l_after_command q_after_command k_after_command (fun _ _ _ _ _ _ us hl => match us, hl with | [_, _], _ => rfl), PySem.W.mg_of X G a_after_command, k_after_command⟩
    d_done := ⟨def_mk l_done q_done k_done (fun _ _ _ _ _ _ us hl => match us, hl with | [_, _], _ => rfl), PySem.W.mg_of X G a_done, k_done⟩
    d_payment := ⟨def_mk l_payment q_payment k_payment (fun _ _ _ _ _ _ us hl => match us, hl with | [_, _, _, _], _ => rfl), PySem.W.mg_of X G a_payment, k_payment⟩
    d_new_program := ⟨def_mk l_new_program q_new_program k_new_program (fun _ _ _ _ _ _ us hl => match us, hl with | [_, _, _], _ => rfl), PySem.W.mg_of X G a_new_program, k_new_program⟩
    d_call := ⟨def_mk l_call q_call k_call (fun _ _ _ _ _ _ us hl => match us, hl with | [_, _, _, _], _ => rfl), PySem.W.mg_of X G a_call, k_call⟩
    d_exist := ⟨def_mk l_exist q_exist k_exist (fun _ _ _ _ _ _ us hl => match us, hl with | [_, _], _ => rfl), PySem.W.mg_of X G a_exist, k_exist⟩
    d_moved := ⟨def_mk l_moved q_moved k_moved (fun _ _ _ _ _ _ us hl => match us, hl with | [_, _, _, _], _ => rfl), PySem.W.mg_of X G a_moved, k_moved⟩
    d_replaced := ⟨def_mk l_replaced q_replaced k_replaced (fun _ _ _ _ _ _ us hl => match us, hl with | [_, _, _], _ => rfl), PySem.W.mg_of X G a_replaced, k_replaced⟩
    d_first_wrong := ⟨def_mk l_first_wrong q_first_wrong k_first_wrong (fun _ _ _ _ _ _ us hl => match us, hl with | [_], _ => rfl), PySem.W.mg_of X G a_first_wrong, k_first_wrong⟩
    d_Committee_init := ⟨def_mk l_Committee_init q_Committee_init k_Committee_init (fun _ _ _ _ _ _ us hl => match us, hl with | [_, _], _ => rfl), a_Committee_init, i_Committee_init, k_Committee_init⟩
    d_Chain_init := ⟨def_mk l_Chain_init q_Chain_init k_Chain_init (fun _ _ _ _ _ _ us hl => match us, hl with | [_, _, _], _ => rfl), a_Chain_init, i_Chain_init, k_Chain_init⟩
    d_Chain_committee := ⟨def_mk l_Chain_committee q_Chain_committee k_Chain_committee (fun _ _ _ _ _ _ us hl => match us, hl with | [_], _ => rfl), a_Chain_committee, i_Chain_committee, k_Chain_committee⟩
    d_Chain_extend := ⟨def_mk l_Chain_extend q_Chain_extend k_Chain_extend (fun _ _ _ _ _ _ us hl => match us, hl with | [_, _], _ => rfl), a_Chain_extend, i_Chain_extend, k_Chain_extend⟩
    d_after_weight := ⟨def_mk l_after_weight q_after_weight k_after_weight (fun _ _ _ _ _ _ us hl => match us, hl with | [_, _], _ => rfl), PySem.W.mg_of X G a_after_weight, k_after_weight⟩
    d_law_cell := ⟨def_mk l_law_cell q_law_cell k_law_cell (fun _ _ _ _ _ _ us hl => match us, hl with | [_, _], _ => rfl), PySem.W.mg_of X G a_law_cell, k_law_cell⟩
    d_law_is_integer := ⟨def_mk l_law_is_integer q_law_is_integer k_law_is_integer (fun _ _ _ _ _ _ us hl => match us, hl with | [_], _ => rfl), PySem.W.mg_of X G a_law_is_integer, k_law_is_integer⟩
    d_law_row := ⟨def_mk l_law_row q_law_row k_law_row (fun _ _ _ _ _ _ us hl => match us, hl with | [_, _, _], _ => rfl), PySem.W.mg_of X G a_law_row, k_law_row⟩
    d_law_number := ⟨def_mk l_law_number q_law_number k_law_number (fun _ _ _ _ _ _ us hl => match us, hl with | [_], _ => rfl), PySem.W.mg_of X G a_law_number, k_law_number⟩
    d_law_code := ⟨def_mk l_law_code q_law_code k_law_code (fun _ _ _ _ _ _ us hl => match us, hl with | [_], _ => rfl), PySem.W.mg_of X G a_law_code, k_law_code⟩
    d_law_place := ⟨def_mk l_law_place q_law_place k_law_place (fun _ _ _ _ _ _ us hl => match us, hl with | [_], _ => rfl), PySem.W.mg_of X G a_law_place, k_law_place⟩
    d_law_command := ⟨def_mk l_law_command q_law_command k_law_command (fun _ _ _ _ _ _ us hl => match us, hl with | [_, _], _ => rfl), PySem.W.mg_of X G a_law_command, k_law_command⟩
    d_law_text := ⟨def_mk l_law_text q_law_text k_law_text (fun _ _ _ _ _ _ us hl => match us, hl with | [_], _ => rfl), PySem.W.mg_of X G a_law_text, k_law_text⟩
    d_law_fitting := ⟨def_mk l_law_fitting q_law_fitting k_law_fitting (fun _ _ _ _ _ _ us hl => match us, hl with | [_], _ => rfl), PySem.W.mg_of X G a_law_fitting, k_law_fitting⟩
    d_law_paying := ⟨def_mk l_law_paying q_law_paying k_law_paying (fun _ _ _ _ _ _ us hl => match us, hl with | [_], _ => rfl), PySem.W.mg_of X G a_law_paying, k_law_paying⟩ }
  have TE : TxtE w K mg ⟨C_Reader, C_Run, C_Machine, C_Ledger, C_Committee, C_Chain, f_Reader_init, f_Reader_read_signs, f_Reader_skip, f_Reader_read_number, f_Reader_read_code, f_Reader_read_command, f_commands_of, f_Run_init, f_run, f_plus, f_minus, f_times, f_append_digit, f_is_less, f_is_equal, f_Machine_init, f_Machine_push, f_Machine_take, f_Machine_push_number, f_Machine_combine, f_Machine_move, f_Machine_jump, f_Machine_settle, f_Machine_perform, f_Machine_finish, f_Ledger_init, f_first_ledger, f_after_command, f_done, f_payment, f_new_program, f_call, f_exist, f_moved, f_replaced, f_first_wrong, f_Committee_init, f_Chain_init, f_Chain_committee, f_Chain_extend, f_after_weight, f_law_cell, f_law_is_integer, f_law_row, f_law_number, f_law_code, f_law_place, f_law_command, f_law_text, f_law_fitting, f_law_paying, P_MARKS, M_MARKS_p, M_MARKS_w, M_MARKS_d, M_MARKS_k, C_BadCommand, C_Failed, P_OF_TWO⟩ := {
    g_MARKS := PySem.W.mg_of X G g_MARKS
    tab_MARKS := ktab_mk l_MARKS kl_MARKS lo_MARKS ⟨⟨_, rfl, rfl⟩, ⟨_, rfl, rfl⟩, ⟨_, rfl, rfl⟩, ⟨_, rfl, rfl⟩, trivial⟩
    s_MARKS_p := fun H => .inr ⟨_, _, _, l_MARKS_p, rfl, rfl, (by show 3 ≤ sizeLine; decide), (.cons ⟨_, rfl⟩ (.cons ⟨_, rfl⟩ (.cons ⟨_, rfl⟩ .nil)))⟩
    s_MARKS_w := fun H => .inr ⟨_, _, _, l_MARKS_w, rfl, rfl, (by show 2 ≤ sizeLine; decide), (.cons ⟨_, rfl⟩ (.cons ⟨_, rfl⟩ .nil))⟩
    s_MARKS_d := fun H => .inr ⟨_, _, _, l_MARKS_d, rfl, rfl, (by show 2 ≤ sizeLine; decide), (.cons ⟨_, rfl⟩ (.cons ⟨_, rfl⟩ .nil))⟩
    s_MARKS_k := fun H => .inr ⟨_, _, _, l_MARKS_k, rfl, rfl, (by show 3 ≤ sizeLine; decide), (.cons ⟨_, rfl⟩ (.cons ⟨_, rfl⟩ (.cons ⟨_, rfl⟩ .nil)))⟩
    g_BadCommand := PySem.W.mg_of X G g_BadCommand
    x_BadCommand := x_BadCommand
    kc_BadCommand := kc_BadCommand
    b_BadCommand := b_BadCommand
    t_BadCommand := t_BadCommand
    xc_BadCommand := ⟨(PySem.W.any_some xhd_BadCommand).elim fun cd h => by rw [h.1]; rfl, xga_BadCommand, xgt_BadCommand, b_BadCommand, xhd_BadCommand, xcc_BadCommand, xsp_BadCommand, xtk_BadCommand, xmo_BadCommand⟩
    exm_BadCommand_BadCommand := PySem.W.exm_ref te1_BadCommand te2_BadCommand te3_BadCommand te4_BadCommand_BadCommand
    g_OF_TWO := PySem.W.mg_of X G g_OF_TWO
    tab_OF_TWO := ktab_mk l_OF_TWO kl_OF_TWO lo_OF_TWO ⟨⟨_, rfl, rfl⟩, ⟨_, rfl, rfl⟩, ⟨_, rfl, rfl⟩, ⟨_, rfl, rfl⟩, ⟨_, rfl, rfl⟩, ⟨_, rfl, rfl⟩, trivial⟩
    g_Failed := PySem.W.mg_of X G g_Failed
    x_Failed := x_Failed
    kc_Failed := kc_Failed
    b_Failed := b_Failed
    t_Failed := t_Failed
    xc_Failed := ⟨(PySem.W.any_some xhd_Failed).elim fun cd h => by rw [h.1]; rfl, xga_Failed, xgt_Failed, b_Failed, xhd_Failed, xcc_Failed, xsp_Failed, xtk_Failed, xmo_Failed⟩
    exm_Failed_Failed := PySem.W.exm_ref te1_Failed te2_Failed te3_Failed te4_Failed_Failed
    kt_Ledger_Ledger := kt_Ledger_Ledger
    ic_Ledger := ⟨icc_Ledger, isp_Ledger, itk_Ledger, imo_Ledger⟩ }
  have F5 := fun_mk (st := s_law) l_law q_law k_law
  exact ⟨PySem.W.fnOf "law" "law" (defArgs s_law) (defBody s_law) (defScope s_law) .none kV_law dc_law pm_law an_law cd_law ct_law, fun s v => .of_eq rfl, fun base _ _ => ok_law F5 TE T⟩
theorem walk {l : PySem.W.OpenLaw} {q : Program} {loose : List Str} {XP : (Str → Option Value) → Heap → Prop} {YP : World → Heap → Prop} {d : DefRec} {K : Params → PySem.W.Frag} (hn : l.most = some 63) (hdf : d.params.defaults = [])
    (hY : ∀ (w : World) (h : Heap), YP w h → (K w.params).In h)
    (F : ∀ (w : World) (mg : Str → Option Value) (fa : Addr) (h : Heap), (K w.params).In h → h.Ns mainGlobals mg → mg d.name = some (.ref fa) →
      ∃ fd : FuncData, (∀ (s : Shared) (u : Value), BindsTo s fd ⟨[u], []⟩ [("script", u)]) ∧ ∀ base : Heap, (K w.params).In base → base.Ns mainGlobals mg → FnOk l.prog w (K w.params) mg base CX0 10 fa fd ["script"] (spLaw (K w.params))) :
    PySem.W.WalkO q loose XP YP l.row.toRowW d [] (fun f vs => PySem.call f vs) :=
  L2.walk_of (n := 63) (k := 10) (x := "script") (CX := fun _ => CX0) (sp := fun w => spLaw (K w.params)) hn (by decide) hdf ⟨rfl, by decide, by decide⟩ hY F (fun _ _ a ns hl _ hS => ⟨a, ns, rfl, hS, hl, fun _ => rfl⟩) fun _ _ _ _ _ z => z
end Toy
namespace PySem.W.Fast
theorem tw12199104370852364145 : True := trivial
theorem tw18151321416651471763 : True := trivial
theorem tw9802913010198050144 : True := trivial
theorem tw3252130876211415317 : True := trivial
theorem tw1935035371701132061 : True := trivial
theorem tw4379086060181601590 : True := trivial
theorem tw6406316124950290657 : True := trivial
theorem tw14894083755873880210 : True := trivial
theorem tw3555270704138180495 : True := trivial
theorem tw3397801133266585716 : True := trivial
theorem tw10065288467576577644 : True := trivial
theorem tw6453008172496140260 : True := trivial
theorem tw406412329541417605 : True := trivial
theorem tw7547037305964885816 : True := trivial
theorem tw4930498794169892461 : True := trivial
theorem tw14074401320493233435 : True := trivial
theorem tw11375854367962765692 : True := trivial
theorem tw17688345208462216817 : True := trivial
theorem tw11347315600724646277 : True := trivial
theorem tw15184097084489829564 : True := trivial
theorem tw2070351196214840345 : True := trivial
theorem tw774006271886709688 : True := trivial
theorem tw3856952944967906005 : True := trivial
theorem tw6991355021161859847 : True := trivial
theorem tw16118448526398767666 : True := trivial
theorem tw6382654959288199227 : True := trivial
theorem tw10622838500096738259 : True := trivial
theorem tw11727281879273279075 : True := trivial
theorem tw11138932820765063241 : True := trivial
theorem tw1651055715339965181 : True := trivial
theorem tw10598079603832796744 : True := trivial
theorem tw3265882657980166573 : True := trivial
theorem tw9594822711077492531 : True := trivial
theorem tw6161117779615974018 : True := trivial
theorem tw9075438411004911868 : True := trivial
theorem tw5691411603777674634 : True := trivial
theorem tw17854562785367478956 : True := trivial
theorem tw13425769114188185755 : True := trivial
theorem tw17362341618417913083 : True := trivial
theorem tw12088720558056943344 : True := trivial
theorem tw16541794268969548693 : True := trivial
theorem tw7725905462783449411 : True := trivial
theorem tw15057727774314917133 : True := trivial
theorem tw8661537050084907886 : True := trivial
theorem tw2386103176290896579 : True := trivial
theorem tw15565492152480063642 : True := trivial
theorem tw6668272430479432606 : True := trivial
theorem tw3797416399327357425 : True := trivial
theorem tw5531746427976451551 : True := trivial
theorem tw5176536277451710377 : True := trivial
theorem tw2708952207038550437 : True := trivial
theorem tw6093572865145989395 : True := trivial
theorem tw12906233134755006894 : True := trivial
theorem tw7266421761755235182 : True := trivial
theorem tw15553080750698131103 : True := trivial
theorem tw3224724524552556726 : True := trivial
theorem tw4141554401867568279 : True := trivial
theorem tw6038002190721586047 : True := trivial
theorem tw17074704797031200368 : True := trivial
theorem tw13312637031976767397 : True := trivial
theorem tw16540025481116646912 : True := trivial
theorem tw16671313877045186100 : True := trivial
theorem tw3999033715682308382 : True := trivial
theorem tw7421229592237796529 : True := trivial
theorem tw3996744079153980059 : True := trivial
theorem tw8638067413957839728 : True := trivial
theorem tw13109654411137806897 : True := trivial
theorem tw10840009473521438472 : True := trivial
theorem tw2536539807511954589 : True := trivial
theorem tw6114507493722372106 : True := trivial
theorem tw10862081511107848781 : True := trivial
theorem tw2715445937983492097 : True := trivial
theorem tw1209359651428633739 : True := trivial
theorem tw6563928885667869290 : True := trivial
theorem tw8279777080425415336 : True := trivial
theorem tw18136247354863672217 : True := trivial
theorem tw15828931546478756141 : True := trivial
theorem tw11895118030192119710 : True := trivial
theorem tw10410519490620787051 : True := trivial
theorem tw5866014912006396381 : True := trivial
theorem tw9231563537265760307 : True := trivial
theorem tw13055621143290232356 : True := trivial
theorem tw9931364773169922726 : True := trivial
theorem tw14490079780089892197 : True := trivial
theorem tw1607468662124631579 : True := trivial
theorem tw7084053830516544821 : True := trivial
theorem tw2028830396186312699 : True := trivial
theorem tw17485021138450133094 : True := trivial
theorem tw17645992081204367473 : True := trivial
theorem tw14214318426743028224 : True := trivial
theorem tw4660216373592258327 : True := trivial
theorem tw5877916214417705703 : True := trivial
theorem tw16879410806244749759 : True := trivial
theorem tw7882588281802565614 : True := trivial
theorem tw9352615560190448624 : True := trivial
theorem tw5438393037708876616 : True := trivial
theorem tw1891919961208107635 : True := trivial
theorem tw7810753011904982903 : True := trivial
theorem tw4621087599294083501 : True := trivial
theorem tw5241105502530290255 : True := trivial
theorem tw1716780587401654217 : True := trivial
theorem tw10981995481286926920 : True := trivial
theorem tw4232656961432986956 : True := trivial
theorem tw10567775768991974525 : True := trivial
theorem tw2450828434203990702 : True := trivial
theorem tw5084265596735318951 : True := trivial
theorem tw11274873282971781419 : True := trivial
theorem tw7026666446164008750 : True := trivial
theorem tw3048780421667520595 : True := trivial
theorem tw1229323908400843258 : True := trivial
theorem tw3126419991283330569 : True := trivial
theorem tw8558660382929262064 : True := trivial
theorem tw10723964803464153617 : True := trivial
theorem tw7194140176107350168 : True := trivial
theorem tw606872439305088500 : True := trivial
theorem tw1531883393645109160 : True := trivial
theorem tw10383829276919533944 : True := trivial
theorem tw16059669059181985657 : True := trivial
theorem tw8288888758275847231 : True := trivial
theorem tw7034944290269095498 : True := trivial
theorem tw3267991008189521613 : True := trivial
theorem tw16410755875545123053 : True := trivial
theorem tw6039692053986593931 : True := trivial
theorem tw4185582413599580307 : True := trivial
theorem tw11608727275438523986 : True := trivial
theorem tw9936499654052597956 : True := trivial
theorem tw7033129689738075013 : True := trivial
theorem tw14826693290164183914 : True := trivial
theorem tw16608110575105507630 : True := trivial
theorem tw12741267910997768687 : True := trivial
theorem tw4058317181188560281 : True := trivial
theorem tw5480371162835128294 : True := trivial
theorem tw13028658053945429900 : True := trivial
theorem tw14690922226511704207 : True := trivial
theorem tw15691670256109199586 : True := trivial
theorem tw9814630073798928169 : True := trivial
theorem tw12752755627827464348 : True := trivial
theorem tw13008680628689870199 : True := trivial
theorem tw11616200182940324365 : True := trivial
theorem tw12900490685840876865 : True := trivial
theorem tw18001487177657233504 : True := trivial
theorem tw493230848254392264 : True := trivial
theorem tw12696350915883177008 : True := trivial
theorem tw16234758428437987222 : True := trivial
theorem tw15239456858162842834 : True := trivial
theorem tw6014388716536494023 : True := trivial
theorem tw16497916048688181281 : True := trivial
theorem tw3885116806428848587 : True := trivial
theorem tw5667225340815105347 : True := trivial
theorem tw1712122830234859062 : True := trivial
theorem tw11426562402454177153 : True := trivial
theorem tw9158975100672267806 : True := trivial
theorem tw111613074649759054 : True := trivial
theorem tw3155312855715832432 : True := trivial
theorem tw14746909086124118687 : True := trivial
theorem tw3401883341724291767 : True := trivial
theorem tw5200936039855015526 : True := trivial
theorem tw16371532488021718877 : True := trivial
theorem tw6592531820507657866 : True := trivial
theorem tw8888168098624739852 : True := trivial
theorem tw1834467208978430167 : True := trivial
theorem tw18387465851422387587 : True := trivial
theorem tw315554871992274436 : True := trivial
theorem tw6402455993133193570 : True := trivial
theorem tw6651287358081856382 : True := trivial
theorem tw5220818749929591837 : True := trivial
theorem tw3772420298950455206 : True := trivial
theorem tw3697116835195251501 : True := trivial
theorem tw9794639528368723059 : True := trivial
theorem tw5552974494314664578 : True := trivial
theorem tw5295532000314369437 : True := trivial
theorem tw14310980048202452564 : True := trivial
theorem tw12328933564863752951 : True := trivial
theorem tw14147610438046511295 : True := trivial
theorem tw13078139027312450667 : True := trivial
theorem tw13435656850103920038 : True := trivial
theorem tw11162448423214733769 : True := trivial
theorem tw13107661673439127749 : True := trivial
theorem tw1266577410254451315 : True := trivial
theorem tw17902053495389172623 : True := trivial
theorem tw2551597805709870811 : True := trivial
theorem tw3056532533534381419 : True := trivial
theorem tw15291750962726428455 : True := trivial
theorem tw5777049912560300608 : True := trivial
theorem tw179537447105725756 : True := trivial
theorem tw601916431117759157 : True := trivial
theorem tw5940288617038040350 : True := trivial
theorem tw3002244793649602759 : True := trivial
theorem tw650266202523312899 : True := trivial
theorem tw8112021935770113090 : True := trivial
theorem tw18089595190270911157 : True := trivial
theorem tw17509029186246388614 : True := trivial
theorem tw11784396926082489999 : True := trivial
theorem tw10786309185892955017 : True := trivial
theorem tw10489750318883002250 : True := trivial
theorem tw14585321050932470067 : True := trivial
theorem tw16131297406305885447 : True := trivial
theorem tw14012189632778842046 : True := trivial
theorem tw15954087314575674052 : True := trivial
theorem tw17845407554844694667 : True := trivial
theorem tw13345326380715360217 : True := trivial
theorem tw15640245661224707409 : True := trivial
theorem tw16627564095293834041 : True := trivial
theorem tw5110468627844027353 : True := trivial
theorem tw9065949411659083890 : True := trivial
theorem tw1955409208366451056 : True := trivial
theorem tw6693301179541202838 : True := trivial
theorem tw2678436678019127361 : True := trivial
theorem tw3629864756756396715 : True := trivial
theorem tw18235184516999601320 : True := trivial
theorem tw3020975949496883146 : True := trivial
theorem tw8480732237167736482 : True := trivial
theorem tw9609893171908928875 : True := trivial
theorem tw704721930987527192 : True := trivial
theorem tw10367000042969865296 : True := trivial
theorem tw9140207691857219328 : True := trivial
theorem tw2845057568918783991 : True := trivial
theorem tw1100169313747596490 : True := trivial
theorem tw7466530433565287074 : True := trivial
theorem tw7073181958818339056 : True := trivial
theorem tw5674898502085500548 : True := trivial
theorem tw11267001630382303582 : True := trivial
theorem tw5963895559459606809 : True := trivial
theorem tw11672120606092599502 : True := trivial
theorem tw4767578591950377101 : True := trivial
theorem tw10793464932401156621 : True := trivial
theorem tw3718046319244825529 : True := trivial
theorem tw4051443077072016846 : True := trivial
theorem tw3856535942883203384 : True := trivial
theorem tw13846434803252969684 : True := trivial
theorem tw3233596955398725778 : True := trivial
theorem tw6986563941688553830 : True := trivial
theorem tw4856146688534866385 : True := trivial
theorem tw5465467218834061211 : True := trivial
theorem tw12966464561876990331 : True := trivial
theorem tw116161386280000165 : True := trivial
theorem tw7671779383303513411 : True := trivial
theorem tw17110704566999103679 : True := trivial
theorem tw8129240858972934604 : True := trivial
theorem tw12847131829032508259 : True := trivial
theorem tw6609825154129219442 : True := trivial
theorem tw15532620433567193962 : True := trivial
theorem tw15467606511317296934 : True := trivial
theorem tw6118070813240643299 : True := trivial
theorem tw11358882079382885714 : True := trivial
theorem tw3396906256457120658 : True := trivial
theorem tw14305524579427773718 : True := trivial
theorem tw6650330062762913434 : True := trivial
theorem tw8500562708693405988 : True := trivial
theorem tw5471011360669713922 : True := trivial
theorem tw670405265401401600 : True := trivial
theorem tw14615619158079308111 : True := trivial
theorem tw13849923080261094637 : True := trivial
theorem tw10263992677722878209 : True := trivial
theorem tw14756994894192174642 : True := trivial
theorem tw9128195802121810894 : True := trivial
theorem tw31285660340194054 : True := trivial
theorem tw7952151666842666719 : True := trivial
theorem tw12795238717664321316 : True := trivial
theorem tw14548422642036950770 : True := trivial
theorem tw4341465344343487498 : True := trivial
theorem tw10367605502304029499 : True := trivial
theorem tw7266577281902691272 : True := trivial
theorem tw6275518257776972856 : True := trivial
theorem tw8082831162170142795 : True := trivial
theorem tw14288159917696257338 : True := trivial
theorem tw10368507268974687480 : True := trivial
theorem tw8151065690215151243 : True := trivial
theorem tw15917656675093517932 : True := trivial
theorem tw946445592692829952 : True := trivial
theorem tw3740976467721068839 : True := trivial
theorem tw11817940926076960673 : True := trivial
theorem tw2823542453367580755 : True := trivial
theorem tw7542612191170945019 : True := trivial
theorem tw13470959222836821694 : True := trivial
theorem tw17709544688209116284 : True := trivial
theorem tw11712569369834131278 : True := trivial
theorem tw14492517988807885677 : True := trivial
theorem tw11018902664127252509 : True := trivial
theorem tw17130075327962537971 : True := trivial
theorem tw10319995860496035933 : True := trivial
theorem tw10348349399507247516 : True := trivial
theorem tw573789060849937752 : True := trivial
theorem tw15857362909241895366 : True := trivial
theorem tw6152708312898356773 : True := trivial
theorem tw8759361316511817149 : True := trivial
theorem tw17837412888637901524 : True := trivial
theorem tw676210577955723531 : True := trivial
theorem tw13265749120661888143 : True := trivial
theorem tw1690907300123451841 : True := trivial
theorem tw2972545746533523373 : True := trivial
theorem tw14118294911919093730 : True := trivial
theorem tw13519213727599992666 : True := trivial
theorem tw11113860451633866031 : True := trivial
theorem tw1129809335194895978 : True := trivial
theorem tw8430338695564267432 : True := trivial
theorem tw17614623913452568573 : True := trivial
theorem tw14521814511750319513 : True := trivial
theorem tw18375767041070192144 : True := trivial
theorem tw14180803300679941544 : True := trivial
theorem tw224079991156962213 : True := trivial
theorem tw12762956873851923788 : True := trivial
theorem tw15961748701446952123 : True := trivial
theorem tw8989877503003364849 : True := trivial
theorem tw9306213888295696144 : True := trivial
theorem tw14839286060890314942 : True := trivial
theorem tw4377661841760171213 : True := trivial
theorem tw10376883645175119105 : True := trivial
theorem tw6201797723629618806 : True := trivial
theorem tw6959495352513654984 : True := trivial
theorem tw16617089783106695443 : True := trivial
theorem tw4503515878412799283 : True := trivial
theorem tw6950080866034003645 : True := trivial
theorem tw7232880153072941518 : True := trivial
theorem tw10327561010284172427 : True := trivial
theorem tw9000746294115701607 : True := trivial
theorem tw5097912797332050989 : True := trivial
theorem tw3282439587987547979 : True := trivial
theorem tw11864163586436767736 : True := trivial
theorem tw17373959053840456442 : True := trivial
theorem tw9572480571081198874 : True := trivial
theorem tw646818524552644149 : True := trivial
theorem tw12181664705652277400 : True := trivial
theorem tw13469410299988936708 : True := trivial
theorem tw874252178742000749 : True := trivial
theorem tw5571930622217169155 : True := trivial
theorem tw3119483897264911331 : True := trivial
theorem tw14718436500041107921 : True := trivial
theorem tw2895157704692744275 : True := trivial
theorem tw17196370180115044806 : True := trivial
theorem tw9694417191292122881 : True := trivial
theorem tw6462621240583013388 : True := trivial
theorem tw12494107954160593272 : True := trivial
theorem tw11436578375998571604 : True := trivial
theorem tw2736603500778843022 : True := trivial
theorem tw7126904205889038669 : True := trivial
theorem tw5718071514157130098 : True := trivial
theorem tw16619874910105875130 : True := trivial
theorem tw5954952569506186439 : True := trivial
theorem tw17625475409676120481 : True := trivial
theorem tw11641987443206897097 : True := trivial
theorem tw17833465927452146398 : True := trivial
theorem tw7508146589835692188 : True := trivial
theorem tw2902651873442203605 : True := trivial
theorem tw15590919816825803862 : True := trivial
theorem tw854602757400075478 : True := trivial
theorem tw16049944003538959281 : True := trivial
theorem tw11061322725912659110 : True := trivial
theorem tw4415685171398350956 : True := trivial
theorem tw14176836137416127069 : True := trivial
theorem tw4441758908113393538 : True := trivial
theorem tw16558189136215521729 : True := trivial
theorem tw9063163364256029673 : True := trivial
theorem tw3754821534310292681 : True := trivial
theorem tw7094413145019513429 : True := trivial
theorem tw15761006024378679642 : True := trivial
theorem tw6309008431150510436 : True := trivial
theorem tw11420509019332491568 : True := trivial
theorem tw10239408348381304925 : True := trivial
theorem tw15087268382483508329 : True := trivial
theorem tw2773515973182323701 : True := trivial
theorem tw1181172760718849301 : True := trivial
theorem tw10669750542882080564 : True := trivial
theorem tw10792099730633516816 : True := trivial
theorem tw285707469160227908 : True := trivial
theorem tw13615239051605917334 : True := trivial
theorem tw3058511643042746808 : True := trivial
theorem tw14969984509853869157 : True := trivial
theorem tw15548303798422453730 : True := trivial
theorem tw14312751638088355927 : True := trivial
theorem tw9237166819876803682 : True := trivial
theorem tw4131251678122532307 : True := trivial
theorem tw12915806280433516068 : True := trivial
theorem tw10776568541220081416 : True := trivial
theorem tw10786879570356137630 : True := trivial
theorem tw2238704897430640845 : True := trivial
theorem tw3466142475514222680 : True := trivial
theorem tw18340646194421520133 : True := trivial
theorem tw2988627515379002582 : True := trivial
theorem tw8834887178014998517 : True := trivial
theorem tw8568763037815266924 : True := trivial
theorem tw13767734411318406293 : True := trivial
theorem tw4417983457758810566 : True := trivial
theorem tw7616129458905657567 : True := trivial
theorem tw4216284010698065872 : True := trivial
theorem tw13790654002944203837 : True := trivial
theorem tw7713921514119573514 : True := trivial
theorem tw7872513496871701428 : True := trivial
theorem tw1832739541897826896 : True := trivial
theorem tw12622074058405369028 : True := trivial
theorem tw10023950524408516004 : True := trivial
theorem tw9987029789792477957 : True := trivial
theorem tw10151217176288499047 : True := trivial
theorem tw3073870031358582154 : True := trivial
theorem tw15705686270904069989 : True := trivial
theorem tw11060237725334173766 : True := trivial
theorem tw15238057566401052175 : True := trivial
theorem tw3769199671947634626 : True := trivial
theorem tw2394179112835193332 : True := trivial
theorem tw5868164735334942156 : True := trivial
theorem tw14868460751817936450 : True := trivial
theorem tw8073622138828683300 : True := trivial
theorem tw12605990877009750349 : True := trivial
theorem tw4416854119644553277 : True := trivial
theorem tw13034882774191948640 : True := trivial
theorem tw3540729017878968463 : True := trivial
theorem tw6683182321338485998 : True := trivial
theorem tw10849046720192993045 : True := trivial
theorem tw8361186492956322264 : True := trivial
theorem tw12359188771120422186 : True := trivial
theorem tw12130643422407603501 : True := trivial
theorem tw433403510934949263 : True := trivial
theorem tw10709955859162706739 : True := trivial
theorem tw6350055380728344219 : True := trivial
theorem tw6305292053963381326 : True := trivial
theorem tw11814990843124998558 : True := trivial
theorem tw2218926412135923601 : True := trivial
theorem tw730202951456566575 : True := trivial
theorem tw14452409616015970077 : True := trivial
theorem tw11416776502597594839 : True := trivial
theorem tw306313625753647143 : True := trivial
theorem tw18294889540347523254 : True := trivial
theorem tw7968091470966159395 : True := trivial
theorem tw17712665955653027980 : True := trivial
theorem tw17269152242002103978 : True := trivial
theorem tw15819519098647935131 : True := trivial
theorem tw328263215430305753 : True := trivial
theorem tw4514031568906226352 : True := trivial
theorem tw16359865408940598618 : True := trivial
theorem tw13638858497950965437 : True := trivial
theorem tw59985312554756563 : True := trivial
theorem tw13222206515358825136 : True := trivial
theorem tw10979720430324444839 : True := trivial
theorem tw714001720682478084 : True := trivial
theorem tw7179090835008082504 : True := trivial
theorem tw12012294164928436590 : True := trivial
theorem tw6258458414968520531 : True := trivial
theorem tw14946466342055242868 : True := trivial
theorem tw6936937986923330533 : True := trivial
theorem tw5574190774036271797 : True := trivial
theorem tw3844305613073999151 : True := trivial
theorem tw14220212417668310277 : True := trivial
theorem tw15823651871346105023 : True := trivial
theorem tw5025299103424091951 : True := trivial
theorem tw9878368712162253936 : True := trivial
theorem tw7054492252555837725 : True := trivial
theorem tw1043300342263453909 : True := trivial
theorem tw14044772094808896587 : True := trivial
theorem tw16350847903111457802 : True := trivial
theorem tw13307969156105056094 : True := trivial
theorem tw4542490297806852215 : True := trivial
theorem tw14369714864745571454 : True := trivial
theorem tw15001468970516536030 : True := trivial
theorem tw10985809707319102596 : True := trivial
theorem tw1717570343043551902 : True := trivial
theorem tw1376597291657387752 : True := trivial
theorem tw3798981229236699352 : True := trivial
theorem tw1498492150718364977 : True := trivial
theorem tw2830196078363040691 : True := trivial
theorem tw924525819997121068 : True := trivial
theorem tw17111625028974962970 : True := trivial
theorem tw13347248764368223327 : True := trivial
theorem tw12846293415986984389 : True := trivial
theorem tw9341220248672059275 : True := trivial
theorem tw8609304104974953980 : True := trivial
theorem tw13230455890209864759 : True := trivial
theorem tw13032770714760798649 : True := trivial
theorem tw177885743743955056 : True := trivial
theorem tw17299803835014203616 : True := trivial
theorem tw15788780608484079588 : True := trivial
theorem tw16807506349466590397 : True := trivial
theorem tw12111085115397691644 : True := trivial
theorem tw11638675436747257009 : True := trivial
theorem tw17109900894808685681 : True := trivial
theorem tw7106894922712475459 : True := trivial
theorem tw14590561431042296712 : True := trivial
theorem tw15125169191935198926 : True := trivial
theorem tw16553630978782507454 : True := trivial
theorem tw3641438202233046617 : True := trivial
theorem tw13450140426191894815 : True := trivial
theorem tw17470529306414641345 : True := trivial
theorem tw2023939040988519534 : True := trivial
theorem tw17190404063103615395 : True := trivial
theorem tw8071647386794960442 : True := trivial
theorem tw13949589986359808033 : True := trivial
theorem tw7085655882796083501 : True := trivial
theorem tw14415448066418955455 : True := trivial
theorem tw5825983419798437216 : True := trivial
theorem tw12054495229011288553 : True := trivial
theorem tw17420419866678003535 : True := trivial
theorem tw2112720566383538916 : True := trivial
theorem tw4009169302577140469 : True := trivial
theorem tw8714362473116389377 : True := trivial
theorem tw818085651273752205 : True := trivial
theorem tw7421439321554906140 : True := trivial
theorem tw9922294289724186788 : True := trivial
theorem tw3855606636132885471 : True := trivial
theorem tw9849100195578417562 : True := trivial
theorem tw501490080550553772 : True := trivial
theorem tw12179336732247603701 : True := trivial
theorem tw884099639125771267 : True := trivial
theorem tw16844718687685484061 : True := trivial
theorem tw9300026580886168985 : True := trivial
theorem tw2008967117631629168 : True := trivial
theorem tw4772853779956517233 : True := trivial
theorem tw8845467096623155976 : True := trivial
theorem tw11875305162571312142 : True := trivial
theorem tw6617805072423844103 : True := trivial
theorem tw8082103654957070420 : True := trivial
theorem tw2918321890001088677 : True := trivial
theorem tw13701130900966943902 : True := trivial
theorem tw12988558228700988639 : True := trivial
theorem tw9643630872320912440 : True := trivial
theorem tw5938262343963691823 : True := trivial
theorem tw6110588643924239504 : True := trivial
theorem tw14710869862876249256 : True := trivial
theorem tw201885085237880424 : True := trivial
theorem tw7874237153899479674 : True := trivial
theorem tw2065543701258086636 : True := trivial
theorem tw14996826888441606991 : True := trivial
theorem tw5630217882884654564 : True := trivial
theorem tw12458846166328720015 : True := trivial
theorem tw11850784645434335676 : True := trivial
theorem tw1234302030929444402 : True := trivial
theorem tw6720797225737709279 : True := trivial
theorem tw13088159581356811901 : True := trivial
theorem tw8330504687150652775 : True := trivial
theorem tw3825704722238076133 : True := trivial
theorem tw13076087296153178750 : True := trivial
theorem tw6717559211072289005 : True := trivial
theorem tw6082271789995039411 : True := trivial
theorem tw7333364870069449396 : True := trivial
theorem tw10224889078150494386 : True := trivial
theorem tw11464129619206541181 : True := trivial
theorem tw6005459933222065010 : True := trivial
theorem tw4701452815713633095 : True := trivial
theorem tw16948088939988628940 : True := trivial
theorem tw5149077691909262966 : True := trivial
theorem tw9346497093399236079 : True := trivial
theorem tw14280056427982689368 : True := trivial
theorem tw8840133641401565686 : True := trivial
theorem tw10794759496854844861 : True := trivial
theorem tw10749070257456729661 : True := trivial
theorem tw18227775754231663131 : True := trivial
theorem tw9804972851431044216 : True := trivial
theorem tw4850831283618384700 : True := trivial
theorem tw913634039031966940 : True := trivial
theorem tw1238605054824724101 : True := trivial
theorem tw11439941385023019588 : True := trivial
theorem tw452791744098696652 : True := trivial
theorem tw12059701230400825237 : True := trivial
theorem tw1769009537316321449 : True := trivial
theorem tw17932357970849136130 : True := trivial
theorem tw14786467885593285006 : True := trivial
theorem tw6067994636649353303 : True := trivial
theorem tw3805440437578334989 : True := trivial
theorem tw11813834072113326222 : True := trivial
theorem tw11069549962349497401 : True := trivial
theorem tw5439975231588951330 : True := trivial
theorem tw12014062455995414714 : True := trivial
theorem tw18343834312903893908 : True := trivial
theorem tw5365253509635685707 : True := trivial
theorem tw5399536625786112421 : True := trivial
theorem tw18199238176166429450 : True := trivial
theorem tw14923700199950028654 : True := trivial
theorem tw9517306781394215615 : True := trivial
theorem tw15705262425785573505 : True := trivial
theorem tw8597119354795409524 : True := trivial
theorem tw3904758729487738154 : True := trivial
theorem tw2049992809365038662 : True := trivial
theorem tw15208257536449311823 : True := trivial
theorem tw18328345022971248231 : True := trivial
theorem tw1765707367368745366 : True := trivial
theorem tw3894440834078511872 : True := trivial
theorem tw17655964256932004167 : True := trivial
theorem tw2975994240498173681 : True := trivial
theorem tw11765604076785479746 : True := trivial
theorem tw6799452772152328219 : True := trivial
theorem tw12182091974763812130 : True := trivial
theorem tw13166801921008602303 : True := trivial
theorem tw8164601643244727158 : True := trivial
theorem tw2593545091665145614 : True := trivial
theorem tw7741507139424469195 : True := trivial
theorem tw8783462430702518522 : True := trivial
theorem tw17085049574565162573 : True := trivial
theorem tw205178046424557286 : True := trivial
theorem tw16457208026589623466 : True := trivial
theorem tw11044124156629387819 : True := trivial
theorem tw202905815177561221 : True := trivial
theorem tw4666972811975885621 : True := trivial
theorem tw4253635919959745011 : True := trivial
theorem tw17687972278671499734 : True := trivial
theorem tw18175315320482035866 : True := trivial
theorem tw9032387846033294121 : True := trivial
theorem tw7667085781161171221 : True := trivial
theorem tw10486579702048178375 : True := trivial
theorem tw7524946924298692212 : True := trivial
theorem tw15854732136312088048 : True := trivial
theorem tw1168638743928564248 : True := trivial
theorem tw17317545105040071106 : True := trivial
theorem tw4126667500926529931 : True := trivial
theorem tw12259516475779957379 : True := trivial
theorem tw13708337718181239653 : True := trivial
theorem tw15467229465122357699 : True := trivial
theorem tw16252750082888939103 : True := trivial
theorem tw1345921687924751449 : True := trivial
theorem tw15420242293916187424 : True := trivial
theorem tw1989155076715687511 : True := trivial
theorem tw2765912874181663821 : True := trivial
theorem tw2500358936589474238 : True := trivial
theorem tw8081352791758361653 : True := trivial
theorem tw10459839523881804416 : True := trivial
theorem tw549549387135658434 : True := trivial
theorem tw15113188521843339772 : True := trivial
theorem tw6873308578860768568 : True := trivial
theorem tw18025537618441777569 : True := trivial
theorem tw7392016256545283664 : True := trivial
theorem tw15089071709681489830 : True := trivial
theorem tw3156588052176808123 : True := trivial
theorem tw725654708566855282 : True := trivial
theorem tw13812521536478750470 : True := trivial
theorem tw2281066693017571257 : True := trivial
theorem tw3455787497184611375 : True := trivial
theorem tw1607939713013900004 : True := trivial
theorem tw12782098833730421732 : True := trivial
theorem tw3787051007288321218 : True := trivial
theorem tw13505724816042576131 : True := trivial
theorem tw6066688813017866322 : True := trivial
theorem tw11194861904880595046 : True := trivial
theorem tw10920618500237524023 : True := trivial
theorem tw10599709877534697197 : True := trivial
theorem tw8052449520057374010 : True := trivial
theorem tw6033130309780058578 : True := trivial
theorem tw7825949397935992384 : True := trivial
theorem tw11400782727765297216 : True := trivial
theorem tw13052718006957808194 : True := trivial
theorem tw2977097308178161584 : True := trivial
theorem tw10763142289456361193 : True := trivial
theorem tw521658614202136334 : True := trivial
theorem tw11904912615675379941 : True := trivial
theorem tw2025957701058603313 : True := trivial
theorem tw11648438111312374277 : True := trivial
theorem tw9760259991608873886 : True := trivial
theorem tw8602268527740520833 : True := trivial
theorem tw14509348176919136858 : True := trivial
theorem tw1155386114533958105 : True := trivial
theorem tw8954702284579801807 : True := trivial
theorem tw12891402664481769134 : True := trivial
theorem tw12405074946270322212 : True := trivial
theorem tw6410755424101376927 : True := trivial
theorem tw6605585979749417298 : True := trivial
theorem tw9854786831177877950 : True := trivial
theorem tw9982043645340423330 : True := trivial
theorem tw123394953032306033 : True := trivial
theorem tw7859913170421208811 : True := trivial
theorem tw580021970250293118 : True := trivial
theorem tw11919043636352554055 : True := trivial
theorem tw12190329023259147389 : True := trivial
theorem tw983961298844632243 : True := trivial
theorem tw14208986963224965090 : True := trivial
theorem tw12698542432997808554 : True := trivial
theorem tw14383019829785537212 : True := trivial
theorem tw10934525190886419903 : True := trivial
theorem tw14072534108304033358 : True := trivial
theorem tw11028578784945779561 : True := trivial
theorem tw6907215472723609922 : True := trivial
theorem tw2198011509841258761 : True := trivial
theorem tw4723040325954295254 : True := trivial
theorem tw2440775446516211639 : True := trivial
theorem tw11710782327315230649 : True := trivial
theorem tw6111691160713212020 : True := trivial
theorem tw10643372185813645681 : True := trivial
theorem tw14119166626778614660 : True := trivial
theorem tw7900663760831819048 : True := trivial
theorem tw13302568781998424220 : True := trivial
theorem tw4769541267799006653 : True := trivial
theorem tw15398343599776239610 : True := trivial
theorem tw8184420825615645320 : True := trivial
theorem tw7425094118982220761 : True := trivial
theorem tw1580736328882508844 : True := trivial
theorem tw1519380766893877930 : True := trivial
theorem tw3037069075978072649 : True := trivial
theorem tw17328509720636942755 : True := trivial
theorem tw15467269850155972772 : True := trivial
theorem tw14545756596157356545 : True := trivial
theorem tw16110758560199463927 : True := trivial
theorem tw7264493551344148310 : True := trivial
theorem tw647462918780122650 : True := trivial
theorem tw15642689524428530619 : True := trivial
theorem tw11571885857923641930 : True := trivial
theorem tw8444932378164688456 : True := trivial
theorem tw5503668010926040245 : True := trivial
theorem tw10412947214196765414 : True := trivial
theorem tw14651833706153167659 : True := trivial
theorem tw7604795121676376405 : True := trivial
theorem tw3511253271036294310 : True := trivial
theorem tw6706774118744925964 : True := trivial
theorem tw608141567238023132 : True := trivial
theorem tw17465980316002274226 : True := trivial
theorem tw873950199018672329 : True := trivial
theorem tw4826429240024966461 : True := trivial
theorem tw7638224342184779808 : True := trivial
theorem tw190697520208256825 : True := trivial
theorem tw5509623789730517529 : True := trivial
theorem tw1262922425674396581 : True := trivial
theorem tw10971870706046934719 : True := trivial
theorem tw12143926128790698533 : True := trivial
theorem tw16572606464880609791 : True := trivial
theorem tw17842443278237564821 : True := trivial
theorem tw11308125775302273968 : True := trivial
theorem tw2512786650210630709 : True := trivial
theorem tw17635947294953119598 : True := trivial
theorem tw9372344116166826765 : True := trivial
theorem tw17494612976218973468 : True := trivial
theorem tw7534535591566411067 : True := trivial
theorem tw3720153136697458362 : True := trivial
theorem tw8407375756394648397 : True := trivial
theorem tw5690683643368517013 : True := trivial
theorem tw5834793941889036424 : True := trivial
theorem tw18432075211503833667 : True := trivial
theorem tw3998011521917129698 : True := trivial
theorem tw6141935369079763658 : True := trivial
theorem tw11928573991686985029 : True := trivial
theorem tw3011174205369088164 : True := trivial
theorem tw13896657162659424602 : True := trivial
theorem tw2838323079756806187 : True := trivial
theorem tw7718604487337669097 : True := trivial
theorem tw1317116514467013813 : True := trivial
theorem tw17768693910784128975 : True := trivial
theorem tw9844876789898304516 : True := trivial
theorem tw7986899011135061363 : True := trivial
theorem tw17436637918044600457 : True := trivial
theorem tw18103250698378194726 : True := trivial
theorem tw2883576374570916315 : True := trivial
theorem tw6577626383541080185 : True := trivial
theorem tw7998807292407359308 : True := trivial
theorem tw16556367073813563450 : True := trivial
theorem tw17708273012033118292 : True := trivial
theorem tw8842803168632067529 : True := trivial
theorem tw8121201678478170450 : True := trivial
theorem tw1459646720217241998 : True := trivial
theorem tw4513071865622080070 : True := trivial
theorem tw8877699223954727602 : True := trivial
theorem tw17554208137606277887 : True := trivial
theorem tw15715975258168323299 : True := trivial
theorem tw2891416366636778127 : True := trivial
theorem tw11139644229683738351 : True := trivial
theorem tw5021118879897752704 : True := trivial
theorem tw16837418784640651385 : True := trivial
theorem tw15488603137368046814 : True := trivial
theorem tw2084679659115590602 : True := trivial
theorem tw296946897172759582 : True := trivial
theorem tw10243075363733523684 : True := trivial
theorem tw4786514202752710710 : True := trivial
theorem tw4947965162115515439 : True := trivial
theorem tw7304887404275867255 : True := trivial
theorem tw10581525862167484544 : True := trivial
theorem tw5666519469229980741 : True := trivial
theorem tw4553081175915204795 : True := trivial
theorem tw4325401445691200046 : True := trivial
theorem tw4207241665606487023 : True := trivial
theorem tw5927090028619420648 : True := trivial
theorem tw2291333281711065445 : True := trivial
theorem tw7400665498719506289 : True := trivial
theorem tw8826292180798570691 : True := trivial
theorem tw6615497020695245835 : True := trivial
theorem tw17016252492952230719 : True := trivial
theorem tw16568035174997047097 : True := trivial
theorem tw1430311763063033917 : True := trivial
theorem tw96756611106695391 : True := trivial
theorem tw6516169535132202412 : True := trivial
theorem tw2932308752479710204 : True := trivial
theorem tw14493630984872310246 : True := trivial
theorem tw12547397328966957248 : True := trivial
theorem tw8284138902441961377 : True := trivial
theorem tw12760816673000897266 : True := trivial
theorem tw18424952748139678267 : True := trivial
theorem tw13055233881976654942 : True := trivial
theorem tw15271515298379144409 : True := trivial
theorem tw15212555495947043673 : True := trivial
theorem tw17915270578251122493 : True := trivial
theorem tw2003144948200016644 : True := trivial
theorem tw11659690953142334093 : True := trivial
theorem tw10689725564432397022 : True := trivial
theorem tw14821685197997992018 : True := trivial
theorem tw8750517240089170176 : True := trivial
theorem tw3015970242995975761 : True := trivial
theorem tw6074570475400898193 : True := trivial
theorem tw13883755885520655547 : True := trivial
theorem tw17334862965094803616 : True := trivial
theorem tw1475632377516313050 : True := trivial
theorem tw11021343841537870894 : True := trivial
theorem tw13090159294333162412 : True := trivial
theorem tw15177160273017484673 : True := trivial
theorem tw43148050758879969 : True := trivial
theorem tw8761857494959772635 : True := trivial
theorem tw7619772753273656728 : True := trivial
theorem tw7188891208066633921 : True := trivial
theorem tw7644797626621747263 : True := trivial
theorem tw3744872114742908365 : True := trivial
theorem tw36429458352069244 : True := trivial
theorem tw1568743844335146899 : True := trivial
theorem tw7338290667887232853 : True := trivial
theorem tw8931552178231759035 : True := trivial
theorem tw2215592649922128317 : True := trivial
theorem tw3057788605671212906 : True := trivial
theorem tw18268587160136409592 : True := trivial
theorem tw17938143496846830506 : True := trivial
theorem tw14612314474258401953 : True := trivial
theorem tw3308157177579191319 : True := trivial
theorem tw9771320969606285274 : True := trivial
theorem tw4908836785780645496 : True := trivial
theorem tw731664621109670477 : True := trivial
theorem tw1156252495751135525 : True := trivial
theorem tw11425401548431957876 : True := trivial
theorem tw12302357958820399770 : True := trivial
theorem tw12310447800449820189 : True := trivial
theorem tw10115595009130891981 : True := trivial
theorem tw17928143223816077442 : True := trivial
theorem tw4538027661741308704 : True := trivial
theorem tw15257924473531986386 : True := trivial
theorem tw11939688743379370554 : True := trivial
theorem tw4329239604989653528 : True := trivial
theorem tw5375450080225491593 : True := trivial
theorem tw825334683330589213 : True := trivial
theorem tw13989915147195846554 : True := trivial
theorem tw10183204268468718777 : True := trivial
theorem tw2292371931460221345 : True := trivial
theorem tw3324080243159583702 : True := trivial
theorem tw15709943467608947312 : True := trivial
theorem tw10582066002091480352 : True := trivial
theorem tw16197719939979471280 : True := trivial
theorem tw2264796290172115986 : True := trivial
theorem tw896078870433961509 : True := trivial
theorem tw14103168100164883280 : True := trivial
theorem tw13336323288557956198 : True := trivial
theorem tw7992657787414078706 : True := trivial
theorem tw4859711837648697665 : True := trivial
theorem tw8517629827942242720 : True := trivial
theorem tw303586683070758110 : True := trivial
theorem tw6077040060426174787 : True := trivial
theorem tw16058310059880785953 : True := trivial
theorem tw11359177983608550744 : True := trivial
theorem tw18222209070603092313 : True := trivial
theorem tw17536827743458440034 : True := trivial
theorem tw11973320659433017737 : True := trivial
theorem tw7245865321513447986 : True := trivial
theorem tw12499523125286925013 : True := trivial
theorem tw9742868950010201272 : True := trivial
theorem tw2842821246612417059 : True := trivial
theorem tw8279897486604198577 : True := trivial
theorem tw935736159167326201 : True := trivial
theorem tw1623724878980355396 : True := trivial
theorem tw5929477053404076928 : True := trivial
theorem tw16337565348860737766 : True := trivial
theorem tw5255560098767840698 : True := trivial
theorem tw16884390941736736970 : True := trivial
theorem tw3861169549073521715 : True := trivial
theorem tw5199946091934077957 : True := trivial
theorem tw17993100549422800024 : True := trivial
theorem tw9314404983769892946 : True := trivial
theorem tw8931910678904601442 : True := trivial
theorem tw13352537496501378909 : True := trivial
theorem tw8199086512494600016 : True := trivial
theorem tw15069607442447071610 : True := trivial
theorem tw14938981535937057814 : True := trivial
theorem tw420635577057500858 : True := trivial
theorem tw66971695189021068 : True := trivial
theorem tw4472136476161215867 : True := trivial
theorem tw6888090859592869012 : True := trivial
theorem tw1806151789738869534 : True := trivial
theorem tw8398516774960124303 : True := trivial
theorem tw12407828709412399804 : True := trivial
theorem tw10699071904893703634 : True := trivial
theorem tw14807109695861798728 : True := trivial
theorem tw3423053902574725954 : True := trivial
theorem tw16877246398486706764 : True := trivial
theorem tw439421611692403363 : True := trivial
theorem tw6782014974396481964 : True := trivial
theorem tw7807332039328562307 : True := trivial
theorem tw14227204551388947566 : True := trivial
theorem tw1679998428420707987 : True := trivial
theorem tw9573674954763041724 : True := trivial
theorem tw13749835847234151167 : True := trivial
theorem tw16974956995207534917 : True := trivial
theorem tw15177263380846906403 : True := trivial
theorem tw1016207040634311451 : True := trivial
theorem tw16471699124185527459 : True := trivial
theorem tw33689081949010896 : True := trivial
theorem tw14541743514589873666 : True := trivial
theorem tw16883883657688616408 : True := trivial
theorem tw4754665604957346681 : True := trivial
theorem tw6861455867016139322 : True := trivial
theorem tw11153800061873883119 : True := trivial
theorem tw16490257667572479191 : True := trivial
theorem tw5749717903320796985 : True := trivial
theorem tw4489650620407532422 : True := trivial
theorem tw1442027856304233725 : True := trivial
theorem tw1273918217451633006 : True := trivial
theorem tw16915051992421375109 : True := trivial
theorem tw15860401658089594679 : True := trivial
theorem tw5321420914252823778 : True := trivial
theorem tw665544059874131730 : True := trivial
theorem tw3213815483638205073 : True := trivial
theorem tw7396501347676589380 : True := trivial
theorem tw2298231318559915530 : True := trivial
theorem tw12353747925106549510 : True := trivial
theorem tw345502415787995021 : True := trivial
theorem tw4565596068725714878 : True := trivial
theorem tw13612454592898837407 : True := trivial
theorem tw2385166297979438344 : True := trivial
theorem tw11030603796674720315 : True := trivial
theorem tw12490187188155534844 : True := trivial
theorem tw1584476128216058139 : True := trivial
theorem tw547538534699369939 : True := trivial
theorem tw16602237905621023075 : True := trivial
theorem tw9564049883877769960 : True := trivial
theorem tw13689821577858444930 : True := trivial
theorem tw2186128879126269900 : True := trivial
theorem tw1264783925154970679 : True := trivial
theorem tw12550732115100315289 : True := trivial
theorem tw3455054484154090524 : True := trivial
theorem tw2132309317600412481 : True := trivial
theorem tw11983832256147026048 : True := trivial
theorem tw1322195976985726411 : True := trivial
theorem tw13563082149321684831 : True := trivial
theorem tw1591196236992534146 : True := trivial
theorem tw18194473618200796174 : True := trivial
theorem tw11275004124640565617 : True := trivial
theorem tw10862451090484483460 : True := trivial
theorem tw16936147498055013574 : True := trivial
theorem tw9904385507955949767 : True := trivial
theorem tw16884596240139245257 : True := trivial
theorem tw10117413155667259332 : True := trivial
theorem tw16260762368678084905 : True := trivial
theorem tw7826508670701858116 : True := trivial
theorem tw9419827981553262687 : True := trivial
theorem tw12294449516151413844 : True := trivial
theorem tw16539897809275830887 : True := trivial
theorem tw4145323441384538556 : True := trivial
theorem tw14856503398909011370 : True := trivial
theorem tw8036525421824510771 : True := trivial
theorem tw4548612188337220506 : True := trivial
theorem tw17414318570608647641 : True := trivial
theorem tw12404684523684869182 : True := trivial
theorem tw13257785014444794197 : True := trivial
theorem tw4132254386993963624 : True := trivial
theorem tw4433033562204249057 : True := trivial
theorem tw15585957900121687603 : True := trivial
theorem tw5358284417995702124 : True := trivial
theorem tw9764974960458935792 : True := trivial
theorem tw1990010132657479299 : True := trivial
theorem tw11790775039433355876 : True := trivial
theorem tw9070532595417395606 : True := trivial
theorem tw1052840702792046844 : True := trivial
theorem tw14616175794429162699 : True := trivial
theorem tw14030366149113081535 : True := trivial
theorem tw4786417126487314780 : True := trivial
theorem tw17759585391075028151 : True := trivial
theorem tw12198228038961792249 : True := trivial
theorem tw5223110982760711787 : True := trivial
theorem tw7488444585365046520 : True := trivial
theorem tw12197724575662917798 : True := trivial
theorem tw12762970807440103398 : True := trivial
theorem tw11964175479749780824 : True := trivial
theorem tw3749825455283416223 : True := trivial
theorem tw1289279520732011254 : True := trivial
theorem tw13724529608070411754 : True := trivial
theorem tw14710642548163421285 : True := trivial
theorem tw10834145029894178119 : True := trivial
theorem tw12494377407945111989 : True := trivial
theorem tw11994784288479313319 : True := trivial
theorem tw2211549279499910156 : True := trivial
theorem tw4348909446277518511 : True := trivial
theorem tw1590727877561049120 : True := trivial
theorem tw4742172068963538087 : True := trivial
theorem tw266569118237620051 : True := trivial
theorem tw14840977578253725346 : True := trivial
theorem tw15757638697314467115 : True := trivial
theorem tw17459877820439297416 : True := trivial
theorem tw8124774941707370760 : True := trivial
theorem tw8883027576841131219 : True := trivial
theorem tw15435750107914314372 : True := trivial
theorem tw13811527938839070033 : True := trivial
theorem tw13087601982472734443 : True := trivial
theorem tw8801951747605812299 : True := trivial
theorem tw14175780003996587200 : True := trivial
theorem tw7460955721607435010 : True := trivial
theorem tw9577881441808671011 : True := trivial
theorem tw11864764645010064623 : True := trivial
theorem tw10400516822676398534 : True := trivial
theorem tw14886589302288482382 : True := trivial
theorem tw14047963621270682913 : True := trivial
theorem tw1704309129945542025 : True := trivial
theorem tw6371485731273610366 : True := trivial
theorem tw6420455162543695931 : True := trivial
theorem tw3702787981326258032 : True := trivial
theorem tw6644335026689077805 : True := trivial
theorem tw11412345734399124778 : True := trivial
theorem tw8580001530696962414 : True := trivial
theorem tw335496723903499358 : True := trivial
theorem tw280801100152480136 : True := trivial
theorem tw3148869404654498680 : True := trivial
theorem tw7388653508728764171 : True := trivial
theorem tw3866121273169670812 : True := trivial
theorem tw17611613070540416988 : True := trivial
theorem tw10254478913051541832 : True := trivial
theorem tw11977311023183772769 : True := trivial
theorem tw17540914332061850181 : True := trivial
theorem tw14653435840692653391 : True := trivial
theorem tw4909026488392655234 : True := trivial
theorem tw5896248036448025568 : True := trivial
theorem tw6299196630229570882 : True := trivial
theorem tw18262934838911323910 : True := trivial
theorem tw9553070485298856495 : True := trivial
theorem tw4611008245397642448 : True := trivial
theorem tw7451463797830769489 : True := trivial
theorem tw5361718428570577829 : True := trivial
theorem tw8898486820555293076 : True := trivial
theorem tw10827663441736682980 : True := trivial
theorem tw10250838718016257094 : True := trivial
theorem tw12960203386397316325 : True := trivial
theorem tw16434919098348643521 : True := trivial
theorem tw7084996887396700910 : True := trivial
theorem tw17975112544817868053 : True := trivial
theorem tw16280269803329300456 : True := trivial
theorem tw5514737169958481375 : True := trivial
theorem tw1990231728530348657 : True := trivial
theorem tw294112677522977655 : True := trivial
theorem tw17724474000864595052 : True := trivial
theorem tw14681335513697133716 : True := trivial
theorem tw2176754832288273617 : True := trivial
theorem tw9865590018567487162 : True := trivial
theorem tw16329366548275696693 : True := trivial
theorem tw1426570885494554006 : True := trivial
theorem tw1585058849287236379 : True := trivial
theorem tw5789083587796746047 : True := trivial
theorem tw12743482348094972790 : True := trivial
theorem tw5412239893566507885 : True := trivial
theorem tw11122102653230595260 : True := trivial
theorem tw15773657782387108869 : True := trivial
theorem tw12747303939035988438 : True := trivial
theorem tw18423371867995387766 : True := trivial
theorem tw3809144147669508428 : True := trivial
theorem tw7868090415706519722 : True := trivial
theorem tw11318496791339014948 : True := trivial
theorem tw13017245758946538021 : True := trivial
theorem tw14481433485386658027 : True := trivial
theorem tw9926346479454404806 : True := trivial
theorem tw6784483768146431570 : True := trivial
theorem tw4346033495070478662 : True := trivial
theorem tw7297889364424671344 : True := trivial
theorem tw5684494487074839374 : True := trivial
theorem tw4434684300122460646 : True := trivial
theorem tw7541550725986274458 : True := trivial
theorem tw9194715752260193544 : True := trivial
theorem tw11362911861577772056 : True := trivial
theorem tw4048408433728209090 : True := trivial
theorem tw12560923623896703002 : True := trivial
theorem tw16950437347528878356 : True := trivial
theorem tw9461943582465551057 : True := trivial
theorem tw1844071134208371748 : True := trivial
theorem tw5316926043391758907 : True := trivial
theorem tw8533772012964655877 : True := trivial
theorem tw13396040210332475404 : True := trivial
theorem tw852536786838051053 : True := trivial
theorem tw11580810284180442489 : True := trivial
theorem tw3275695019261462695 : True := trivial
theorem tw4447285159247860603 : True := trivial
theorem tw1125077353539380027 : True := trivial
theorem tw15575537790610453852 : True := trivial
theorem tw6859377279075488436 : True := trivial
theorem tw17771744754675301060 : True := trivial
theorem tw2677994512354826283 : True := trivial
theorem tw14558829448926581586 : True := trivial
theorem tw1250916631960716469 : True := trivial
theorem tw2712533281018756379 : True := trivial
theorem tw10081613591655900651 : True := trivial
theorem tw9228656259687346258 : True := trivial
theorem tw9013371241798828562 : True := trivial
theorem tw16856987618607073087 : True := trivial
theorem tw8604222333550763925 : True := trivial
theorem tw1384952228058069339 : True := trivial
theorem tw17007433973746852455 : True := trivial
theorem tw13182478707824114382 : True := trivial
theorem tw4368528952823469522 : True := trivial
theorem tw6487383307947192870 : True := trivial
theorem tw2118968603434503733 : True := trivial
theorem tw11029581888422568939 : True := trivial
theorem tw12795159176643354909 : True := trivial
theorem tw2150624060493575872 : True := trivial
theorem tw16139959911327291383 : True := trivial
theorem tw16332208323448352895 : True := trivial
theorem tw3575793135727388867 : True := trivial
theorem tw14884455326649915172 : True := trivial
theorem tw17713613096823101331 : True := trivial
theorem tw3779813007312171900 : True := trivial
theorem tw2288251235212293369 : True := trivial
theorem tw3282050286286215993 : True := trivial
theorem tw2723313087562641774 : True := trivial
theorem tw13007045763162665721 : True := trivial
theorem tw5312409509967307381 : True := trivial
theorem tw10561504518103071867 : True := trivial
theorem tw5214439728626948155 : True := trivial
theorem tw10635232411651312028 : True := trivial
theorem tw11715363099996543372 : True := trivial
theorem tw14483694282498175716 : True := trivial
theorem tw1477843460233879524 : True := trivial
theorem tw16322753477528827147 : True := trivial
theorem tw13582346587808904089 : True := trivial
theorem tw15552130661586424771 : True := trivial
theorem tw14781892902979454929 : True := trivial
theorem tw12628683235867203492 : True := trivial
theorem tw18343749171554355004 : True := trivial
theorem tw13622174122921692011 : True := trivial
theorem tw2983912487863219851 : True := trivial
theorem tw15420421067189311281 : True := trivial
theorem tw9839505692132909980 : True := trivial
theorem tw15073940537112617838 : True := trivial
theorem tw13557438948309308370 : True := trivial
theorem tw4229248454558619528 : True := trivial
theorem tw4088480579126614334 : True := trivial
theorem tw3807953186254068647 : True := trivial
theorem tw6734224946150987347 : True := trivial
theorem tw11778501772332000129 : True := trivial
theorem tw3372999929462352138 : True := trivial
theorem tw13362442531492030711 : True := trivial
theorem tw348757917273255094 : True := trivial
theorem tw599397602248639312 : True := trivial
theorem tw76069266429451356 : True := trivial
theorem tw13868997627158430885 : True := trivial
theorem tw164756468497030292 : True := trivial
theorem tw572295021549140564 : True := trivial
theorem tw8854989704282871071 : True := trivial
theorem tw17264341649514780092 : True := trivial
theorem tw2947406545523035973 : True := trivial
theorem tw632958090476776998 : True := trivial
theorem tw972015509332893885 : True := trivial
theorem tw8768347798147434294 : True := trivial
theorem tw2958669002315404229 : True := trivial
theorem tw18390378315543699434 : True := trivial
theorem tw1002083103264470413 : True := trivial
theorem tw16379578215812699823 : True := trivial
theorem tw16902567941119405922 : True := trivial
theorem tw18130369531059390329 : True := trivial
theorem tw734042530551514262 : True := trivial
theorem tw15870431711117506871 : True := trivial
theorem tw16969616179099092200 : True := trivial
theorem tw1324014401491881368 : True := trivial
theorem tw1918833579449934159 : True := trivial
theorem tw8802762561999583444 : True := trivial
theorem tw18289131461938601458 : True := trivial
theorem tw894356738992955256 : True := trivial
theorem tw16006023651438168284 : True := trivial
theorem tw5915485709873015124 : True := trivial
theorem tw2223267678559827180 : True := trivial
theorem tw14761028497620006126 : True := trivial
theorem tw13028718421598562767 : True := trivial
theorem tw1156729509033160768 : True := trivial
theorem tw88560575554373496 : True := trivial
theorem tw7516791054149329205 : True := trivial
theorem tw15368663510483026043 : True := trivial
theorem tw4156361447273949972 : True := trivial
theorem tw16209789349809216332 : True := trivial
theorem tw5185004247156317473 : True := trivial
theorem tw2669521379190411049 : True := trivial
theorem tw13304226480150640923 : True := trivial
theorem tw16026491693143615164 : True := trivial
theorem tw3146319036520603970 : True := trivial
theorem tw4430305094515762767 : True := trivial
theorem tw4983446826406688340 : True := trivial
theorem tw6351997226260633432 : True := trivial
theorem tw3170503492510521837 : True := trivial
theorem tw18131134933017914397 : True := trivial
theorem tw12513121600644107241 : True := trivial
theorem tw5152445565819885079 : True := trivial
theorem tw16677963799212424833 : True := trivial
theorem tw18144784892294325460 : True := trivial
theorem tw2487110809405834499 : True := trivial
theorem tw390141547568311468 : True := trivial
theorem tw1283470092651814101 : True := trivial
theorem tw11014270462285707385 : True := trivial
theorem tw3253721454980097520 : True := trivial
theorem tw5578665658370885265 : True := trivial
theorem tw7706475872100700700 : True := trivial
theorem tw1407555566008108782 : True := trivial
theorem tw3847180273899821870 : True := trivial
theorem tw17414622693997234037 : True := trivial
theorem tw14331142425233143608 : True := trivial
theorem tw17007800403542974607 : True := trivial
theorem tw472084364145222311 : True := trivial
theorem tw3869873847692951451 : True := trivial
theorem tw1609165822563036865 : True := trivial
theorem tw14334656503400647871 : True := trivial
theorem tw12733549128595267460 : True := trivial
theorem tw11421659805349549853 : True := trivial
theorem tw7261954436896303346 : True := trivial
theorem tw426517552675562719 : True := trivial
theorem tw7508732946183672162 : True := trivial
theorem tw1706766389194011912 : True := trivial
theorem tw15378039052621911906 : True := trivial
theorem tw14511620115498743499 : True := trivial
theorem tw4999968288472629947 : True := trivial
theorem tw2579664457162666668 : True := trivial
theorem tw5789655779296875075 : True := trivial
theorem tw11619280259737351461 : True := trivial
theorem tw2316783087612033180 : True := trivial
theorem tw16498855676230873837 : True := trivial
theorem tw3839433501976716241 : True := trivial
theorem tw12707117707310556235 : True := trivial
theorem tw17396733937705522833 : True := trivial
theorem tw9587064012829597742 : True := trivial
theorem tw5941865390008758348 : True := trivial
theorem tw5969469353092813061 : True := trivial
theorem tw4943125177827870560 : True := trivial
theorem tw12640176075749468623 : True := trivial
theorem tw4757841628146401590 : True := trivial
theorem tw5299196470956319590 : True := trivial
theorem tw6662964196319807644 : True := trivial
theorem tw14286883977460107984 : True := trivial
theorem tw679046056499483956 : True := trivial
theorem tw12267283110069566075 : True := trivial
theorem tw11403557771515553189 : True := trivial
theorem tw15746904891311941460 : True := trivial
theorem tw12245630549432124522 : True := trivial
theorem tw7035000746593086260 : True := trivial
theorem tw2409071520954933 : True := trivial
theorem tw5219529154722463388 : True := trivial
theorem tw10029124332019488528 : True := trivial
theorem tw3995722388606464430 : True := trivial
theorem tw4989476755055312574 : True := trivial
theorem tw11404778286548177703 : True := trivial
theorem tw10658971152089351397 : True := trivial
theorem tw13052221267866498908 : True := trivial
theorem tw11170335357917834362 : True := trivial
theorem tw591687805924478687 : True := trivial
theorem tw10552968905518766583 : True := trivial
theorem tw6594805233343634271 : True := trivial
theorem tw4329868953884403801 : True := trivial
theorem tw8178131226861561350 : True := trivial
theorem tw11725667551463616691 : True := trivial
theorem tw16325270196167821433 : True := trivial
theorem tw2631926481543405674 : True := trivial
theorem tw8482781949689026456 : True := trivial
theorem tw243433442562574449 : True := trivial
theorem tw8127760018474797966 : True := trivial
theorem tw18023738490269947521 : True := trivial
theorem tw10128915092033850455 : True := trivial
theorem tw15331479323683846244 : True := trivial
theorem tw10511511426325651201 : True := trivial
theorem tw14808249026773240605 : True := trivial
theorem tw1030057963131030960 : True := trivial
theorem tw16933632526826184043 : True := trivial
theorem tw1907504749847898167 : True := trivial
theorem tw3626352696801132290 : True := trivial
theorem tw305702487173021970 : True := trivial
theorem tw10571592033529855805 : True := trivial
theorem tw9653623769776988711 : True := trivial
theorem tw12811110125939397690 : True := trivial
theorem tw8972194343867651785 : True := trivial
theorem tw17482397497613420955 : True := trivial
theorem tw15580236410322912707 : True := trivial
theorem tw795016170353820436 : True := trivial
theorem tw52434237473180479 : True := trivial
theorem tw6512402547384451725 : True := trivial
theorem tw4885809680313559923 : True := trivial
theorem tw8736965324977895458 : True := trivial
theorem tw13113572694146680605 : True := trivial
theorem tw2650378587738865458 : True := trivial
theorem tw3612797373938516790 : True := trivial
theorem tw11315176903607908730 : True := trivial
theorem tw1252536350170312697 : True := trivial
theorem tw16106637959146151498 : True := trivial
theorem tw13674039517827413171 : True := trivial
theorem tw5371711557968234571 : True := trivial
theorem tw2047535849257825680 : True := trivial
theorem tw6457252531953330717 : True := trivial
theorem tw3225375829233305753 : True := trivial
theorem tw9600041945280157989 : True := trivial
theorem tw9638342656159411123 : True := trivial
theorem tw2414183587645341601 : True := trivial
theorem tw10800682709784256641 : True := trivial
theorem tw3995187322491776668 : True := trivial
theorem tw1464998260297222608 : True := trivial
theorem tw15604769893464974809 : True := trivial
theorem tw4066254443369756319 : True := trivial
theorem tw5886512170121070688 : True := trivial
theorem tw17262540987803208369 : True := trivial
theorem tw4762366136244609419 : True := trivial
theorem tw11714823349207445338 : True := trivial
theorem tw7190004084949318445 : True := trivial
theorem tw14073629395872318963 : True := trivial
theorem tw5167727180585162079 : True := trivial
theorem tw11014592810973059786 : True := trivial
theorem tw12077847164527645051 : True := trivial
theorem tw2285604216968111724 : True := trivial
theorem tw7075555926629750389 : True := trivial
theorem tw15533218987683871944 : True := trivial
theorem tw17671657023839142420 : True := trivial
theorem tw9849443432232067711 : True := trivial
theorem tw2998974964794838904 : True := trivial
theorem tw8481041595949983148 : True := trivial
theorem tw16473312635633833768 : True := trivial
theorem tw107018951294916297 : True := trivial
theorem tw8166562720188137003 : True := trivial
theorem tw1737914823344484814 : True := trivial
theorem tw17695632975216446082 : True := trivial
theorem tw9295324050396882921 : True := trivial
theorem tw11899856302740683440 : True := trivial
theorem tw7426364352040749346 : True := trivial
theorem tw266955918571176997 : True := trivial
theorem tw9207861442603548490 : True := trivial
theorem tw4151160363711449726 : True := trivial
theorem tw15770253920814288040 : True := trivial
theorem tw15326530162555311753 : True := trivial
theorem tw10929586106600218374 : True := trivial
theorem tw11813568879783224786 : True := trivial
theorem tw2600195264423189503 : True := trivial
theorem tw11717238126146526268 : True := trivial
theorem tw5021462661176921900 : True := trivial
theorem tw3739096690649113405 : True := trivial
theorem tw7257139217428235924 : True := trivial
theorem tw14672462636178979030 : True := trivial
theorem tw16677510084195816951 : True := trivial
theorem tw5656173341958856089 : True := trivial
theorem tw5021702387133252334 : True := trivial
theorem tw8289479742903012065 : True := trivial
theorem tw12901010344226167780 : True := trivial
theorem tw4094416899053930357 : True := trivial
theorem tw4741624044552215189 : True := trivial
theorem tw4165702805584051407 : True := trivial
theorem tw2929704378288739381 : True := trivial
theorem tw14279478768852521225 : True := trivial
theorem tw9256214966840929467 : True := trivial
theorem tw17411925384946324281 : True := trivial
theorem tw16460453238495950706 : True := trivial
theorem tw8712325780852528368 : True := trivial
theorem tw10604135583196191004 : True := trivial
theorem tw14913177141641840618 : True := trivial
theorem tw15982035908586300525 : True := trivial
theorem tw17908650914246284342 : True := trivial
theorem tw15024351769577449787 : True := trivial
theorem tw13644764100762916916 : True := trivial
theorem tw16979098949034643507 : True := trivial
theorem tw8149952916349772940 : True := trivial
theorem tw11761993871012168536 : True := trivial
theorem tw9824800336829333316 : True := trivial
theorem tw14777833664370234981 : True := trivial
theorem tw9783536259377210175 : True := trivial
theorem tw14067739636984408601 : True := trivial
theorem tw13013513978408805088 : True := trivial
theorem tw8272427092823157906 : True := trivial
theorem tw9831472341924673928 : True := trivial
theorem tw8215838111736548922 : True := trivial
theorem tw529630701930548681 : True := trivial
theorem tw10325688338792569903 : True := trivial
theorem tw4446127971860898169 : True := trivial
theorem tw8915625870065882457 : True := trivial
theorem tw12742237923601499582 : True := trivial
theorem tw10814888697821598309 : True := trivial
theorem tw16961091435780850446 : True := trivial
theorem tw15391725316036523111 : True := trivial
theorem tw13161922809781339916 : True := trivial
theorem tw580503836871382564 : True := trivial
theorem tw6962726817100146120 : True := trivial
theorem tw743746303090152570 : True := trivial
theorem tw12826916697820346702 : True := trivial
theorem tw1002709646237846342 : True := trivial
theorem tw8562736091029151733 : True := trivial
theorem tw6745678815347575736 : True := trivial
theorem tw7387083137993428520 : True := trivial
theorem tw2191851163319047450 : True := trivial
theorem tw13459349440753626378 : True := trivial
theorem tw9494068386870190570 : True := trivial
theorem tw4161446163291789375 : True := trivial
theorem tw2955088443088109585 : True := trivial
theorem tw1602062113563161002 : True := trivial
theorem tw2501175086730510310 : True := trivial
theorem tw13820477666444465849 : True := trivial
theorem tw5667781096475696637 : True := trivial
theorem tw15398617610093083808 : True := trivial
theorem tw6180632209789009565 : True := trivial
theorem tw5574804775804279735 : True := trivial
theorem tw11931299725753406150 : True := trivial
theorem tw10190888034621878995 : True := trivial
theorem tw8812339318145873880 : True := trivial
theorem tw5216569300179933169 : True := trivial
theorem tw10959331602687719386 : True := trivial
theorem tw16479883790975578017 : True := trivial
theorem tw2934686476027761961 : True := trivial
theorem tw9990581407675304500 : True := trivial
theorem tw4893450804080001710 : True := trivial
theorem tw12178285002050724767 : True := trivial
theorem tw7058523419731705572 : True := trivial
theorem tw7400439331613713368 : True := trivial
theorem tw6424151077898820463 : True := trivial
theorem tw14463151608207278706 : True := trivial
theorem tw14063300799472468990 : True := trivial
theorem tw17881808009800144806 : True := trivial
theorem tw9065618595285491537 : True := trivial
theorem tw5212108068053498399 : True := trivial
theorem tw6282074804367995164 : True := trivial
theorem tw17376804927110472605 : True := trivial
theorem tw11656718006581001299 : True := trivial
theorem tw5871596180955125192 : True := trivial
theorem tw16053540572975842955 : True := trivial
theorem tw3181904639572128339 : True := trivial
theorem tw10273032508749203187 : True := trivial
theorem tw7440557927366850770 : True := trivial
theorem tw14206045799533142262 : True := trivial
theorem tw10635539274402429968 : True := trivial
theorem tw8766820972778273271 : True := trivial
theorem tw5517636659047931232 : True := trivial
theorem tw6605755168930318306 : True := trivial
theorem tw13302708281878243221 : True := trivial
theorem tw10288055819953828617 : True := trivial
theorem tw2347235615918008666 : True := trivial
theorem tw8866125955859814245 : True := trivial
theorem tw10422896564402784706 : True := trivial
theorem tw7404216169611726891 : True := trivial
theorem tw8107741667270635869 : True := trivial
theorem tw3749131865982708424 : True := trivial
theorem tw17963942191876479466 : True := trivial
theorem tw3447262025837569375 : True := trivial
theorem tw3177622568217946611 : True := trivial
theorem tw14503142297037226562 : True := trivial
theorem tw7926577903203967489 : True := trivial
theorem tw1425045821760593835 : True := trivial
theorem tw3577833190764401085 : True := trivial
theorem tw2611110551938796205 : True := trivial
theorem tw8157544391964259934 : True := trivial
theorem tw6382801137879693631 : True := trivial
theorem tw16480854580550299063 : True := trivial
theorem tw10588913887504323174 : True := trivial
theorem tw11993014988332796702 : True := trivial
theorem tw8133953782663364683 : True := trivial
theorem tw9400991181620192260 : True := trivial
theorem tw15349876334369925822 : True := trivial
theorem tw11859570265398922704 : True := trivial
theorem tw13805752597731976412 : True := trivial
theorem tw15966475069345513693 : True := trivial
theorem tw4285830351191425241 : True := trivial
theorem tw10483291370967412308 : True := trivial
theorem tw16573786974593054316 : True := trivial
theorem tw9816762453148797413 : True := trivial
theorem tw1409462486956699659 : True := trivial
theorem tw3839767855425072899 : True := trivial
theorem tw9923163561000986406 : True := trivial
theorem tw17054344758019084308 : True := trivial
theorem tw13367992346008510793 : True := trivial
theorem tw2016880581653371961 : True := trivial
theorem tw2739601413243327026 : True := trivial
theorem tw9998031045426936138 : True := trivial
theorem tw3665831764871244944 : True := trivial
theorem tw18153695933273355477 : True := trivial
theorem tw7967863117759586863 : True := trivial
theorem tw3385577249323964117 : True := trivial
theorem tw12338877543036795963 : True := trivial
theorem tw15449178661546064195 : True := trivial
theorem tw1098768024628052051 : True := trivial
theorem tw844599246606977970 : True := trivial
theorem tw7993958725238152239 : True := trivial
theorem tw18220331846091547409 : True := trivial
theorem tw4372944120508198509 : True := trivial
theorem tw8138386752695490061 : True := trivial
theorem tw4353909455317126061 : True := trivial
theorem tw9215442449167778579 : True := trivial
theorem tw17580630450448741342 : True := trivial
theorem tw11760550559476646841 : True := trivial
theorem tw7083261176652549895 : True := trivial
theorem tw918256466125984901 : True := trivial
theorem tw16791116238595018683 : True := trivial
theorem tw14349050453170995810 : True := trivial
theorem tw13092467920957552602 : True := trivial
theorem tw17792068668540868840 : True := trivial
theorem tw11680602995448967783 : True := trivial
theorem tw15078637848848025744 : True := trivial
theorem tw8994820563116969372 : True := trivial
theorem tw18268607118507835466 : True := trivial
theorem tw11475581343349728274 : True := trivial
theorem tw12803599213178895734 : True := trivial
theorem tw1703860449655773213 : True := trivial
theorem tw122912032939446357 : True := trivial
theorem tw13271881554302171250 : True := trivial
theorem tw14864124675105949406 : True := trivial
theorem tw4032940712144217085 : True := trivial
theorem tw3830800265021630738 : True := trivial
theorem tw8290329826916880503 : True := trivial
theorem tw13514114728259042495 : True := trivial
theorem tw16066516669373410639 : True := trivial
theorem tw14781014371411145112 : True := trivial
theorem tw10357889953669650892 : True := trivial
theorem tw12003534649865564928 : True := trivial
theorem tw6934955405167221420 : True := trivial
theorem tw7326292445602928932 : True := trivial
theorem tw10921596042770556866 : True := trivial
theorem tw17754517670201429620 : True := trivial
theorem tw14870259625120300928 : True := trivial
theorem tw13642586398137956306 : True := trivial
theorem tw5960177236864828010 : True := trivial
theorem tw16001817326521734052 : True := trivial
theorem tw14898250928520379238 : True := trivial
theorem tw14693483539090765205 : True := trivial
theorem tw15804158711212043584 : True := trivial
theorem tw8701670087102424348 : True := trivial
theorem tw14621567490309956019 : True := trivial
theorem tw4206623040984250306 : True := trivial
theorem tw3360503387647541783 : True := trivial
theorem tw13064977135190175156 : True := trivial
theorem tw6004405949859777436 : True := trivial
theorem tw11887962810636977190 : True := trivial
theorem tw7806232438791039203 : True := trivial
theorem tw17884267686417539172 : True := trivial
theorem tw6045062517807954433 : True := trivial
theorem tw1502196235562132107 : True := trivial
theorem tw7081430831077463951 : True := trivial
theorem tw6111952843956977732 : True := trivial
theorem tw2427702949644309256 : True := trivial
theorem tw17250637953495361148 : True := trivial
theorem tw7297957076196958896 : True := trivial
theorem tw16630948049352504265 : True := trivial
theorem tw16685277960678289917 : True := trivial
theorem tw12564049233321703145 : True := trivial
theorem tw3966792812207649271 : True := trivial
theorem tw13775411170976931490 : True := trivial
theorem tw15300441693020130457 : True := trivial
theorem tw11276740168233120580 : True := trivial
theorem tw7956448167058181342 : True := trivial
theorem tw1365830885324371308 : True := trivial
theorem tw6006019855148259650 : True := trivial
theorem tw970308289167297904 : True := trivial
theorem tw7516152383722786712 : True := trivial
theorem tw16643211524743315551 : True := trivial
theorem tw10350579920177637443 : True := trivial
theorem tw16310447678926843265 : True := trivial
theorem tw16351612608651888684 : True := trivial
theorem tw5537950676058889982 : True := trivial
theorem tw13129909645913219546 : True := trivial
theorem tw17719844372154574092 : True := trivial
theorem tw13576975180711587998 : True := trivial
theorem tw1967514512346365723 : True := trivial
theorem tw9132945969203473912 : True := trivial
theorem tw14837949722464446521 : True := trivial
theorem tw675940901893486327 : True := trivial
theorem tw5875590092410248306 : True := trivial
theorem tw3885960787642509482 : True := trivial
theorem tw14920711738688348094 : True := trivial
theorem tw8009229743014045397 : True := trivial
theorem tw18423033666007620624 : True := trivial
theorem tw3455779993110806987 : True := trivial
theorem tw7483810317973769479 : True := trivial
theorem tw9462870478730514580 : True := trivial
theorem tw12773906444346606907 : True := trivial
theorem tw17855666805255892728 : True := trivial
theorem tw12349430825059263961 : True := trivial
theorem tw12197570128198903677 : True := trivial
theorem tw13323941138304775983 : True := trivial
theorem tw7217241320765482793 : True := trivial
theorem tw3230445958610260637 : True := trivial
theorem tw10712150297941310077 : True := trivial
theorem tw11903517487352144762 : True := trivial
theorem tw1512399628634421202 : True := trivial
theorem tw17284191970906741770 : True := trivial
theorem tw10301827885048746320 : True := trivial
theorem tw14402664880232007670 : True := trivial
theorem tw7605150864313854754 : True := trivial
theorem tw17958689031681216589 : True := trivial
theorem tw5143748971336985759 : True := trivial
theorem tw9078897610298081375 : True := trivial
theorem tw7689836222508960883 : True := trivial
theorem tw4789439123603157745 : True := trivial
theorem tw17579004958026490452 : True := trivial
theorem tw1178225238148786261 : True := trivial
theorem tw392101945228760354 : True := trivial
theorem tw31804429527262228 : True := trivial
theorem tw6754541517229609159 : True := trivial
theorem tw6944757533082846994 : True := trivial
theorem tw3194536429128919871 : True := trivial
theorem tw17975306048709583714 : True := trivial
theorem tw17110413645879062006 : True := trivial
theorem tw4584735939730499796 : True := trivial
theorem tw15127739215456075052 : True := trivial
theorem tw18333069218723924235 : True := trivial
theorem tw200950425248818925 : True := trivial
theorem tw3456624452372699350 : True := trivial
theorem tw11485771129609547053 : True := trivial
theorem tw12027600838273773134 : True := trivial
theorem tw11488327653397836581 : True := trivial
theorem tw10335220998064919642 : True := trivial
theorem tw7371517286400312259 : True := trivial
theorem tw11916461309095310389 : True := trivial
theorem tw6738393975173597995 : True := trivial
theorem tw6363045066602937449 : True := trivial
theorem tw8379297469426948051 : True := trivial
theorem tw3888991297232821080 : True := trivial
theorem tw5549606750048629103 : True := trivial
theorem tw2268174257916281161 : True := trivial
theorem tw790466948834938424 : True := trivial
theorem tw15033596900881181682 : True := trivial
theorem tw12148634412967243350 : True := trivial
theorem tw9476405545007488764 : True := trivial
theorem tw1729344943962982392 : True := trivial
theorem tw3877547254796984671 : True := trivial
theorem tw14307583622475452529 : True := trivial
theorem tw6180828906671760069 : True := trivial
theorem tw10186869621482985371 : True := trivial
theorem tw8526531488328959752 : True := trivial
theorem tw17957767433336396096 : True := trivial
theorem tw2320782856291397027 : True := trivial
theorem tw13147903691591871704 : True := trivial
theorem tw8201081518491058084 : True := trivial
theorem tw16203140726070552755 : True := trivial
theorem tw17888290299974767387 : True := trivial
theorem tw13870529594448337737 : True := trivial
theorem tw14938757925029226942 : True := trivial
theorem tw10983348505548888598 : True := trivial
theorem tw5771973078571794300 : True := trivial
theorem tw13924977104599276800 : True := trivial
theorem tw11301877565884118726 : True := trivial
theorem tw4557397806089403580 : True := trivial
theorem tw12415146749160159619 : True := trivial
theorem tw5210449207746499107 : True := trivial
theorem tw17593021321186850273 : True := trivial
theorem tw7713124638324645977 : True := trivial
theorem tw16600209224010609043 : True := trivial
theorem tw8611809447047984784 : True := trivial
theorem tw10235836919198288599 : True := trivial
theorem tw13774516482921175672 : True := trivial
theorem tw15461016706726399668 : True := trivial
theorem tw6036982736585209208 : True := trivial
theorem tw3967070020825049526 : True := trivial
theorem tw6198732059841267610 : True := trivial
theorem tw2556686224655509445 : True := trivial
theorem tw15652710005176606736 : True := trivial
theorem tw1453784356504945506 : True := trivial
theorem tw9291414317506810666 : True := trivial
theorem tw11617158299374718751 : True := trivial
theorem tw4650918338316625089 : True := trivial
theorem tw1259105450606354015 : True := trivial
theorem tw1682592900947812219 : True := trivial
theorem tw13841475137489517554 : True := trivial
theorem tw17897486196618958552 : True := trivial
theorem tw1145380037339585398 : True := trivial
theorem tw16177317270906002632 : True := trivial
theorem tw72488962902523251 : True := trivial
theorem tw3225604342896908167 : True := trivial
theorem tw16827968561480639856 : True := trivial
theorem tw10901075129980155770 : True := trivial
theorem tw244126423982213231 : True := trivial
theorem tw9262450025860803768 : True := trivial
theorem tw16120001693282940439 : True := trivial
theorem tw17323587368194685510 : True := trivial
theorem tw10257145845033094298 : True := trivial
theorem tw15374080701161434245 : True := trivial
theorem tw14849005525229965935 : True := trivial
theorem tw10973125459998233107 : True := trivial
theorem tw10100579373721160266 : True := trivial
theorem tw15736188521389714065 : True := trivial
theorem tw12408923931755709457 : True := trivial
theorem tw8316065693262253967 : True := trivial
theorem tw9773862198612045240 : True := trivial
theorem tw3073836438491992708 : True := trivial
theorem tw17806058040294729701 : True := trivial
theorem tw5394096453419305797 : True := trivial
theorem tw15052234249133771265 : True := trivial
theorem tw2684156908785198506 : True := trivial
theorem tw6519486108013877902 : True := trivial
theorem tw4542088115767798861 : True := trivial
theorem tw1789348069857847057 : True := trivial
theorem tw9437538123101295017 : True := trivial
theorem tw8988681168821622624 : True := trivial
theorem tw15760687050450902473 : True := trivial
theorem tw16457012018547711233 : True := trivial
theorem tw17230995409722582720 : True := trivial
theorem tw14713560100921075635 : True := trivial
theorem tw4087913575453671790 : True := trivial
theorem tw536877435039040066 : True := trivial
theorem tw14553605044927763807 : True := trivial
theorem tw10907644081895572774 : True := trivial
theorem tw10039509655609838639 : True := trivial
theorem tw8482376211997457659 : True := trivial
theorem tw15123696793971047738 : True := trivial
theorem tw7330364696516520586 : True := trivial
theorem tw10864961466187329063 : True := trivial
theorem tw15822378077385317435 : True := trivial
theorem tw16591070530206249555 : True := trivial
theorem tw3517737230737614420 : True := trivial
theorem tw8737776136411766587 : True := trivial
theorem tw12286861432230440313 : True := trivial
theorem tw12537632602734726245 : True := trivial
theorem tw10408331753638557915 : True := trivial
theorem tw17864674559797875839 : True := trivial
theorem tw8437144591637190527 : True := trivial
theorem tw17000763304152831506 : True := trivial
theorem tw11674506334538625293 : True := trivial
theorem tw7436479589649744501 : True := trivial
theorem tw6887638950398331865 : True := trivial
theorem tw10830726125860602724 : True := trivial
theorem tw8213915722409318129 : True := trivial
theorem tw3030154812846618970 : True := trivial
theorem tw14044862901532505373 : True := trivial
theorem tw17917159069668610231 : True := trivial
theorem tw1830923698317407504 : True := trivial
theorem tw4188973398575668467 : True := trivial
theorem tw9154040668941652584 : True := trivial
theorem tw17452851012741323562 : True := trivial
theorem tw15008300506735947888 : True := trivial
theorem tw15745437301451029969 : True := trivial
theorem tw2180365157420858503 : True := trivial
theorem tw9203388475489601570 : True := trivial
theorem tw8586694775658235223 : True := trivial
theorem tw12942589864257887763 : True := trivial
theorem tw6672334280620683505 : True := trivial
theorem tw9012877889824771736 : True := trivial
theorem tw11234911500183540997 : True := trivial
theorem tw11321702366120948109 : True := trivial
theorem tw12399866722026261912 : True := trivial
theorem tw14269468869071065271 : True := trivial
theorem tw969903282631762996 : True := trivial
theorem tw1700703160212498277 : True := trivial
theorem tw8687679423710808765 : True := trivial
theorem tw13840902010124322811 : True := trivial
theorem tw6282886842087320328 : True := trivial
theorem tw10829099134333181869 : True := trivial
theorem tw10235017193662142974 : True := trivial
theorem tw2776587699387020374 : True := trivial
theorem tw6280577557393285372 : True := trivial
theorem tw15041122925495688166 : True := trivial
theorem tw9200954385464335319 : True := trivial
theorem tw10355251661217778608 : True := trivial
theorem tw7505864506304898987 : True := trivial
theorem tw18244501794055458751 : True := trivial
theorem tw7330318537557820070 : True := trivial
theorem tw13757969766185589220 : True := trivial
theorem tw5732530065446797694 : True := trivial
theorem tw2810782120988668814 : True := trivial
theorem tw9878327900587749832 : True := trivial
theorem tw1253594710478735418 : True := trivial
theorem tw17522883491719543950 : True := trivial
theorem tw64330140795877065 : True := trivial
theorem tw14661904054041975102 : True := trivial
theorem tw15615002425542160897 : True := trivial
theorem tw6659455199913263024 : True := trivial
theorem tw13786494520026733580 : True := trivial
theorem tw12674701132509362233 : True := trivial
theorem tw6872085923485727957 : True := trivial
theorem tw18404906878326901891 : True := trivial
theorem tw14168555851421291670 : True := trivial
theorem tw3944579271217370105 : True := trivial
theorem tw7004817074285700651 : True := trivial
theorem tw16465120996297577103 : True := trivial
theorem tw4294207198256458364 : True := trivial
theorem tw13961440820514261985 : True := trivial
theorem tw15914143660439337395 : True := trivial
theorem tw6621233081711611245 : True := trivial
theorem tw16582379416352712157 : True := trivial
theorem tw13781368497492719504 : True := trivial
theorem tw817836487768198304 : True := trivial
theorem tw12734911268310101796 : True := trivial
theorem tw4176571163870308029 : True := trivial
theorem tw6768125536095804307 : True := trivial
theorem tw17762328160909661650 : True := trivial
theorem tw5513692007030483394 : True := trivial
theorem tw13810202305038844652 : True := trivial
theorem tw1249950440483922374 : True := trivial
theorem tw2837921335040554068 : True := trivial
theorem tw7960264390198273634 : True := trivial
theorem tw15329765000446227512 : True := trivial
theorem tw14485277693691348996 : True := trivial
theorem tw9050173699523749982 : True := trivial
theorem tw1272497687564891497 : True := trivial
theorem tw848427577013193693 : True := trivial
theorem tw8406494178192919600 : True := trivial
theorem tw7830121121211092928 : True := trivial
theorem tw1392794814596788625 : True := trivial
theorem tw2353259120352219118 : True := trivial
theorem tw6988675899134970103 : True := trivial
theorem tw8994724651956423474 : True := trivial
theorem tw7323510017877713025 : True := trivial
theorem tw3658924251627237021 : True := trivial
theorem tw8053134219783080273 : True := trivial
theorem tw5580537601516956097 : True := trivial
theorem tw8557324455931345142 : True := trivial
theorem tw16392776184193421392 : True := trivial
theorem tw11994714694890063786 : True := trivial
theorem tw874594533037457359 : True := trivial
theorem tw10543506866978613657 : True := trivial
theorem tw11573909415980349580 : True := trivial
theorem tw3849466788296363545 : True := trivial
theorem tw8353553533579675047 : True := trivial
theorem tw11554140883154399740 : True := trivial
theorem tw6018168961685775278 : True := trivial
theorem tw11717464604256771242 : True := trivial
theorem tw18087808022769216238 : True := trivial
theorem tw1308378369502605529 : True := trivial
theorem tw6801048116430848296 : True := trivial
theorem tw7239000105909926229 : True := trivial
theorem tw4744382317305180727 : True := trivial
theorem tw4861942581173961895 : True := trivial
theorem tw17026907183330992887 : True := trivial
theorem tw12835490295752099576 : True := trivial
theorem tw3304879235743240518 : True := trivial
theorem tw5846594648725321519 : True := trivial
theorem tw7537092755138483802 : True := trivial
theorem tw10451882710986336356 : True := trivial
theorem tw13789506206104186525 : True := trivial
theorem tw13226873119052022039 : True := trivial
theorem tw1063900300532782665 : True := trivial
theorem tw6685829083581221022 : True := trivial
theorem tw13672247400437920924 : True := trivial
theorem tw17985523100239767910 : True := trivial
theorem tw9362077780379339430 : True := trivial
theorem tw16071696879310017118 : True := trivial
theorem tw12773046375881075700 : True := trivial
theorem tw3027954879719311771 : True := trivial
theorem tw729046227140335757 : True := trivial
theorem tw15921165384787815803 : True := trivial
theorem tw4174960341245653417 : True := trivial
theorem tw17148040122977754515 : True := trivial
theorem tw60624923267629820 : True := trivial
theorem tw11063816950992147370 : True := trivial
theorem tw2151513186243661467 : True := trivial
theorem tw12960061577111525864 : True := trivial
theorem tw11688896301302795732 : True := trivial
theorem tw2289640887094134331 : True := trivial
theorem tw5558029513016446770 : True := trivial
theorem tw4218134716353192652 : True := trivial
theorem tw726234322930759146 : True := trivial
theorem tw9560845854531048505 : True := trivial
theorem tw16086716128576295792 : True := trivial
theorem tw13673203782102394078 : True := trivial
theorem tw760850139512471831 : True := trivial
theorem tw17041414604841750944 : True := trivial
theorem tw2582325819066768886 : True := trivial
theorem tw14688763854572945901 : True := trivial
theorem tw18286762104874202013 : True := trivial
theorem tw1783947958207568587 : True := trivial
theorem tw17412202209407194183 : True := trivial
theorem tw15188069152296006961 : True := trivial
theorem tw1583852889443231050 : True := trivial
theorem tw9319532154075459991 : True := trivial
theorem tw2505639058380365631 : True := trivial
theorem tw13301549999296107674 : True := trivial
theorem tw2581150622339150421 : True := trivial
theorem tw7109398846891810939 : True := trivial
theorem tw12444545585014761328 : True := trivial
theorem tw15597625173928313085 : True := trivial
theorem tw3896216662505764396 : True := trivial
theorem tw10508135971688655821 : True := trivial
theorem tw11108484561963579625 : True := trivial
theorem tw15557911524488179519 : True := trivial
theorem tw18350327648776817123 : True := trivial
theorem tw11277045179801127053 : True := trivial
theorem tw14137662147919520910 : True := trivial
theorem tw7510019256179772398 : True := trivial
theorem tw15048725955541385816 : True := trivial
theorem tw2682654312531183645 : True := trivial
theorem tw1857874491246909777 : True := trivial
theorem tw6273375576483495092 : True := trivial
theorem tw14515115211503889601 : True := trivial
theorem tw348530479725015043 : True := trivial
theorem tw10107559825829400313 : True := trivial
theorem tw12988786195755427621 : True := trivial
theorem tw13304546751879088141 : True := trivial
theorem tw1236782211423575364 : True := trivial
theorem tw6802431878114317531 : True := trivial
theorem tw9463346289343537168 : True := trivial
theorem tw1523709829954836161 : True := trivial
theorem tw11165420944520967163 : True := trivial
theorem tw11666333085875263757 : True := trivial
theorem tw16128350558500530961 : True := trivial
theorem tw4892805741631290778 : True := trivial
theorem tw373711145084026695 : True := trivial
theorem tw7733736743339456714 : True := trivial
theorem tw7137744255100575818 : True := trivial
theorem tw7179230190845171595 : True := trivial
theorem tw9954376966436533151 : True := trivial
theorem tw10284990348340021373 : True := trivial
theorem tw17090901912588834592 : True := trivial
theorem tw17150128991130765781 : True := trivial
theorem tw15154780011420372775 : True := trivial
theorem tw15477968306232581315 : True := trivial
theorem tw10710382955934468800 : True := trivial
theorem tw9245324116991559434 : True := trivial
theorem tw13889158375674802419 : True := trivial
theorem tw14870886886508408181 : True := trivial
theorem tw3870266957683386419 : True := trivial
theorem tw16412212990585717048 : True := trivial
theorem tw17437013731284922267 : True := trivial
theorem tw4445586005856742896 : True := trivial
theorem tw2943275260383045205 : True := trivial
theorem tw5873061183755690368 : True := trivial
theorem tw4575670519705948784 : True := trivial
theorem tw12144336329092428396 : True := trivial
theorem tw16350080997733719880 : True := trivial
theorem tw1756624935881005456 : True := trivial
theorem tw12560929082330798455 : True := trivial
theorem tw4768998584195374704 : True := trivial
theorem tw7351428885516192796 : True := trivial
theorem tw8979332837317235884 : True := trivial
theorem tw4242364414040031212 : True := trivial
theorem tw13086549851650516208 : True := trivial
theorem tw14353872858478773351 : True := trivial
theorem tw13104961142748858484 : True := trivial
theorem tw14330696941432119297 : True := trivial
theorem tw15698140628258628907 : True := trivial
theorem tw5341395147607010788 : True := trivial
theorem tw5940938470662442015 : True := trivial
theorem tw12996799391567233652 : True := trivial
theorem tw14354034894045511830 : True := trivial
theorem tw16512672865496526681 : True := trivial
theorem tw12895301924279521647 : True := trivial
theorem tw14486144731487717838 : True := trivial
theorem tw14276155078705883615 : True := trivial
theorem tw13602858749867501343 : True := trivial
theorem tw11916493160355540646 : True := trivial
theorem tw16582516381284910611 : True := trivial
theorem tw8871727582583812902 : True := trivial
theorem tw16720208547915600711 : True := trivial
theorem tw15498433788140439221 : True := trivial
theorem tw18436231054209036818 : True := trivial
theorem tw12258910486609759442 : True := trivial
theorem tw5138116048665559693 : True := trivial
theorem tw3693739342541632543 : True := trivial
theorem tw9808854281040309500 : True := trivial
theorem tw12249178959454911070 : True := trivial
theorem tw8140078406298622991 : True := trivial
theorem tw3679122746462033223 : True := trivial
theorem tw7063486453404664313 : True := trivial
theorem tw9150438997195785840 : True := trivial
theorem tw11962449577851539615 : True := trivial
theorem tw10259968856186192619 : True := trivial
theorem tw2594828175498863075 : True := trivial
theorem tw11343247992863628607 : True := trivial
theorem tw16483371771726741837 : True := trivial
theorem tw16760189628049080940 : True := trivial
theorem tw15095171113960765044 : True := trivial
theorem tw2423546510762444681 : True := trivial
theorem tw6957949916069225830 : True := trivial
theorem tw16352326378054942792 : True := trivial
theorem tw14580772605119457313 : True := trivial
theorem tw5945335314130373041 : True := trivial
theorem tw17611543864868619283 : True := trivial
theorem tw3347534849816236204 : True := trivial
theorem tw1274600272088341451 : True := trivial
theorem tw8170411298481636601 : True := trivial
theorem tw4323661268806450295 : True := trivial
theorem tw4631960633802112191 : True := trivial
theorem tw17640686898564753109 : True := trivial
theorem tw15166822996658818644 : True := trivial
theorem tw1547743361793744725 : True := trivial
theorem tw7471657904666299840 : True := trivial
theorem tw10880991897282646660 : True := trivial
theorem tw8290307006973045748 : True := trivial
theorem tw478917386561243361 : True := trivial
theorem tw10810685873456163555 : True := trivial
theorem tw17054012259206489657 : True := trivial
theorem tw12329287542078336054 : True := trivial
theorem tw791700065589038312 : True := trivial
theorem tw2518409428762597508 : True := trivial
theorem tw14937017008179922566 : True := trivial
theorem tw201860243917565382 : True := trivial
theorem tw3080875108317369562 : True := trivial
theorem tw793917746127741046 : True := trivial
theorem tw15394671991201403106 : True := trivial
theorem tw12961855211960694656 : True := trivial
theorem tw5142785266437009523 : True := trivial
theorem tw12667850574653704827 : True := trivial
theorem tw18365010810793106488 : True := trivial
theorem tw17942890522703449336 : True := trivial
theorem tw1815757178248187732 : True := trivial
theorem tw8226281617852727132 : True := trivial
theorem tw17411185067577945768 : True := trivial
theorem tw4433650492821731511 : True := trivial
theorem tw3439785762577753080 : True := trivial
theorem tw4392101642467819269 : True := trivial
theorem tw5050498993170433813 : True := trivial
theorem tw9825140533229625447 : True := trivial
theorem tw4494677902484572526 : True := trivial
theorem tw11270350772428154727 : True := trivial
theorem tw5769372373660454759 : True := trivial
theorem tw2687520701639183506 : True := trivial
theorem tw1410636223357753016 : True := trivial
theorem tw9196571722423949899 : True := trivial
theorem tw4569965108538393660 : True := trivial
theorem tw2402468721847977549 : True := trivial
theorem tw14730215640787465898 : True := trivial
theorem tw18003375283270461409 : True := trivial
theorem tw12648129846625792891 : True := trivial
theorem tw13690618321908576791 : True := trivial
theorem tw10197819423703545266 : True := trivial
theorem tw600072858915552200 : True := trivial
theorem tw12844923374033907713 : True := trivial
theorem tw3735975183965356008 : True := trivial
theorem tw18171854689237941017 : True := trivial
theorem tw97720692220569281 : True := trivial
theorem tw10244289261642292931 : True := trivial
theorem tw13072282361644585489 : True := trivial
theorem tw15558928987376386786 : True := trivial
theorem tw9808173170799747481 : True := trivial
theorem tw4354789784748083555 : True := trivial
theorem tw2799482651405969512 : True := trivial
theorem tw16663098907471050770 : True := trivial
theorem tw9292059117620805260 : True := trivial
theorem tw9112674916635026094 : True := trivial
theorem tw11480588517091101009 : True := trivial
theorem tw17817031510689941937 : True := trivial
theorem tw3493659022063276114 : True := trivial
theorem tw2034988475393491249 : True := trivial
theorem tw12906768051320698047 : True := trivial
theorem tw5811810879434191524 : True := trivial
theorem tw3655466786338088878 : True := trivial
theorem tw15887053827207246044 : True := trivial
theorem tw10953135138636923642 : True := trivial
theorem tw521959804813450062 : True := trivial
theorem tw12214983939595715422 : True := trivial
theorem tw14164529793229343195 : True := trivial
theorem tw7319383717889290039 : True := trivial
theorem tw22896217730046000 : True := trivial
theorem tw7058428890992711354 : True := trivial
theorem tw13008731690080334702 : True := trivial
theorem tw12140886604080365134 : True := trivial
theorem tw2525829225812668697 : True := trivial
theorem tw4683787217282873898 : True := trivial
theorem tw6224756377974663164 : True := trivial
theorem tw10452124887486237162 : True := trivial
theorem tw15321548446143991624 : True := trivial
theorem tw13133505174092390419 : True := trivial
theorem tw18204552805304231577 : True := trivial
theorem tw7521759952101917632 : True := trivial
theorem tw8987007873632101128 : True := trivial
theorem tw12028983756379746650 : True := trivial
theorem tw4947726355932338970 : True := trivial
theorem tw5097864222562512928 : True := trivial
theorem tw12664380074404754901 : True := trivial
theorem tw16167437654023883073 : True := trivial
theorem tw29062005309883765 : True := trivial
theorem tw14298314095531639112 : True := trivial
theorem tw7215730597683982818 : True := trivial
theorem tw14990055955460258798 : True := trivial
theorem tw9514166787493047664 : True := trivial
theorem tw5383304338396250310 : True := trivial
theorem tw531991423366850809 : True := trivial
theorem tw8921457129809103279 : True := trivial
theorem tw15505373281711058820 : True := trivial
theorem tw9842576149201358487 : True := trivial
theorem tw14514978631048199713 : True := trivial
theorem tw13804857773402200634 : True := trivial
theorem tw13811165589131447632 : True := trivial
theorem tw159714143317426480 : True := trivial
theorem tw5221867307731458773 : True := trivial
theorem tw12178394482563552600 : True := trivial
theorem tw17470138056905546399 : True := trivial
theorem tw923752449496929164 : True := trivial
theorem tw7647305407060894937 : True := trivial
theorem tw9653987941518852507 : True := trivial
theorem tw12743013846193137867 : True := trivial
theorem tw17655803119644958144 : True := trivial
theorem tw11545185601586203146 : True := trivial
theorem tw3682067528889114612 : True := trivial
theorem tw13730847724880000234 : True := trivial
theorem tw3911041774061781846 : True := trivial
theorem tw15182312800088045016 : True := trivial
theorem tw17669579392795711138 : True := trivial
theorem tw323151807590627102 : True := trivial
theorem tw1800965907357290986 : True := trivial
theorem tw124519449275067691 : True := trivial
theorem tw3989332045533832599 : True := trivial
theorem tw12653967935531575939 : True := trivial
theorem tw14946304796940352723 : True := trivial
theorem tw9992503899185398266 : True := trivial
theorem tw4432363181050772879 : True := trivial
theorem tw14936761717880906979 : True := trivial
theorem tw15610534057844431587 : True := trivial
theorem tw8893160865842418300 : True := trivial
theorem tw2041718112961656178 : True := trivial
theorem tw4564954330079968923 : True := trivial
theorem tw3496609439704728907 : True := trivial
theorem tw6779016990982369737 : True := trivial
theorem tw15451455644774506391 : True := trivial
theorem tw16055336370764935144 : True := trivial
theorem tw10837820958359669728 : True := trivial
theorem tw9875723027695039027 : True := trivial
theorem tw11682496034443083556 : True := trivial
theorem tw5783702922856932890 : True := trivial
theorem tw12980107283225933838 : True := trivial
theorem tw6260753892530158502 : True := trivial
theorem tw670823819513693016 : True := trivial
theorem tw11075739759200944984 : True := trivial
theorem tw1005874508072804087 : True := trivial
theorem tw2627228103855355021 : True := trivial
theorem tw7436495963904734449 : True := trivial
theorem tw5216889530133574964 : True := trivial
theorem tw15810240417366119805 : True := trivial
theorem tw5550852840651316864 : True := trivial
theorem tw6253884861325952151 : True := trivial
theorem tw3818804764427076240 : True := trivial
theorem tw13387831007092090684 : True := trivial
theorem tw7791393030783410707 : True := trivial
theorem tw13932269015238125773 : True := trivial
theorem tw4532984290188997090 : True := trivial
theorem tw6075117106499455110 : True := trivial
theorem tw12971657893466333394 : True := trivial
theorem tw13192798368258966416 : True := trivial
theorem tw14057786140402358720 : True := trivial
theorem tw15464879986692632536 : True := trivial
theorem tw4321021034387668424 : True := trivial
theorem tw5614417414194712669 : True := trivial
theorem tw11194055756659918160 : True := trivial
theorem tw8903509058668081255 : True := trivial
theorem tw12166472707307910386 : True := trivial
theorem tw7151717604602088699 : True := trivial
theorem tw4988428670199239645 : True := trivial
theorem tw12055807417626039126 : True := trivial
theorem tw5149314748441481301 : True := trivial
theorem tw16418390326371928348 : True := trivial
theorem tw13714930924347737762 : True := trivial
theorem tw14159795648579297313 : True := trivial
theorem tw2215131644463852435 : True := trivial
theorem tw11029665710180432695 : True := trivial
theorem tw6685569377928803460 : True := trivial
theorem tw10514719751311102483 : True := trivial
theorem tw7052790932751606214 : True := trivial
theorem tw7905427477167879195 : True := trivial
theorem tw2395902453129318644 : True := trivial
theorem tw3113831716026070797 : True := trivial
theorem tw7092328884359182209 : True := trivial
theorem tw6102604173596550713 : True := trivial
theorem tw3592115160818755198 : True := trivial
theorem tw2774972679010193607 : True := trivial
theorem tw906074959675677181 : True := trivial
theorem tw2541624744665175870 : True := trivial
theorem tw12404652943781911118 : True := trivial
theorem tw5972576095395376650 : True := trivial
theorem tw1058614887664605478 : True := trivial
theorem tw7004218753464613356 : True := trivial
theorem tw17412742517052585259 : True := trivial
theorem tw4861640739885292543 : True := trivial
theorem tw11281182399276093950 : True := trivial
theorem tw3261425851222511291 : True := trivial
theorem tw16138244403711869082 : True := trivial
theorem tw6402646224348014157 : True := trivial
theorem tw7651704102258230010 : True := trivial
theorem tw3938928519343722522 : True := trivial
theorem tw8466793582741063180 : True := trivial
theorem tw3636495989146377967 : True := trivial
theorem tw831475352079560039 : True := trivial
theorem tw6401880425122195818 : True := trivial
theorem tw968371931851439108 : True := trivial
theorem tw18303770584606040809 : True := trivial
theorem tw14857042690655362703 : True := trivial
theorem tw1757544148495576605 : True := trivial
theorem tw12464849900341398514 : True := trivial
theorem tw16918704183445736619 : True := trivial
theorem tw13757804964731296535 : True := trivial
theorem tw1050615203942380308 : True := trivial
theorem tw18078578483117014029 : True := trivial
theorem tw17845080272150344748 : True := trivial
theorem tw3360592115322253572 : True := trivial
theorem tw6341631384145575172 : True := trivial
theorem tw17634680307418451817 : True := trivial
theorem tw14951336971366079217 : True := trivial
theorem tw9582473927282022565 : True := trivial
theorem tw6032195322206008762 : True := trivial
theorem tw6472342097067033365 : True := trivial
theorem tw14000813263726033465 : True := trivial
theorem tw8039180432350511503 : True := trivial
theorem tw5572970548174701774 : True := trivial
theorem tw4082143640775682808 : True := trivial
theorem tw17119280492007787697 : True := trivial
theorem tw17027159034350950326 : True := trivial
theorem tw15785322643139369028 : True := trivial
theorem tw14582906489045655184 : True := trivial
theorem tw7049997857881481466 : True := trivial
theorem tw24296346686734251 : True := trivial
theorem tw5915316166651099683 : True := trivial
theorem tw1688579458164798619 : True := trivial
theorem tw10037288425725070221 : True := trivial
theorem tw7713178768040568929 : True := trivial
theorem tw2902698479902145585 : True := trivial
theorem tw977823086766977872 : True := trivial
theorem tw11587255772763592876 : True := trivial
theorem tw6754663886856807506 : True := trivial
theorem tw6937607146645667654 : True := trivial
theorem tw12961223157707636151 : True := trivial
theorem tw2286382051071215898 : True := trivial
theorem tw10826476393915792620 : True := trivial
theorem tw3317093604659345076 : True := trivial
theorem tw2418281935351645750 : True := trivial
theorem tw18338101514807305298 : True := trivial
theorem tw3212466600090544066 : True := trivial
theorem tw16279693944479752863 : True := trivial
theorem tw2271017606608153670 : True := trivial
theorem tw13061944775286418617 : True := trivial
theorem tw14918124306815686283 : True := trivial
theorem tw4126172288544555334 : True := trivial
theorem tw220049196291167956 : True := trivial
theorem tw6304389167353279277 : True := trivial
theorem tw7361900392693938191 : True := trivial
theorem tw1638754903220818100 : True := trivial
theorem tw13347544509376045406 : True := trivial
theorem tw860472604245034285 : True := trivial
theorem tw9965984758082825693 : True := trivial
theorem tw3562681781513194155 : True := trivial
theorem tw9098426793839258631 : True := trivial
theorem tw17942165205438023049 : True := trivial
theorem tw761712242084009983 : True := trivial
theorem tw3663101217339033327 : True := trivial
theorem tw3473017961896135903 : True := trivial
theorem tw4219183509663587923 : True := trivial
theorem tw2759866446027369479 : True := trivial
theorem tw16040980377522929713 : True := trivial
theorem tw4720435847288309328 : True := trivial
theorem tw17166496915275339591 : True := trivial
theorem tw14337440813492721985 : True := trivial
theorem tw10986214732510310518 : True := trivial
theorem tw10460281414879935917 : True := trivial
theorem tw4453196211496961861 : True := trivial
theorem tw3375250421097194389 : True := trivial
theorem tw16980800180531721233 : True := trivial
theorem tw13100068491152912070 : True := trivial
theorem tw3173985491256569620 : True := trivial
theorem tw17229859299802129606 : True := trivial
theorem tw14247215311465735826 : True := trivial
theorem tw7423046580760385660 : True := trivial
theorem tw6107823239064025445 : True := trivial
theorem tw188920551310943339 : True := trivial
theorem tw530253035123535343 : True := trivial
theorem tw11059873427018976140 : True := trivial
theorem tw13742564232893567555 : True := trivial
theorem tw12551257221841499693 : True := trivial
theorem tw18052646406776813794 : True := trivial
theorem tw3324446135089204522 : True := trivial
theorem tw3839781552355829794 : True := trivial
theorem tw12318517136666084957 : True := trivial
theorem tw4741746574520707595 : True := trivial
theorem tw1753476598176909076 : True := trivial
theorem tw509786898796434515 : True := trivial
theorem tw2872301374612634005 : True := trivial
theorem tw16305553807541272452 : True := trivial
theorem tw12411275798325056475 : True := trivial
theorem tw1039644664250542397 : True := trivial
theorem tw15387196034630189742 : True := trivial
theorem tw8134157270788281726 : True := trivial
theorem tw15212576156620619136 : True := trivial
theorem tw12986524331784433975 : True := trivial
theorem tw3817308656380925013 : True := trivial
theorem tw13508604403758329006 : True := trivial
theorem tw5445477302758871701 : True := trivial
theorem tw9151371428658061720 : True := trivial
theorem tw424835472571542058 : True := trivial
theorem tw5895752258767776598 : True := trivial
theorem tw10361114931423043934 : True := trivial
theorem tw4804254806773196532 : True := trivial
theorem tw1832958922076723753 : True := trivial
theorem tw18052399449511868911 : True := trivial
theorem tw9495925519269509559 : True := trivial
theorem tw11984535739771938207 : True := trivial
theorem tw12363800757883728792 : True := trivial
theorem tw5160962324282322269 : True := trivial
theorem tw14182228889066123652 : True := trivial
theorem tw13493702100508290477 : True := trivial
theorem tw5126331175944390670 : True := trivial
theorem tw7147440175410019687 : True := trivial
theorem tw5487687888835083886 : True := trivial
theorem tw15178570110877314404 : True := trivial
theorem tw8223669956956731268 : True := trivial
theorem tw9205815556258723705 : True := trivial
theorem tw7238235767695942271 : True := trivial
theorem tw8509397068891061323 : True := trivial
theorem tw16656490652736423037 : True := trivial
theorem tw17937009355982011288 : True := trivial
theorem tw4244970696651388965 : True := trivial
theorem tw2657882647049379415 : True := trivial
theorem tw12756732993313264252 : True := trivial
theorem tw9765518592575751466 : True := trivial
theorem tw4786922040937228091 : True := trivial
theorem tw1998381935812140073 : True := trivial
theorem tw8325173373080281001 : True := trivial
theorem tw7516085606309243676 : True := trivial
theorem tw14468714555221932743 : True := trivial
theorem tw11446447281851241297 : True := trivial
theorem tw13771892036034493081 : True := trivial
theorem tw2870542255034577847 : True := trivial
theorem tw8355422308949539644 : True := trivial
theorem tw4676517828616605231 : True := trivial
theorem tw17099908612211191149 : True := trivial
theorem tw6805581470231299167 : True := trivial
theorem tw16685918625201716738 : True := trivial
theorem tw17716420490842628981 : True := trivial
theorem tw11600489046830473731 : True := trivial
theorem tw1255235839920042839 : True := trivial
theorem tw17900112113815964543 : True := trivial
theorem tw18055188955064590947 : True := trivial
theorem tw4972379548404190526 : True := trivial
theorem tw6123284740521704818 : True := trivial
theorem tw10212383718223052288 : True := trivial
theorem tw10320258125587969118 : True := trivial
theorem tw6388881830759627296 : True := trivial
theorem tw14664934983979043352 : True := trivial
theorem tw9497951726007924578 : True := trivial
theorem tw7509829680137090214 : True := trivial
theorem tw15587408469017480801 : True := trivial
theorem tw9528871787235328024 : True := trivial
theorem tw16753862102552961730 : True := trivial
theorem tw5376288100492880007 : True := trivial
theorem tw7343921557464245763 : True := trivial
theorem tw14864708673414073821 : True := trivial
theorem tw7209509403130570367 : True := trivial
theorem tw4598924622797592534 : True := trivial
theorem tw513238835881729451 : True := trivial
theorem tw7266601791496095614 : True := trivial
theorem tw7679032166497098486 : True := trivial
theorem tw5014941294302715803 : True := trivial
theorem tw15430537925252101217 : True := trivial
theorem tw6029463239740333440 : True := trivial
theorem tw3221719055558048311 : True := trivial
theorem tw9750568671647169322 : True := trivial
theorem tw7509098645109575406 : True := trivial
theorem tw11748808763134344016 : True := trivial
theorem tw11851223360184618969 : True := trivial
theorem tw12089515363825952168 : True := trivial
theorem tw7448006920598219970 : True := trivial
theorem tw3981671532915354000 : True := trivial
theorem tw7903412120813118197 : True := trivial
theorem tw16115296661342563396 : True := trivial
theorem tw11825213478941387675 : True := trivial
theorem tw11231623969144645175 : True := trivial
theorem tw12675720358667600563 : True := trivial
theorem tw2286856304476848431 : True := trivial
theorem tw9764538640195601920 : True := trivial
theorem tw6521599816330603129 : True := trivial
theorem tw5001489356409456853 : True := trivial
theorem tw7203079135616899287 : True := trivial
theorem tw9507049061675492797 : True := trivial
theorem tw16972273631446857822 : True := trivial
theorem tw17939419129939056541 : True := trivial
theorem tw1827828754131635803 : True := trivial
theorem tw15407624086236366546 : True := trivial
theorem tw16430873460912257784 : True := trivial
theorem tw12855867442192679912 : True := trivial
theorem tw11134407625174775904 : True := trivial
theorem tw12561738252350038119 : True := trivial
theorem tw15067071331870239560 : True := trivial
theorem tw1470924634356147521 : True := trivial
theorem tw15285586275519556671 : True := trivial
theorem tw5880094605752576069 : True := trivial
theorem tw13453917297852263393 : True := trivial
theorem tw8188332925841969609 : True := trivial
theorem tw12701612866467343793 : True := trivial
theorem tw11648481006007523912 : True := trivial
theorem tw13910336138273423367 : True := trivial
theorem tw1161867795383871446 : True := trivial
theorem tw14245080264212000925 : True := trivial
theorem tw16125417293878902542 : True := trivial
theorem tw9840337906913310993 : True := trivial
theorem tw1518464542472062658 : True := trivial
theorem tw12158680579648146754 : True := trivial
theorem tw6166883165215166196 : True := trivial
theorem tw9337725782765952990 : True := trivial
theorem tw8931881946394469087 : True := trivial
theorem tw12415943704551105023 : True := trivial
theorem tw11595288084597676501 : True := trivial
theorem tw9934974911016356855 : True := trivial
theorem tw18230155405655274961 : True := trivial
theorem tw12146523501025479525 : True := trivial
theorem tw7931107781850921157 : True := trivial
theorem tw54401046008262453 : True := trivial
theorem tw10472340569482667207 : True := trivial
theorem tw8069949210841613246 : True := trivial
theorem tw15163027782040019991 : True := trivial
theorem tw18365606389105036705 : True := trivial
theorem tw17144764312356168176 : True := trivial
theorem tw5590216340579803240 : True := trivial
theorem tw8154576650301197105 : True := trivial
theorem tw997203473129549881 : True := trivial
theorem tw10454994978201948802 : True := trivial
theorem tw1083902228782211541 : True := trivial
theorem tw3251446045456903906 : True := trivial
theorem tw771979323798581527 : True := trivial
theorem tw6814790757334810461 : True := trivial
theorem tw2642226313216852337 : True := trivial
theorem tw2104740153273422001 : True := trivial
theorem tw9823248435585685438 : True := trivial
theorem tw6709948055900854479 : True := trivial
theorem tw8600432907617098658 : True := trivial
theorem tw15181269752970690649 : True := trivial
theorem tw8643295407812972256 : True := trivial
theorem tw6545392754177551711 : True := trivial
theorem tw3877879381073530898 : True := trivial
theorem tw16266358176899604950 : True := trivial
theorem tw1292955535764006191 : True := trivial
theorem tw107919544860893338 : True := trivial
theorem tw2513664150177464539 : True := trivial
theorem tw7227086687811031118 : True := trivial
theorem tw9212983129706807689 : True := trivial
theorem tw8805977923960298778 : True := trivial
theorem tw10661061776193481029 : True := trivial
theorem tw13728075829068715816 : True := trivial
theorem tw12195242880945815614 : True := trivial
theorem tw1281286310882300783 : True := trivial
theorem tw12657817215035440503 : True := trivial
theorem tw5444529416667345857 : True := trivial
theorem tw11845122708460292420 : True := trivial
theorem tw7666250881128890629 : True := trivial
theorem tw12372387862955488227 : True := trivial
theorem tw24251470762404554 : True := trivial
theorem tw1052036067206988126 : True := trivial
theorem tw13034393852464480772 : True := trivial
theorem tw4786583446034139857 : True := trivial
theorem tw6336603311309502169 : True := trivial
theorem tw16842902183356168490 : True := trivial
theorem tw13356032414633630461 : True := trivial
theorem tw3902024142184879974 : True := trivial
theorem tw10600528566870165529 : True := trivial
theorem tw4699552067083164054 : True := trivial
theorem tw9942499431012462840 : True := trivial
theorem tw11107555572602313447 : True := trivial
theorem tw8569820295577830811 : True := trivial
theorem tw5000174115457127406 : True := trivial
theorem tw10819652403990599495 : True := trivial
theorem tw15432206613809961476 : True := trivial
theorem tw1181544770907510374 : True := trivial
theorem tw4858125262008478948 : True := trivial
theorem tw1300778852186795488 : True := trivial
theorem tw4447619404864300558 : True := trivial
theorem tw12205809940438398692 : True := trivial
theorem tw15391707403686537390 : True := trivial
theorem tw18294796282581047196 : True := trivial
theorem tw13518697471043151381 : True := trivial
theorem tw11120758478531100766 : True := trivial
theorem tw6525572775114225781 : True := trivial
theorem tw2133990013856700785 : True := trivial
theorem tw16803322708624558688 : True := trivial
theorem tw2094826400955589398 : True := trivial
theorem tw15770474839239205384 : True := trivial
theorem tw16431309187333411019 : True := trivial
theorem tw4486163980467235043 : True := trivial
theorem tw5889493217691240909 : True := trivial
theorem tw9591501421704334018 : True := trivial
theorem tw150335723253587868 : True := trivial
theorem tw5830678561327668157 : True := trivial
theorem tw17504797023992967740 : True := trivial
theorem tw8947203268445554570 : True := trivial
theorem tw7015721809460409616 : True := trivial
theorem tw9697435344372845926 : True := trivial
theorem tw13561450196554811902 : True := trivial
theorem tw10400103331800873531 : True := trivial
theorem tw9230970692621939631 : True := trivial
theorem tw6811348916601527888 : True := trivial
theorem tw14726054963892886119 : True := trivial
theorem tw10672760444385961201 : True := trivial
theorem tw9610715580302951243 : True := trivial
theorem tw6922734227176543085 : True := trivial
theorem tw13605333424366443015 : True := trivial
theorem tw4062046931552333933 : True := trivial
theorem tw14096710448326929698 : True := trivial
theorem tw9095853388191884838 : True := trivial
theorem tw10646538628048754184 : True := trivial
theorem tw8055974505149061133 : True := trivial
theorem tw10282557507090803138 : True := trivial
theorem tw8788104589770679440 : True := trivial
theorem tw912904368165808590 : True := trivial
theorem tw11484537466719404010 : True := trivial
theorem tw13294339131826429529 : True := trivial
theorem tw17368428546186680543 : True := trivial
theorem tw884021012645086559 : True := trivial
theorem tw15317021578130523995 : True := trivial
theorem tw14595968716848522569 : True := trivial
theorem tw1108627882616811871 : True := trivial
theorem tw17019640071157918600 : True := trivial
theorem tw14082906092321938078 : True := trivial
theorem tw9512784054315566501 : True := trivial
theorem tw6552948463891741022 : True := trivial
theorem tw12996897225040909480 : True := trivial
theorem tw18419240167489043185 : True := trivial
theorem tw8544153931539507573 : True := trivial
theorem tw18281345921532717779 : True := trivial
theorem tw11637876473640972506 : True := trivial
theorem tw5776146309970650747 : True := trivial
theorem tw4078042807191644306 : True := trivial
theorem tw9942350048454660765 : True := trivial
theorem tw13632437832143025345 : True := trivial
theorem tw17824646567082400267 : True := trivial
theorem tw13862771260940454014 : True := trivial
theorem tw12457450662289927540 : True := trivial
theorem tw14430524450555000489 : True := trivial
theorem tw6569990547714673931 : True := trivial
theorem tw1204049923292827864 : True := trivial
theorem tw14645079651706825136 : True := trivial
theorem tw8267585992936658392 : True := trivial
theorem tw9992491998772985157 : True := trivial
theorem tw18285105365896061532 : True := trivial
theorem tw7811952446671430924 : True := trivial
theorem tw6828036035970025236 : True := trivial
theorem tw14171027589728189546 : True := trivial
theorem tw13539743491316643298 : True := trivial
theorem tw9060587667254083035 : True := trivial
theorem tw13046830743379853542 : True := trivial
theorem tw547787239451652075 : True := trivial
theorem tw117070189958059412 : True := trivial
theorem tw1647569408446044357 : True := trivial
theorem tw15279398941952942147 : True := trivial
theorem tw16773739290192109509 : True := trivial
theorem tw4345038758135782890 : True := trivial
theorem tw14092668976097646234 : True := trivial
theorem tw15142421350684454745 : True := trivial
theorem tw16243987702438932780 : True := trivial
theorem tw7530916032363144241 : True := trivial
theorem tw15386084114459489443 : True := trivial
theorem tw11637861984635382830 : True := trivial
theorem tw6334201217291549182 : True := trivial
theorem tw6107957438150329022 : True := trivial
theorem tw8918215078347957626 : True := trivial
theorem tw448872320044316456 : True := trivial
theorem tw13134180637337220362 : True := trivial
theorem tw17195610880167892757 : True := trivial
theorem tw4671529129295341499 : True := trivial
theorem tw12969443808702646195 : True := trivial
theorem tw4829584088728406043 : True := trivial
theorem tw13833732810556413706 : True := trivial
theorem tw1993911171450857481 : True := trivial
theorem tw9893137173375725504 : True := trivial
theorem tw13363607376266285510 : True := trivial
theorem tw1581817863805415117 : True := trivial
theorem tw14594232234835321596 : True := trivial
theorem tw7684935243734360814 : True := trivial
theorem tw3760854281331492123 : True := trivial
theorem tw4110936973797509092 : True := trivial
theorem tw2098548856886352163 : True := trivial
theorem tw16647987317513004688 : True := trivial
theorem tw267268362081870450 : True := trivial
theorem tw585820956825581037 : True := trivial
theorem tw6978314190945477759 : True := trivial
theorem tw7423425984800742619 : True := trivial
theorem tw5329650401641835074 : True := trivial
theorem tw15632918905218269748 : True := trivial
theorem tw10929867732077882405 : True := trivial
theorem tw12800012291751894937 : True := trivial
theorem tw6610080542284590501 : True := trivial
theorem tw4230636729252660814 : True := trivial
theorem tw3502400583699401148 : True := trivial
theorem tw9640409432675161147 : True := trivial
theorem tw11399699045369096709 : True := trivial
theorem tw7272684877447790149 : True := trivial
theorem tw1573916468891793427 : True := trivial
theorem tw11802410573578729870 : True := trivial
theorem tw9464772722877250047 : True := trivial
theorem tw9006219241327059144 : True := trivial
theorem tw7474931736917894793 : True := trivial
theorem tw8893734018219908056 : True := trivial
theorem tw8230049639677534828 : True := trivial
theorem tw15640089746828751583 : True := trivial
theorem tw13352617831337247342 : True := trivial
theorem tw10956853095896077006 : True := trivial
theorem tw9684255975691018715 : True := trivial
theorem tw16193188520869477146 : True := trivial
theorem tw14055918713915116150 : True := trivial
theorem tw7858981499971190842 : True := trivial
theorem tw8749828569322855426 : True := trivial
theorem tw12302291046982631135 : True := trivial
theorem tw11629753014742422034 : True := trivial
theorem tw13067017891000589354 : True := trivial
theorem tw2429461496281905108 : True := trivial
theorem tw15733806678314602432 : True := trivial
theorem tw3408160339912448340 : True := trivial
theorem tw17149607719374016973 : True := trivial
theorem tw12808508929757043161 : True := trivial
theorem tw11303221852833104632 : True := trivial
theorem tw4337067031884872335 : True := trivial
theorem tw14144453059840059127 : True := trivial
theorem tw10288840846529319454 : True := trivial
theorem tw10550124052594320120 : True := trivial
theorem tw3890659957886001110 : True := trivial
theorem tw12133970026502036456 : True := trivial
theorem tw15042347526017442705 : True := trivial
theorem tw2142986797883014548 : True := trivial
theorem tw4716066602987498732 : True := trivial
theorem tw4622053903569492911 : True := trivial
theorem tw5570746043103994930 : True := trivial
theorem tw16176493146711672547 : True := trivial
theorem tw10131182164767708827 : True := trivial
theorem tw13872387188710679872 : True := trivial
theorem tw15330593255944846065 : True := trivial
theorem tw1674885214808518061 : True := trivial
theorem tw8782253766291079956 : True := trivial
theorem tw13176193377851895704 : True := trivial
theorem tw9015323781518942559 : True := trivial
theorem tw551450837998611946 : True := trivial
theorem tw9346664369569237052 : True := trivial
theorem tw7198536524097282332 : True := trivial
theorem tw16644776653288969002 : True := trivial
theorem tw1280097434296700115 : True := trivial
theorem tw9883913320556279255 : True := trivial
theorem tw10018188705928730157 : True := trivial
theorem tw5462928418278580261 : True := trivial
theorem tw5694961137458040944 : True := trivial
theorem tw1633182065209245493 : True := trivial
theorem tw12851437418764029868 : True := trivial
theorem tw10486414279771565894 : True := trivial
theorem tw13805109269452117293 : True := trivial
theorem tw15692004318180888397 : True := trivial
theorem tw7920577896973474279 : True := trivial
theorem tw1475173618455334287 : True := trivial
theorem tw13983220557441330324 : True := trivial
theorem tw17650210625192908008 : True := trivial
theorem tw1092030713428349457 : True := trivial
theorem tw16644132458870072929 : True := trivial
theorem tw8318224966318242026 : True := trivial
theorem tw12471971107353454933 : True := trivial
theorem tw1128797292735977011 : True := trivial
theorem tw11660252362978469893 : True := trivial
theorem tw16959168376352726687 : True := trivial
theorem tw4930866238407556752 : True := trivial
theorem tw17050817990450389850 : True := trivial
theorem tw12699321813470389970 : True := trivial
theorem tw14914540799024540742 : True := trivial
theorem tw14997750187797758467 : True := trivial
theorem tw6095609776856454854 : True := trivial
theorem tw7119118689411981765 : True := trivial
theorem tw17855725609748743971 : True := trivial
theorem tw5557718673847750429 : True := trivial
theorem tw12679385907876346222 : True := trivial
theorem tw5686641136718299452 : True := trivial
theorem tw1297515309133758587 : True := trivial
theorem tw2453871376708008308 : True := trivial
theorem tw10211448182537759465 : True := trivial
theorem tw3581163351165688904 : True := trivial
theorem tw2173770277299500181 : True := trivial
theorem tw6882876981621796152 : True := trivial
theorem tw12252732161826004045 : True := trivial
theorem tw4622468721692101285 : True := trivial
theorem tw9674049038994427104 : True := trivial
theorem tw13576227568887340149 : True := trivial
theorem tw13430963330392935290 : True := trivial
theorem tw7273734898319635776 : True := trivial
theorem tw4875750148174944988 : True := trivial
theorem tw12511828491278256656 : True := trivial
theorem tw5330205649631599535 : True := trivial
theorem tw6743001621988127419 : True := trivial
theorem tw866039104307376266 : True := trivial
theorem tw9679013172388765027 : True := trivial
theorem tw5589123079874118214 : True := trivial
theorem tw9176222755394550036 : True := trivial
theorem tw15722694566185197133 : True := trivial
theorem tw14638318235122969036 : True := trivial
theorem tw6989958836016775338 : True := trivial
theorem tw15195301406125365837 : True := trivial
theorem tw3719417818970972467 : True := trivial
theorem tw14458796530483711644 : True := trivial
theorem tw9154738495565573053 : True := trivial
theorem tw11143375057620931541 : True := trivial
theorem tw16541224547964403586 : True := trivial
theorem tw5844692549998206395 : True := trivial
theorem tw11522525055612854237 : True := trivial
theorem tw1450718475639812431 : True := trivial
theorem tw7139756002978892704 : True := trivial
theorem tw10935569540852279540 : True := trivial
theorem tw15274964115374014995 : True := trivial
theorem tw10230457468644087633 : True := trivial
theorem tw5536142415427917444 : True := trivial
theorem tw9710105552013963066 : True := trivial
theorem tw10838565941277907031 : True := trivial
theorem tw15035103845321692702 : True := trivial
theorem tw11105841525468772828 : True := trivial
theorem tw8900874862866510988 : True := trivial
theorem tw3599322144774503450 : True := trivial
theorem tw13844490978277525732 : True := trivial
theorem tw15875339102083970612 : True := trivial
theorem tw2774114098220709004 : True := trivial
theorem tw676902971707745188 : True := trivial
theorem tw2129632825823831928 : True := trivial
theorem tw6358307958198964268 : True := trivial
theorem tw14546146484490912673 : True := trivial
theorem tw10852281060596523542 : True := trivial
theorem tw9437614821563035675 : True := trivial
theorem tw11873288419635648498 : True := trivial
theorem tw9021604207649323405 : True := trivial
theorem tw16672694479330927127 : True := trivial
theorem tw993889347402975178 : True := trivial
theorem tw17264438586433016006 : True := trivial
theorem tw17158694273518756159 : True := trivial
theorem tw4396960988402846169 : True := trivial
theorem tw14478721124090171409 : True := trivial
theorem tw6629513320344012454 : True := trivial
theorem tw354797580228583950 : True := trivial
theorem tw16831851301573518574 : True := trivial
theorem tw14952199032027702922 : True := trivial
theorem tw5192906588503224602 : True := trivial
theorem tw9838187384141313773 : True := trivial
theorem tw7755995788631997998 : True := trivial
theorem tw13822632838042992092 : True := trivial
theorem tw13072676107179261592 : True := trivial
theorem tw6733385615358084400 : True := trivial
theorem tw6723496215344538600 : True := trivial
theorem tw4939072069146626270 : True := trivial
theorem tw8747055240917473767 : True := trivial
theorem tw10014092037102058840 : True := trivial
theorem tw5771186021349685175 : True := trivial
theorem tw12276486320512584894 : True := trivial
theorem tw6856948292488583844 : True := trivial
theorem tw10912226664050554879 : True := trivial
theorem tw10416338645181092884 : True := trivial
theorem tw3935392419023769325 : True := trivial
theorem tw1938116245149612743 : True := trivial
theorem tw10030751424870603731 : True := trivial
theorem tw5873218328041695279 : True := trivial
theorem tw2298339416921389704 : True := trivial
theorem tw897373954486132305 : True := trivial
theorem tw5448552840991305412 : True := trivial
theorem tw2393624976054324534 : True := trivial
theorem tw3484163587435834597 : True := trivial
theorem tw14215415817578064857 : True := trivial
theorem tw6943030620604640059 : True := trivial
theorem tw16643634350816709527 : True := trivial
theorem tw16791538363756073223 : True := trivial
theorem tw16126047814779691543 : True := trivial
theorem tw1744312764588197654 : True := trivial
theorem tw10164212513829133593 : True := trivial
theorem tw10619181489960837958 : True := trivial
theorem tw4264061129102379596 : True := trivial
theorem tw12711377375369911627 : True := trivial
theorem tw5525274231922184336 : True := trivial
theorem tw16754042759480243375 : True := trivial
theorem tw12801161152347659551 : True := trivial
theorem tw12163325384089372400 : True := trivial
theorem tw13502272959274010857 : True := trivial
theorem tw813437427733043973 : True := trivial
theorem tw1803288060053478876 : True := trivial
theorem tw12472048460863144914 : True := trivial
theorem tw16224983894819391571 : True := trivial
theorem tw10369808868280907560 : True := trivial
theorem tw4679598792947021862 : True := trivial
theorem tw4262297523101707288 : True := trivial
theorem tw5834417088057932685 : True := trivial
theorem tw15677917873004674690 : True := trivial
theorem tw9566917481962925365 : True := trivial
theorem tw119353875140124468 : True := trivial
theorem tw786471682261722416 : True := trivial
theorem tw9549469218057241095 : True := trivial
theorem tw16391928651166670928 : True := trivial
theorem tw10756058802188139489 : True := trivial
theorem tw16425694141908370390 : True := trivial
theorem tw939725424105254624 : True := trivial
theorem tw13402456222360228838 : True := trivial
theorem tw5820082228139147225 : True := trivial
theorem tw17993444247268378418 : True := trivial
theorem tw5952873117226061954 : True := trivial
theorem tw11749355880538954040 : True := trivial
theorem tw14703422849448358985 : True := trivial
theorem tw18276201069418207485 : True := trivial
theorem tw3109569592922646024 : True := trivial
theorem tw16198263138950469847 : True := trivial
theorem tw7386476813508441540 : True := trivial
theorem tw4202119303479260627 : True := trivial
theorem tw502495608434715079 : True := trivial
theorem tw4286523981763429342 : True := trivial
theorem tw12007534642000898522 : True := trivial
theorem tw13179976865740808278 : True := trivial
theorem tw4121749185463807591 : True := trivial
theorem tw9742238240904460428 : True := trivial
theorem tw15680042924435696662 : True := trivial
theorem tw13430420760715225731 : True := trivial
theorem tw10066117184805177563 : True := trivial
theorem tw11057614349094084532 : True := trivial
theorem tw1897224250442904330 : True := trivial
theorem tw10461249754051338966 : True := trivial
theorem tw14640200429060306427 : True := trivial
theorem tw11848066146307026573 : True := trivial
theorem tw7272934258438344413 : True := trivial
theorem tw8368113116782093747 : True := trivial
theorem tw4828169964705668090 : True := trivial
theorem tw3230254255768291610 : True := trivial
theorem tw13978847115301553033 : True := trivial
theorem tw1824854253231881767 : True := trivial
theorem tw2123090838288141110 : True := trivial
theorem tw6150700871349364006 : True := trivial
theorem tw5594823254567322924 : True := trivial
theorem tw15490680086578804972 : True := trivial
theorem tw5954264890043269469 : True := trivial
theorem tw9150005095055881108 : True := trivial
theorem tw6073476315250328557 : True := trivial
theorem tw9469475828873373808 : True := trivial
theorem tw18365634995514511641 : True := trivial
theorem tw17396366172759181256 : True := trivial
theorem tw2679800149150164846 : True := trivial
theorem tw648285217886240889 : True := trivial
theorem tw1576277382451508168 : True := trivial
theorem tw14311251358875718976 : True := trivial
theorem tw12676778041796921855 : True := trivial
theorem tw17080204728326194355 : True := trivial
theorem tw18221864026711274691 : True := trivial
theorem tw732844551831103355 : True := trivial
theorem tw4847428426753337126 : True := trivial
theorem tw12981374472837298933 : True := trivial
theorem tw2645522671954694531 : True := trivial
theorem tw15422667590356654623 : True := trivial
theorem tw5614480595637198151 : True := trivial
theorem tw453462325936958574 : True := trivial
theorem tw7675857348045708213 : True := trivial
theorem tw16122820942126056652 : True := trivial
theorem tw5752299772599818873 : True := trivial
theorem tw1079847343562034694 : True := trivial
theorem tw6474577232343019890 : True := trivial
theorem tw3943449952064988761 : True := trivial
theorem tw5097938014045460843 : True := trivial
theorem tw55053373343641846 : True := trivial
theorem tw7867450824105720728 : True := trivial
theorem tw9219731626505641813 : True := trivial
theorem tw10406895262082387725 : True := trivial
theorem tw1251394236825979419 : True := trivial
theorem tw7409087765097702577 : True := trivial
theorem tw10123354700847501564 : True := trivial
theorem tw16204826839440743027 : True := trivial
theorem tw5502898181778763927 : True := trivial
theorem tw1394273368058403808 : True := trivial
theorem tw2747600148364479434 : True := trivial
theorem tw11147668014251001247 : True := trivial
theorem tw14620627935699303606 : True := trivial
theorem tw7030430659391561437 : True := trivial
theorem tw4922921610851807963 : True := trivial
theorem tw15551974669979239958 : True := trivial
theorem tw7377966299593102642 : True := trivial
theorem tw7340050353690856746 : True := trivial
theorem tw8740865374598707344 : True := trivial
theorem tw12526959073353741243 : True := trivial
theorem tw13268544543243833308 : True := trivial
theorem tw17242512054531594101 : True := trivial
theorem tw13157150907815666670 : True := trivial
theorem tw11078000353011682577 : True := trivial
theorem tw1188696617033853901 : True := trivial
theorem tw5571104567627600206 : True := trivial
theorem tw5393111198180119247 : True := trivial
theorem tw5275997566901679442 : True := trivial
theorem tw12513989084501180943 : True := trivial
theorem tw15613982895820620714 : True := trivial
theorem tw11092797635719792650 : True := trivial
theorem tw147507083867296110 : True := trivial
theorem tw15087584317540454289 : True := trivial
theorem tw3454841387103492220 : True := trivial
theorem tw8900778584738558503 : True := trivial
theorem tw12897921056724099411 : True := trivial
theorem tw14089373583298261303 : True := trivial
theorem tw14469448318098109575 : True := trivial
theorem tw7464253270994667986 : True := trivial
theorem tw4021028636899610900 : True := trivial
theorem tw10589965405514415324 : True := trivial
theorem tw18046620051099767667 : True := trivial
theorem tw1839587721750578324 : True := trivial
theorem tw11311863033401303600 : True := trivial
theorem tw8594627554169399446 : True := trivial
theorem tw5486356593427014998 : True := trivial
theorem tw11753670373722998934 : True := trivial
theorem tw8757679878494015813 : True := trivial
theorem tw16475907036423376346 : True := trivial
theorem tw1663234403357374112 : True := trivial
theorem tw1291904383286418815 : True := trivial
theorem tw14852765421992888142 : True := trivial
theorem tw5690041478398927632 : True := trivial
theorem tw12763851339003321053 : True := trivial
theorem tw6153673476591283264 : True := trivial
theorem tw1665340171848413384 : True := trivial
theorem tw2371874722958990348 : True := trivial
theorem tw1716332285244877555 : True := trivial
theorem tw1126724457196139400 : True := trivial
theorem tw12813679467750223534 : True := trivial
theorem tw15567404930252305056 : True := trivial
theorem tw3155612099773778604 : True := trivial
theorem tw15107357509424376051 : True := trivial
theorem tw10661615566573796771 : True := trivial
theorem tw7503597602525926534 : True := trivial
theorem tw10613087297147077290 : True := trivial
theorem tw10402340215924738161 : True := trivial
theorem tw6267664474606942796 : True := trivial
theorem tw7294238891727844880 : True := trivial
theorem tw3368405043918787204 : True := trivial
theorem tw9549153536599682355 : True := trivial
theorem tw14572949669003503377 : True := trivial
theorem tw283401602944064275 : True := trivial
theorem tw10403209257384629963 : True := trivial
theorem tw18321492905674197476 : True := trivial
theorem tw5877353456164012443 : True := trivial
theorem tw2902425009083807948 : True := trivial
theorem tw9315747828455391799 : True := trivial
theorem tw18104744057035004229 : True := trivial
theorem tw943138669215849063 : True := trivial
theorem tw11479064143967917710 : True := trivial
theorem tw16255684359248959945 : True := trivial
theorem tw17787322585579060896 : True := trivial
theorem tw6400496611190496258 : True := trivial
theorem tw13515809899614441238 : True := trivial
theorem tw16730185305163450770 : True := trivial
theorem tw9255071846130484608 : True := trivial
theorem tw7144646284833630878 : True := trivial
theorem tw13280894990236798848 : True := trivial
theorem tw3076368856924927052 : True := trivial
theorem tw7749522232172828937 : True := trivial
theorem tw4048787431177011228 : True := trivial
theorem tw2514297107107307685 : True := trivial
theorem tw1715374568583080703 : True := trivial
theorem tw10296369070489968846 : True := trivial
theorem tw7251581346662393844 : True := trivial
theorem tw2696038639163225017 : True := trivial
theorem tw17294312092109874676 : True := trivial
theorem tw13837428705088652429 : True := trivial
theorem tw17822326383052743681 : True := trivial
theorem tw12395403977821580891 : True := trivial
theorem tw7569193312397304297 : True := trivial
theorem tw17393483598573773974 : True := trivial
theorem tw1737711361667842268 : True := trivial
theorem tw5355455871268720332 : True := trivial
theorem tw3090396812398805614 : True := trivial
theorem tw574682492631070782 : True := trivial
theorem tw228486262206017230 : True := trivial
theorem tw17986880365299872222 : True := trivial
theorem tw10829998522753059291 : True := trivial
theorem tw16899039478609837229 : True := trivial
theorem tw10547578822048186201 : True := trivial
theorem tw10894369498266720882 : True := trivial
theorem tw15501211134382664463 : True := trivial
theorem tw16440676150578041193 : True := trivial
theorem tw9567993205746513494 : True := trivial
theorem tw13028133772059092424 : True := trivial
theorem tw7917764492350872882 : True := trivial
theorem tw11850963326455555678 : True := trivial
theorem tw14023468512129811012 : True := trivial
theorem tw10168220949870269723 : True := trivial
theorem tw16039870719171428298 : True := trivial
theorem tw289111523902107965 : True := trivial
theorem tw7964409931683105889 : True := trivial
theorem tw6613480958930818138 : True := trivial
theorem tw8382079483013540266 : True := trivial
theorem tw14572113765400463021 : True := trivial
theorem tw5656176368496235259 : True := trivial
theorem tw13441250649988592875 : True := trivial
theorem tw13564975797145226863 : True := trivial
theorem tw5317074999003345183 : True := trivial
theorem tw5237312614977379410 : True := trivial
theorem tw15244334763971617167 : True := trivial
theorem tw7407479604809967890 : True := trivial
theorem tw3083540170326774102 : True := trivial
theorem tw231261085166683149 : True := trivial
theorem tw15314898579107959684 : True := trivial
theorem tw5642178676754664412 : True := trivial
theorem tw10416485217926185589 : True := trivial
theorem tw7288082661204341652 : True := trivial
theorem tw6757438835018520843 : True := trivial
theorem tw17011569750474751746 : True := trivial
theorem tw9980038119891593438 : True := trivial
theorem tw8830852019713147760 : True := trivial
theorem tw702442240129196248 : True := trivial
theorem tw7279744014146554235 : True := trivial
theorem tw7293559793264565583 : True := trivial
theorem tw12296968872118983973 : True := trivial
theorem tw9422991836024070156 : True := trivial
theorem tw18403659806163423408 : True := trivial
theorem tw9991358615943174502 : True := trivial
theorem tw7431255398987013860 : True := trivial
theorem tw8819775806553659923 : True := trivial
theorem tw14689073876867879191 : True := trivial
theorem tw17674929636765355924 : True := trivial
theorem tw4411045251754976370 : True := trivial
theorem tw12664262990592917673 : True := trivial
theorem tw12833756847861942259 : True := trivial
theorem tw8796796567395767264 : True := trivial
theorem tw747885394935051837 : True := trivial
theorem tw8056280759945287217 : True := trivial
theorem tw17638131946885269112 : True := trivial
theorem tw9168325083642295332 : True := trivial
theorem tw2672429713173420528 : True := trivial
theorem tw6623891420825446845 : True := trivial
theorem tw5150892576772861434 : True := trivial
theorem tw1045116261233192444 : True := trivial
theorem tw8775813169444525467 : True := trivial
theorem tw6509865154037295633 : True := trivial
theorem tw7392443316928141820 : True := trivial
theorem tw13296553128029741551 : True := trivial
theorem tw5332000515273650990 : True := trivial
theorem tw10664832970726699014 : True := trivial
theorem tw12910629029590504602 : True := trivial
theorem tw13913760850714816025 : True := trivial
theorem tw5276309683999931355 : True := trivial
theorem tw4753958853798493622 : True := trivial
theorem tw10732588596997873618 : True := trivial
theorem tw12343925268613788384 : True := trivial
theorem tw16789848055570731972 : True := trivial
theorem tw6864836262040389612 : True := trivial
theorem tw3734435083045868790 : True := trivial
theorem tw4393402853387863358 : True := trivial
theorem tw10682349590050221202 : True := trivial
theorem tw2584134458878705016 : True := trivial
theorem tw8706219353065637304 : True := trivial
theorem tw15009477381943884547 : True := trivial
theorem tw13465748443936143837 : True := trivial
theorem tw14146440444866979159 : True := trivial
theorem tw16480028816419573662 : True := trivial
theorem tw11925982222653045283 : True := trivial
theorem tw5659743810844174900 : True := trivial
theorem tw7469307300851631166 : True := trivial
theorem tw604261465933944948 : True := trivial
theorem tw1049150489937983514 : True := trivial
theorem tw7849675131516665754 : True := trivial
theorem tw734405260951093274 : True := trivial
theorem tw8637592154802288359 : True := trivial
theorem tw5588113504902686686 : True := trivial
theorem tw2062714236389450419 : True := trivial
theorem tw6097424544396720577 : True := trivial
theorem tw9950939801423126899 : True := trivial
theorem tw2220369798582491673 : True := trivial
theorem tw12308937853227814281 : True := trivial
theorem tw16263747521665102765 : True := trivial
theorem tw7546680159269166760 : True := trivial
theorem tw15494150797134333757 : True := trivial
theorem tw15159135230616020032 : True := trivial
theorem tw11873574146902151657 : True := trivial
theorem tw15465813945201951749 : True := trivial
theorem tw2853945207974586436 : True := trivial
theorem tw7970691929739411874 : True := trivial
theorem tw9955269575837895457 : True := trivial
theorem tw17536982175235895453 : True := trivial
theorem tw5090711641600298923 : True := trivial
theorem tw7639876687752309434 : True := trivial
theorem tw12868567607636027835 : True := trivial
theorem tw11870430567123818258 : True := trivial
theorem tw2116518339123115863 : True := trivial
theorem tw17657139263156547623 : True := trivial
theorem tw6564254026212286837 : True := trivial
theorem tw70670506089467901 : True := trivial
theorem tw3467783492668823952 : True := trivial
theorem tw17678922032298164767 : True := trivial
theorem tw14530036574775776266 : True := trivial
theorem tw13794966129470565062 : True := trivial
theorem tw8856996109391679038 : True := trivial
theorem tw9320749507335738973 : True := trivial
theorem tw4218121810366876196 : True := trivial
theorem tw3823613589531913327 : True := trivial
theorem tw3342138781793067224 : True := trivial
theorem tw3490068503965091997 : True := trivial
theorem tw14215525260740093318 : True := trivial
theorem tw10146222793712171891 : True := trivial
theorem tw7739251311019516944 : True := trivial
theorem tw9538143953481128591 : True := trivial
theorem tw1137600560169274048 : True := trivial
theorem tw1169042548900375193 : True := trivial
theorem tw14919854278319017484 : True := trivial
theorem tw4266118926797958084 : True := trivial
theorem tw17816712432499011926 : True := trivial
theorem tw12677720195116287934 : True := trivial
theorem tw14486864557308693370 : True := trivial
theorem tw13496415426500844722 : True := trivial
theorem tw3109466917361430353 : True := trivial
theorem tw14083693321922428170 : True := trivial
theorem tw17794871838776619179 : True := trivial
theorem tw3095847005494555922 : True := trivial
theorem tw2745291615480390433 : True := trivial
theorem tw14500316605849477791 : True := trivial
theorem tw15451080895452778946 : True := trivial
theorem tw4097687623685182815 : True := trivial
theorem tw7013302745014961060 : True := trivial
theorem tw7634596650675262545 : True := trivial
theorem tw11984134762886157680 : True := trivial
theorem tw6634721314772683480 : True := trivial
theorem tw15880855416601185725 : True := trivial
theorem tw1906043630295939637 : True := trivial
theorem tw5829262830783352830 : True := trivial
theorem tw986238975863888926 : True := trivial
theorem tw3566507971847840717 : True := trivial
theorem tw11877642691235850572 : True := trivial
theorem tw11481590497146049642 : True := trivial
theorem tw12487399646089299310 : True := trivial
theorem tw1101960164881014420 : True := trivial
theorem tw6266649064414576948 : True := trivial
theorem tw1744333932495471612 : True := trivial
theorem tw14324670445990921624 : True := trivial
theorem tw2350429510832586465 : True := trivial
theorem tw3557927729102632286 : True := trivial
theorem tw15164204006726277014 : True := trivial
theorem tw4076346901719473967 : True := trivial
theorem tw8390089560213793316 : True := trivial
theorem tw5308785742782442799 : True := trivial
theorem tw2240172932934315373 : True := trivial
theorem tw143110129868092228 : True := trivial
theorem tw9134220477449072237 : True := trivial
theorem tw6339943296201233923 : True := trivial
theorem tw3029657780251772999 : True := trivial
theorem tw6075788217853178568 : True := trivial
theorem tw10772680272154765736 : True := trivial
theorem tw6381614014004651422 : True := trivial
theorem tw222196027537691586 : True := trivial
theorem tw14896404696051399207 : True := trivial
theorem tw11230890749765864775 : True := trivial
theorem tw15442561874144090681 : True := trivial
theorem tw12523082380102907127 : True := trivial
theorem tw13485608164436080935 : True := trivial
theorem tw1933770156025744840 : True := trivial
theorem tw10620769432733004110 : True := trivial
theorem tw11835958292119703199 : True := trivial
theorem tw17134805127004783185 : True := trivial
theorem tw15502847592307586253 : True := trivial
theorem tw14123963166233902658 : True := trivial
theorem tw11186560938729613475 : True := trivial
theorem tw5549665561187258673 : True := trivial
theorem tw6859091509253372251 : True := trivial
theorem tw14888938625345089096 : True := trivial
theorem tw10790355008096163207 : True := trivial
theorem tw5007161704380104794 : True := trivial
theorem tw8563493173011119523 : True := trivial
theorem tw881499310585312061 : True := trivial
theorem tw14168945274472347365 : True := trivial
theorem tw2907291997653433490 : True := trivial
theorem tw4324835702630461911 : True := trivial
theorem tw11809921309775845512 : True := trivial
theorem tw17935179368646515732 : True := trivial
theorem tw15098975096598387767 : True := trivial
theorem tw7444731763662095188 : True := trivial
theorem tw11183669810723914417 : True := trivial
theorem tw7957553300122965120 : True := trivial
theorem tw17302760529406167270 : True := trivial
theorem tw11753829212146188839 : True := trivial
theorem tw6894127541873254254 : True := trivial
theorem tw5622907916743161225 : True := trivial
theorem tw5651452874850427724 : True := trivial
theorem tw11158049670368387390 : True := trivial
theorem tw7468372622212988993 : True := trivial
theorem tw14123729692097715921 : True := trivial
theorem tw14852461327963557566 : True := trivial
theorem tw385021676693547320 : True := trivial
theorem tw1461428947418428630 : True := trivial
theorem tw7811809570256312501 : True := trivial
theorem tw2532316318133780493 : True := trivial
theorem tw9552403352853539506 : True := trivial
theorem tw4090098750620880464 : True := trivial
theorem tw5843567096838203818 : True := trivial
theorem tw5271674393113692820 : True := trivial
theorem tw14716334064050595152 : True := trivial
theorem tw4642272835444044578 : True := trivial
theorem tw8284063155852846931 : True := trivial
theorem tw193907331850311718 : True := trivial
theorem tw16047541336897203093 : True := trivial
theorem tw5731428424665869900 : True := trivial
theorem tw1218060892496634978 : True := trivial
theorem tw13894038544104335572 : True := trivial
theorem tw8910634701842502163 : True := trivial
theorem tw7142805832688461679 : True := trivial
theorem tw15187504915016517663 : True := trivial
theorem tw17267111121745109944 : True := trivial
theorem tw14502130179020226340 : True := trivial
theorem tw3308182623418486213 : True := trivial
theorem tw3134489359439378691 : True := trivial
theorem tw5482243761892628310 : True := trivial
theorem tw2284985255423341249 : True := trivial
theorem tw15925308632149739717 : True := trivial
theorem tw6783077688320384116 : True := trivial
theorem tw11989814283311778152 : True := trivial
theorem tw1294667244635767812 : True := trivial
theorem tw5826211472693679414 : True := trivial
theorem tw12094017157612802307 : True := trivial
theorem tw1433372421850161239 : True := trivial
theorem tw16041580501933998018 : True := trivial
theorem tw11828521040939782785 : True := trivial
theorem tw17906979903364309307 : True := trivial
theorem tw18250750743379294323 : True := trivial
theorem tw8427054482325018779 : True := trivial
theorem tw608769014707579949 : True := trivial
theorem tw4279801407764889866 : True := trivial
theorem tw17515951346293227334 : True := trivial
theorem tw6294872602832679743 : True := trivial
theorem tw10926092131782284407 : True := trivial
theorem tw3999084416506529988 : True := trivial
theorem tw4631254046315492437 : True := trivial
theorem tw12774793548563771681 : True := trivial
theorem tw12748130614075806853 : True := trivial
theorem tw7684752109855843910 : True := trivial
theorem tw9031906356010449450 : True := trivial
theorem tw1703717248203889195 : True := trivial
theorem tw8603500175755079904 : True := trivial
theorem tw11688140500467726217 : True := trivial
theorem tw6926641237854174358 : True := trivial
theorem tw2104655268934528977 : True := trivial
theorem tw16754563695236070740 : True := trivial
theorem tw3652017159408740420 : True := trivial
theorem tw9572034922612560820 : True := trivial
theorem tw15155165076943662579 : True := trivial
theorem tw16650830777277490970 : True := trivial
theorem tw7935665757465278049 : True := trivial
theorem tw1659093610104944611 : True := trivial
theorem tw16247971011162201754 : True := trivial
theorem tw2447233886738304789 : True := trivial
theorem tw938788889882109208 : True := trivial
theorem tw68812489616388947 : True := trivial
theorem tw10391133429699439113 : True := trivial
theorem tw2646840878270616257 : True := trivial
theorem tw12797759380483392697 : True := trivial
theorem tw14353684864803164931 : True := trivial
theorem tw16569348122371185834 : True := trivial
theorem tw6198216830852175488 : True := trivial
theorem tw15864423654843307046 : True := trivial
theorem tw10509098337783116524 : True := trivial
theorem tw17055550539790599361 : True := trivial
theorem tw8456794386635439580 : True := trivial
theorem tw4552657978228948545 : True := trivial
theorem tw693265908716967605 : True := trivial
theorem tw12622267095273925743 : True := trivial
theorem tw13713615520432574280 : True := trivial
theorem tw5518915411063071195 : True := trivial
theorem tw15414678542055729804 : True := trivial
theorem tw4143905931608095887 : True := trivial
theorem tw14349214505719008216 : True := trivial
theorem tw12767223547578001537 : True := trivial
theorem tw4249623059657670114 : True := trivial
theorem tw9616681731514922611 : True := trivial
theorem tw16419048484462343463 : True := trivial
theorem tw2259044576475177674 : True := trivial
theorem tw6443264876335657953 : True := trivial
theorem tw9729861522813950640 : True := trivial
theorem tw16816350959978746195 : True := trivial
theorem tw2055319391774247928 : True := trivial
theorem tw13531046161830502776 : True := trivial
theorem tw5898014312311280959 : True := trivial
theorem tw3460122726431163851 : True := trivial
theorem tw11151195106050442318 : True := trivial
theorem tw12381887041752594036 : True := trivial
theorem tw1856738224781279522 : True := trivial
theorem tw12921580013598792107 : True := trivial
theorem tw1720058639012709159 : True := trivial
theorem tw13634100323803829503 : True := trivial
theorem tw14748850972729387071 : True := trivial
theorem tw3787303024168668778 : True := trivial
theorem tw15567963817685746583 : True := trivial
theorem tw11233975094899302249 : True := trivial
theorem tw6230220182752862024 : True := trivial
theorem tw15474207204853155489 : True := trivial
theorem tw2758661760249972605 : True := trivial
theorem tw2659019265808148535 : True := trivial
theorem tw13683307453994908214 : True := trivial
theorem tw3026418948280740110 : True := trivial
theorem tw2352878438426771788 : True := trivial
theorem tw14290168337024571752 : True := trivial
theorem tw17738638083804728803 : True := trivial
theorem tw9426677725826226703 : True := trivial
theorem tw8600219887565783398 : True := trivial
theorem tw8365862482229273722 : True := trivial
theorem tw13643017139726839925 : True := trivial
theorem tw4571321242601550212 : True := trivial
theorem tw3258490641829243501 : True := trivial
theorem tw8428836950809833935 : True := trivial
theorem tw9680512501427892570 : True := trivial
theorem tw9627159992909157707 : True := trivial
theorem tw11240890751928742017 : True := trivial
theorem tw17349041646317226750 : True := trivial
theorem tw8677807224057240226 : True := trivial
theorem tw2066573988094915949 : True := trivial
theorem tw2684770266987057264 : True := trivial
theorem tw7825078377581103226 : True := trivial
theorem tw18331045457171022951 : True := trivial
theorem tw13404801242679038884 : True := trivial
theorem tw78854084968074762 : True := trivial
theorem tw589368867849505615 : True := trivial
theorem tw3419525436674406949 : True := trivial
theorem tw15089153207566868747 : True := trivial
theorem tw11373195969361634692 : True := trivial
theorem tw8403291934562385255 : True := trivial
theorem tw5125649887203726118 : True := trivial
theorem tw6438694025708008855 : True := trivial
theorem tw757716505653571786 : True := trivial
theorem tw9771354167743218397 : True := trivial
theorem tw15177739548747734319 : True := trivial
theorem tw3457882479816612758 : True := trivial
theorem tw17795113158977639656 : True := trivial
theorem tw3655478895133045682 : True := trivial
theorem tw15580635109364063310 : True := trivial
theorem tw18338655698640668280 : True := trivial
theorem tw12711610851001923522 : True := trivial
theorem tw2353430676392088425 : True := trivial
theorem tw535632169059446667 : True := trivial
theorem tw14008591057810902072 : True := trivial
theorem tw8082405750534066070 : True := trivial
theorem tw3276369375178685330 : True := trivial
theorem tw11433978914336870857 : True := trivial
theorem tw9642590825636031234 : True := trivial
theorem tw18218843155401029514 : True := trivial
theorem tw16400686586914903645 : True := trivial
theorem tw5047029291427481048 : True := trivial
theorem tw1635843851697285820 : True := trivial
theorem tw17710721625771748731 : True := trivial
theorem tw11877508713382343121 : True := trivial
theorem tw8101667710706566909 : True := trivial
theorem tw84445185117672163 : True := trivial
theorem tw17534200664735124290 : True := trivial
theorem tw1429651628907298859 : True := trivial
theorem tw15529078743415104509 : True := trivial
theorem tw16608144307661176047 : True := trivial
theorem tw14169306624928326438 : True := trivial
theorem tw17629090658049991521 : True := trivial
theorem tw8426093537538147434 : True := trivial
theorem tw16824647449531348357 : True := trivial
theorem tw322402178430747101 : True := trivial
theorem tw13828091671973798007 : True := trivial
theorem tw2412787835932710539 : True := trivial
theorem tw3922480627859631014 : True := trivial
theorem tw8902825650004012173 : True := trivial
theorem tw368512851796931666 : True := trivial
theorem tw1794699940489217461 : True := trivial
theorem tw6691459202721444229 : True := trivial
theorem tw14768757510978377396 : True := trivial
theorem tw690992591171809818 : True := trivial
theorem tw10288653147922598852 : True := trivial
theorem tw1668827452588630333 : True := trivial
theorem tw13287041538971666530 : True := trivial
theorem tw1788307032215924427 : True := trivial
theorem tw17160757234171202744 : True := trivial
theorem tw3587491563858995488 : True := trivial
theorem tw1697900357927055755 : True := trivial
theorem tw845507826237123656 : True := trivial
theorem tw2612705194797729500 : True := trivial
theorem tw5827752335655974882 : True := trivial
theorem tw15538504352639583074 : True := trivial
theorem tw9895468556951533290 : True := trivial
theorem tw9256290721114952060 : True := trivial
theorem tw10954688864166689318 : True := trivial
theorem tw9813161098071064256 : True := trivial
theorem tw2070688059749391590 : True := trivial
theorem tw16663399058282666885 : True := trivial
theorem tw17391250022033706012 : True := trivial
theorem tw3476633325431334894 : True := trivial
theorem tw16572169703977759615 : True := trivial
theorem tw8129899255318489093 : True := trivial
theorem tw14532030628178019313 : True := trivial
theorem tw5546240981153718580 : True := trivial
theorem tw419962606255371229 : True := trivial
theorem tw12287364896159913471 : True := trivial
theorem tw5948724795995258202 : True := trivial
theorem tw13126854824252801944 : True := trivial
theorem tw4756300136871178081 : True := trivial
theorem tw6576350011716912402 : True := trivial
theorem tw591901988753296401 : True := trivial
theorem tw3226896026698657949 : True := trivial
theorem tw873595553828861874 : True := trivial
theorem tw10345627424432025512 : True := trivial
theorem tw14109355497159388981 : True := trivial
theorem tw5852815983077954033 : True := trivial
theorem tw2401917612549242845 : True := trivial
theorem tw3929174560393198726 : True := trivial
theorem tw6843539377336890810 : True := trivial
theorem tw9445093983230131059 : True := trivial
theorem tw18246406139423534725 : True := trivial
theorem tw9791954498358387679 : True := trivial
theorem tw14793074756354234251 : True := trivial
theorem tw15766076496308077874 : True := trivial
theorem tw10078082188584936803 : True := trivial
theorem tw1236315676323559211 : True := trivial
theorem tw16472707366773145392 : True := trivial
theorem tw6515015298548261353 : True := trivial
theorem tw18337809641001698274 : True := trivial
theorem tw6525695373612027990 : True := trivial
theorem tw2568294286620465317 : True := trivial
theorem tw1940051584826011518 : True := trivial
theorem tw3273783462099009384 : True := trivial
theorem tw13342822406763837043 : True := trivial
theorem tw8897578541036030042 : True := trivial
theorem tw7706104543201566301 : True := trivial
theorem tw14896484195583304103 : True := trivial
theorem tw7287798845075290857 : True := trivial
theorem tw8587846248801222575 : True := trivial
theorem tw7966832030703735168 : True := trivial
theorem tw9343356642536224024 : True := trivial
theorem tw16833065386757025339 : True := trivial
theorem tw18195224611540629156 : True := trivial
theorem tw11827912769127201433 : True := trivial
theorem tw15430846693364628268 : True := trivial
theorem tw17886710006675808078 : True := trivial
theorem tw12833788501699964775 : True := trivial
theorem tw15305670128330009929 : True := trivial
theorem tw15344370289183112266 : True := trivial
theorem tw9108228071566201543 : True := trivial
theorem tw8231288295308808402 : True := trivial
theorem tw18404021419506268835 : True := trivial
theorem tw9249697873957933682 : True := trivial
theorem tw15610605606897036909 : True := trivial
theorem tw7657771829345697136 : True := trivial
theorem tw3445594676342166439 : True := trivial
theorem tw10730716172565499106 : True := trivial
theorem tw14232015230314573557 : True := trivial
theorem tw11172389974699298012 : True := trivial
theorem tw13564634350157913588 : True := trivial
theorem tw12122798238560764650 : True := trivial
theorem tw1787724380946980261 : True := trivial
theorem tw16514742283701370773 : True := trivial
theorem tw4965208229797460395 : True := trivial
theorem tw503655676164216022 : True := trivial
theorem tw3675463451206459542 : True := trivial
theorem tw85794751826028377 : True := trivial
theorem tw12992995923303441700 : True := trivial
theorem tw13015612722064231916 : True := trivial
theorem tw2765890546800364085 : True := trivial
theorem tw9868064398830719374 : True := trivial
theorem tw5751302854992310035 : True := trivial
theorem tw6631163047992420860 : True := trivial
theorem tw10052725278883197685 : True := trivial
theorem tw829302072763498470 : True := trivial
theorem tw18368419488256586669 : True := trivial
theorem tw5515977834894085932 : True := trivial
theorem tw14392063290223594126 : True := trivial
theorem tw1882410062715313926 : True := trivial
theorem tw5599343022905858293 : True := trivial
theorem tw5105481119700729015 : True := trivial
theorem tw10140210750125800360 : True := trivial
theorem tw7879335612023428737 : True := trivial
theorem tw12452825880360257370 : True := trivial
theorem tw968613126402482072 : True := trivial
theorem tw8485645831440990044 : True := trivial
theorem tw12092094084845964901 : True := trivial
theorem tw8607303812844215804 : True := trivial
theorem tw1279568107818550779 : True := trivial
theorem tw16024706222795524514 : True := trivial
theorem tw13286305697915359657 : True := trivial
theorem tw16274763456152310697 : True := trivial
theorem tw3528249057661986272 : True := trivial
theorem tw16586390723772159203 : True := trivial
theorem tw17840160652873884577 : True := trivial
theorem tw13854968904895951022 : True := trivial
theorem tw6017081835963029813 : True := trivial
theorem tw5722573996908769434 : True := trivial
theorem tw11177244914675169691 : True := trivial
theorem tw3054429818107350788 : True := trivial
theorem tw16643725236529750615 : True := trivial
theorem tw16386872764947987743 : True := trivial
theorem tw10343694233811051446 : True := trivial
theorem tw7669074864208345748 : True := trivial
theorem tw3162949318108584647 : True := trivial
theorem tw330780973623454599 : True := trivial
theorem tw16308569803213440357 : True := trivial
theorem tw2425079056657677126 : True := trivial
theorem tw18390119602071497984 : True := trivial
theorem tw2661772967791713247 : True := trivial
theorem tw2586792779773618382 : True := trivial
theorem tw9876529230777145980 : True := trivial
theorem tw12164500270156692274 : True := trivial
theorem tw6392325066579177550 : True := trivial
theorem tw7364277163890596517 : True := trivial
theorem tw7449165097078024763 : True := trivial
theorem tw13901237381828950789 : True := trivial
theorem tw3160041507803156126 : True := trivial
theorem tw7261727564182739776 : True := trivial
theorem tw11408865943990429565 : True := trivial
theorem tw6560432178451738298 : True := trivial
theorem tw7679901679592205756 : True := trivial
theorem tw16369531650386745921 : True := trivial
theorem tw8034399918483632422 : True := trivial
theorem tw3437529191576776559 : True := trivial
theorem tw12274987338162302915 : True := trivial
theorem tw3693982732193282897 : True := trivial
theorem tw10031733997939155985 : True := trivial
theorem tw18010643037535380650 : True := trivial
theorem tw12268476728806648464 : True := trivial
theorem tw6370849461851211525 : True := trivial
theorem tw5592014312423768216 : True := trivial
theorem tw5248314285416265965 : True := trivial
theorem tw8999777228346705453 : True := trivial
theorem tw7102779450702608558 : True := trivial
theorem tw15979011462291766310 : True := trivial
theorem tw11851820951776808159 : True := trivial
theorem tw4755712911684923514 : True := trivial
theorem tw1815121157839682450 : True := trivial
theorem tw11731183422973538406 : True := trivial
theorem tw3291879494359435884 : True := trivial
theorem tw9643898239701961273 : True := trivial
theorem tw8813304692916246054 : True := trivial
theorem tw16931555071921929356 : True := trivial
theorem tw7609694866789496434 : True := trivial
theorem tw2296176066272631304 : True := trivial
theorem tw3179383533664891732 : True := trivial
theorem tw17062089942125606821 : True := trivial
theorem tw13320007796143113551 : True := trivial
theorem tw7205310682871377508 : True := trivial
theorem tw6705475829084227755 : True := trivial
theorem tw7352193993070234322 : True := trivial
theorem tw3300233654595554010 : True := trivial
theorem tw10747639026046129302 : True := trivial
theorem tw13502195872244707259 : True := trivial
theorem tw13262219350976445716 : True := trivial
theorem tw2269114644135213004 : True := trivial
theorem tw15408276845154140724 : True := trivial
theorem tw4843697987960915487 : True := trivial
theorem tw380155276298729575 : True := trivial
theorem tw9291606547538194293 : True := trivial
theorem tw5607126564795321498 : True := trivial
theorem tw14791087297745021524 : True := trivial
theorem tw6306921000449514928 : True := trivial
theorem tw3197440894641028694 : True := trivial
theorem tw11024634043231916638 : True := trivial
theorem tw11037032423760583537 : True := trivial
theorem tw5230767052506259484 : True := trivial
theorem tw8589408512651488479 : True := trivial
theorem tw13969217154635709789 : True := trivial
theorem tw5784072953851059488 : True := trivial
theorem tw1052334250286431631 : True := trivial
theorem tw1974279898924160894 : True := trivial
theorem tw13330259297975244247 : True := trivial
theorem tw343204620246412721 : True := trivial
theorem tw16629107049066447756 : True := trivial
theorem tw10799937547958039352 : True := trivial
theorem tw11710796797890724781 : True := trivial
theorem tw12778547346837922036 : True := trivial
theorem tw3440228686414661963 : True := trivial
theorem tw2164627191611258522 : True := trivial
theorem tw15391604740949377443 : True := trivial
theorem tw11256335038689155257 : True := trivial
theorem tw13369997729777951906 : True := trivial
theorem tw8924757958286421885 : True := trivial
theorem tw396202183593505397 : True := trivial
theorem tw10261223181772535263 : True := trivial
theorem tw10297493180621563842 : True := trivial
theorem tw1890096192952536031 : True := trivial
theorem tw1092605689005599303 : True := trivial
theorem tw6966299574555769744 : True := trivial
theorem tw13019588573652834605 : True := trivial
theorem tw14614412307570166414 : True := trivial
theorem tw15759211098893085446 : True := trivial
theorem tw14274821543717243547 : True := trivial
theorem tw8515734509749880257 : True := trivial
theorem tw1841405932965139612 : True := trivial
theorem tw14767366939297260113 : True := trivial
theorem tw11969617758551415647 : True := trivial
theorem tw7538205131856558524 : True := trivial
theorem tw14694227914068128301 : True := trivial
theorem tw12223886149907708922 : True := trivial
theorem tw16939663378157985470 : True := trivial
theorem tw2911648902559136011 : True := trivial
theorem tw12115130413990602670 : True := trivial
theorem tw15532522639710254956 : True := trivial
theorem tw4979619369744193416 : True := trivial
theorem tw17396113372315606162 : True := trivial
theorem tw359152904570627139 : True := trivial
theorem tw5845603422580628442 : True := trivial
theorem tw11418036811029070453 : True := trivial
theorem tw12150512921521071674 : True := trivial
theorem tw11385363338372391236 : True := trivial
theorem tw18092934904783551647 : True := trivial
theorem tw5371622754776192841 : True := trivial
theorem tw4679702216752320704 : True := trivial
theorem tw3551851263140359723 : True := trivial
theorem tw12521884975914401064 : True := trivial
theorem tw3292453531306743623 : True := trivial
theorem tw7388348870046463851 : True := trivial
theorem tw2674457070914978589 : True := trivial
theorem tw14651438885056059283 : True := trivial
theorem tw8184626040684393968 : True := trivial
theorem tw5675612657478787849 : True := trivial
theorem tw3326928111595574559 : True := trivial
theorem tw7161862812781271652 : True := trivial
theorem tw780420814549552453 : True := trivial
theorem tw6615365863274973156 : True := trivial
theorem tw10451316699320911439 : True := trivial
theorem tw6033882156594485010 : True := trivial
theorem tw16920632531069173839 : True := trivial
theorem tw5390863917354707160 : True := trivial
theorem tw15561364764687068459 : True := trivial
theorem tw1721845084388935856 : True := trivial
theorem tw929317559550422335 : True := trivial
theorem tw10988012297229515149 : True := trivial
theorem tw6995766349398765185 : True := trivial
theorem tw13013328850173605158 : True := trivial
theorem tw17836545930175210555 : True := trivial
theorem tw2191149754242434740 : True := trivial
theorem tw11839882436803888776 : True := trivial
theorem tw9971932444411545924 : True := trivial
theorem tw7941802075691714854 : True := trivial
theorem tw1684819393533235491 : True := trivial
theorem tw12135049420585683238 : True := trivial
theorem tw383997682502735661 : True := trivial
theorem tw4882306997495810106 : True := trivial
theorem tw15457356681111220831 : True := trivial
theorem tw9850764653593838760 : True := trivial
theorem tw11363273214793253156 : True := trivial
theorem tw7378493847551297592 : True := trivial
theorem tw11762533595416551097 : True := trivial
theorem tw10510758975480948623 : True := trivial
theorem tw3311877192221128834 : True := trivial
theorem tw2649459500196524786 : True := trivial
theorem tw16500525945588986256 : True := trivial
theorem tw8665235970376882667 : True := trivial
theorem tw5289932688872839305 : True := trivial
theorem tw15719097329426934361 : True := trivial
theorem tw6551993093392308623 : True := trivial
theorem tw16766995100624102290 : True := trivial
theorem tw10409481029184022370 : True := trivial
theorem tw5890851073989707954 : True := trivial
theorem tw13975384864017602761 : True := trivial
theorem tw5109483844410306090 : True := trivial
theorem tw17189803588936325438 : True := trivial
theorem tw5396809404762349573 : True := trivial
theorem tw1287712067627878263 : True := trivial
theorem tw6364226106921811449 : True := trivial
theorem tw2005312819982577076 : True := trivial
theorem tw9617232139711070127 : True := trivial
theorem tw7444632127079733786 : True := trivial
theorem tw3421259083322518855 : True := trivial
theorem tw18160090764736149669 : True := trivial
theorem tw18443700886731190866 : True := trivial
theorem tw6200602515487797506 : True := trivial
theorem tw8183788804104183135 : True := trivial
theorem tw4769826102994437004 : True := trivial
theorem tw12476108432863434745 : True := trivial
theorem tw8863132782676503831 : True := trivial
theorem tw18268151671625639467 : True := trivial
theorem tw5257878587113014730 : True := trivial
theorem tw3596087188527582346 : True := trivial
theorem tw14857847344533447879 : True := trivial
theorem tw4310190278376393993 : True := trivial
theorem tw1126469433550033944 : True := trivial
theorem tw3391584051671654872 : True := trivial
theorem tw16339958659410545154 : True := trivial
theorem tw133518675290605845 : True := trivial
theorem tw14427402364843644068 : True := trivial
theorem tw8272618760547962462 : True := trivial
theorem tw11736033076682362100 : True := trivial
theorem tw11977330393025695621 : True := trivial
theorem tw5788212713564636320 : True := trivial
theorem tw9333832163539206007 : True := trivial
theorem tw15940694984127351089 : True := trivial
theorem tw4571135134151830816 : True := trivial
theorem tw15821664372808164323 : True := trivial
theorem tw18148426263249784653 : True := trivial
theorem tw6431804063756625165 : True := trivial
theorem tw12483542313610605153 : True := trivial
theorem tw7580434461886756386 : True := trivial
theorem tw16009097186859884682 : True := trivial
theorem tw17155015226540213269 : True := trivial
theorem tw781880636954168397 : True := trivial
theorem tw3705642081168654396 : True := trivial
theorem tw17332299723324509588 : True := trivial
theorem tw14098331079845663030 : True := trivial
theorem tw12604741811168039536 : True := trivial
theorem tw14986555783724308108 : True := trivial
theorem tw15646310656860591848 : True := trivial
theorem tw7386919803533054504 : True := trivial
theorem tw6070180808846240220 : True := trivial
theorem tw3012278795919478469 : True := trivial
theorem tw1917261806899740147 : True := trivial
theorem tw9047504389327746946 : True := trivial
theorem tw12194767383211764329 : True := trivial
theorem tw4233490704293387466 : True := trivial
theorem tw12339833321356228080 : True := trivial
theorem tw4613355896069387057 : True := trivial
theorem tw4104612345890118157 : True := trivial
theorem tw12116139152422515094 : True := trivial
theorem tw15032870084020137310 : True := trivial
theorem tw16426852943877836774 : True := trivial
theorem tw13910870164800782368 : True := trivial
theorem tw14684322165270119397 : True := trivial
theorem tw9765901793893525606 : True := trivial
theorem tw6943609372991113328 : True := trivial
theorem tw4115338051676733964 : True := trivial
theorem tw15513581147567207684 : True := trivial
theorem tw3593908458045309992 : True := trivial
theorem tw14249079674724876841 : True := trivial
theorem tw15079609038819823994 : True := trivial
theorem tw3180726629544229320 : True := trivial
theorem tw9253704130464137572 : True := trivial
theorem tw16536954103823208833 : True := trivial
theorem tw15388521015574086328 : True := trivial
theorem tw136089961621010902 : True := trivial
theorem tw1392271309760642299 : True := trivial
theorem tw15440460218230676256 : True := trivial
theorem tw8221880597454915302 : True := trivial
theorem tw4727547901051012827 : True := trivial
theorem tw4331229938413437196 : True := trivial
theorem tw13392736698143343243 : True := trivial
theorem tw17914911202098595436 : True := trivial
theorem tw2645350518968878887 : True := trivial
theorem tw8547702095113476112 : True := trivial
theorem tw16381633706250250869 : True := trivial
theorem tw1851698515707897012 : True := trivial
theorem tw10435991855070272967 : True := trivial
theorem tw3099590633050365528 : True := trivial
theorem tw3930382670961070161 : True := trivial
theorem tw17065092841490191807 : True := trivial
theorem tw9443869328454822897 : True := trivial
theorem tw5915839707110162510 : True := trivial
theorem tw17430219972661252490 : True := trivial
theorem tw14059388882317215981 : True := trivial
theorem tw3161333119628526381 : True := trivial
theorem tw533932803979828978 : True := trivial
theorem tw12202619873060379067 : True := trivial
theorem tw15006722749504576989 : True := trivial
theorem tw7732520038387895564 : True := trivial
theorem tw651578379375701919 : True := trivial
theorem tw9191972506132357610 : True := trivial
theorem tw5698156437509261737 : True := trivial
theorem tw3800755726043835212 : True := trivial
theorem tw8280893807530769118 : True := trivial
theorem tw5291161637056192390 : True := trivial
theorem tw3966469674432793581 : True := trivial
theorem tw5502159425629465435 : True := trivial
theorem tw3070399924693847746 : True := trivial
theorem tw15695067855719027128 : True := trivial
theorem tw2128426485679424949 : True := trivial
theorem tw10137886019394090743 : True := trivial
theorem tw2567768860255190908 : True := trivial
theorem tw1253031455009813904 : True := trivial
theorem tw11731122440090065381 : True := trivial
theorem tw12658668227690230528 : True := trivial
theorem tw9971863736168231889 : True := trivial
theorem tw4447511330989153003 : True := trivial
theorem tw5067082988642076746 : True := trivial
theorem tw8146733346635235790 : True := trivial
theorem tw11952883599931056868 : True := trivial
theorem tw3643429456964898504 : True := trivial
theorem tw5622990010902576096 : True := trivial
theorem tw15295401615225387163 : True := trivial
theorem tw17239739298892237058 : True := trivial
theorem tw2073078685876399371 : True := trivial
theorem tw15620799574048129554 : True := trivial
theorem tw10472446987186781268 : True := trivial
theorem tw10724201756048177338 : True := trivial
theorem tw12643613542303202381 : True := trivial
theorem tw11239393638272421796 : True := trivial
theorem tw6752297036480514286 : True := trivial
theorem tw4187538497373943600 : True := trivial
theorem tw10062422000501865125 : True := trivial
theorem tw11836092670695334343 : True := trivial
theorem tw3604590710332829648 : True := trivial
theorem tw10672722458231430063 : True := trivial
theorem tw7829314879526043409 : True := trivial
theorem tw6950666415607184077 : True := trivial
theorem tw16669531579008116906 : True := trivial
theorem tw14173928354752297282 : True := trivial
theorem tw9240700508807551861 : True := trivial
theorem tw172972489704202662 : True := trivial
theorem tw7209987378652955274 : True := trivial
theorem tw18335641993363110879 : True := trivial
theorem tw8810601273833278669 : True := trivial
theorem tw18051046382244740857 : True := trivial
theorem tw10559315467963380045 : True := trivial
theorem tw10836978703434198265 : True := trivial
theorem tw9148091089279794069 : True := trivial
theorem tw634253355440192178 : True := trivial
theorem tw2095751322339260142 : True := trivial
theorem tw1780073050164011222 : True := trivial
theorem tw14260491411641294437 : True := trivial
theorem tw10565004638168432789 : True := trivial
theorem tw2173651590324656661 : True := trivial
theorem tw11804515803532505314 : True := trivial
theorem tw10933796343938759319 : True := trivial
theorem tw5991017349939473214 : True := trivial
theorem tw13562041020390140079 : True := trivial
theorem tw7601999031990909594 : True := trivial
theorem tw7394392724948777368 : True := trivial
theorem tw6321386042977253870 : True := trivial
theorem tw6358480667441596990 : True := trivial
theorem tw8082722399819697881 : True := trivial
theorem tw16165851436491309326 : True := trivial
theorem tw548069301259182469 : True := trivial
theorem tw118610707975362390 : True := trivial
theorem tw3789006350183785675 : True := trivial
theorem tw9110428063367644787 : True := trivial
theorem tw5910416900181059164 : True := trivial
theorem tw8890145812115834898 : True := trivial
theorem tw16926328065617853258 : True := trivial
theorem tw4255387866897773454 : True := trivial
theorem tw17020387192284272277 : True := trivial
theorem tw18254436347336427764 : True := trivial
theorem tw11357507261611351306 : True := trivial
theorem tw17534469558199699704 : True := trivial
theorem tw13581200407606210339 : True := trivial
theorem tw3726240722019325361 : True := trivial
theorem tw10183808357313821059 : True := trivial
theorem tw2319689856380991203 : True := trivial
theorem tw8554173406444907826 : True := trivial
theorem tw4513133873134942648 : True := trivial
theorem tw17883491648027893575 : True := trivial
theorem tw4501210902887620281 : True := trivial
theorem tw6090364840821708243 : True := trivial
theorem tw308716191063455738 : True := trivial
theorem tw3929202672673484460 : True := trivial
theorem tw1040125674268064557 : True := trivial
theorem tw10607908995144557391 : True := trivial
theorem tw5553704874453904073 : True := trivial
theorem tw8084716912868871423 : True := trivial
theorem tw9205376601908080686 : True := trivial
theorem tw4532476042364780131 : True := trivial
theorem tw6684682239546254007 : True := trivial
theorem tw12182753478174716651 : True := trivial
theorem tw13607828609115884896 : True := trivial
theorem tw4338770688200882792 : True := trivial
theorem tw12544425194283576426 : True := trivial
theorem tw4888670224410102706 : True := trivial
theorem tw755395953280611619 : True := trivial
theorem tw8352598983312091615 : True := trivial
theorem tw17892474099758267112 : True := trivial
theorem tw7025192967332664549 : True := trivial
theorem tw982242888426763169 : True := trivial
theorem tw3977168700948850585 : True := trivial
theorem tw5593347422179403395 : True := trivial
theorem tw3321125778928537531 : True := trivial
theorem tw6999810873224331610 : True := trivial
theorem tw7262882172507517944 : True := trivial
theorem tw1559108423208070380 : True := trivial
theorem tw1022355463341188667 : True := trivial
theorem tw3267147770829702796 : True := trivial
theorem tw13875535412017310182 : True := trivial
theorem tw16348635033235148076 : True := trivial
theorem tw4679128470048955588 : True := trivial
theorem tw4645598066573714394 : True := trivial
theorem tw17495215300106783270 : True := trivial
theorem tw15946030877164205255 : True := trivial
theorem tw373583177352685693 : True := trivial
theorem tw2842317777821227368 : True := trivial
theorem tw3371895260089041215 : True := trivial
theorem tw13105392584959436700 : True := trivial
theorem tw16953811979481787236 : True := trivial
theorem tw4478289737569721707 : True := trivial
theorem tw17033813658351311200 : True := trivial
theorem tw6301242107608031670 : True := trivial
theorem tw16069280753141984711 : True := trivial
theorem tw277729707995844166 : True := trivial
theorem tw14955104712136760854 : True := trivial
theorem tw16263371339551877738 : True := trivial
theorem tw9236901237722142124 : True := trivial
theorem tw14166094668653995797 : True := trivial
theorem tw11152237753818195298 : True := trivial
theorem tw15499233438381513677 : True := trivial
theorem tw15299054734105529154 : True := trivial
theorem tw17682575963529320699 : True := trivial
theorem tw12375067902800449688 : True := trivial
theorem tw9985026037030039179 : True := trivial
theorem tw15719224143542656111 : True := trivial
theorem tw507547646574030589 : True := trivial
theorem tw1693674313182290508 : True := trivial
theorem tw9648999888336658194 : True := trivial
theorem tw5179757723850750770 : True := trivial
theorem tw17158145918646749491 : True := trivial
theorem tw6273602812948638177 : True := trivial
theorem tw14103546158586714621 : True := trivial
theorem tw4425914990921770116 : True := trivial
theorem tw1978908110800152795 : True := trivial
theorem tw10184907986965167969 : True := trivial
theorem tw14967606670467261500 : True := trivial
theorem tw16218197541852192766 : True := trivial
theorem tw13016825099186480883 : True := trivial
theorem tw10651702129975008199 : True := trivial
theorem tw15909845704342381123 : True := trivial
theorem tw17588013611999605745 : True := trivial
theorem tw6926070388613851589 : True := trivial
theorem tw9394969403034242937 : True := trivial
theorem tw12215345731427507450 : True := trivial
theorem tw2300426393038664001 : True := trivial
theorem tw5233468269926777580 : True := trivial
theorem tw281292334977286489 : True := trivial
theorem tw5720731624054377133 : True := trivial
theorem tw809093337664060036 : True := trivial
theorem tw4717496456851806619 : True := trivial
theorem tw9042092354479117258 : True := trivial
theorem tw3902577901857680325 : True := trivial
theorem tw5695435264206640403 : True := trivial
theorem tw12899474126009921399 : True := trivial
theorem tw4737442102037402304 : True := trivial
theorem tw16468535191976842087 : True := trivial
theorem tw3008421609082333894 : True := trivial
theorem tw9541582004488911373 : True := trivial
theorem tw5007127082385786664 : True := trivial
theorem tw91184953446296624 : True := trivial
theorem tw8947386374340994218 : True := trivial
theorem tw2518517195237634846 : True := trivial
theorem tw16718820641427616013 : True := trivial
theorem tw11113277054445931383 : True := trivial
theorem tw1448958339434491330 : True := trivial
theorem tw1260721539799310341 : True := trivial
theorem tw10320626440715776462 : True := trivial
theorem tw7800630412197215570 : True := trivial
theorem tw643219461060783557 : True := trivial
theorem tw9624252728563918648 : True := trivial
theorem tw1998142467002815967 : True := trivial
theorem tw17425275338173405339 : True := trivial
theorem tw1963628413922160177 : True := trivial
theorem tw18015114136222407764 : True := trivial
theorem tw1606152511025485197 : True := trivial
theorem tw18179798739438323010 : True := trivial
theorem tw8127595193130310322 : True := trivial
theorem tw15923615680868085189 : True := trivial
theorem tw3524553536760169735 : True := trivial
theorem tw4142456962294327211 : True := trivial
theorem tw10625585887961701078 : True := trivial
theorem tw11335937465842414423 : True := trivial
theorem tw13905268838232444051 : True := trivial
theorem tw1626367783908599556 : True := trivial
theorem tw10046608765382079845 : True := trivial
theorem tw7629531270084063719 : True := trivial
theorem tw9344572976502958463 : True := trivial
theorem tw15738199442630579847 : True := trivial
theorem tw7652748353187329316 : True := trivial
theorem tw10705865021920163536 : True := trivial
theorem tw16530687930661720938 : True := trivial
theorem tw2223842260052383192 : True := trivial
theorem tw4033033170409988950 : True := trivial
theorem tw9402064213314567563 : True := trivial
theorem tw11787764044789182479 : True := trivial
theorem tw3887129642977992304 : True := trivial
theorem tw16365006147621500007 : True := trivial
theorem tw12069607509513064622 : True := trivial
theorem tw1988098444418980919 : True := trivial
theorem tw12711420167415209689 : True := trivial
theorem tw8642440271184851775 : True := trivial
theorem tw86219416287043663 : True := trivial
theorem tw6178281595285437052 : True := trivial
theorem tw5206467015592942858 : True := trivial
theorem tw16262831209886674188 : True := trivial
theorem tw5847983922289739469 : True := trivial
theorem tw7076804517909084227 : True := trivial
theorem tw14991129586067048658 : True := trivial
theorem tw1427719524910170134 : True := trivial
theorem tw17517786214010761835 : True := trivial
theorem tw13203085781170515301 : True := trivial
theorem tw5952366102160736992 : True := trivial
theorem tw6051534346613063153 : True := trivial
theorem tw3195921523967517179 : True := trivial
theorem tw13179429719076237276 : True := trivial
theorem tw2970537546512581849 : True := trivial
theorem tw7542731064419525485 : True := trivial
theorem tw12966776400432767227 : True := trivial
theorem tw4658243996281490628 : True := trivial
theorem tw9069671504382926296 : True := trivial
theorem tw3400600963527787718 : True := trivial
theorem tw984512830741647183 : True := trivial
theorem tw2419105263434084644 : True := trivial
theorem tw3523560999410296525 : True := trivial
theorem tw18090517406634133842 : True := trivial
theorem tw5893680509796837006 : True := trivial
theorem tw8867521891711283965 : True := trivial
theorem tw2356248698720762313 : True := trivial
theorem tw942238245652524772 : True := trivial
theorem tw12003894558117350517 : True := trivial
theorem tw11397217898040592024 : True := trivial
theorem tw4012169338530901544 : True := trivial
theorem tw3526219276206171035 : True := trivial
theorem tw3276579733969978617 : True := trivial
theorem tw2537408222624500513 : True := trivial
theorem tw4258258953849873552 : True := trivial
theorem tw3657485410474156034 : True := trivial
theorem tw15241101267397573883 : True := trivial
theorem tw2316481174501075265 : True := trivial
theorem tw6076305274806789372 : True := trivial
theorem tw9965470210429658105 : True := trivial
theorem tw14320329745243025519 : True := trivial
theorem tw10158633430987161847 : True := trivial
theorem tw5559843973586485009 : True := trivial
theorem tw8789533524692296882 : True := trivial
theorem tw11998781772736739376 : True := trivial
theorem tw10245447722466912211 : True := trivial
theorem tw9214572590147383336 : True := trivial
theorem tw11706804746200700455 : True := trivial
theorem tw9558556321191773901 : True := trivial
theorem tw16212699963149454391 : True := trivial
theorem tw16130610634581907598 : True := trivial
theorem tw15737073481622464798 : True := trivial
theorem tw8976127315948246369 : True := trivial
theorem tw8550294050741984561 : True := trivial
theorem tw17930421728335185813 : True := trivial
theorem tw8689243813045513213 : True := trivial
end PySem.W.Fast
open PySem PySem.W PyProof.Rows
set_option maxRecDepth 100000 in
set_option maxHeartbeats 0 in
theorem PySem.Challenge.cw_tribunal_k24_whole_nothing_from_nothing_holds : PySem.Challenge.rw_tribunal_k24_whole_nothing_from_nothing.Holds := by
  w_on; o_law; k_head; (case hw => w_witness2)
  k_fill
  refine Toy.walk (l := PySem.Challenge.rw_tribunal_k24_whole_nothing_from_nothing) rfl rfl (fun w h Y => PySem.W.kIn_of Y) ?F
  case F =>
    intro w mg fa h KX G hmg
    refine' Toy.all_mk KX G hmg ?c_SIGNS ?c_DIGITS ?c_MOST_DIGITS ?c_CODE_END ?c_MODULUS ?c_MOST_VALUES ?c_MOST_STEPS ?c_MOST_MEMBERS ?c_MOST_WEIGHT ?n_len ?n_range ?n_isinstance ?n_int ?n_bool ?n_list ?n_tuple ?n_str ?n_dict ?n_sorted ?n_max ?n_abs ?n_all ?n_sum ?n_enumerate ?g_Reader ?g_Run ?g_Machine ?g_Ledger ?g_Committee ?g_Chain ?a_Reader_init ?i_Reader_init ?l_Reader_init ?q_Reader_init ?k_Reader_init ?a_Reader_read_signs ?i_Reader_read_signs ?l_Reader_read_signs ?q_Reader_read_signs ?k_Reader_read_signs ?a_Reader_skip ?i_Reader_skip ?l_Reader_skip ?q_Reader_skip ?k_Reader_skip ?a_Reader_read_number ?i_Reader_read_number ?l_Reader_read_number ?q_Reader_read_number ?k_Reader_read_number ?a_Reader_read_code ?i_Reader_read_code ?l_Reader_read_code ?q_Reader_read_code ?k_Reader_read_code ?a_Reader_read_command ?i_Reader_read_command ?l_Reader_read_command ?q_Reader_read_command ?k_Reader_read_command ?a_commands_of ?l_commands_of ?q_commands_of ?k_commands_of ?a_Run_init ?i_Run_init ?l_Run_init ?q_Run_init ?k_Run_init ?a_run ?l_run ?q_run ?k_run ?a_plus ?l_plus ?q_plus ?k_plus ?a_minus ?l_minus ?q_minus ?k_minus ?a_times ?l_times ?q_times ?k_times ?a_append_digit ?l_append_digit ?q_append_digit ?k_append_digit ?a_is_less ?l_is_less ?q_is_less ?k_is_less ?a_is_equal ?l_is_equal ?q_is_equal ?k_is_equal ?a_Machine_init ?i_Machine_init ?l_Machine_init ?q_Machine_init ?k_Machine_init ?a_Machine_push ?i_Machine_push ?l_Machine_push ?q_Machine_push ?k_Machine_push ?a_Machine_take ?i_Machine_take ?l_Machine_take ?q_Machine_take ?k_Machine_take ?a_Machine_push_number ?i_Machine_push_number ?l_Machine_push_number ?q_Machine_push_number ?k_Machine_push_number ?a_Machine_combine ?i_Machine_combine ?l_Machine_combine ?q_Machine_combine ?k_Machine_combine ?a_Machine_move ?i_Machine_move ?l_Machine_move ?q_Machine_move ?k_Machine_move ?a_Machine_jump ?i_Machine_jump ?l_Machine_jump ?q_Machine_jump ?k_Machine_jump ?a_Machine_settle ?i_Machine_settle ?l_Machine_settle ?q_Machine_settle ?k_Machine_settle ?a_Machine_perform ?i_Machine_perform ?l_Machine_perform ?q_Machine_perform ?k_Machine_perform ?a_Machine_finish ?i_Machine_finish ?l_Machine_finish ?q_Machine_finish ?k_Machine_finish ?a_Ledger_init ?i_Ledger_init ?l_Ledger_init ?q_Ledger_init ?k_Ledger_init ?a_first_ledger ?l_first_ledger ?q_first_ledger ?k_first_ledger ?a_after_command ?l_after_command ?q_after_command ?k_after_command ?a_done ?l_done ?q_done ?k_done ?a_payment ?l_payment ?q_payment ?k_payment ?a_new_program ?l_new_program ?q_new_program ?k_new_program ?a_call ?l_call ?q_call ?k_call ?a_exist ?l_exist ?q_exist ?k_exist ?a_moved ?l_moved ?q_moved ?k_moved ?a_replaced ?l_replaced ?q_replaced ?k_replaced ?a_first_wrong ?l_first_wrong ?q_first_wrong ?k_first_wrong ?a_Committee_init ?i_Committee_init ?l_Committee_init ?q_Committee_init ?k_Committee_init ?a_Chain_init ?i_Chain_init ?l_Chain_init ?q_Chain_init ?k_Chain_init ?a_Chain_committee ?i_Chain_committee ?l_Chain_committee ?q_Chain_committee ?k_Chain_committee ?a_Chain_extend ?i_Chain_extend ?l_Chain_extend ?q_Chain_extend ?k_Chain_extend ?a_after_weight ?l_after_weight ?q_after_weight ?k_after_weight ?a_law_cell ?l_law_cell ?q_law_cell ?k_law_cell ?a_law_is_integer ?l_law_is_integer ?q_law_is_integer ?k_law_is_integer ?a_law_row ?l_law_row ?q_law_row ?k_law_row ?a_law_number ?l_law_number ?q_law_number ?k_law_number ?a_law_code ?l_law_code ?q_law_code ?k_law_code ?a_law_place ?l_law_place ?q_law_place ?k_law_place ?a_law_command ?l_law_command ?q_law_command ?k_law_command ?a_law_text ?l_law_text ?q_law_text ?k_law_text ?a_law_fitting ?l_law_fitting ?q_law_fitting ?k_law_fitting ?a_law_paying ?l_law_paying ?q_law_paying ?k_law_paying ?a_law ?l_law ?q_law ?k_law ?pg_Reader ?hd_Reader ?po_Reader ?sa_Reader ?mk_Reader ?kc_Reader ?no_Reader_text ?no_Reader_at ?pg_Run ?hd_Run ?po_Run ?sa_Run ?mk_Run ?kc_Run ?no_Run_well ?no_Run_store ?no_Run_paid ?no_Run_steps ?pg_Machine ?hd_Machine ?po_Machine ?sa_Machine ?mk_Machine ?kc_Machine ?no_Machine_code ?no_Machine_given ?no_Machine_amount ?no_Machine_store ?no_Machine_stack ?no_Machine_place ?no_Machine_paid ?no_Machine_steps ?pg_Ledger ?hd_Ledger ?po_Ledger ?sa_Ledger ?mk_Ledger ?kc_Ledger ?no_Ledger_balances ?no_Ledger_codes ?no_Ledger_stores ?pg_Committee ?hd_Committee ?po_Committee ?sa_Committee ?mk_Committee ?kc_Committee ?no_Committee_weights ?no_Committee_size ?no_Committee_total ?pg_Chain ?hd_Chain ?po_Chain ?sa_Chain ?mk_Chain ?kc_Chain ?no_Chain_blocks ?no_Chain_receipts ?no_Chain_committees ?no_Chain_ledgers ?g_MARKS ?l_MARKS ?kl_MARKS ?lo_MARKS ?l_MARKS_p ?l_MARKS_w ?l_MARKS_d ?l_MARKS_k ?g_BadCommand ?x_BadCommand ?kc_BadCommand ?b_BadCommand ?t_BadCommand ?xga_BadCommand ?xgt_BadCommand ?xhd_BadCommand ?xcc_BadCommand ?xsp_BadCommand ?xtk_BadCommand ?xmo_BadCommand ?te1_BadCommand ?te2_BadCommand ?te3_BadCommand ?te4_BadCommand_BadCommand ?g_OF_TWO ?l_OF_TWO ?kl_OF_TWO ?lo_OF_TWO ?g_Failed ?x_Failed ?kc_Failed ?b_Failed ?t_Failed ?xga_Failed ?xgt_Failed ?xhd_Failed ?xcc_Failed ?xsp_Failed ?xtk_Failed ?xmo_Failed ?te1_Failed ?te2_Failed ?te3_Failed ?te4_Failed_Failed ?kt_Ledger_Ledger ?icc_Ledger ?isp_Ledger ?itk_Ledger ?imo_Ledger
    (case c_SIGNS => k_is)
    (case c_DIGITS => k_is)
    (case c_MOST_DIGITS => k_is)
    (case c_CODE_END => k_is)
    (case c_MODULUS => k_is)
    (case c_MOST_VALUES => k_is)
    (case c_MOST_STEPS => k_is)
    (case c_MOST_MEMBERS => k_is)
    (case c_MOST_WEIGHT => k_is)
    (case n_len => k_is)
    (case n_range => k_is)
    (case n_isinstance => k_is)
    (case n_int => k_is)
    (case n_bool => k_is)
    (case n_list => k_is)
    (case n_tuple => k_is)
    (case n_str => k_is)
    (case n_dict => k_is)
    (case n_sorted => k_is)
    (case n_max => k_is)
    (case n_abs => k_is)
    (case n_all => k_is)
    (case n_sum => k_is)
    (case n_enumerate => k_is)
    (case g_Reader => k_is)
    (case g_Run => k_is)
    (case g_Machine => k_is)
    (case g_Ledger => k_is)
    (case g_Committee => k_is)
    (case g_Chain => k_is)
    (case a_Reader_init => k_is)
    (case i_Reader_init => k_is)
    (case l_Reader_init => k_is)
    (case q_Reader_init => k_is)
    (case k_Reader_init => k_is)
    (case a_Reader_read_signs => k_is)
    (case i_Reader_read_signs => k_is)
    (case l_Reader_read_signs => k_is)
    (case q_Reader_read_signs => k_is)
    (case k_Reader_read_signs => k_is)
    (case a_Reader_skip => k_is)
    (case i_Reader_skip => k_is)
    (case l_Reader_skip => k_is)
    (case q_Reader_skip => k_is)
    (case k_Reader_skip => k_is)
    (case a_Reader_read_number => k_is)
    (case i_Reader_read_number => k_is)
    (case l_Reader_read_number => k_is)
    (case q_Reader_read_number => k_is)
    (case k_Reader_read_number => k_is)
    (case a_Reader_read_code => k_is)
    (case i_Reader_read_code => k_is)
    (case l_Reader_read_code => k_is)
    (case q_Reader_read_code => k_is)
    (case k_Reader_read_code => k_is)
    (case a_Reader_read_command => k_is)
    (case i_Reader_read_command => k_is)
    (case l_Reader_read_command => k_is)
    (case q_Reader_read_command => k_is)
    (case k_Reader_read_command => k_is)
    (case a_commands_of => k_is)
    (case l_commands_of => k_is)
    (case q_commands_of => k_is)
    (case k_commands_of => k_is)
    (case a_Run_init => k_is)
    (case i_Run_init => k_is)
    (case l_Run_init => k_is)
    (case q_Run_init => k_is)
    (case k_Run_init => k_is)
    (case a_run => k_is)
    (case l_run => k_is)
    (case q_run => k_is)
    (case k_run => k_is)
    (case a_plus => k_is)
    (case l_plus => k_is)
    (case q_plus => k_is)
    (case k_plus => k_is)
    (case a_minus => k_is)
    (case l_minus => k_is)
    (case q_minus => k_is)
    (case k_minus => k_is)
    (case a_times => k_is)
    (case l_times => k_is)
    (case q_times => k_is)
    (case k_times => k_is)
    (case a_append_digit => k_is)
    (case l_append_digit => k_is)
    (case q_append_digit => k_is)
    (case k_append_digit => k_is)
    (case a_is_less => k_is)
    (case l_is_less => k_is)
    (case q_is_less => k_is)
    (case k_is_less => k_is)
    (case a_is_equal => k_is)
    (case l_is_equal => k_is)
    (case q_is_equal => k_is)
    (case k_is_equal => k_is)
    (case a_Machine_init => k_is)
    (case i_Machine_init => k_is)
    (case l_Machine_init => k_is)
    (case q_Machine_init => k_is)
    (case k_Machine_init => k_is)
    (case a_Machine_push => k_is)
    (case i_Machine_push => k_is)
    (case l_Machine_push => k_is)
    (case q_Machine_push => k_is)
    (case k_Machine_push => k_is)
    (case a_Machine_take => k_is)
    (case i_Machine_take => k_is)
    (case l_Machine_take => k_is)
    (case q_Machine_take => k_is)
    (case k_Machine_take => k_is)
    (case a_Machine_push_number => k_is)
    (case i_Machine_push_number => k_is)
    (case l_Machine_push_number => k_is)
    (case q_Machine_push_number => k_is)
    (case k_Machine_push_number => k_is)
    (case a_Machine_combine => k_is)
    (case i_Machine_combine => k_is)
    (case l_Machine_combine => k_is)
    (case q_Machine_combine => k_is)
    (case k_Machine_combine => k_is)
    (case a_Machine_move => k_is)
    (case i_Machine_move => k_is)
    (case l_Machine_move => k_is)
    (case q_Machine_move => k_is)
    (case k_Machine_move => k_is)
    (case a_Machine_jump => k_is)
    (case i_Machine_jump => k_is)
    (case l_Machine_jump => k_is)
    (case q_Machine_jump => k_is)
    (case k_Machine_jump => k_is)
    (case a_Machine_settle => k_is)
    (case i_Machine_settle => k_is)
    (case l_Machine_settle => k_is)
    (case q_Machine_settle => k_is)
    (case k_Machine_settle => k_is)
    (case a_Machine_perform => k_is)
    (case i_Machine_perform => k_is)
    (case l_Machine_perform => k_is)
    (case q_Machine_perform => k_is)
    (case k_Machine_perform => k_is)
    (case a_Machine_finish => k_is)
    (case i_Machine_finish => k_is)
    (case l_Machine_finish => k_is)
    (case q_Machine_finish => k_is)
    (case k_Machine_finish => k_is)
    (case a_Ledger_init => k_is)
    (case i_Ledger_init => k_is)
    (case l_Ledger_init => k_is)
    (case q_Ledger_init => k_is)
    (case k_Ledger_init => k_is)
    (case a_first_ledger => k_is)
    (case l_first_ledger => k_is)
    (case q_first_ledger => k_is)
    (case k_first_ledger => k_is)
    (case a_after_command => k_is)
    (case l_after_command => k_is)
    (case q_after_command => k_is)
    (case k_after_command => k_is)
    (case a_done => k_is)
    (case l_done => k_is)
    (case q_done => k_is)
    (case k_done => k_is)
    (case a_payment => k_is)
    (case l_payment => k_is)
    (case q_payment => k_is)
    (case k_payment => k_is)
    (case a_new_program => k_is)
    (case l_new_program => k_is)
    (case q_new_program => k_is)
    (case k_new_program => k_is)
    (case a_call => k_is)
    (case l_call => k_is)
    (case q_call => k_is)
    (case k_call => k_is)
    (case a_exist => k_is)
    (case l_exist => k_is)
    (case q_exist => k_is)
    (case k_exist => k_is)
    (case a_moved => k_is)
    (case l_moved => k_is)
    (case q_moved => k_is)
    (case k_moved => k_is)
    (case a_replaced => k_is)
    (case l_replaced => k_is)
    (case q_replaced => k_is)
    (case k_replaced => k_is)
    (case a_first_wrong => k_is)
    (case l_first_wrong => k_is)
    (case q_first_wrong => k_is)
    (case k_first_wrong => k_is)
    (case a_Committee_init => k_is)
    (case i_Committee_init => k_is)
    (case l_Committee_init => k_is)
    (case q_Committee_init => k_is)
    (case k_Committee_init => k_is)
    (case a_Chain_init => k_is)
    (case i_Chain_init => k_is)
    (case l_Chain_init => k_is)
    (case q_Chain_init => k_is)
    (case k_Chain_init => k_is)
    (case a_Chain_committee => k_is)
    (case i_Chain_committee => k_is)
    (case l_Chain_committee => k_is)
    (case q_Chain_committee => k_is)
    (case k_Chain_committee => k_is)
    (case a_Chain_extend => k_is)
    (case i_Chain_extend => k_is)
    (case l_Chain_extend => k_is)
    (case q_Chain_extend => k_is)
    (case k_Chain_extend => k_is)
    (case a_after_weight => k_is)
    (case l_after_weight => k_is)
    (case q_after_weight => k_is)
    (case k_after_weight => k_is)
    (case a_law_cell => k_is)
    (case l_law_cell => k_is)
    (case q_law_cell => k_is)
    (case k_law_cell => k_is)
    (case a_law_is_integer => k_is)
    (case l_law_is_integer => k_is)
    (case q_law_is_integer => k_is)
    (case k_law_is_integer => k_is)
    (case a_law_row => k_is)
    (case l_law_row => k_is)
    (case q_law_row => k_is)
    (case k_law_row => k_is)
    (case a_law_number => k_is)
    (case l_law_number => k_is)
    (case q_law_number => k_is)
    (case k_law_number => k_is)
    (case a_law_code => k_is)
    (case l_law_code => k_is)
    (case q_law_code => k_is)
    (case k_law_code => k_is)
    (case a_law_place => k_is)
    (case l_law_place => k_is)
    (case q_law_place => k_is)
    (case k_law_place => k_is)
    (case a_law_command => k_is)
    (case l_law_command => k_is)
    (case q_law_command => k_is)
    (case k_law_command => k_is)
    (case a_law_text => k_is)
    (case l_law_text => k_is)
    (case q_law_text => k_is)
    (case k_law_text => k_is)
    (case a_law_fitting => k_is)
    (case l_law_fitting => k_is)
    (case q_law_fitting => k_is)
    (case k_law_fitting => k_is)
    (case a_law_paying => k_is)
    (case l_law_paying => k_is)
    (case q_law_paying => k_is)
    (case k_law_paying => k_is)
    (case a_law => k_is)
    (case l_law => k_is)
    (case q_law => k_is)
    (case k_law => k_is)
    (case pg_Reader => k_is)
    (case hd_Reader => k_is)
    (case po_Reader => k_is)
    (case sa_Reader => k_is)
    (case mk_Reader => k_is)
    (case kc_Reader => k_is)
    (case no_Reader_text => k_is)
    (case no_Reader_at => k_is)
    (case pg_Run => k_is)
    (case hd_Run => k_is)
    (case po_Run => k_is)
    (case sa_Run => k_is)
    (case mk_Run => k_is)
    (case kc_Run => k_is)
    (case no_Run_well => k_is)
    (case no_Run_store => k_is)
    (case no_Run_paid => k_is)
    (case no_Run_steps => k_is)
    (case pg_Machine => k_is)
    (case hd_Machine => k_is)
    (case po_Machine => k_is)
    (case sa_Machine => k_is)
    (case mk_Machine => k_is)
    (case kc_Machine => k_is)
    (case no_Machine_code => k_is)
    (case no_Machine_given => k_is)
    (case no_Machine_amount => k_is)
    (case no_Machine_store => k_is)
    (case no_Machine_stack => k_is)
    (case no_Machine_place => k_is)
    (case no_Machine_paid => k_is)
    (case no_Machine_steps => k_is)
    (case pg_Ledger => k_is)
    (case hd_Ledger => k_is)
    (case po_Ledger => k_is)
    (case sa_Ledger => k_is)
    (case mk_Ledger => k_is)
    (case kc_Ledger => k_is)
    (case no_Ledger_balances => k_is)
    (case no_Ledger_codes => k_is)
    (case no_Ledger_stores => k_is)
    (case pg_Committee => k_is)
    (case hd_Committee => k_is)
    (case po_Committee => k_is)
    (case sa_Committee => k_is)
    (case mk_Committee => k_is)
    (case kc_Committee => k_is)
    (case no_Committee_weights => k_is)
    (case no_Committee_size => k_is)
    (case no_Committee_total => k_is)
    (case pg_Chain => k_is)
    (case hd_Chain => k_is)
    (case po_Chain => k_is)
    (case sa_Chain => k_is)
    (case mk_Chain => k_is)
    (case kc_Chain => k_is)
    (case no_Chain_blocks => k_is)
    (case no_Chain_receipts => k_is)
    (case no_Chain_committees => k_is)
    (case no_Chain_ledgers => k_is)
    (case g_MARKS => k_is)
    (case l_MARKS => k_is)
    (case kl_MARKS => exact ⟨⟨_, _, rfl, rfl⟩, ⟨_, _, rfl, rfl⟩, ⟨_, _, rfl, rfl⟩, ⟨_, _, rfl, rfl⟩, trivial⟩)
    (case lo_MARKS => exact rfl)
    (case l_MARKS_p => k_is)
    (case l_MARKS_w => k_is)
    (case l_MARKS_d => k_is)
    (case l_MARKS_k => k_is)
    (case g_BadCommand => k_is)
    (case x_BadCommand => k_exc)
    (case kc_BadCommand => k_is)
    (case b_BadCommand => k_is)
    (case t_BadCommand => k_is)
    (case xga_BadCommand => k_is)
    (case xgt_BadCommand => k_is)
    (case xhd_BadCommand => k_is)
    (case xcc_BadCommand => k_is)
    (case xsp_BadCommand => k_is)
    (case xtk_BadCommand => k_is)
    (case xmo_BadCommand => k_is)
    (case te1_BadCommand => k_is)
    (case te2_BadCommand => k_is)
    (case te3_BadCommand => k_is)
    (case te4_BadCommand_BadCommand => k_is)
    (case g_OF_TWO => k_is)
    (case l_OF_TWO => k_is)
    (case kl_OF_TWO => exact ⟨⟨_, _, rfl, rfl⟩, ⟨_, _, rfl, rfl⟩, ⟨_, _, rfl, rfl⟩, ⟨_, _, rfl, rfl⟩, ⟨_, _, rfl, rfl⟩, ⟨_, _, rfl, rfl⟩, trivial⟩)
    (case lo_OF_TWO => exact rfl)
    (case g_Failed => k_is)
    (case x_Failed => k_exc)
    (case kc_Failed => k_is)
    (case b_Failed => k_is)
    (case t_Failed => k_is)
    (case xga_Failed => k_is)
    (case xgt_Failed => k_is)
    (case xhd_Failed => k_is)
    (case xcc_Failed => k_is)
    (case xsp_Failed => k_is)
    (case xtk_Failed => k_is)
    (case xmo_Failed => k_is)
    (case te1_Failed => k_is)
    (case te2_Failed => k_is)
    (case te3_Failed => k_is)
    (case te4_Failed_Failed => k_is)
    (case kt_Ledger_Ledger => kit_is)
    (case icc_Ledger => k_is)
    (case isp_Ledger => k_is)
    (case itk_Ledger => k_is)
    (case imo_Ledger => k_is)
