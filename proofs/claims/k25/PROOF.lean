import PyProof.Rows.All
import Wide.All
import OpenK.AllK
import Wide.FinOn
import HandS.ForMost
import HandS.IsInst
import HandS.TupLe
import HandS.Codes
import HandS.More
import HandS.Exc
import HandS.ExcOwn
import HandS.WordsExc
import HandS.ExcIs
import KE.KExcIs
import HandS.FStr
import HandS.Zip
import HandS.Star
import HandS.StrMore
import HandS.Text
import HandS.Walk
import HandS.Deep
import HandS.TryOnly
import KE.IntTextText
import KE.KUnpackStar
import KE.IntTextLaws
import KE.GoesMore
import KE.GoesEnum
import HandS.TupAny
import HandS.SetKeys
import HandS.SortKw
import KE.KMinBuiltin
import KE.KTupSum
import HandS.TupMul
import HandS.DictComp
import HandS.Dict
import HandS.Iter
import HandS.Replace
import HandS.HotCalls
import HandS.ExcInitHot
import PyProof.EqAt
import PyProof.EqKinds
import PyProof.Rows.SortShellAny
import HandS.ListItems
import HandS.OwnEq
import KE.KDictPairs
import PyProof.TupleOfGen
import HandS.NoneIn
import PySem.Challenge.RW_tribunal_k25_chains_of_blocks
set_option Elab.async false
set_option pp.maxSteps 300
set_option pp.deepTerms.threshold 6
set_option linter.all false
set_option maxRecDepth 100000
set_option maxHeartbeats 4000000
namespace Toy
open PySem L2
def top (i : Nat) : Stmt := PySem.Challenge.pw_tribunal_k25_chains_of_blocks.main.body.getD i (.Pass ⟨0, 0, 0, 0⟩)
abbrev s_Reader_init : Stmt := (inClass (top 27) 0)
abbrev s_Reader_read_signs : Stmt := (inClass (top 27) 5)
abbrev s_Reader_skip : Stmt := (inClass (top 27) 2)
abbrev s_Reader_read_number : Stmt := (inClass (top 27) 3)
abbrev s_Reader_read_code : Stmt := (inClass (top 27) 4)
abbrev s_Reader_read_command : Stmt := (inClass (top 27) 1)
abbrev s_commands_of : Stmt := (top 26)
abbrev s_Run_init : Stmt := (inClass (top 12) 0)
abbrev s_run : Stmt := (top 13)
abbrev s_plus : Stmt := (top 14)
abbrev s_minus : Stmt := (top 15)
abbrev s_times : Stmt := (top 16)
abbrev s_append_digit : Stmt := (top 17)
abbrev s_is_less : Stmt := (top 18)
abbrev s_is_equal : Stmt := (top 19)
abbrev s_Machine_init : Stmt := (inClass (top 21) 0)
abbrev s_Machine_push : Stmt := (inClass (top 21) 3)
abbrev s_Machine_take : Stmt := (inClass (top 21) 4)
abbrev s_Machine_push_number : Stmt := (inClass (top 21) 5)
abbrev s_Machine_combine : Stmt := (inClass (top 21) 6)
abbrev s_Machine_move : Stmt := (inClass (top 21) 7)
abbrev s_Machine_jump : Stmt := (inClass (top 21) 8)
abbrev s_Machine_settle : Stmt := (inClass (top 21) 9)
abbrev s_Machine_perform : Stmt := (inClass (top 21) 2)
abbrev s_Machine_finish : Stmt := (inClass (top 21) 1)
abbrev s_Ledger_init : Stmt := (inClass (top 34) 0)
abbrev s_first_ledger : Stmt := (top 35)
abbrev s_after_command : Stmt := (top 36)
abbrev s_done : Stmt := (top 37)
abbrev s_payment : Stmt := (top 38)
abbrev s_new_program : Stmt := (top 39)
abbrev s_call : Stmt := (top 40)
abbrev s_exist : Stmt := (top 41)
abbrev s_moved : Stmt := (top 42)
abbrev s_replaced : Stmt := (top 43)
abbrev s_first_wrong : Stmt := (top 32)
abbrev s_Committee_init : Stmt := (inClass (top 31) 0)
abbrev s_Chain_init : Stmt := (inClass (top 45) 0)
abbrev s_Chain_height : Stmt := (inClass (top 45) 1)
abbrev s_Chain_committee : Stmt := (inClass (top 45) 2)
abbrev s_Chain_extend : Stmt := (inClass (top 45) 3)
abbrev s_after_weight : Stmt := (top 46)
abbrev s_law_cell : Stmt := (top 48)
abbrev s_law_is_integer : Stmt := (top 49)
abbrev s_law_row : Stmt := (top 50)
abbrev s_law_weights : Stmt := (top 51)
abbrev s_law_number : Stmt := (top 53)
abbrev s_law_code : Stmt := (top 54)
abbrev s_law_place : Stmt := (top 55)
abbrev s_law_command : Stmt := (top 56)
abbrev s_law_text : Stmt := (top 57)
abbrev s_law_fitting : Stmt := (top 58)
abbrev s_law_reckon : Stmt := (top 59)
abbrev s_law_need : Stmt := (top 60)
abbrev s_law_act : Stmt := (top 61)
abbrev s_law_sign : Stmt := (top 62)
abbrev s_law_run : Stmt := (top 63)
abbrev s_law_after : Stmt := (top 64)
abbrev s_law_pairs : Stmt := (top 65)
abbrev s_law_shows : Stmt := (top 66)
abbrev s_law_block : Stmt := (top 67)
abbrev s_law : Stmt := (top 68)
abbrev sc_Reader_init_N : List Str := ["self", "text"]
theorem sc_Reader_init : FnScope sc_Reader_init_N ["self", "text"] (defScope s_Reader_init) := ⟨rfl, rfl, rfl, by decide +kernel, rfl, by decide +kernel, by decide +kernel⟩
abbrev sc_Reader_read_signs_N : List Str := ["self", "allowed", "begin"]
theorem sc_Reader_read_signs : FnScope sc_Reader_read_signs_N ["self", "allowed"] (defScope s_Reader_read_signs) := ⟨rfl, rfl, rfl, by decide +kernel, rfl, by decide +kernel, by decide +kernel⟩
abbrev sc_Reader_skip_N : List Str := ["self", "mark"]
theorem sc_Reader_skip : FnScope sc_Reader_skip_N ["self", "mark"] (defScope s_Reader_skip) := ⟨rfl, rfl, rfl, by decide +kernel, rfl, by decide +kernel, by decide +kernel⟩
abbrev sc_Reader_read_number_N : List Str := ["self", "digits"]
theorem sc_Reader_read_number : FnScope sc_Reader_read_number_N ["self"] (defScope s_Reader_read_number) := ⟨rfl, rfl, rfl, by decide +kernel, rfl, by decide +kernel, by decide +kernel⟩
abbrev sc_Reader_read_code_N : List Str := ["self", "code"]
theorem sc_Reader_read_code : FnScope sc_Reader_read_code_N ["self"] (defScope s_Reader_read_code) := ⟨rfl, rfl, rfl, by decide +kernel, rfl, by decide +kernel, by decide +kernel⟩
abbrev sc_Reader_read_command_N : List Str := ["self", "kind", "parts", "mark", "part"]
theorem sc_Reader_read_command : FnScope sc_Reader_read_command_N ["self"] (defScope s_Reader_read_command) := ⟨rfl, rfl, rfl, by decide +kernel, rfl, by decide +kernel, by decide +kernel⟩
abbrev sc_commands_of_N : List Str := ["block", "reader", "found"]
theorem sc_commands_of : FnScope sc_commands_of_N ["block"] (defScope s_commands_of) := ⟨rfl, rfl, rfl, by decide +kernel, rfl, by decide +kernel, by decide +kernel⟩
abbrev sc_Run_init_N : List Str := ["self", "well", "store", "paid", "steps"]
theorem sc_Run_init : FnScope sc_Run_init_N ["self", "well", "store", "paid", "steps"] (defScope s_Run_init) := ⟨rfl, rfl, rfl, by decide +kernel, rfl, by decide +kernel, by decide +kernel⟩
abbrev sc_run_N : List Str := ["code", "given", "amount", "store", "machine", "kept", "key"]
theorem sc_run : FnScope sc_run_N ["code", "given", "amount", "store"] (defScope s_run) := ⟨rfl, rfl, rfl, by decide +kernel, rfl, by decide +kernel, by decide +kernel⟩
abbrev sc_plus_N : List Str := ["left", "right"]
theorem sc_plus : FnScope sc_plus_N ["left", "right"] (defScope s_plus) := ⟨rfl, rfl, rfl, by decide +kernel, rfl, by decide +kernel, by decide +kernel⟩
abbrev sc_minus_N : List Str := ["left", "right"]
theorem sc_minus : FnScope sc_minus_N ["left", "right"] (defScope s_minus) := ⟨rfl, rfl, rfl, by decide +kernel, rfl, by decide +kernel, by decide +kernel⟩
abbrev sc_times_N : List Str := ["left", "right"]
theorem sc_times : FnScope sc_times_N ["left", "right"] (defScope s_times) := ⟨rfl, rfl, rfl, by decide +kernel, rfl, by decide +kernel, by decide +kernel⟩
abbrev sc_append_digit_N : List Str := ["left", "right"]
theorem sc_append_digit : FnScope sc_append_digit_N ["left", "right"] (defScope s_append_digit) := ⟨rfl, rfl, rfl, by decide +kernel, rfl, by decide +kernel, by decide +kernel⟩
abbrev sc_is_less_N : List Str := ["left", "right"]
theorem sc_is_less : FnScope sc_is_less_N ["left", "right"] (defScope s_is_less) := ⟨rfl, rfl, rfl, by decide +kernel, rfl, by decide +kernel, by decide +kernel⟩
abbrev sc_is_equal_N : List Str := ["left", "right"]
theorem sc_is_equal : FnScope sc_is_equal_N ["left", "right"] (defScope s_is_equal) := ⟨rfl, rfl, rfl, by decide +kernel, rfl, by decide +kernel, by decide +kernel⟩
abbrev sc_Machine_init_N : List Str := ["self", "code", "given", "amount", "store"]
theorem sc_Machine_init : FnScope sc_Machine_init_N ["self", "code", "given", "amount", "store"] (defScope s_Machine_init) := ⟨rfl, rfl, rfl, by decide +kernel, rfl, by decide +kernel, by decide +kernel⟩
abbrev sc_Machine_push_N : List Str := ["self", "value"]
theorem sc_Machine_push : FnScope sc_Machine_push_N ["self", "value"] (defScope s_Machine_push) := ⟨rfl, rfl, rfl, by decide +kernel, rfl, by decide +kernel, by decide +kernel⟩
abbrev sc_Machine_take_N : List Str := ["self"]
theorem sc_Machine_take : FnScope sc_Machine_take_N ["self"] (defScope s_Machine_take) := ⟨rfl, rfl, rfl, by decide +kernel, rfl, by decide +kernel, by decide +kernel⟩
abbrev sc_Machine_push_number_N : List Str := ["self", "sign"]
theorem sc_Machine_push_number : FnScope sc_Machine_push_number_N ["self", "sign"] (defScope s_Machine_push_number) := ⟨rfl, rfl, rfl, by decide +kernel, rfl, by decide +kernel, by decide +kernel⟩
abbrev sc_Machine_combine_N : List Str := ["self", "sign", "work", "right", "left"]
theorem sc_Machine_combine : FnScope sc_Machine_combine_N ["self", "sign"] (defScope s_Machine_combine) := ⟨rfl, rfl, rfl, by decide +kernel, rfl, by decide +kernel, by decide +kernel⟩
abbrev sc_Machine_move_N : List Str := ["self", "sign", "top"]
theorem sc_Machine_move : FnScope sc_Machine_move_N ["self", "sign"] (defScope s_Machine_move) := ⟨rfl, rfl, rfl, by decide +kernel, rfl, by decide +kernel, by decide +kernel⟩
abbrev sc_Machine_jump_N : List Str := ["self", "sign", "place"]
theorem sc_Machine_jump : FnScope sc_Machine_jump_N ["self", "sign"] (defScope s_Machine_jump) := ⟨rfl, rfl, rfl, by decide +kernel, rfl, by decide +kernel, by decide +kernel⟩
abbrev sc_Machine_settle_N : List Str := ["self", "sign", "top"]
theorem sc_Machine_settle : FnScope sc_Machine_settle_N ["self", "sign"] (defScope s_Machine_settle) := ⟨rfl, rfl, rfl, by decide +kernel, rfl, by decide +kernel, by decide +kernel⟩
abbrev sc_Machine_perform_N : List Str := ["self", "sign"]
theorem sc_Machine_perform : FnScope sc_Machine_perform_N ["self", "sign"] (defScope s_Machine_perform) := ⟨rfl, rfl, rfl, by decide +kernel, rfl, by decide +kernel, by decide +kernel⟩
abbrev sc_Machine_finish_N : List Str := ["self", "sign"]
theorem sc_Machine_finish : FnScope sc_Machine_finish_N ["self"] (defScope s_Machine_finish) := ⟨rfl, rfl, rfl, by decide +kernel, rfl, by decide +kernel, by decide +kernel⟩
abbrev sc_Ledger_init_N : List Str := ["self", "balances", "codes", "stores"]
theorem sc_Ledger_init : FnScope sc_Ledger_init_N ["self", "balances", "codes", "stores"] (defScope s_Ledger_init) := ⟨rfl, rfl, rfl, by decide +kernel, rfl, by decide +kernel, by decide +kernel⟩
abbrev sc_first_ledger_N : List Str := ["grants", "balances"]
theorem sc_first_ledger : FnScope sc_first_ledger_N ["grants"] (defScope s_first_ledger) := ⟨rfl, rfl, rfl, by decide +kernel, rfl, by decide +kernel, by decide +kernel⟩
abbrev sc_after_command_N : List Str := ["ledger", "command", "after"]
theorem sc_after_command : FnScope sc_after_command_N ["ledger", "command"] (defScope s_after_command) := ⟨rfl, rfl, rfl, by decide +kernel, rfl, by decide +kernel, by decide +kernel⟩
abbrev sc_done_N : List Str := ["ledger", "command", "kind", "parts", "payer", "payee", "amount", "account", "code", "caller", "callee", "given"]
theorem sc_done : FnScope sc_done_N ["ledger", "command"] (defScope s_done) := ⟨rfl, rfl, rfl, by decide +kernel, rfl, by decide +kernel, by decide +kernel⟩
abbrev sc_payment_N : List Str := ["ledger", "payer", "payee", "amount"]
theorem sc_payment : FnScope sc_payment_N ["ledger", "payer", "payee", "amount"] (defScope s_payment) := ⟨rfl, rfl, rfl, by decide +kernel, rfl, by decide +kernel, by decide +kernel⟩
abbrev sc_new_program_N : List Str := ["ledger", "account", "code", "codes"]
theorem sc_new_program : FnScope sc_new_program_N ["ledger", "account", "code"] (defScope s_new_program) := ⟨rfl, rfl, rfl, by decide +kernel, rfl, by decide +kernel, by decide +kernel⟩
abbrev sc_call_N : List Str := ["ledger", "caller", "callee", "given", "balance", "ran", "stores"]
theorem sc_call : FnScope sc_call_N ["ledger", "caller", "callee", "given"] (defScope s_call) := ⟨rfl, rfl, rfl, by decide +kernel, rfl, by decide +kernel, by decide +kernel⟩
abbrev sc_exist_N : List Str := ["ledger", "accounts", "account"]
theorem sc_exist : FnScope sc_exist_N ["ledger", "accounts"] (defScope s_exist) := ⟨rfl, rfl, rfl, by decide +kernel, rfl, by decide +kernel, by decide +kernel⟩
abbrev sc_moved_N : List Str := ["balances", "payer", "payee", "amount", "after"]
theorem sc_moved : FnScope sc_moved_N ["balances", "payer", "payee", "amount"] (defScope s_moved) := ⟨rfl, rfl, rfl, by decide +kernel, rfl, by decide +kernel, by decide +kernel⟩
abbrev sc_replaced_N : List Str := ["parts", "at", "part"]
theorem sc_replaced : FnScope sc_replaced_N ["parts", "at", "part"] (defScope s_replaced) := ⟨rfl, rfl, rfl, by decide +kernel, rfl, by decide +kernel, by decide +kernel⟩
abbrev sc_first_wrong_N : List Str := ["weights", "at", "weight"]
theorem sc_first_wrong : FnScope sc_first_wrong_N ["weights"] (defScope s_first_wrong) := ⟨rfl, rfl, rfl, by decide +kernel, rfl, by decide +kernel, by decide +kernel⟩
abbrev sc_Committee_init_N : List Str := ["self", "weights", "wrong"]
theorem sc_Committee_init : FnScope sc_Committee_init_N ["self", "weights"] (defScope s_Committee_init) := ⟨rfl, rfl, rfl, by decide +kernel, rfl, by decide +kernel, by decide +kernel⟩
abbrev sc_Chain_init_N : List Str := ["self", "weights", "grants"]
theorem sc_Chain_init : FnScope sc_Chain_init_N ["self", "weights", "grants"] (defScope s_Chain_init) := ⟨rfl, rfl, rfl, by decide +kernel, rfl, by decide +kernel, by decide +kernel⟩
abbrev sc_Chain_height_N : List Str := ["self"]
theorem sc_Chain_height : FnScope sc_Chain_height_N ["self"] (defScope s_Chain_height) := ⟨rfl, rfl, rfl, by decide +kernel, rfl, by decide +kernel, by decide +kernel⟩
abbrev sc_Chain_committee_N : List Str := ["self"]
theorem sc_Chain_committee : FnScope sc_Chain_committee_N ["self"] (defScope s_Chain_committee) := ⟨rfl, rfl, rfl, by decide +kernel, rfl, by decide +kernel, by decide +kernel⟩
abbrev sc_Chain_extend_N : List Str := ["self", "block", "weights", "ledger", "receipts", "command", "done"]
theorem sc_Chain_extend : FnScope sc_Chain_extend_N ["self", "block"] (defScope s_Chain_extend) := ⟨rfl, rfl, rfl, by decide +kernel, rfl, by decide +kernel, by decide +kernel⟩
abbrev sc_after_weight_N : List Str := ["weights", "command", "_", "member", "weight"]
theorem sc_after_weight : FnScope sc_after_weight_N ["weights", "command"] (defScope s_after_weight) := ⟨rfl, rfl, rfl, by decide +kernel, rfl, by decide +kernel, by decide +kernel⟩
abbrev sc_law_cell_N : List Str := ["script", "k"]
theorem sc_law_cell : FnScope sc_law_cell_N ["script", "k"] (defScope s_law_cell) := ⟨rfl, rfl, rfl, by decide +kernel, rfl, by decide +kernel, by decide +kernel⟩
abbrev sc_law_is_integer_N : List Str := ["actual"]
theorem sc_law_is_integer : FnScope sc_law_is_integer_N ["actual"] (defScope s_law_is_integer) := ⟨rfl, rfl, rfl, by decide +kernel, rfl, by decide +kernel, by decide +kernel⟩
abbrev sc_law_row_N : List Str := ["cell", "count", "size", "state", "row", "k"]
theorem sc_law_row : FnScope sc_law_row_N ["cell", "count", "size"] (defScope s_law_row) := ⟨rfl, rfl, rfl, by decide +kernel, rfl, by decide +kernel, by decide +kernel⟩
abbrev sc_law_weights_N : List Str := ["cell", "most", "count", "value"]
theorem sc_law_weights : FnScope sc_law_weights_N ["cell", "most"] (defScope s_law_weights) := ⟨rfl, rfl, rfl, by decide +kernel, rfl, by decide +kernel, by decide +kernel⟩
abbrev sc_law_number_N : List Str := ["cell"]
theorem sc_law_number : FnScope sc_law_number_N ["cell"] (defScope s_law_number) := ⟨rfl, rfl, rfl, by decide +kernel, rfl, by decide +kernel, by decide +kernel⟩
abbrev sc_law_code_N : List Str := ["cell", "signs", "digits", "digit"]
theorem sc_law_code : FnScope sc_law_code_N ["cell"] (defScope s_law_code) := ⟨rfl, rfl, rfl, by decide +kernel, rfl, by decide +kernel, by decide +kernel⟩
abbrev sc_law_place_N : List Str := ["cell"]
theorem sc_law_place : FnScope sc_law_place_N ["cell"] (defScope s_law_place) := ⟨rfl, rfl, rfl, by decide +kernel, rfl, by decide +kernel, by decide +kernel⟩
abbrev sc_law_command_N : List Str := ["cell", "more", "one"]
theorem sc_law_command : FnScope sc_law_command_N ["cell", "more"] (defScope s_law_command) := ⟨rfl, rfl, rfl, by decide +kernel, rfl, by decide +kernel, by decide +kernel⟩
abbrev sc_law_text_N : List Str := ["command"]
theorem sc_law_text : FnScope sc_law_text_N ["command"] (defScope s_law_text) := ⟨rfl, rfl, rfl, by decide +kernel, rfl, by decide +kernel, by decide +kernel⟩
abbrev sc_law_fitting_N : List Str := ["commands", "text", "taken", "command"]
theorem sc_law_fitting : FnScope sc_law_fitting_N ["commands"] (defScope s_law_fitting) := ⟨rfl, rfl, rfl, by decide +kernel, rfl, by decide +kernel, by decide +kernel⟩
abbrev sc_law_reckon_N : List Str := ["sign", "left", "right"]
theorem sc_law_reckon : FnScope sc_law_reckon_N ["sign", "left", "right"] (defScope s_law_reckon) := ⟨rfl, rfl, rfl, by decide +kernel, rfl, by decide +kernel, by decide +kernel⟩
abbrev sc_law_need_N : List Str := ["sign"]
theorem sc_law_need : FnScope sc_law_need_N ["sign"] (defScope s_law_need) := ⟨rfl, rfl, rfl, by decide +kernel, rfl, by decide +kernel, by decide +kernel⟩
abbrev sc_law_act_N : List Str := ["sign", "top", "stack", "store", "state"]
theorem sc_law_act : FnScope sc_law_act_N ["sign", "top", "stack", "store", "state"] (defScope s_law_act) := ⟨rfl, rfl, rfl, by decide +kernel, rfl, by decide +kernel, by decide +kernel⟩
abbrev sc_law_sign_N : List Str := ["sign", "given", "amount", "stack", "store", "state", "top", "left"]
theorem sc_law_sign : FnScope sc_law_sign_N ["sign", "given", "amount", "stack", "store", "state"] (defScope s_law_sign) := ⟨rfl, rfl, rfl, by decide +kernel, rfl, by decide +kernel, by decide +kernel⟩
abbrev sc_law_run_N : List Str := ["code", "given", "amount", "store", "stack", "kept", "state", "steps", "k", "left", "key", "sign"]
theorem sc_law_run : FnScope sc_law_run_N ["code", "given", "amount", "store"] (defScope s_law_run) := ⟨rfl, rfl, rfl, by decide +kernel, rfl, by decide +kernel, by decide +kernel⟩
abbrev sc_law_after_N : List Str := ["state", "command", "balances", "codes", "stores", "count", "callee", "run_v"]
theorem sc_law_after : FnScope sc_law_after_N ["state", "command"] (defScope s_law_after) := ⟨rfl, rfl, rfl, by decide +kernel, rfl, by decide +kernel, by decide +kernel⟩
abbrev sc_law_pairs_N : List Str := ["store", "key"]
theorem sc_law_pairs : FnScope sc_law_pairs_N ["store"] (defScope s_law_pairs) := ⟨rfl, rfl, rfl, by decide +kernel, rfl, by decide +kernel, by decide +kernel⟩
abbrev sc_law_shows_N : List Str := ["ledger", "state", "store"]
theorem sc_law_shows : FnScope sc_law_shows_N ["ledger", "state"] (defScope s_law_shows) := ⟨rfl, rfl, rfl, by decide +kernel, rfl, by decide +kernel, by decide +kernel⟩
abbrev sc_law_block_N : List Str := ["weights", "state", "commands", "receipts", "command", "done", "after"]
theorem sc_law_block : FnScope sc_law_block_N ["weights", "state", "commands"] (defScope s_law_block) := ⟨rfl, rfl, rfl, by decide +kernel, rfl, by decide +kernel, by decide +kernel⟩
abbrev sc_law_N : List Str := ["script", "weights", "grants", "chain", "rows", "blocks", "k", "cells", "drawn", "fitting", "block", "commands", "value", "grant", "at", "receipt"]
theorem sc_law : FnScope sc_law_N ["script"] (defScope s_law) := ⟨rfl, rfl, rfl, by decide +kernel, rfl, by decide +kernel, by decide +kernel⟩
/-! ### what stands where -/
structure DefAt (K : PySem.W.Frag) (mg : Str → Option Value) (x : Str) (st : Stmt) (ps : List Str) (f : Addr) : Prop where
  F : ∃ fd, Fun K x x st f fd ∧ Binds K fd ps []
  g : mg x = some (.ref f)
  kp : PySem.W.keepIn K (.ref f) = true
structure MethAt (K : PySem.W.Frag) (C : Addr) (x qual : Str) (st : Stmt) (ps : List Str) (f : Addr) : Prop where
  F : ∃ fd, Fun K x qual st f fd ∧ Binds K fd ps []
  fi : PySem.W.findIn K (.ref C) x = some (some (.ref f))
  isf : PySem.W.isFn K (.ref f) = true
  kp : PySem.W.keepIn K (.ref f) = true
theorem def_mk {K : PySem.W.Frag} {x qual : Str} {st : Stmt} {f : Addr} {ps : List Str} {oc : Value} {od an : Option Addr} {osl : Array (Option Value)} {kV doc pm cdv ct : Value}
    (l : K.lookup f = some ⟨oc, od, .func (PySem.W.fnOf x qual (defArgs st) (defBody st) (defScope st) .none kV doc pm an cdv ct), osl⟩)
    (c : PySem.W.codeIn K cdv qual = true) (k : PySem.W.keepIn K (.ref f) = true)
    (h : ∀ (kV doc pm : Value) (an : Option Addr) (cdv ct : Value) (us : List Value), us.length = ps.length → bindArgs (PySem.W.fnOf x qual (defArgs st) (defBody st) (defScope st) .none kV doc pm an cdv ct) ⟨us, []⟩ = pure (ps.zip us)) :
    ∃ fd, Fun K x qual st f fd ∧ Binds K fd ps [] := by
  have F := fun_mk (st := st) l c k
  exact ⟨_, F, F.binds h⟩
theorem mg_no {K : PySem.W.Frag} {h : Heap} {mg : Str → Option Value} {n : Str} (X : K.In h) (G : h.Ns mainGlobals mg) (e : PySem.W.nsIn K mainGlobals n = some none) : mg n = none := PySem.W.mg_none_of X G e
theorem same_new {H : Hp} {p : Addr} {o : HO} (n : H p = Option.none) : Same H (upd H p o) := fun b u e => by
  rw [upd_ne (ne_of_none e n)]
  exact e
theorem same_upd {H H2 : Hp} {p : Addr} {o : HO} (s : Same H H2) (n : H p = Option.none) : Same H (upd H2 p o) := fun b u e => by
  rw [upd_ne (ne_of_none e n)]
  exact s b u e
structure Ads where
  C_Reader : Addr
  C_Run : Addr
  C_Machine : Addr
  C_Ledger : Addr
  C_Committee : Addr
  C_Chain : Addr
  d_Reader_init : Addr
  d_Reader_read_signs : Addr
  d_Reader_skip : Addr
  d_Reader_read_number : Addr
  d_Reader_read_code : Addr
  d_Reader_read_command : Addr
  d_commands_of : Addr
  d_Run_init : Addr
  d_run : Addr
  d_plus : Addr
  d_minus : Addr
  d_times : Addr
  d_append_digit : Addr
  d_is_less : Addr
  d_is_equal : Addr
  d_Machine_init : Addr
  d_Machine_push : Addr
  d_Machine_take : Addr
  d_Machine_push_number : Addr
  d_Machine_combine : Addr
  d_Machine_move : Addr
  d_Machine_jump : Addr
  d_Machine_settle : Addr
  d_Machine_perform : Addr
  d_Machine_finish : Addr
  d_Ledger_init : Addr
  d_first_ledger : Addr
  d_after_command : Addr
  d_done : Addr
  d_payment : Addr
  d_new_program : Addr
  d_call : Addr
  d_exist : Addr
  d_moved : Addr
  d_replaced : Addr
  d_first_wrong : Addr
  d_Committee_init : Addr
  d_Chain_init : Addr
  d_Chain_height : Addr
  d_Chain_committee : Addr
  d_Chain_extend : Addr
  d_after_weight : Addr
  d_law_cell : Addr
  d_law_is_integer : Addr
  d_law_row : Addr
  d_law_weights : Addr
  d_law_number : Addr
  d_law_code : Addr
  d_law_place : Addr
  d_law_command : Addr
  d_law_text : Addr
  d_law_fitting : Addr
  d_law_reckon : Addr
  d_law_need : Addr
  d_law_act : Addr
  d_law_sign : Addr
  d_law_run : Addr
  d_law_after : Addr
  d_law_pairs : Addr
  d_law_shows : Addr
  d_law_block : Addr
  P_MARKS : Addr
  M_MARKS_p : Addr
  M_MARKS_w : Addr
  M_MARKS_d : Addr
  M_MARKS_k : Addr
  C_BadCommand : Addr
  C_Failed : Addr
  P_OF_TWO : Addr
structure Txt (K : PySem.W.Frag) (mg : Str → Option Value) (a : Ads) : Prop where
  n_len : mg "len" = none
  n_range : mg "range" = none
  n_isinstance : mg "isinstance" = none
  n_int : mg "int" = none
  n_bool : mg "bool" = none
  n_list : mg "list" = none
  n_tuple : mg "tuple" = none
  n_str : mg "str" = none
  n_dict : mg "dict" = none
  n_sorted : mg "sorted" = none
  n_max : mg "max" = none
  n_abs : mg "abs" = none
  n_all : mg "all" = none
  n_sum : mg "sum" = none
  n_enumerate : mg "enumerate" = none
  c_SIGNS : ∃ t, mg "SIGNS" = some (.str "0123456789ginasmtcehlujfyo" t)
  c_DIGITS : ∃ t, mg "DIGITS" = some (.str "0123456789" t)
  c_MOST_DIGITS : ∃ t, mg "MOST_DIGITS" = some (.int 6 t)
  c_CODE_END : ∃ t, mg "CODE_END" = some (.str "z" t)
  c_MODULUS : ∃ t, mg "MODULUS" = some (.int 1000000 t)
  c_MOST_VALUES : ∃ t, mg "MOST_VALUES" = some (.int 16 t)
  c_MOST_STEPS : ∃ t, mg "MOST_STEPS" = some (.int 200 t)
  c_MOST_MEMBERS : ∃ t, mg "MOST_MEMBERS" = some (.int 16 t)
  c_MOST_WEIGHT : ∃ t, mg "MOST_WEIGHT" = some (.int 1000000000000 t)
  g_Reader : mg "Reader" = some (.ref a.C_Reader)
  cl_Reader : Cls K a.C_Reader
  kc_Reader : PySem.W.keepIn K (.ref a.C_Reader) = true
  mk_Reader : PySem.W.makesIn K a.C_Reader = true
  a_Reader_text : NoAttr K a.C_Reader "text"
  a_Reader_at : NoAttr K a.C_Reader "at"
  g_Run : mg "Run" = some (.ref a.C_Run)
  cl_Run : Cls K a.C_Run
  kc_Run : PySem.W.keepIn K (.ref a.C_Run) = true
  mk_Run : PySem.W.makesIn K a.C_Run = true
  a_Run_well : NoAttr K a.C_Run "well"
  a_Run_store : NoAttr K a.C_Run "store"
  a_Run_paid : NoAttr K a.C_Run "paid"
  a_Run_steps : NoAttr K a.C_Run "steps"
  g_Machine : mg "Machine" = some (.ref a.C_Machine)
  cl_Machine : Cls K a.C_Machine
  kc_Machine : PySem.W.keepIn K (.ref a.C_Machine) = true
  mk_Machine : PySem.W.makesIn K a.C_Machine = true
  a_Machine_code : NoAttr K a.C_Machine "code"
  a_Machine_given : NoAttr K a.C_Machine "given"
  a_Machine_amount : NoAttr K a.C_Machine "amount"
  a_Machine_store : NoAttr K a.C_Machine "store"
  a_Machine_stack : NoAttr K a.C_Machine "stack"
  a_Machine_place : NoAttr K a.C_Machine "place"
  a_Machine_paid : NoAttr K a.C_Machine "paid"
  a_Machine_steps : NoAttr K a.C_Machine "steps"
  g_Ledger : mg "Ledger" = some (.ref a.C_Ledger)
  cl_Ledger : Cls K a.C_Ledger
  kc_Ledger : PySem.W.keepIn K (.ref a.C_Ledger) = true
  mk_Ledger : PySem.W.makesIn K a.C_Ledger = true
  a_Ledger_balances : NoAttr K a.C_Ledger "balances"
  a_Ledger_codes : NoAttr K a.C_Ledger "codes"
  a_Ledger_stores : NoAttr K a.C_Ledger "stores"
  g_Committee : mg "Committee" = some (.ref a.C_Committee)
  cl_Committee : Cls K a.C_Committee
  kc_Committee : PySem.W.keepIn K (.ref a.C_Committee) = true
  mk_Committee : PySem.W.makesIn K a.C_Committee = true
  a_Committee_weights : NoAttr K a.C_Committee "weights"
  a_Committee_size : NoAttr K a.C_Committee "size"
  a_Committee_total : NoAttr K a.C_Committee "total"
  g_Chain : mg "Chain" = some (.ref a.C_Chain)
  cl_Chain : Cls K a.C_Chain
  kc_Chain : PySem.W.keepIn K (.ref a.C_Chain) = true
  mk_Chain : PySem.W.makesIn K a.C_Chain = true
  a_Chain_blocks : NoAttr K a.C_Chain "blocks"
  a_Chain_receipts : NoAttr K a.C_Chain "receipts"
  a_Chain_committees : NoAttr K a.C_Chain "committees"
  a_Chain_ledgers : NoAttr K a.C_Chain "ledgers"
  d_Reader_init : MethAt K a.C_Reader "__init__" "Reader.__init__" s_Reader_init ["self", "text"] a.d_Reader_init
  d_Reader_read_signs : MethAt K a.C_Reader "read_signs" "Reader.read_signs" s_Reader_read_signs ["self", "allowed"] a.d_Reader_read_signs
  d_Reader_skip : MethAt K a.C_Reader "skip" "Reader.skip" s_Reader_skip ["self", "mark"] a.d_Reader_skip
  d_Reader_read_number : MethAt K a.C_Reader "read_number" "Reader.read_number" s_Reader_read_number ["self"] a.d_Reader_read_number
  d_Reader_read_code : MethAt K a.C_Reader "read_code" "Reader.read_code" s_Reader_read_code ["self"] a.d_Reader_read_code
  d_Reader_read_command : MethAt K a.C_Reader "read_command" "Reader.read_command" s_Reader_read_command ["self"] a.d_Reader_read_command
  d_commands_of : DefAt K mg "commands_of" s_commands_of ["block"] a.d_commands_of
  d_Run_init : MethAt K a.C_Run "__init__" "Run.__init__" s_Run_init ["self", "well", "store", "paid", "steps"] a.d_Run_init
  d_run : DefAt K mg "run" s_run ["code", "given", "amount", "store"] a.d_run
  d_plus : DefAt K mg "_plus" s_plus ["left", "right"] a.d_plus
  d_minus : DefAt K mg "_minus" s_minus ["left", "right"] a.d_minus
  d_times : DefAt K mg "_times" s_times ["left", "right"] a.d_times
  d_append_digit : DefAt K mg "_append_digit" s_append_digit ["left", "right"] a.d_append_digit
  d_is_less : DefAt K mg "_is_less" s_is_less ["left", "right"] a.d_is_less
  d_is_equal : DefAt K mg "_is_equal" s_is_equal ["left", "right"] a.d_is_equal
  d_Machine_init : MethAt K a.C_Machine "__init__" "Machine.__init__" s_Machine_init ["self", "code", "given", "amount", "store"] a.d_Machine_init
  d_Machine_push : MethAt K a.C_Machine "push" "Machine.push" s_Machine_push ["self", "value"] a.d_Machine_push
  d_Machine_take : MethAt K a.C_Machine "take" "Machine.take" s_Machine_take ["self"] a.d_Machine_take
  d_Machine_push_number : MethAt K a.C_Machine "push_number" "Machine.push_number" s_Machine_push_number ["self", "sign"] a.d_Machine_push_number
  d_Machine_combine : MethAt K a.C_Machine "combine" "Machine.combine" s_Machine_combine ["self", "sign"] a.d_Machine_combine
  d_Machine_move : MethAt K a.C_Machine "move" "Machine.move" s_Machine_move ["self", "sign"] a.d_Machine_move
  d_Machine_jump : MethAt K a.C_Machine "jump" "Machine.jump" s_Machine_jump ["self", "sign"] a.d_Machine_jump
  d_Machine_settle : MethAt K a.C_Machine "settle" "Machine.settle" s_Machine_settle ["self", "sign"] a.d_Machine_settle
  d_Machine_perform : MethAt K a.C_Machine "perform" "Machine.perform" s_Machine_perform ["self", "sign"] a.d_Machine_perform
  d_Machine_finish : MethAt K a.C_Machine "finish" "Machine.finish" s_Machine_finish ["self"] a.d_Machine_finish
  d_Ledger_init : MethAt K a.C_Ledger "__init__" "Ledger.__init__" s_Ledger_init ["self", "balances", "codes", "stores"] a.d_Ledger_init
  d_first_ledger : DefAt K mg "first_ledger" s_first_ledger ["grants"] a.d_first_ledger
  d_after_command : DefAt K mg "after_command" s_after_command ["ledger", "command"] a.d_after_command
  d_done : DefAt K mg "_done" s_done ["ledger", "command"] a.d_done
  d_payment : DefAt K mg "_payment" s_payment ["ledger", "payer", "payee", "amount"] a.d_payment
  d_new_program : DefAt K mg "_new_program" s_new_program ["ledger", "account", "code"] a.d_new_program
  d_call : DefAt K mg "_call" s_call ["ledger", "caller", "callee", "given"] a.d_call
  d_exist : DefAt K mg "_exist" s_exist ["ledger", "accounts"] a.d_exist
  d_moved : DefAt K mg "_moved" s_moved ["balances", "payer", "payee", "amount"] a.d_moved
  d_replaced : DefAt K mg "_replaced" s_replaced ["parts", "at", "part"] a.d_replaced
  d_first_wrong : DefAt K mg "_first_wrong" s_first_wrong ["weights"] a.d_first_wrong
  d_Committee_init : MethAt K a.C_Committee "__init__" "Committee.__init__" s_Committee_init ["self", "weights"] a.d_Committee_init
  d_Chain_init : MethAt K a.C_Chain "__init__" "Chain.__init__" s_Chain_init ["self", "weights", "grants"] a.d_Chain_init
  d_Chain_height : MethAt K a.C_Chain "height" "Chain.height" s_Chain_height ["self"] a.d_Chain_height
  d_Chain_committee : MethAt K a.C_Chain "committee" "Chain.committee" s_Chain_committee ["self"] a.d_Chain_committee
  d_Chain_extend : MethAt K a.C_Chain "extend" "Chain.extend" s_Chain_extend ["self", "block"] a.d_Chain_extend
  d_after_weight : DefAt K mg "_after_weight" s_after_weight ["weights", "command"] a.d_after_weight
  d_law_cell : DefAt K mg "_law_cell" s_law_cell ["script", "k"] a.d_law_cell
  d_law_is_integer : DefAt K mg "_law_is_integer" s_law_is_integer ["actual"] a.d_law_is_integer
  d_law_row : DefAt K mg "_law_row" s_law_row ["cell", "count", "size"] a.d_law_row
  d_law_weights : DefAt K mg "_law_weights" s_law_weights ["cell", "most"] a.d_law_weights
  d_law_number : DefAt K mg "_law_number" s_law_number ["cell"] a.d_law_number
  d_law_code : DefAt K mg "_law_code" s_law_code ["cell"] a.d_law_code
  d_law_place : DefAt K mg "_law_place" s_law_place ["cell"] a.d_law_place
  d_law_command : DefAt K mg "_law_command" s_law_command ["cell", "more"] a.d_law_command
  d_law_text : DefAt K mg "_law_text" s_law_text ["command"] a.d_law_text
  d_law_fitting : DefAt K mg "_law_fitting" s_law_fitting ["commands"] a.d_law_fitting
  d_law_reckon : DefAt K mg "_law_reckon" s_law_reckon ["sign", "left", "right"] a.d_law_reckon
  d_law_need : DefAt K mg "_law_need" s_law_need ["sign"] a.d_law_need
  d_law_act : DefAt K mg "_law_act" s_law_act ["sign", "top", "stack", "store", "state"] a.d_law_act
  d_law_sign : DefAt K mg "_law_sign" s_law_sign ["sign", "given", "amount", "stack", "store", "state"] a.d_law_sign
  d_law_run : DefAt K mg "_law_run" s_law_run ["code", "given", "amount", "store"] a.d_law_run
  d_law_after : DefAt K mg "_law_after" s_law_after ["state", "command"] a.d_law_after
  d_law_pairs : DefAt K mg "_law_pairs" s_law_pairs ["store"] a.d_law_pairs
  d_law_shows : DefAt K mg "_law_shows" s_law_shows ["ledger", "state"] a.d_law_shows
  d_law_block : DefAt K mg "_law_block" s_law_block ["weights", "state", "commands"] a.d_law_block
theorem Txt.m_Reader {K : PySem.W.Frag} {mg : Str → Option Value} {a : Ads} (T : Txt K mg a) : Mk K a.C_Reader a.d_Reader_init := ⟨T.mk_Reader, T.d_Reader_init.fi, T.d_Reader_init.isf, T.kc_Reader⟩
theorem Txt.me_Reader_read_signs {K : PySem.W.Frag} {mg : Str → Option Value} {a : Ads} (T : Txt K mg a) : Meth K a.C_Reader "read_signs" a.d_Reader_read_signs := ⟨T.d_Reader_read_signs.fi, T.d_Reader_read_signs.isf, T.d_Reader_read_signs.kp⟩
theorem Txt.me_Reader_skip {K : PySem.W.Frag} {mg : Str → Option Value} {a : Ads} (T : Txt K mg a) : Meth K a.C_Reader "skip" a.d_Reader_skip := ⟨T.d_Reader_skip.fi, T.d_Reader_skip.isf, T.d_Reader_skip.kp⟩
theorem Txt.me_Reader_read_number {K : PySem.W.Frag} {mg : Str → Option Value} {a : Ads} (T : Txt K mg a) : Meth K a.C_Reader "read_number" a.d_Reader_read_number := ⟨T.d_Reader_read_number.fi, T.d_Reader_read_number.isf, T.d_Reader_read_number.kp⟩
theorem Txt.me_Reader_read_code {K : PySem.W.Frag} {mg : Str → Option Value} {a : Ads} (T : Txt K mg a) : Meth K a.C_Reader "read_code" a.d_Reader_read_code := ⟨T.d_Reader_read_code.fi, T.d_Reader_read_code.isf, T.d_Reader_read_code.kp⟩
theorem Txt.me_Reader_read_command {K : PySem.W.Frag} {mg : Str → Option Value} {a : Ads} (T : Txt K mg a) : Meth K a.C_Reader "read_command" a.d_Reader_read_command := ⟨T.d_Reader_read_command.fi, T.d_Reader_read_command.isf, T.d_Reader_read_command.kp⟩
theorem Txt.m_Run {K : PySem.W.Frag} {mg : Str → Option Value} {a : Ads} (T : Txt K mg a) : Mk K a.C_Run a.d_Run_init := ⟨T.mk_Run, T.d_Run_init.fi, T.d_Run_init.isf, T.kc_Run⟩
theorem Txt.m_Machine {K : PySem.W.Frag} {mg : Str → Option Value} {a : Ads} (T : Txt K mg a) : Mk K a.C_Machine a.d_Machine_init := ⟨T.mk_Machine, T.d_Machine_init.fi, T.d_Machine_init.isf, T.kc_Machine⟩
theorem Txt.me_Machine_push {K : PySem.W.Frag} {mg : Str → Option Value} {a : Ads} (T : Txt K mg a) : Meth K a.C_Machine "push" a.d_Machine_push := ⟨T.d_Machine_push.fi, T.d_Machine_push.isf, T.d_Machine_push.kp⟩
theorem Txt.me_Machine_take {K : PySem.W.Frag} {mg : Str → Option Value} {a : Ads} (T : Txt K mg a) : Meth K a.C_Machine "take" a.d_Machine_take := ⟨T.d_Machine_take.fi, T.d_Machine_take.isf, T.d_Machine_take.kp⟩
theorem Txt.me_Machine_push_number {K : PySem.W.Frag} {mg : Str → Option Value} {a : Ads} (T : Txt K mg a) : Meth K a.C_Machine "push_number" a.d_Machine_push_number := ⟨T.d_Machine_push_number.fi, T.d_Machine_push_number.isf, T.d_Machine_push_number.kp⟩
theorem Txt.me_Machine_combine {K : PySem.W.Frag} {mg : Str → Option Value} {a : Ads} (T : Txt K mg a) : Meth K a.C_Machine "combine" a.d_Machine_combine := ⟨T.d_Machine_combine.fi, T.d_Machine_combine.isf, T.d_Machine_combine.kp⟩
theorem Txt.me_Machine_move {K : PySem.W.Frag} {mg : Str → Option Value} {a : Ads} (T : Txt K mg a) : Meth K a.C_Machine "move" a.d_Machine_move := ⟨T.d_Machine_move.fi, T.d_Machine_move.isf, T.d_Machine_move.kp⟩
theorem Txt.me_Machine_jump {K : PySem.W.Frag} {mg : Str → Option Value} {a : Ads} (T : Txt K mg a) : Meth K a.C_Machine "jump" a.d_Machine_jump := ⟨T.d_Machine_jump.fi, T.d_Machine_jump.isf, T.d_Machine_jump.kp⟩
theorem Txt.me_Machine_settle {K : PySem.W.Frag} {mg : Str → Option Value} {a : Ads} (T : Txt K mg a) : Meth K a.C_Machine "settle" a.d_Machine_settle := ⟨T.d_Machine_settle.fi, T.d_Machine_settle.isf, T.d_Machine_settle.kp⟩
theorem Txt.me_Machine_perform {K : PySem.W.Frag} {mg : Str → Option Value} {a : Ads} (T : Txt K mg a) : Meth K a.C_Machine "perform" a.d_Machine_perform := ⟨T.d_Machine_perform.fi, T.d_Machine_perform.isf, T.d_Machine_perform.kp⟩
theorem Txt.me_Machine_finish {K : PySem.W.Frag} {mg : Str → Option Value} {a : Ads} (T : Txt K mg a) : Meth K a.C_Machine "finish" a.d_Machine_finish := ⟨T.d_Machine_finish.fi, T.d_Machine_finish.isf, T.d_Machine_finish.kp⟩
theorem Txt.m_Ledger {K : PySem.W.Frag} {mg : Str → Option Value} {a : Ads} (T : Txt K mg a) : Mk K a.C_Ledger a.d_Ledger_init := ⟨T.mk_Ledger, T.d_Ledger_init.fi, T.d_Ledger_init.isf, T.kc_Ledger⟩
theorem Txt.m_Committee {K : PySem.W.Frag} {mg : Str → Option Value} {a : Ads} (T : Txt K mg a) : Mk K a.C_Committee a.d_Committee_init := ⟨T.mk_Committee, T.d_Committee_init.fi, T.d_Committee_init.isf, T.kc_Committee⟩
theorem Txt.m_Chain {K : PySem.W.Frag} {mg : Str → Option Value} {a : Ads} (T : Txt K mg a) : Mk K a.C_Chain a.d_Chain_init := ⟨T.mk_Chain, T.d_Chain_init.fi, T.d_Chain_init.isf, T.kc_Chain⟩
theorem Txt.me_Chain_height {K : PySem.W.Frag} {mg : Str → Option Value} {a : Ads} (T : Txt K mg a) : Meth K a.C_Chain "height" a.d_Chain_height := ⟨T.d_Chain_height.fi, T.d_Chain_height.isf, T.d_Chain_height.kp⟩
theorem Txt.me_Chain_committee {K : PySem.W.Frag} {mg : Str → Option Value} {a : Ads} (T : Txt K mg a) : Meth K a.C_Chain "committee" a.d_Chain_committee := ⟨T.d_Chain_committee.fi, T.d_Chain_committee.isf, T.d_Chain_committee.kp⟩
theorem Txt.me_Chain_extend {K : PySem.W.Frag} {mg : Str → Option Value} {a : Ads} (T : Txt K mg a) : Meth K a.C_Chain "extend" a.d_Chain_extend := ⟨T.d_Chain_extend.fi, T.d_Chain_extend.isf, T.d_Chain_extend.kp⟩
section
open PyProof.Rows
/-! ### own rules: set(list of ints), k in that set; enumerate(a tuple) -/
theorem any_firstMet (zs : List Int) (k : Int) : (PyProof.Rows.firstMet (fun i => zs.getD i 0) zs.length).any (· == k) = decide (k ∈ zs) := by
  rw [PyProof.Rows.firstMet_any, Bool.eq_iff_iff, List.any_eq_true, decide_eq_true_iff]
  constructor
  · rintro ⟨y, hy, e⟩
    obtain ⟨i, hi, rfl⟩ := List.mem_map.mp hy
    have hi' : i < zs.length := List.mem_range.mp hi
    have e' : zs.getD i 0 = k := by simpa using e
    rw [← e', List.getD_eq_getElem?_getD, List.getElem?_eq_getElem hi']
    exact List.getElem_mem hi'
  · intro hk
    obtain ⟨i, hi, e⟩ := List.getElem_of_mem hk
    refine ⟨k, List.mem_map.mpr ⟨i, List.mem_range.mpr hi, ?_⟩, by simp⟩
    show zs.getD i 0 = k
    rw [List.getD_eq_getElem?_getD, List.getElem?_eq_getElem hi]
    exact e
/-- set(xs), xs a list of ints -/
def rSetOfL (K : PySem.W.Frag) : List V → Hp → VK → Prop := fun vs H Q => ∃ (l : Addr) (zs : List Int), vs = [V.ref l] ∧ SqL K H l (zs.map V.int) ∧ zs.length ≤ 1000 ∧
  ∀ (p : Addr) (n : Nat), H p = Option.none → Q (.ref p) (upd H p (.set (fun k => decide (k ∈ zs)) n))
theorem cr_set {X : Cx} (calm : X.calm = true) : CallR X (.type "set") (rSetOfL X.K) := by
  intro pins sh σ H vs us Q I rel hyp
  obtain ⟨l, zs, rfl, hl, few, q⟩ := hyp
  rw [Vals.ref1 rel]
  obtain ⟨its, rv, pl, _⟩ := I.list hl
  have isI := ints_of_vals rv
  have same : its.toArray.size = zs.length := by
    have e := rv.length
    rw [List.length_map] at e
    rw [List.size_toArray]
    exact e.symm
  refine PySem.call_set_list (items := its.toArray) (ns := zs) (I.ok.hd calm) pl.isList (by simpa using isI) (by rw [same]; unfold scanBound; omega) fun h' tk S kp => ?_
  have fresh : H sh.heap.objs.size = Option.none := I.hok.fresh (Nat.le_refl _)
  have e : (fun k => (PyProof.Rows.firstMet (fun i => zs.getD i 0) its.toArray.size).any (· == k)) = fun k => decide (k ∈ zs) := by
    funext k
    rw [same]
    exact any_firstMet zs k
  rw [e] at S
  exact ⟨.ref sh.heap.objs.size, upd H sh.heap.objs.size (.set (fun k => decide (k ∈ zs)) _), I.laid (t' := tk) (fun b o ho => kp b o (Heap.lt_size ho) ho) (Nat.le_refl _) S, rfl, q _ _ fresh⟩
/-- k in such a set -/
def rInSt (neg : Bool) : R2 := fun x y H Q => ∃ (k : Int) (b : Addr) (S : Int → Bool) (n : Nat), x = V.int k ∧ y = V.ref b ∧ H b = some (.set S n) ∧ Q (.bl (if neg then !S k else S k)) H
theorem op_in_set {X : Cx} : OpR X (compareOp .In) (rInSt false) := by
  intro pins sh σ H x y v u Q I r1 r2 hyp
  obtain ⟨k, b, S, n, rfl, rfl, hb, q⟩ := hyp
  obtain ⟨tk, rfl⟩ := r1
  cases r2
  have hS : sh.heap.SetOf (intKind X.prog X.w) b S n := I.hok b _ hb
  exact PySem.wpAny_inSet_of (PySem.intKind_is _ _ _ _) rfl hS ⟨.bl (S k), H, I.tok _, rfl, q⟩
/-- the pairs of enumerate over the tuple at a -/
def Itu (K : PySem.W.Frag) (a : Addr) : It where
  go i H := ∃ (ys : List V) (y : V), SqT K H a ys ∧ ys[i]? = some y
  yld i H v H' := ∃ (p : Addr) (y : V), v = .ref p ∧ H p = Option.none ∧ H' = upd H p (.tup [.int (i : Nat), y]) ∧ ∀ ys, SqT K H a ys → ys[i]? = some y
  stop i H := ∃ ys : List V, SqT K H a ys ∧ ys.length = i
theorem turn_enumT {P : Program} {w : World} {K : PySem.W.Frag} {elts : List Expr} {kk : Nat} {tpos : Pos} (a en it : Addr) (na : a ≠ it) (ne : en ≠ it) (nea : en ≠ a) :
    Turn P w K (.Tuple elts kk tpos) (Itu K a) [en, it] en (fun i h => (∃ old, IsEnum h en it ((i : Nat) : Int) old) ∧ h.IsTupleIter it a i) where
  mem := List.mem_cons_self
  obj := by
    rintro i h ⟨⟨old, he⟩, ⟨o, ho, hc, hd⟩⟩ b hb
    rcases List.mem_cons.mp hb with rfl | hb
    · exact ⟨_, he, fun v z => nomatch z⟩
    · rw [List.mem_singleton.mp hb]
      exact ⟨o, ho, fun v z => by rw [hd] at z; cases z⟩
  keep := by
    rintro i h h' ⟨⟨old, he⟩, hi⟩ kp
    exact ⟨⟨old, kp en List.mem_cons_self _ he⟩, hi.at fun o z => kp it (List.mem_cons_of_mem _ List.mem_cons_self) o z⟩
  item := by
    intro X hP hw hK calm i pins sh σ H E I fp st hg
    subst hP hw hK
    obtain ⟨⟨old, he⟩, hit⟩ := st
    obtain ⟨ys, y, hy, hix⟩ := hg
    obtain ⟨its, rv, tp, _⟩ := I.tuple hy
    obtain ⟨u, hu, ru⟩ := rv.get hix
    have hT : sh.heap.IsTuple a its.toArray := tp
    have hlen : i < its.toArray.size := by
      rw [List.size_toArray]
      exact (List.getElem?_eq_some_iff.mp hu).1
    have len : en < sh.heap.objs.size := Heap.lt_size he
    have lit : it < sh.heap.objs.size := by
      obtain ⟨_, z, _⟩ := hit
      exact Heap.lt_size z
    refine wpAny_pyNext_enum_itemD (Draws.tuple (by simp [I.ok.hd calm]) it a na its.toArray) he ⟨hit, hT⟩ hlen ne (by simp [ne, nea]) fun x h' tk hx ho hst hnew hsz kp => ?_
    have ex : x = u := by
      rw [List.getElem?_toArray, hu] at hx
      exact (Option.some.inj hx).symm
    subst ex
    refine ⟨_, rfl, wpAny_letOwnedTupleGo_enum (s := { sh with heap := h', toks := tk + 1 }) ho fun h2 he2 sb => ?_⟩
    have new2 : h2.get? sh.heap.objs.size = some { cls := .type "tuple", data := .seq #[.int i tk, x] } := (sb.2 _ (Nat.ne_of_gt len)).trans hnew
    have okN : ObjOk X.prog X.w (upd H sh.heap.objs.size (.tup [.int (i : Nat), y])) h2 sh.heap.objs.size (.tup [.int (i : Nat), y]) := by
      refine ⟨(by show 2 ≤ sizeLine; decide), [.int i tk, x], .cons ⟨_, rfl⟩ (.cons ru .nil), ?_⟩
      exact ⟨_, new2, rfl, _, rfl⟩
    have I2 : Inv X pins σ (upd H sh.heap.objs.size (.tup [.int (i : Nat), y])) { sh with heap := h2, toks := tk + 1 } := by
      refine I.turnedNew (ch := [en, it]) (fun b ob hb z => ?_) fp (Nat.le_refl _) okN
      have b1 : b ≠ en := fun q => hb (by rw [q]; exact List.mem_cons_self)
      have b2 : b ≠ it := fun q => hb (by rw [q]; exact List.mem_cons_of_mem _ List.mem_cons_self)
      exact (sb.2 b b1).trans (kp b ob b1 b2 z)
    refine ⟨.ref sh.heap.objs.size, _, I2, rfl, ⟨_, y, rfl, I.hok.fresh (Nat.le_refl _), rfl, fun zs hz => ?_⟩, ⟨⟨x, ?_⟩, hst.1.at fun o z => (sb.2 it (Ne.symm ne)).trans z⟩, fun b hb => ?_⟩
    · rw [I.tuple_inj hz hy]
      exact hix
    · have e1 : ((i + 1 : Nat) : Int) = (i : Int) + 1 := by omega
      rw [e1]
      exact he2
    · have lb : b < sh.heap.objs.size := by
        rcases List.mem_cons.mp hb with rfl | hb
        · exact len
        · rw [List.mem_singleton.mp hb]
          exact lit
      rw [upd_ne (Nat.ne_of_lt lb)]
      exact (fp b hb).1
  done := by
    intro X hP hw hK calm i pins sh σ H E I fp st hg
    subst hP hw hK
    obtain ⟨⟨old, he⟩, hit⟩ := st
    obtain ⟨ys, hy, rfl⟩ := hg
    obtain ⟨its, rv, tp, _⟩ := I.tuple hy
    have hT : sh.heap.IsTuple a its.toArray := tp
    have e : ys.length = its.toArray.size := by
      rw [List.size_toArray]
      exact rv.length
    rw [e] at hit
    obtain ⟨g0, g1, g2, g3, g4, g5⟩ := fp it (List.mem_cons_of_mem _ List.mem_cons_self)
    exact wpAny_pyNext_enum_endD (Draws.tuple (by simp [I.ok.hd calm]) it a na its.toArray) he ⟨hit, hT⟩ fun h' eb => ⟨rfl, I.turned (t' := sh.toks) (fun b o hb z => eb b o hb z) g0 g1 g3 g4 g5⟩
  self := by
    rintro A i s Q E ⟨⟨_, he⟩, _⟩ h
    exact wpAny_pyIter_enum he h
theorem meets_enum1 {v : Value} {o : Obj} {Z : Heap → Prop} (B : Begins v o Z) :
    Meets (Builtin.«enumerate.__new__» ⟨[.type "enumerate", v], []⟩) (fun _ R s => Z s.heap ∧
      R (.ok (.ret (.ref (s.heap.push o).objs.size))) { s with heap := (s.heap.push o).push { cls := .type "enumerate", data := .fields #[.none, .bool false, .ref s.heap.objs.size, rawInt 0, .none, .none] } }) :=
  .of_wp fun prog w A R s hyp => by
    obtain ⟨hp, g, d, tk, os⟩ := s
    obtain ⟨hz, hyp⟩ := hyp
    have sube := sub_enumerate
    have step : ∀ {A' : Around} {E' : Value → Shared → Prop} {Q' : Value → Shared → Prop}, Q' (.ref hp.objs.size) ⟨hp.push o, g, d, tk, os⟩ → wpAny (model prog w) A' (pyIter v) Q' E' ⟨hp, g, d, tk, os⟩ :=
      fun z => B.iter prog w _ _ ⟨hp, g, d, tk, os⟩ _ hz z
    wp_walk using step
    refine wpAny_stack_any fun st => wpAny_pure ?_
    split
    · rename_i c _ _ _ _ _
      cases (c == Value.type "enumerate") <;> (wp_walk using step; exact ⟨_, rfl, hyp⟩)
    · wp_walk using step
      exact ⟨_, rfl, hyp⟩
theorem call_enum1 {prog : Program} {w : World} {A : Around} {E : Value → Shared → Prop} {s : Shared} {v : Value} {o : Obj} {Z : Heap → Prop} {Q : Value → Shared → Prop} (B : Begins v o Z) (hz : Z s.heap)
    (fin : ∀ h', IsEnum h' (s.heap.objs.size + 1) s.heap.objs.size 0 .none → h'.get? s.heap.objs.size = some o → (∀ b u, s.heap.get? b = some u → h'.get? b = some u) → Q (.ref (s.heap.objs.size + 1)) { s with heap := h' }) :
    wpAny (model prog w) A (call (.type "enumerate") [v]) Q E s := by
  have size1 : (s.heap.push o).objs.size = s.heap.objs.size + 1 := Heap.size_push ..
  refine callType_new F.called_enumerate (by decide) (F.typeCall_enumerate_1 _) (F.newCall_enumerate_1 _) (fun obj => F.args_object_init_2 obj _) F.entry_enumerate_new (meets_enum1 B) ⟨hz, ?_⟩
  rw [size1]
  have isE : IsEnum ((s.heap.push o).push { cls := .type "enumerate", data := .fields #[.none, .bool false, .ref s.heap.objs.size, rawInt 0, .none, .none] }) (s.heap.objs.size + 1) s.heap.objs.size 0 .none := by
    have z := Heap.get?_push_size (s.heap.push o) (o := { cls := .type "enumerate", data := .fields #[.none, .bool false, .ref s.heap.objs.size, rawInt 0, .none, .none] }) rfl
    rwa [size1] at z
  exact ⟨⟨_, isE, rfl⟩, fin _ isE (Heap.get?_push_of_some _ (Heap.get?_push_size _ B.free)) fun b u z => Heap.get?_push_of_some _ (Heap.get?_push_of_some _ z)⟩
def iEnumT (K : PySem.W.Frag) (ta : TA) : TI := fun σ H R => ta σ H fun vs H1 => ∃ (a : Addr) (ys : List V), vs = [.ref a] ∧ SqT K H1 a ys ∧ R (Itu K a) H1
theorem pi_enumT {X : Cx} {e : Expr} {ta : TA} {p pos tpos : Pos} {elts : List Expr} {kk : Nat} (gl : Gl X "enumerate") (no : X.mg "enumerate" = none) (pa : PA X [e] ta) (plain : starEach [e] X.env = [(false, eval e X.env)] := by rfl) :
    PI X (.Tuple elts kk tpos) (.Call (.Name "enumerate" p) [e] [] pos) (iEnumT X.K ta) := by
  constructor
  intro pins s σ H R I hyp
  refine PyProof.Rows.Call_ (ld_blt I gl no boot_enumerate (PyProof.Rows.callWith_type1 (thn (pa.run pos pins s σ H _ I hyp) fun us s1 got => ?_) plain rfl))
  obtain ⟨vs, H1, I1, rel, a, ys, rfl, hy, q⟩ := got
  rw [Vals.ref1 rel]
  obtain ⟨its, rv, tp, _⟩ := I1.tuple hy
  have hT : s1.heap.IsTuple a its.toArray := tp
  have la : a < s1.heap.objs.size := by
    obtain ⟨_, z, _⟩ := hT
    exact Heap.lt_size z
  refine call_enum1 (begins_tuple a its.toArray) hT fun h' isE hit kp => wpAny_pyIter_enum isE ?_
  have I2 : Inv X pins σ H1 { s1 with heap := h' } := I1.kept (t' := s1.toks) kp
  refine ⟨s1.heap.objs.size + 1, [s1.heap.objs.size + 1, s1.heap.objs.size], _, _, H1, rfl, I2, turn_enumT a (s1.heap.objs.size + 1) s1.heap.objs.size (Nat.ne_of_lt la) (Nat.succ_ne_self _) (Nat.ne_of_gt (Nat.lt_succ_of_lt la)), ⟨⟨.none, isE⟩, _, hit, rfl, rfl⟩, fun b hb => ?_, q⟩
  have le : s1.heap.objs.size ≤ b := by
    rcases List.mem_cons.mp hb with rfl | hb
    · exact Nat.le_succ _
    · rw [List.mem_singleton.mp hb]
      exact Nat.le_refl _
  exact I1.fpOk le (I1.hok.fresh le)
/-- the forms that one uses: a word by the turn -/
theorem for_enumT {K : PySem.W.Frag} {a : Addr} {ys : List V} {g : TG} {tb : TS} {D : Ends} {σ : L2.St} {H : Hp} (Pv : Nat → L2.St → Hp → Prop) (h0 : Pv 0 σ H) (src : ∀ i σ H, i ≤ ys.length → Pv i σ H → SqT K H a ys)
    (turn : ∀ i y σ H p, ys[i]? = some y → Pv i σ H → H p = Option.none → g (.ref p) σ (upd H p (.tup [.int (i : Nat), y])) fun σ2 H2 => tb { D with nx := Pv (i + 1), ct := Pv (i + 1), bk := D.nx } σ2 H2) (fin : ∀ σ H, Pv ys.length σ H → D.nx σ H) :
    ∃ W : Nat → Nat → L2.St → Hp → Prop, (∃ m, W 0 m σ H) ∧ ∀ i m σ H, W i m σ H →
      ((Itu K a).stop i H ∧ D.nx σ H) ∨ ((Itu K a).go i H ∧ ∃ N : L2.St → Hp → Prop, (∀ σ' H', N σ' H' → ∃ m', m' < m ∧ W (i + 1) m' σ' H') ∧ ∀ x H', (Itu K a).yld i H x H' → g x σ H' fun σ2 H2 => tb { D with nx := N, ct := N, bk := D.nx } σ2 H2) := by
  refine ⟨fun i m σ H => m + i = ys.length ∧ Pv i σ H, ⟨ys.length, Nat.add_zero _, h0⟩, ?_⟩
  rintro i m σ H ⟨em, pv⟩
  have s := src i σ H (by omega) pv
  rcases Nat.lt_or_ge i ys.length with lt | ge
  · refine .inr ⟨⟨ys, ys[i], s, List.getElem?_eq_getElem lt⟩, Pv (i + 1), fun σ' H' z => ⟨m - 1, by omega, by omega, z⟩, ?_⟩
    rintro x H' ⟨p, y, rfl, hp, rfl, hy⟩
    exact turn i y σ H p (hy ys s) pv hp
  · have e : i = ys.length := by omega
    subst e
    exact .inl ⟨⟨ys, s, rfl⟩, fin σ H pv⟩
theorem lc_enumT {K : PySem.W.Frag} {a : Addr} {ys : List V} {g : TG} {tt : TT} {te : TE} {vs : List Nat} {σ : L2.St} {H1 : Hp} {D : Addr} {Qd : Hp → Prop} (Pv : Nat → Hp → Prop) (h0 : Pv 0 (upd H1 D (.lst []))) (src : ∀ i H, i ≤ ys.length → Pv i H → SqT K H a ys)
    (turn : ∀ i y H p, ys[i]? = some y → Pv i H → H p = Option.none → g (.ref p) (wipe σ vs) (upd H p (.tup [.int (i : Nat), y])) fun σ2 H2 => wipe σ2 vs = wipe σ vs ∧ tt σ2 H2 fun b H3 =>
      if b = true then te σ2 H3 fun y H4 => ∃ acc, H4 D = some (.lst acc) ∧ acc.length < sizeLine ∧ Pv (i + 1) (upd H4 D (.lst (acc ++ [y]))) else Pv (i + 1) H3) (fin : ∀ H, Pv ys.length H → Qd H) :
    ∃ W : Nat → Nat → Hp → Prop, (∃ m, W 0 m (upd H1 D (.lst []))) ∧ ∀ i m H, W i m H →
      ((Itu K a).stop i H ∧ Qd H) ∨ ((Itu K a).go i H ∧ ∃ Nx : Hp → Prop, (∀ H', Nx H' → ∃ m', m' < m ∧ W (i + 1) m' H') ∧ ∀ x H', (Itu K a).yld i H x H' → g x (wipe σ vs) H' fun σ2 H2 => wipe σ2 vs = wipe σ vs ∧ tt σ2 H2 fun b H3 =>
        if b = true then te σ2 H3 fun y H4 => ∃ acc, H4 D = some (.lst acc) ∧ acc.length < sizeLine ∧ Nx (upd H4 D (.lst (acc ++ [y]))) else Nx H3) := by
  refine ⟨fun i m H => m + i = ys.length ∧ Pv i H, ⟨ys.length, Nat.add_zero _, h0⟩, ?_⟩
  rintro i m H ⟨em, pv⟩
  have s := src i H (by omega) pv
  rcases Nat.lt_or_ge i ys.length with lt | ge
  · refine .inr ⟨⟨ys, ys[i], s, List.getElem?_eq_getElem lt⟩, Pv (i + 1), fun H' z => ⟨m - 1, by omega, by omega, z⟩, ?_⟩
    rintro x H' ⟨p, y, rfl, hp, rfl, hy⟩
    exact turn i y H p (hy ys s) pv hp
  · have e : i = ys.length := by omega
    subst e
    exact .inl ⟨⟨ys, s, rfl⟩, fin H pv⟩
/-- sum(t), t a tuple of ints -/
def rSumT (K : PySem.W.Frag) : List V → Hp → VK → Prop := fun vs H Q => ∃ (a : Addr) (zs : List Int), vs = [V.ref a] ∧ SqT K H a (zs.map V.int) ∧ Q (.int zs.sum) H
theorem cr_sumT {X : Cx} (calm : X.calm = true) : CallR X (.builtin "sum") (rSumT X.K) := by
  intro pins sh σ H vs us Q I rel hyp
  obtain ⟨a, zs, rfl, hz, q⟩ := hyp
  rw [Vals.ref1 rel]
  obtain ⟨its, rv, tp, _⟩ := I.tuple hz
  have hT : sh.heap.IsTuple a its.toArray := tp
  have isI : IntsAre its zs := Vals.ints rv
  obtain ⟨xs, ex⟩ := isI.allInts.items
  have en : numsOf (intItems xs).toList = zs := by
    rw [← ex]
    exact isI.numsOf
  rw [nums_intItems] at en
  rw [ex] at hT
  refine PySem.W.ktm_sumG (I.ok.hd calm) hT fun h' tk t' kp => ?_
  rw [preSum_eq, List.take_of_length_le (by simp), en]
  exact ⟨.int zs.sum, H, I.kept kp, ⟨_, rfl⟩, q⟩
/-- enumerate over a list, by a word -/
theorem for_enumL {K : PySem.W.Frag} {a : Addr} {ys : List V} {g : TG} {tb : TS} {D : Ends} {σ : L2.St} {H : Hp} (Pv : Nat → L2.St → Hp → Prop) (h0 : Pv 0 σ H) (src : ∀ i σ H, i ≤ ys.length → Pv i σ H → SqL K H a ys)
    (turn : ∀ i y σ H p, ys[i]? = some y → Pv i σ H → H p = Option.none → g (.ref p) σ (upd H p (.tup [.int (i : Nat), y])) fun σ2 H2 => tb { D with nx := Pv (i + 1), ct := Pv (i + 1), bk := D.nx } σ2 H2) (fin : ∀ σ H, Pv ys.length σ H → D.nx σ H) :
    ∃ W : Nat → Nat → L2.St → Hp → Prop, (∃ m, W 0 m σ H) ∧ ∀ i m σ H, W i m σ H →
      ((Ite K a).stop i H ∧ D.nx σ H) ∨ ((Ite K a).go i H ∧ ∃ N : L2.St → Hp → Prop, (∀ σ' H', N σ' H' → ∃ m', m' < m ∧ W (i + 1) m' σ' H') ∧ ∀ x H', (Ite K a).yld i H x H' → g x σ H' fun σ2 H2 => tb { D with nx := N, ct := N, bk := D.nx } σ2 H2) := by
  refine ⟨fun i m σ H => m + i = ys.length ∧ Pv i σ H, ⟨ys.length, Nat.add_zero _, h0⟩, ?_⟩
  rintro i m σ H ⟨em, pv⟩
  have s := src i σ H (by omega) pv
  rcases Nat.lt_or_ge i ys.length with lt | ge
  · refine .inr ⟨⟨ys, ys[i], s, List.getElem?_eq_getElem lt⟩, Pv (i + 1), fun σ' H' z => ⟨m - 1, by omega, by omega, z⟩, ?_⟩
    rintro x H' ⟨p, y, rfl, hp, rfl, hy⟩
    exact turn i y σ H p (hy ys s) pv hp
  · have e : i = ys.length := by omega
    subst e
    exact .inl ⟨⟨ys, s, Nat.le_refl _⟩, fin σ H pv⟩
/-- k in xs, xs a list of ints -/
theorem inV_ints (zs : List Int) (k : Int) : inV (V.int k) (zs.map V.int) = decide (k ∈ zs) := by
  induction zs with
  | nil => rfl
  | cons a r ih =>
    have e : inV (V.int k) ((a :: r).map V.int) = (eqV (V.int a) (V.int k) || inV (V.int k) (r.map V.int)) := rfl
    rw [e, ih]
    by_cases h : a = k
    · subst h
      simp [eqV]
    · have h' : ¬ k = a := fun z => h z.symm
      simp [eqV, h, h']
theorem flat_ints (zs : List Int) : (zs.map V.int).all flatV = true := by
  rw [List.all_eq_true]
  intro x hx
  obtain ⟨z, _, rfl⟩ := List.mem_map.mp hx
  rfl
end

/-! ### a committee as it stands -/
theorem ne_ws : ¬ (("weights" : Str) = "size") := by decide +kernel
theorem ne_wt : ¬ (("weights" : Str) = "total") := by decide +kernel
theorem ne_st : ¬ (("size" : Str) = "total") := by decide +kernel
def cfs (t : Addr) (ws : List Int) : List (Str × V) := putF "total" (.int ws.sum) (putF "size" (.int ws.length) (putF "weights" (.ref t) []))
theorem cfs_w (t : Addr) (ws : List Int) : (cfs t ws).lookup ("weights" : Str) = some (.ref t) := by
  unfold cfs
  rw [lookup_putF, if_neg ne_wt, lookup_putF, if_neg ne_ws, lookup_putF, if_pos rfl]
theorem cfs_s (t : Addr) (ws : List Int) : (cfs t ws).lookup ("size" : Str) = some (.int ws.length) := by
  unfold cfs
  rw [lookup_putF, if_neg ne_st, lookup_putF, if_pos rfl]
theorem cfs_t (t : Addr) (ws : List Int) : (cfs t ws).lookup ("total" : Str) = some (.int ws.sum) := by
  unfold cfs
  rw [lookup_putF, if_pos rfl]
theorem cfs_no (t : Addr) (ws : List Int) {m : Str} (h1 : ¬ m = "weights") (h2 : ¬ m = "size") (h3 : ¬ m = "total") : (cfs t ws).lookup m = none := by
  unfold cfs
  rw [lookup_putF, if_neg h3, lookup_putF, if_neg h2, lookup_putF, if_neg h1]
  all_goals rfl
def CommAt (C : Addr) (H : Hp) (p : Addr) (ws : List Int) : Prop := ∃ dx t, H p = some (.ins C dx (cfs t ws)) ∧ H t = some (.tup (ws.map V.int))
theorem CommAt.same {C : Addr} {H H' : Hp} {p : Addr} {ws : List Int} (h : CommAt C H p ws) (s : Same H H') : CommAt C H' p ws := by
  obtain ⟨dx, t, h1, h2⟩ := h
  exact ⟨dx, t, s _ _ h1, s _ _ h2⟩
/-- weights that a committee takes -/
def GoodW (ws : List Int) : Prop := 0 < ws.length ∧ ws.length ≤ 16 ∧ ∀ w ∈ ws, 1 ≤ w ∧ w ≤ 1000000000000

/-! ### x in a dict of the module, x a text -/
section
open PyProof.Rows
/-- b: whether the dict has the key -/
def KHas (K : PySem.W.Frag) (w : World) (a : Addr) (x : Str) (b : Bool) : Prop := ∃ es n r, K.lookup a = some ⟨.type "dict", none, .dict es n, #[]⟩ ∧ PySem.W.KeysLit w.params es.toList ∧ (a == sysModules) = false ∧ PySem.W.nsIn K a x = some r ∧ b = r.isSome
theorem op_inKd {X : Cx} : OpR X (compareOp .In) (fun x y H Q => ∃ p z b, x = .str z ∧ y = .ref p ∧ KHas X.K X.w p z b ∧ Q (.bl b) H) := by
  intro pins s σ H x y v u Q I rx ry h
  obtain ⟨p, z, b, rfl, rfl, ⟨es, n, r, hl, hk, low, e, rfl⟩, q⟩ := h
  obtain ⟨t, rfl⟩ := rx
  obtain rfl : u = Value.ref p := ry
  refine wpAny_in_of (strKind_is X.prog X.w z t) low (PySem.W.mapOf_K (prog := X.prog) (w := X.w) I.kIn hl hk) ?_
  rw [PySem.W.find_K hl e]
  exact ⟨.bl _, H, I.tok _, rfl, q⟩
theorem op_notInKd {X : Cx} : OpR X (compareOp .NotIn) (fun x y H Q => ∃ p z b, x = .str z ∧ y = .ref p ∧ KHas X.K X.w p z b ∧ Q (.bl (!b)) H) := by
  intro pins s σ H x y v u Q I rx ry h
  obtain ⟨p, z, b, rfl, rfl, ⟨es, n, r, hl, hk, low, e, rfl⟩, q⟩ := h
  obtain ⟨t, rfl⟩ := rx
  obtain rfl : u = Value.ref p := ry
  refine wpAny_notIn_of (strKind_is X.prog X.w z t) low (PySem.W.mapOf_K (prog := X.prog) (w := X.w) I.kIn hl hk) ?_
  rw [PySem.W.find_K hl e]
  exact ⟨.bl _, H, I.tok _, rfl, q⟩
end
section
open PyProof.Rows
theorem nsIn_dict {K : PySem.W.Frag} {P : Params} {a : Addr} {es : Array DictEntry} {n : Nat} (hl : K.lookup a = some ⟨.type "dict", none, .dict es n, #[]⟩) (hk : PySem.W.KeysLit P es.toList) (x : Str) :
    PySem.W.nsIn K a x = some ((es.toList.find? fun d => d.key.isStr x).map (·.val)) := by
  unfold PySem.W.nsIn
  rw [hl]
  cases e : es.toList.find? fun d => d.key.isStr x with
  | some d => simp [e]
  | none =>
    have nr : (es.toList.any fun d => d.refKey) = false := by
      rw [List.any_eq_false]
      intro d hd
      obtain ⟨y, t, e1, _⟩ := hk.all d hd
      unfold DictEntry.refKey
      rw [e1]
      simp
    simp [e, nr]
/-- a dict of the module: its keys, texts, and what stands there -/
structure KTab (K : PySem.W.Frag) (w : World) (a : Addr) (kvs : List (Str × Addr)) : Prop where
  at_ : ∃ es n, K.lookup a = some ⟨.type "dict", none, .dict es n, #[]⟩ ∧ PySem.W.KeysLit w.params es.toList ∧ ∀ x : Str, (es.toList.find? fun d => d.key.isStr x).map (·.val) = (kvs.lookup x).map Value.ref
  low : (a == sysModules) = false
theorem KTab.has {K : PySem.W.Frag} {w : World} {a : Addr} {kvs : List (Str × Addr)} (h : KTab K w a kvs) (x : Str) : KHas K w a x (kvs.lookup x).isSome := by
  obtain ⟨es, n, hl, hk, e⟩ := h.at_
  refine ⟨es, n, _, hl, hk, h.low, nsIn_dict hl hk x, ?_⟩
  rw [e]
  cases kvs.lookup x <;> rfl
theorem KTab.get {K : PySem.W.Frag} {w : World} {a : Addr} {kvs : List (Str × Addr)} (h : KTab K w a kvs) {x : Str} {b : Addr} (hx : kvs.lookup x = some b) : KDct K w a x (.ref b) := by
  obtain ⟨es, n, hl, hk, e⟩ := h.at_
  have q := nsIn_dict hl hk x
  rw [e, hx] at q
  exact ⟨es, n, _, hl, hk, q, rfl⟩
theorem isStr_eq {x y : Str} {t : Tok} : (Value.str y t).isStr x = decide (x = y) := by
  show (y == x) = _
  by_cases h : x = y
  · rw [h, decide_eq_true rfl, beq_self_eq_true]
  · rw [decide_eq_false h, beq_eq_false_iff_ne.mpr fun e => h e.symm]
def TabEs : List DictEntry → List (Str × Addr) → Prop
  | [], [] => True
  | d :: l, kv :: r => (∃ t, d.key = .str kv.1 t ∧ d.val = .ref kv.2) ∧ TabEs l r
  | _, _ => False
theorem find_tab (x : Str) : ∀ {l : List DictEntry} {kvs : List (Str × Addr)}, TabEs l kvs → (l.find? fun d => d.key.isStr x).map (·.val) = (kvs.lookup x).map Value.ref
  | [], [], _ => rfl
  | d :: l, (k, b) :: r, h => by
    obtain ⟨⟨t, e1, e2⟩, hr⟩ := h
    have ih := find_tab x hr
    by_cases c : x = k
    · have c1 : d.key.isStr x = true := by rw [e1, isStr_eq, decide_eq_true c]
      rw [List.find?_cons_of_pos (p := fun d : DictEntry => d.key.isStr x) c1, c]
      simp [List.lookup, e2]
    · have c1 : ¬ d.key.isStr x = true := by rw [e1, isStr_eq, decide_eq_false c]; exact Bool.false_ne_true
      rw [List.find?_cons_of_neg (p := fun d : DictEntry => d.key.isStr x) c1, ih]
      have c2 : (x == k) = false := beq_eq_false_iff_ne.mpr c
      simp [List.lookup, c2]
theorem ktab_mk {K : PySem.W.Frag} {w : World} {a : Addr} {es : Array DictEntry} {n : Nat} {kvs : List (Str × Addr)} (hl : K.lookup a = some ⟨.type "dict", none, .dict es n, #[]⟩) (hk : PySem.W.KeysLit w.params es.toList) (low : (a == sysModules) = false) (he : TabEs es.toList kvs) : KTab K w a kvs :=
  ⟨⟨es, n, hl, hk, fun x => find_tab x he⟩, low⟩
end

/-! ### own errors without an own __init__: caught, asked -/
structure XcC (K : PySem.W.Frag) (D : Addr) : Prop where
  cl : (PySem.W.clsIn K D).isSome = true
  ga : PySem.W.findIn K (.ref D) "__getattribute__" = some (some (.builtin "BaseException.__getattribute__"))
  gt : PySem.W.findIn K (.ref D) "__getattr__" = some Option.none
  sub : PySem.W.subIn K (.ref D) (.type "BaseException") = some true
  has : PySem.W.hasDictIn K D = true
  cls : PySem.W.findIn K (.ref D) "__class__" = some (some (.builtin "object.__class__"))
  get : PySem.W.specialIn K (.builtin "object.__class__") "__get__" = some (some (.builtin "getset_descriptor.__get__"))
  tk : PySem.W.takesIn K (.builtin "object.__class__") = some true
  obj : PySem.W.mroIn K D (.type "object") = some true
def rIsN (K : PySem.W.Frag) (a : Addr) (cls : Value) (d : Option Addr) : List V → Hp → VK → Prop := fun xs H Q => ∃ (D : Addr) (c : V) (cv : Value) (b : Bool), xs = [.ref a, c] ∧ cls = .ref D ∧ d = Option.none ∧ XcC K D ∧ ClsV c cv ∧ PySem.W.kitOne K (.ref D) cv = some b ∧ Q (.bl b) H
theorem call_isN {X : Cx} {a : Addr} {cls : Value} {d : Option Addr} {oe : Obj} {pn : List (Addr × Obj)} (hz : Zc cls d oe) (hf : ∃ vs, oe.data = .fields vs) : CallR (X.suite a ((a, oe) :: pn)) (.builtin "isinstance") (rIsN X.K a cls d) := by
  intro pins sh σ H xs us Q I rel hyp
  obtain ⟨D, c, cv, b, rfl, rfl, rfl, C, hcv, e, q⟩ := hyp
  obtain ⟨u1, u2, rfl, r1, r2⟩ := vals2 rel
  have e2 := hcv.eq r2
  subst e2
  cases r1
  obtain ⟨got, _⟩ := I.pin (a, oe) (List.mem_append_left _ List.mem_cons_self)
  obtain ⟨vs, hv⟩ := hf
  have J : PySem.W.InstAt sh.heap a oe D Option.none := by
    obtain ⟨oc, odd, oda, osl⟩ := oe
    obtain ⟨h1, h2⟩ := hz
    dsimp only at h1 h2 hv
    subst h1 h2 hv
    exact ⟨got, rfl, rfl, trivial⟩
  exact PySem.W.kia_one (PySem.W.kitx_exc C.cl C.ga C.gt C.sub C.cls C.get C.tk C.obj) I.kIn J e (fun z => nomatch z) fun tk => ⟨.bl b, H, I.kept (t' := tk) fun _ _ z => z, rfl, q⟩

/-- e.f where the written part is told -/
theorem pe_fldK {X : Cx} {K : PySem.W.Frag} {e : Expr} {f : Str} {ta : TE} {pos : Pos} (hK : X.K = K) (he : PE X e ta) (hb : attributeBase e f X.env (eval e X.env) = eval e X.env) : PE X (.Attribute e f pos) (tFld K ta f) := by
  subst hK
  exact pe_fld he hb
/-- list(xs) where the written part is told -/
def rListOf (K : PySem.W.Frag) : List V → Hp → VK → Prop := fun zs H Q => ∃ (p : Addr) (ys : List V), zs = [V.ref p] ∧ (SqL K H p ys ∨ SqT K H p ys) ∧ (∀ l : Addr, H l = none → Q (.ref l) (upd H l (.lst ys)))
theorem cr_listK {X : Cx} {K : PySem.W.Frag} (hK : X.K = K) : CallR X (.type "list") (rListOf K) := by
  subst hK
  exact call_list_of
/-- len of a list or tuple where the written part is told -/
def rLenOf (K : PySem.W.Frag) : List V → Hp → VK → Prop := fun zs H Q => ∃ (p : Addr) (ys : List V), zs = [V.ref p] ∧ (SqL K H p ys ∨ SqT K H p ys) ∧ Q (.int (ys.length : Int)) H
theorem cr_lenK {X : Cx} {K : PySem.W.Frag} (hK : X.K = K) : CallR X (.builtin "len") (rLenOf K) := by
  subst hK
  exact call_len_seq
/-- o.m(e, ..), m of a built-in type, where the written part is told -/
theorem pe_bmK {X : Cx} {K : PySem.W.Frag} {T id : String} {name : Str} {r : V → List V → Hp → VK → Prop} {o e : Expr} {es : List Expr} {to : TE} {t : TA} {apos cpos : Pos} (hK : X.K = K) (pa : PySem.PlainAttrs T) (slot : PySem.Slot T name id) (hty : typeOf (.builtin id) = pure (.type "method_descriptor")) (hm : MtR X id r) (ho : PE X o to) (ha : PA X (e :: es) t)
    (hbase : attributeBase o name X.env (eval o X.env) = eval o X.env := by rfl)
    (hfew : ((backTo cpos (starEach (e :: es) X.env)).all (fun x => !x.1) && (backToKw cpos (keywordEach [] X.env)).all (fun x => x.1.isSome)
      && decide ((e :: es).length + ([] : List Keyword).length + (if ([] : List Keyword).isEmpty then 0 else 1) < 30)) = true := by rfl)
    (hline : (apos.endLine == cpos.line) = true := by rfl) (hs : starEach (e :: es) X.env = (false, eval e X.env) :: starEach es X.env := by rfl) (hplain : (backTo cpos (starEach es X.env)).any (·.1) = false := by rfl) :
    PE X (.Call (.Attribute o name apos) (e :: es) [] cpos) (tBM K T r to t) := by
  subst hK
  exact pe_bm pa slot hty hm ho ha hbase hfew hline hs hplain

/-- isinstance(x, c) where the written part is told -/
theorem cr_isiK {X : Cx} {K : PySem.W.Frag} (hK : X.K = K) : CallR X (.builtin "isinstance") (rIsi K) := by
  subst hK
  exact call_isi

/-! ### a def called while any exception is handled -/
structure FnW (P : Program) (w : World) (K : PySem.W.Frag) (mg : Str → Option Value) (base : Heap) (k : Nat) (f : Addr) (fd : FuncData) (ps : List Str) (sp : Sp) : Prop where
  len : ∀ vs H Q E, sp vs H Q E → vs.length = ps.length
  run : ∀ (A : Around) (out : List Env) (s : Shared) (H : Hp) (ar : Args) (us : List Value) (vs : List V) (Q : VK) (E : XK) (p : Addr × Obj), L2H.RoomH k A → L2H.PinOk out H s p → Env0 P w K mg base A out s H →
    BindsTo s fd ar (ps.zip us) → Vals vs us → sp vs H Q E → codeAny (model P w) A (.call (.ref f) ar) (CR CX0 out P w H s Q E) s
theorem fun_okW {P : Program} {w : World} {K : PySem.W.Frag} {mg : Str → Option Value} {base : Heap} {x qual : Str} {st : Stmt} {f : Addr} {fd : FuncData} {N ps : List Str} {k : Nat} {sp : Sp} (F : Fun K x qual st f fd) (S : FnScope N ps (defScope st))
    (len : ∀ vs H Q E, sp vs H Q E → vs.length = ps.length)
    (body : ∀ (cdv : Value) (A : Around) (out : List Env) (s : Shared) (H : Hp) (vs : List V) (Q : VK) (E : XK) (p : Addr × Obj), L2H.RoomH k (A.deeper (PyProof.Rows.envOfC qual (defScope st) s.heap.objs.size f cdv)) → sp vs H Q E →
      ∃ t, PSs (L2H.cxH CX0 P w K mg base N qual (defScope st) f cdv A out s H E p) (defBody st) t ∧ t { nx := fun _ H' => Q .non H', rt := Q } (start N vs) H) : FnW P w K mg base (k + 1) f fd ps sp := by
  obtain ⟨oc, od, kV, doc, pm, an, cdv, ct, osl, rfl, lk, hcd⟩ := F.ex
  constructor
  · exact len
  intro A out s H ar us vs Q E p room pin env bind vals want
  have up : ∀ b o, base.get? b = some o → s.heap.get? b = some o := fun b o z => (env.bs b o z).1
  have KX : K.In s.heap := env.mod.kin.keeps up
  have places : ∀ y ∈ ps.zip us, (defScope st).names.lookup y.1 = some .local ∨ ((defScope st).names.lookup y.1 = some .cell ∧ ((cellsFrom (s.heap.objs.size + 1) (defScope st).names []).lookup y.1).isSome = true) := by
    rintro ⟨n, v⟩ hy
    exact (S.par n (List.of_mem_zip hy).1).imp id fun q => ⟨q, PySem.W.cellsFrom_some _ _ _ (.inl q)⟩
  refine codeAny_call_function room.depth (KX _ _ lk) rfl S.co S.gen rfl (PySem.W.codeRec_of KX hcd) (bind _ _ _ _ ?_)
  refine wpAny_newFunctionEnv_cells S.kind places fun e he s1 x => ?_
  cases he
  refine ⟨(env.mod.nolimit.keeps up).keeps x.toInCall.keep, codeAny_func ?_⟩
  obtain ⟨t, ht, hq⟩ := body cdv A out s H vs Q E p (room.deeper _) want
  refine wpAny_mono (ht.run [] s1 _ H _ (L2H.inv_startH S pin env (len _ _ _ _ want) vals x) hq) (fun fl s' got => ?_) fun _ _ z => z
  cases fl with
  | next =>
    obtain ⟨_, H2, J, q⟩ := got
    exact ⟨V.non, H2, J.os, J.bare, J.base, J.hok, rfl, q⟩
  | ret u =>
    obtain ⟨v, _, H2, J, rv, q⟩ := got
    exact ⟨v, H2, J.os, J.bare, J.base, J.hok, rv, q⟩
  | brk => exact got.elim fun _ z => z.elim fun _ z => z.2.elim
  | cont => exact got.elim fun _ z => z.elim fun _ z => z.2.elim
theorem pe_callW {X : Cx} {k : Nat} {f : Addr} {fd : FuncData} {ps : List Str} {sp : Sp} {x : Str} {q pos : Pos} {e : Expr} {es : List Expr} {t : TA} {p : Addr × Obj} (F : FnW X.prog X.w X.K X.mg X.base k f fd ps sp) (room : L2H.RoomH k X.A) (hp : p ∈ X.pn) (hg : Gl X x) (hm : X.mg x = some (.ref f)) (hk : PySem.W.keepIn X.K (.ref f) = true)
    (hb : Binds X.K fd ps []) (ha : PA X (e :: es) t) (hdb : (x == ("__debug__" : Str)) = false := by decide) (he : starEach (e :: es) X.env = (false, eval e X.env) :: starEach es X.env := by rfl) (hpl : (backTo pos (starEach es X.env)).any (·.1) = false := by rfl) :
    PE X (.Call (.Name x q) (e :: es) [] pos) (tCallS sp (fun _ => E0) t) := by
  constructor
  intro pins s σ H Q I want
  refine wpAny_Call_Name_kw (ld_glob I hg hm ?_ hdb)
  refine PySem.W.callWith_K (h₀ := X.base) I.ok.mod.kin hk (thn (ha.run pos pins s σ H _ I want) fun us s1 got => ?_) he hpl
  obtain ⟨vs, H1, I1, vals, ask⟩ := got
  refine ⟨I1.kIn, ?_⟩
  have same : us.length = ps.length := vals.length.symm.trans (F.len _ _ _ _ ask)
  have bind := hb s1 us I1.kIn ((congrArg List.length (List.append_nil us)).trans same)
  rw [List.append_nil] at bind
  have at1 := I1.pin p (List.mem_append_left _ hp)
  have pin : L2H.PinOk X.stack H1 s1 p := by
    refine ⟨at1.1, at1.2.1, fun hmm => ?_, at1.2.2.2.2⟩
    rcases List.mem_cons.mp (I1.stkSub p.1 hmm) with z | z
    · exact at1.2.2.1 z
    · exact at1.2.2.2.1 z
  refine wpAny_call (codeAny_mono (F.run X.A X.stack s1 H1 ⟨us, []⟩ us vs Q E0 p room pin I1.env0 bind vals ask) fun r s2 fin => ?_)
  cases r with
  | error z => exact (fin : False).elim
  | ok fl =>
    cases fl with
    | ret u => exact I1.after fin
    | next => exact (fin : False).elim
    | brk => exact (fin : False).elim
    | cont => exact (fin : False).elim

/-! ### x, *xs = t, t a tuple -/
section
open PyProof.Rows
def gStarT (K : PySem.W.Frag) (t : TGs) : TG := fun v σ H Q => ∃ a x xs, v = .ref a ∧ SqT K H a (x :: xs) ∧ xs.length ≤ 1000 ∧ ∀ p, H p = none → t [x, .ref p] σ (_root_.L2.upd H p (.lst xs)) Q
theorem pg_starT {X : Cx} {e1 e2 : Expr} {k : Nat} {p2 pos : Pos} {t : TGs} (hc : X.calm = true) (h : PGs X [e1, e2] t)
    (hs : (assignEach [e1, .Starred e2 p2] X.env).map (·.2) = (assignEach [e1, e2] X.env).map (·.2) := by rfl) (hn : (assignEach [e1, .Starred e2 p2] X.env).length = 2 := by rfl)
    (hst : (assignEach [e1, .Starred e2 p2] X.env).findIdx? (·.1) = some 1 := by rfl) : PG X (.Tuple [e1, .Starred e2 p2] k pos) (gStarT X.K t) := by
  refine ⟨fun pins s σ H v u Q I r hw => ?_⟩
  obtain ⟨a, x, xs, e, hq, hl, hw⟩ := hw
  subst e
  cases r
  obtain ⟨its, rv, ht, hz⟩ := I.tuple hq
  cases its with
  | nil => cases rv
  | cons y ys =>
  have rx : RelV x y := by cases rv; assumption
  have rxs : Vals xs ys := by cases rv; assumption
  have hhd := I.ok.hd hc
  have lys := rxs.length
  rw [assign_Tuple]
  refine wpAny_bind (wpAny_standAt ?_)
  unfold unpack
  rw [hn, hst]
  refine wpAny_bind (wpAny_holding ?_)
  have hlt : a ≠ s.heap.objs.size := by obtain ⟨o, ho, _⟩ := ht; exact Nat.ne_of_lt (Heap.lt_size ho)
  unfold unpackItems
  refine wpAny_bind ?_
  unfold notIterableAtAll
  refine wpAny_bind (wpAny_specialOf ht.typeIs slot_tuple_iter.lookup ?_)
  refine wpAny_pure ?_
  simp only [Bool.false_eq_true, if_false]
  refine wpAny_bind (wpAny_holding (iter_tuple ht ?_))
  have h1z : (y :: ys).toArray.size = ys.length + 1 := by simp
  refine wpAny_bind (wpAny_holding (draw_tuple hlt 1 0 _ _ ⟨_, Heap.get?_push_size _ rfl, rfl, rfl⟩ (ht.push _) (by rw [h1z]; omega) fun h₁ hit₁ hs₁ => ?_))
  have hl₁ : IsTup h₁ a (y :: ys).toArray := (ht.push _).extBut hs₁.extBut hlt
  rw [Nat.zero_add] at hit₁
  obtain ⟨oi, hoi, _⟩ := id hit₁
  obtain ⟨ol, hol, _⟩ := id hl₁
  rw [List.drop_zero]
  have e1 : (y :: ys).toArray.toList.take 1 = [y] := rfl
  rw [e1]
  rw [if_neg (show ¬ ([y].length < 1) by simp)]
  refine wpAny_bind (wpAny_holding (PySem.W.kun_collect (s := { s with heap := h₁ }) (T := "tuple_iterator") (.inr (.inr (.inr rfl))) (Walks.tuple (A := X.A.in1) hhd s.heap.objs.size a hlt (y :: ys).toArray) (fun j u st => st.1.typeIs) (k := 1) (by rw [h1z]; omega) ⟨hit₁, hl₁⟩ (Heap.lt_size hoi) (Heap.lt_size hol) (fun h₂ tk hk => ?_) (by rw [h1z, sizeLine_eq]; omega)))
  have e2 : (y :: ys).toArray.toList.drop 1 = ys := rfl
  rw [e2]
  rw [if_neg (show ¬ (ys.length < 2 - 1 - 1) by omega)]
  have e3 : ys.take (ys.length - (2 - 1 - 1)) = ys := by simp
  have e4 : ys.drop (ys.length - (2 - 1 - 1)) = [] := by simp
  rw [e3, e4]
  have he : ∀ b o, s.heap.get? b = some o → h₂.get? b = some o := fun b o e => by
    have hb : b ≠ s.heap.objs.size := Nat.ne_of_lt (Heap.lt_size e)
    exact hk b o hb (hs₁.extBut b o hb (Heap.get?_push_of_some _ e))
  have I1 : Inv X pins σ H { s with heap := h₂, toks := tk } := I.kept he
  refine wpAny_bind (wpAny_newList (wpAny_pure ?_) (by rw [← lys, sizeLine_eq]; omega))
  have I2 : Inv X pins σ (upd H h₂.objs.size (.lst xs)) { s with heap := h₂.push { cls := .type "list", data := .seq ys.toArray }, toks := tk } :=
    I1.laid (t' := tk) (fun b o g => Heap.get?_push_of_some _ g) (Nat.le_refl _) ⟨by rw [sizeLine_eq]; omega, ys, 0, rxs, Heap.get?_push_size _ rfl⟩
  rw [hs]
  exact h.run pins _ σ _ [x, .ref h₂.objs.size] _ Q I2 (.cons rx (.cons rfl .nil)) (hw _ (I1.hok.fresh (Nat.le_refl _)))
end

/-! ### sorted(a list of ints), of any length -/
def rSortIs (K : PySem.W.Frag) : List V → Hp → VK → Prop := fun vs H Q => ∃ (l : Addr) (zs : List Int), vs = [V.ref l] ∧ SqL K H l (zs.map V.int) ∧
  ∀ (ys : List Int) (p : Addr), ys.Perm zs → ys.Pairwise (· ≤ ·) → H p = none → Q (.ref p) (upd H p (.lst (ys.map V.int)))
theorem cr_sortIs {X : Cx} : CallR X (.builtin "sorted") (rSortIs X.K) := by
  intro pins sh σ H vs us Q I rel want
  obtain ⟨l, zs, rfl, there, fin⟩ := want
  obtain ⟨its, rv, pl, few⟩ := I.list there
  rw [Vals.ref1 rel]
  have isI := rv.ints
  have same := rv.length
  refine PyProof.Rows.sorted_intsAny pl.isList isI (by rw [← same]; exact few) fun out ys h1 h2 h3 => ?_
  obtain ⟨ep, at2⟩ := PyProof.Rows.sortedAll_at sh.heap its out
  have len : (ys.map V.int).length ≤ sizeLine := by
    rw [List.length_map, h2.length_eq]
    rw [List.length_map] at few
    exact few
  exact ⟨.ref _, upd H (sh.heap.objs.size + 1) (.lst (ys.map V.int)), I.laid (t' := sh.toks) (fun _ _ => PyProof.Rows.sortedAll_old) (Nat.le_succ _) ⟨len, out.toList, ep, vals_of_ints h1, at2⟩, rfl, fin ys _ h2 h3 (I.hok.fresh (Nat.le_succ _))⟩
/-- sorted(a dict whose keys are ints), of any length -/
def rSortDs : List V → Hp → VK → Prop := fun vs H Q => ∃ (d : Addr) (es : List (Key × V)) (zs : List Int), vs = [V.ref d] ∧ Rd H d (.dK es) ∧ es.map (·.1) = zs.map Sum.inl ∧
  ∀ (ys : List Int) (p : Addr), ys.Perm zs → ys.Pairwise (· ≤ ·) → H p = none → Q (.ref p) (upd H p (.lst (ys.map V.int)))
theorem cr_sortDs {X : Cx} (calm : X.calm = true) : CallR X (.builtin "sorted") rSortDs := by
  intro pins sh σ H vs us Q I rel want
  obtain ⟨d, es, zs, rfl, there, keys, fin⟩ := want
  rw [Vals.ref1 rel]
  obtain ⟨few, low, vals, kv, dict⟩ := dk_rd I.hok there
  obtain ⟨ep, at1⟩ := dict.dictAt
  have kk : vals.map (·.1) = zs.map Sum.inl := kv.keys.symm.trans keys
  have same : vals.length = zs.length := by
    have e := congrArg List.length kk
    rw [List.length_map, List.length_map] at e
    exact e
  have few2 : vals.length ≤ sizeLine := by rw [← kv.length]; exact few
  refine Calls.call_function_entry PyProof.Rows.kind_sorted PyProof.Rows.plain_sorted PyProof.Rows.entry_sorted (PyProof.Rows.args_sorted1 _) ?_
  unfold Builtin.«sorted»
  refine wpAny_bind (m := checkCount "sorted" 1 1 _) (wpAny_pure ?_)
  refine wpAny_bind (PySem.W.kdu_collect (A := X.A.in1) (PySem.W.kdl_dict (knd := mixKind X.prog X.w) (kvs := vals) (ep := ep) low) (I.ok.hd calm) at1 few2 fun h2 tk acc keep got => ?_)
  have la : acc.toList.length = zs.length := by rw [Array.length_toList, got.1, same]
  have isI : PyProof.Rows.IntsAre acc.toList zs := ints_each la fun j v e => by
    obtain ⟨k, x, e1, e2⟩ := got.2 j v (by rw [← Array.getElem?_toList]; exact e)
    have e3 : (vals.map (·.1))[j]? = some k := by rw [List.getElem?_map, e1]; rfl
    rw [kk, List.getElem?_map] at e3
    cases e4 : zs[j]? with
    | none => rw [e4] at e3; cases e3
    | some y =>
      rw [e4] at e3
      obtain rfl : Sum.inl y = k := Option.some.inj e3
      rcases keyIs_shape (show keyIs (Sum.inl y) v = true from e2) with ⟨i, t, ek, ev⟩ | ⟨z, t, ek, ev⟩
      · cases ek
        exact ⟨y, t, rfl, ev⟩
      · cases ek
  have fewA : acc.toList.length ≤ sizeLine := by rw [la, ← same]; exact few2
  have I1 : L2.Inv X pins σ H { sh with heap := h2, toks := tk } := I.kept keep
  refine wpAny_bind (wpAny_newList ?_ fewA)
  have at2 : (h2.push (PyProof.Rows.seqObj "list" acc.toList.toArray 0)).get? h2.objs.size = some (PyProof.Rows.seqObj "list" acc.toList.toArray 0) := Heap.get?_push_size _ rfl
  show wpAny _ _ _ _ _ { sh with heap := h2.push (PyProof.Rows.seqObj "list" acc.toList.toArray 0), toks := tk }
  refine wpAny_bind (wpAny_holding (wpAny_call_entry PyProof.Rows.slot_list_sort ⟨_, at2, rfl⟩ PyProof.Rows.entry_list_sort
    (PyProof.Rows.list_sort_treeAny (s := { sh with heap := h2.push (PyProof.Rows.seqObj "list" acc.toList.toArray 0), toks := tk }) at2 isI fewA fun out ys g1 g2 g3 => ⟨_, rfl, ?_⟩) (PyProof.Rows.args_list_sort _)))
  obtain ⟨c, at3⟩ := PyProof.Rows.sortedHeap_at (vs := acc.toList) (out := out) at2
  have len : (ys.map V.int).length ≤ sizeLine := by
    rw [List.length_map, g2.length_eq, ← same]
    exact few2
  refine wpAny_pure ⟨_, rfl, .ref h2.objs.size, upd H h2.objs.size (.lst (ys.map V.int)), I1.laid (t' := tk) (fun b u e => ?_) (Nat.le_refl _)
    ⟨len, out.toList, c, vals_of_ints g1, at3⟩, rfl, fin ys _ g2 g3 (I1.hok.fresh (Nat.le_refl _))⟩
  have lt : b < h2.objs.size := Heap.lt_size e
  rw [PyProof.Rows.sortedHeap_old (Nat.ne_of_lt lt) (by rw [PyProof.Rows.size_push']; exact Nat.lt_succ_of_lt lt)]
  exact Heap.get?_push_of_some _ e

/-! ### a tuple times nought -/
section
open PyProof.Rows
theorem tuple_mul0 (l : Addr) (items : Array Value) (n : Nat) (dd : Option Addr) (sl : Array (Option Value)) (u : Tok) (c1 : (items.isEmpty || (0 : Int) == 1) = false) :
    Meets (Builtin.«tuple.__mul__» ⟨[.ref l, .int 0 u], []⟩) (fun _ R s => s.heap.get? l = some { cls := .type "tuple", dict := dd, data := .seq items n, slots := sl } ∧
      R (.ok (.ret (Value.ref s.heap.objs.size))) { s with heap := s.heap.push { cls := Value.type "tuple", data := Data.seq #[] }, toks := s.toks }) :=
  .of_wp fun prog w A R s h => by
    obtain ⟨hp, g, d, tk, os⟩ := s
    obtain ⟨hl, h⟩ := h
    have f1 := AutoSeq1.idx_int
    have c0 : (decide ((0 : Int) < -(2 ^ 63)) || decide ((0 : Int) ≥ 2 ^ 63)) = false := by decide
    have c2 : (decide ((0 : Int) ≤ 0) || items.isEmpty) = true := rfl
    wp_walk using wpAny_loadPart' hl
    repeat (first
      | (refine wpAny_ite_false (decide_eq_false (by rw [c0]; exact Bool.false_ne_true)) ?_; wp_walk using wpAny_loadPart' hl)
      | (refine wpAny_ite_false (decide_eq_false (by rw [c1]; exact Bool.false_ne_true)) ?_; wp_walk using wpAny_loadPart' hl)
      | (refine wpAny_ite_true (decide_eq_true (by rw [c2])) ?_; wp_walk using wpAny_loadPart' hl))
    exact ⟨_, rfl, h⟩
def rRepT0 (K : PySem.W.Frag) : R2 := fun x y H Q => ∃ l xs, x = .ref l ∧ y = .int 0 ∧ SqT K H l xs ∧ xs ≠ [] ∧ ∀ p, H p = none → Q (.ref p) (_root_.L2.upd H p (.tup []))
theorem op_repT0 {X : Cx} : OpR X (binaryOp .Mult) (rRepT0 X.K) := by
  intro pins s σ H x y v u Q I rx ry h
  obtain ⟨l, xs, rfl, rfl, hT, hne, q⟩ := h
  cases rx
  obtain ⟨t, rfl⟩ := ry
  obtain ⟨its, r, ⟨⟨cls, dd, data, sl⟩, ho, hc, n, hd⟩, hs⟩ := I.tuple hT
  simp only at hc hd
  subst hc hd
  have hle : its.length = xs.length := r.length.symm
  have hn : its ≠ [] := fun e => hne (by
    rw [e] at hle
    exact List.eq_nil_of_length_eq_zero hle.symm)
  have hi : its.toArray.isEmpty = false := by
    cases its with
    | nil => exact absurd rfl hn
    | cons a b => rfl
  have c1 : (its.toArray.isEmpty || (0 : Int) == 1) = false := by
    rw [hi, Bool.false_or]
    rfl
  refine wpAny_binaryOp_repeat_ref (T := "tuple") (U := "int") (by decide) ⟨_, ho, rfl⟩ (fun s' => typeIs_int s' 0 t) noFill_tuple_mul F.fills_int_mul F.slot_int_rmul repeat_tuple F.slot_int_index.lookup
    (call_meets F.slot_int_rmul (typeIs_int s 0 t) F.entry_int_rmul (F.args_int_rmul_2 _ _) (int_rmul_tuple 0 t l its.toArray n dd sl)
      ⟨ho, rfl, ⟨_, ho, rfl⟩, call_meets F.slot_tuple_mul ⟨_, ho, rfl⟩ F.entry_tuple_mul (F.args_tuple_mul_2 _ _) (tuple_mul0 l its.toArray n dd sl t c1) ⟨ho, ?_⟩⟩)
  refine ⟨.ref s.heap.objs.size, _, I.laid (t' := s.toks) (o := .tup []) (fun b ob q => Heap.get?_push_of_some _ q) (Nat.le_refl _) ?_, rfl, q _ (I.hok.fresh (Nat.le_refl _))⟩
  exact ⟨(by show 0 ≤ sizeLine; decide), [], .nil, IsTup.new _ _⟩
end

/-! ### a tuple times 0, 1 or more -/
section
open PyProof.Rows
theorem tuple_mul1 (l : Addr) (items : Array Value) (n : Nat) (dd : Option Addr) (sl : Array (Option Value)) (u : Tok) :
    Meets (Builtin.«tuple.__mul__» ⟨[.ref l, .int 1 u], []⟩) (fun _ R s => s.heap.get? l = some { cls := .type "tuple", dict := dd, data := .seq items n, slots := sl } ∧ R (.ok (.ret (.ref l))) s) :=
  .of_wp fun prog w A R s h => by
    obtain ⟨hp, g, d, tk, os⟩ := s
    obtain ⟨hl, h⟩ := h
    have f1 := AutoSeq1.idx_int
    have c0 : (decide ((1 : Int) < -(2 ^ 63)) || decide ((1 : Int) ≥ 2 ^ 63)) = false := by decide
    have c1 : (items.isEmpty || (1 : Int) == 1) = true := by rw [show ((1 : Int) == 1) = true from rfl, Bool.or_true]
    have hT : Shared.TypeIs ⟨hp, g, d, tk, os⟩ (.ref l) "tuple" := ⟨_, hl, rfl⟩
    wp_walk using wpAny_loadPart' hl, wpAny_typeOf hT
    repeat (first
      | (refine wpAny_ite_false (decide_eq_false (by rw [c0]; exact Bool.false_ne_true)) ?_; wp_walk using wpAny_loadPart' hl, wpAny_typeOf hT)
      | (refine wpAny_ite_true (decide_eq_true (by rw [c1])) ?_; wp_walk using wpAny_loadPart' hl, wpAny_typeOf hT))
    all_goals first | exact h | exact ⟨_, rfl, h⟩
def rRepA (K : PySem.W.Frag) : R2 := fun x y H Q => ∃ l k xs, x = .ref l ∧ y = .int k ∧ SqT K H l xs ∧ xs ≠ [] ∧ 0 ≤ k ∧ k ≤ 1000 ∧ xs.length ≤ 1000 ∧
  (k = 1 → Q (.ref l) H) ∧ (k ≠ 1 → ∀ p, H p = none → Q (.ref p) (_root_.L2.upd H p (.tup (List.replicate k.toNat xs).flatten)))
theorem op_repA {X : Cx} : OpR X (binaryOp .Mult) (rRepA X.K) := by
  intro pins s σ H x y v u Q I rx ry h
  obtain ⟨l, k, xs, rfl, rfl, hT, hne, k0, k1, lx, q1, q2⟩ := h
  by_cases c0 : k = 0
  · subst c0
    exact op_repT0 pins s σ H _ _ v u Q I rx ry ⟨l, xs, rfl, rfl, hT, hne, q2 (by decide)⟩
  by_cases c1 : k = 1
  · subst c1
    cases rx
    obtain ⟨t, rfl⟩ := ry
    obtain ⟨its, r, ⟨⟨cls, dd, data, sl⟩, ho, hc, n, hd⟩, hs⟩ := I.tuple hT
    simp only at hc hd
    subst hc hd
    exact wpAny_binaryOp_repeat_ref (T := "tuple") (U := "int") (by decide) ⟨_, ho, rfl⟩ (fun s' => typeIs_int s' 1 t) noFill_tuple_mul F.fills_int_mul F.slot_int_rmul repeat_tuple F.slot_int_index.lookup
      (call_meets F.slot_int_rmul (typeIs_int s 1 t) F.entry_int_rmul (F.args_int_rmul_2 _ _) (int_rmul_tuple 1 t l its.toArray n dd sl)
        ⟨ho, rfl, ⟨_, ho, rfl⟩, call_meets F.slot_tuple_mul ⟨_, ho, rfl⟩ F.entry_tuple_mul (F.args_tuple_mul_2 _ _) (tuple_mul1 l its.toArray n dd sl t) ⟨ho, ⟨.ref l, H, I, rfl, q1 rfl⟩⟩⟩)
  · exact op_repT pins s σ H _ _ v u Q I rx ry ⟨l, k, xs, rfl, rfl, hT, hne, by omega, k1, lx, q2 c1⟩
/-- a tuple times a number: somewhere the tuple lies -/
def rRepB : R2 := fun x y H Q => ∃ l k xs, x = .ref l ∧ y = .int k ∧ H l = some (.tup xs) ∧ xs ≠ [] ∧ 0 ≤ k ∧ k ≤ 1000 ∧ xs.length ≤ 1000 ∧ ∀ p H', Same H H' → H' p = some (.tup (List.replicate k.toNat xs).flatten) → Q (.ref p) H'
theorem op_repB {X : Cx} : OpR X (binaryOp .Mult) rRepB := by
  intro pins s σ H x y v u Q I rx ry h
  obtain ⟨l, k, xs, ex, ey, hT, hne, k0, k1, lx, q⟩ := h
  refine op_repA pins s σ H x y v u Q I rx ry ⟨l, k, xs, ex, ey, SqT.of hT, hne, k0, k1, lx, fun e => q l H (Same.refl H) ?_, fun _ p hp => q p _ (same_new hp) upd_same⟩
  rw [hT, e]
  show _ = some (HO.tup (xs ++ []))
  rw [List.append_nil]
end

/-! ### many new objects at once -/
section
open PyProof.Rows
variable {X : Cx}
theorem inv_more {pins : List (Addr × Obj)} {σ : L2.St} {H H' : Hp} {s : Shared} {h' : Heap} {tk : Nat} (I : L2.Inv X pins σ H s) (k : ∀ b o, s.heap.get? b = some o → h'.get? b = some o)
    (old : ∀ b, b < s.heap.objs.size → H' b = H b) (new : ∀ b o, s.heap.objs.size ≤ b → H' b = some o → ObjOk X.prog X.w H' h' b o) : L2.Inv X pins σ H' { s with heap := h', toks := tk } := by
  have on : ∀ b o, H b = some o → H' b = some o := fun b o e => by rw [old b (I.hok b o e).lt]; exact e
  refine L2.Inv.call' (ch := []) I rfl ?_ (fun b o e => ?_) I.bare (fun b z => absurd z List.not_mem_nil)
  · exact { keep := fun b o e _ _ _ => k b o e, slot := fun b o e _ _ _ => ⟨o.slots, k b o e⟩, free := fun b o e n _ => (old b (Heap.lt_size e)).trans n, there := fun b o e _ => ⟨o, k b o e⟩,
            tups := fun b xs => on b _, frzs := fun b o u => on b _, tbls := fun b ps e => ⟨#[], by rw [Array.append_empty]; exact on b _ e⟩ }
  · rcases Nat.lt_or_ge b s.heap.objs.size with lt | ge
    · rw [old b lt] at e
      exact (I.hok b o e).stay (fun c u _ => k c u) (fun c => on c _) fun c xs => on c _
    · exact new b o ge e
end
/-! ### dict(t), t a tuple of pairs whose object is known -/
section
open PyProof.Rows
theorem vals_pairs {X : Cx} {pins : List (Addr × Obj)} {σ : L2.St} {H : Hp} {s : Shared} (I : L2.Inv X pins σ H s) : ∀ {ps : List Addr} {kvs : List (Key × V)}, Paired (fun p kv => SqT X.K H p [kV kv.1, kv.2]) ps kvs →
    ∃ (rs : List (Key × Value)) (vs : List (Value × Value)), KV kvs rs ∧ rs.length = ps.length ∧ vs.length = ps.length ∧
      ∀ (j : Nat) (u y : Value), vs[j]? = some (u, y) → ∃ b k, ps[j]? = some b ∧ IsTup s.heap b #[u, y] ∧ rs[j]? = some (k, y) ∧ keyIs k u = true
  | _, _, .nil => ⟨[], [], .nil, rfl, rfl, fun _ _ _ e => nomatch e⟩
  | _, _, .cons (a := a) (b := q) h t => by
    obtain ⟨rs, vs, r, l1, l2, at'⟩ := vals_pairs I t
    obtain ⟨its, rv, here, _⟩ := I.tuple h
    obtain ⟨u, y, ei, ru, ry⟩ := vals2 rv
    subst ei
    refine ⟨(q.1, y) :: rs, (u, y) :: vs, .cons ⟨rfl, ry⟩ r, congrArg (· + 1) l1, congrArg (· + 1) l2, fun j u' y' e => ?_⟩
    cases j with
    | zero =>
      cases e
      exact ⟨a, q.1, rfl, here, rfl, kV_is (P := X.prog) (w := X.w) ru⟩
    | succ j => exact at' j u' y' e
def rDictPT (K : PySem.W.Frag) : List V → Hp → VK → Prop := fun xs H Q => ∃ (a : Addr) (o : Obj) (ps : List Addr) (kvs : List (Key × V)), xs = [.ref a] ∧ H a = some (.frz o (.tup (ps.map V.ref))) ∧ o.dict = none ∧ Paired (fun p kv => SqT K H p [kV kv.1, kv.2]) ps kvs ∧
    ∀ p, H p = none → Q (.ref p) (upd H p (.dK (mergeK [] kvs)))
theorem call_dictPT {X : Cx} (calm : X.calm = true) : CallR X (.type "dict") (rDictPT X.K) := by
  intro pins s σ H xs us Q I r want
  obtain ⟨a, o, ps, kvs, rfl, there, bare, pairs, fin⟩ := want
  rw [Vals.ref1 r]
  obtain ⟨ho, hz, its, rv, o2, ho2, hc, n, hdat⟩ := I.hok a _ there
  rw [ho] at ho2
  cases ho2
  have ei := refs_at rv
  subst ei
  rw [List.length_map] at hz
  obtain ⟨rs, vs, rel, l1, l2, at'⟩ := vals_pairs I pairs
  have big : (s.heap.objs.size == sysModules) = false := beq_eq_false_iff_ne.mpr (Nat.ne_of_gt I.big)
  have len : (mergeK [] kvs).length ≤ sizeLine := Nat.le_trans (length_mergeK kvs []) (by rw [rel.length, l1]; exact Nat.le_trans (Nat.le_of_eq (Nat.zero_add _)) hz)
  refine PySem.call_dict_pairs (knd := mixKind X.prog X.w) (kvs := rs) (PySem.PairArg.tuple a (ps.map Value.ref).toArray (fun j => ps.getD j 0) vs) (I.ok.hd calm) ⟨⟨o, n, ho, hc, bare, hdat⟩, by simp [l2], fun j u y e => ?_⟩ ⟨l1.trans l2.symm, fun j u y e => ?_⟩ (by rw [l2]; exact hz) fun h' tk dict keep => ?_
  · obtain ⟨b, k, e1, e2, _⟩ := at' j u y e
    have eb : ps.getD j 0 = b := by rw [List.getD_eq_getElem?_getD, e1]; rfl
    exact ⟨by simp [e1, eb], .inl (by show IsTup s.heap (ps.getD j 0) #[u, y]; rw [eb]; exact e2)⟩
  · obtain ⟨b, k, _, _, e3, e4⟩ := at' j u y e
    exact ⟨k, e3, e4⟩
  · exact ⟨.ref s.heap.objs.size, upd H s.heap.objs.size (.dK (mergeK [] kvs)), I.laid (t' := tk) (fun b u e => keep b u List.not_mem_nil e) (Nat.le_refl _) ⟨len, big, merged [] rs, KV.merge rel .nil, dict⟩, rfl, fin _ (I.hok.fresh (Nat.le_refl _))⟩
end
/-! ### tuple(d.items()) -/
section
open PyProof.Rows
/-- where the pairs lie -/
def pairsH (H : Hp) (as : List Addr) (kvs : List (Key × V)) : Hp := fun b => match (as.zip kvs).find? (fun x => decide (x.1 = b)) with
  | some x => some (.tup [kV x.2.1, x.2.2])
  | none => H b
theorem find_zip : ∀ {as : List Addr} {kvs : List (Key × V)} {j : Nat} {b : Addr} {q : Key × V}, as.Nodup → as[j]? = some b → kvs[j]? = some q → (as.zip kvs).find? (fun x => decide (x.1 = b)) = some (b, q)
  | [], _, j, b, q, _, h, _ => nomatch h
  | _ :: _, [], j, b, q, _, _, h => nomatch h
  | a :: as, p :: kvs, 0, b, q, _, h1, h2 => by
    cases h1
    cases h2
    rw [List.zip_cons_cons, List.find?_cons]
    show (match decide (a = a) with | true => some (a, p) | false => _) = _
    rw [decide_eq_true rfl]
  | a :: as, p :: kvs, j + 1, b, q, nd, h1, h2 => by
    have nd := List.nodup_cons.mp nd
    have ne : a ≠ b := fun e => nd.1 (by rw [e]; exact List.mem_of_getElem? (show as[j]? = some b from h1))
    rw [List.zip_cons_cons, List.find?_cons]
    show (match decide (a = b) with | true => some (a, p) | false => _) = _
    rw [decide_eq_false ne]
    exact find_zip nd.2 h1 h2
theorem find_off {as : List Addr} {kvs : List (Key × V)} {b : Addr} (h : b ∉ as) : (as.zip kvs).find? (fun x => decide (x.1 = b)) = none :=
  List.find?_eq_none.mpr fun x hx e => h (by rw [← of_decide_eq_true e]; exact (List.of_mem_zip (by simpa using hx)).1)
theorem pairsH_off {H : Hp} {as : List Addr} {kvs : List (Key × V)} {b : Addr} (h : b ∉ as) : pairsH H as kvs b = H b := by
  unfold pairsH
  rw [find_off h]
theorem tup_new_items {prog : Program} {w : World} {A : Around} {E : Value → Shared → Prop} {s : Shared} {knd : KeyKind prog w Key} {kvs : List (Key × Value)} {r d : Addr} {ep : Nat} {Q₁ : Value → Shared → Prop} (hh : A.handled = none) (hv : s.heap.IsItemsView r d) (hm : s.heap.DictAt knd d kvs ep) (hn : kvs.length ≤ sizeLine)
    (want : ∀ h' tk (as : List Addr), (∀ b o, s.heap.get? b = some o → h'.get? b = some o) → as.length = kvs.length → PySem.W.KdxG knd kvs s.heap.objs.size h' as →
      Q₁ (.ref h'.objs.size) { s with heap := h'.push { cls := .type "tuple", data := .seq (as.map Value.ref).toArray }, toks := tk }) :
    codeAny (model prog w) A (.call (.builtin "tuple.__new__") ⟨[.type "tuple", .ref r], []⟩) (wants Q₁ E) s := by
  refine codeAny_of_tree ?_
  refine wpAny_bind (m := checkBuiltinCall "tuple.__new__" _) (wpAny_of_eq (PySem.F.newCall_tuple_1 _) (wpAny_pure ⟨plainId_quiet PySem.F.plain_tuple_new _, codeAny_builtin PySem.F.entry_tuple_new ?_⟩))
  rw [Around.under_plainId PySem.F.plain_tuple_new _]
  have g1 := sub_tuple_self
  have g2 := init_tuple_lookup
  have g3 := madeHere_tuple
  obtain ⟨ov, hov, hcv, hdv⟩ := id hv
  have ty : s.TypeIs (.ref r) "dict_items" := ⟨ov, hov, hcv⟩
  obtain ⟨hp, gg, dd, tt, os⟩ := s
  wp_walk using wpAny_typeOf ty, PySem.W.kdx_collect (A := A.in1) (knd := knd) (kvs := kvs) (ep := ep) (show A.in1.handled = none from hh) hv hm hn
  intro h' tk as keep len pairs
  show wpAny _ _ (Builtin.Tuple.tupleExact (as.map Value.ref).toArray >>= fun v => ret v) _ _ _
  unfold Builtin.Tuple.tupleExact
  refine wpAny_bind (wpAny_newObj_type ?_ (by show (as.map Value.ref).toArray.size ≤ sizeLine; simp [len, hn]))
  exact wpAny_pure (want h' tk as keep len pairs)
theorem call_tup_items {prog : Program} {w : World} {A : Around} {E : Value → Shared → Prop} {s : Shared} {knd : KeyKind prog w Key} {kvs : List (Key × Value)} {r d : Addr} {ep : Nat} {Q : Value → Shared → Prop} (hh : A.handled = none) (hv : s.heap.IsItemsView r d) (hm : s.heap.DictAt knd d kvs ep) (hn : kvs.length ≤ sizeLine)
    (want : ∀ h' tk (as : List Addr), (∀ b o, s.heap.get? b = some o → h'.get? b = some o) → as.length = kvs.length → PySem.W.KdxG knd kvs s.heap.objs.size h' as →
      Q (.ref h'.objs.size) { s with heap := h'.push { cls := .type "tuple", data := .seq (as.map Value.ref).toArray }, toks := tk }) :
    wpAny (model prog w) A (call (.type "tuple") [.ref r]) Q E s := by
  refine callType_codes (Q₁ := fun obj s₁ => s₁.TypeIs obj "tuple" ∧ Q obj s₁) PySem.F.called_tuple (PySem.F.typeCall_tuple_1 _) PySem.F.entry_object_init
    (tup_new_items (A := A.in1) hh hv hm hn fun h' tk as k1 k2 k3 => ⟨⟨_, Heap.get?_push_size _ rfl, rfl⟩, want h' tk as k1 k2 k3⟩) fun obj s₁ z => ?_
  exact ⟨z.1, PySem.F.args_object_init_2 obj _, object_init_meets PySem.F.called_tuple.init.lookup PySem.F.called_tuple.made (by decide) prog w A.in1 _ s₁ ⟨z.1, rfl, z.2⟩⟩
def rTupItems : V → Hp → VK → Prop := fun x H Q => ∃ (d : Addr) (kvs : List (Key × V)), x = .ref d ∧ H d = some (.dK kvs) ∧
  ∀ (H' : Hp) (p : Addr) (o : Obj) (ts : List Addr), Same H H' → H p = none → o.dict = none → H' p = some (.frz o (.tup (ts.map V.ref))) → Paired (fun (t : Addr) (q : Key × V) => H' t = some (.tup [kV q.1, q.2])) ts kvs → Q (.ref p) H'
def tTupItems (te : TE) : TE := fun σ H Q => te σ H fun x H1 => rTupItems x H1 Q
theorem pairsH_all {H : Hp} : ∀ {as : List Addr} {kvs : List (Key × V)}, as.length = kvs.length → as.Nodup → ∀ all : List Addr, ∀ alk : List (Key × V), all.Nodup → (∀ (j : Nat) (b : Addr), as[j]? = some b → ∃ i : Nat, all[i]? = some b ∧ alk[i]? = kvs[j]?) → Paired (fun (t : Addr) (q : Key × V) => pairsH H all alk t = some (.tup [kV q.1, q.2])) as kvs
  | [], [], _, _, _, _, _, _ => .nil
  | [], _ :: _, h, _, _, _, _, _ => nomatch h
  | _ :: _, [], h, _, _, _, _, _ => nomatch h
  | a :: as, q :: kvs, h, nd, all, alk, na, sub => by
    have nd := List.nodup_cons.mp nd
    obtain ⟨i, e1, e2⟩ := sub 0 a rfl
    refine .cons ?_ (pairsH_all (Nat.succ.inj h) nd.2 all alk na fun j b e => sub (j + 1) b e)
    unfold pairsH
    rw [find_zip na e1 e2]
theorem pe_tupItems {X : Cx} {e : Expr} {te : TE} {p apos cpos pos : Pos} (calm : X.calm = true) (he : PE X e te) (hg : Gl X "tuple") (hm : X.mg "tuple" = none) (hv : bootBuiltins "tuple" = some (.type "tuple"))
    (hbase : attributeBase e "items" X.env (eval e X.env) = eval e X.env := by rfl) (hline : (apos.endLine == cpos.line) = true := by rfl)
    (hs : starEach [.Call (.Attribute e "items" apos) [] [] cpos] X.env = (false, eval (.Call (.Attribute e "items" apos) [] [] cpos) X.env) :: starEach [] X.env := by rfl) :
    PE X (.Call (.Name "tuple" p) [.Call (.Attribute e "items" apos) [] [] cpos] [] pos) (tTupItems te) := by
  constructor
  intro pins s σ H Q I hq
  refine wpAny_Call_Name_kw (ld_blt I hg hm hv ?_)
  refine PyProof.Rows.callWith_type1 ?_ hs rfl
  rw [hs]
  refine Calls.spliced_cons (wpAny_Call_method (T := "dict") (id := "dict.items") hbase rfl hline PySem.F.plainAttrs_dict PySem.F.slot_dict_items PySem.F.type_dict_items (thn (he.run pins s σ H _ I hq) fun u s1 ⟨x, H1, I1, rx, d, kvs, ex, hd, fin⟩ => ?_))
  subst ex
  obtain rfl : u = Value.ref d := rx
  obtain ⟨few, low, vs, kv, dict⟩ := I1.hok d _ hd
  obtain ⟨ep, here⟩ := dict.dictAt
  have lk : kvs.length = vs.length := Paired.length kv
  refine ⟨dict.typeIs, dict.mapOf.noDict, ?_⟩
  show wpAny _ _ (callWith cpos (.builtin "dict.items") [.ref d] [] []) _ X.xe s1
  refine method_meetsIn PySem.F.slot_dict_items PySem.F.entry_dict_items rfl (PySem.evalArgs_none ⟨rfl, dict.typeIs, PySem.F.args_dict_items_1 _, _, meets_dict_items (mixKind X.prog X.w) d low, ⟨vs, dict⟩, Calls.spliced_nil ?_⟩)
  refine call_tup_items (knd := mixKind X.prog X.w) (kvs := vs) (ep := ep) (I1.ok.hd calm) ⟨_, Heap.get?_push_size _ rfl, rfl, rfl⟩ (here.push _) (by rw [← lk]; exact few) fun h' tk as keep len pairs => ?_
  have nd : as.Nodup := pairs.rise.imp fun h => Nat.ne_of_lt h
  have I2 : L2.Inv X pins σ H1 { s1 with heap := s1.heap.push { cls := .type "dict_items", data := .fields #[.ref d] } } := I1.kept (t' := s1.toks) fun b o e => Heap.get?_push_of_some _ e
  have top : s1.heap.objs.size + 1 ≤ h'.objs.size := Heap.lt_size (keep s1.heap.objs.size _ (Heap.get?_push_size _ rfl))
  have sz2 : ({ s1 with heap := s1.heap.push { cls := .type "dict_items", data := .fields #[.ref d] } } : Shared).heap.objs.size = s1.heap.objs.size + 1 := Heap.size_push _ _
  generalize { s1 with heap := s1.heap.push { cls := .type "dict_items", data := .fields #[.ref d] } } = s2 at I2 keep pairs sz2 ⊢
  have pout : h'.objs.size ∉ as := fun z => by
    obtain ⟨j, hj⟩ := List.mem_iff_getElem?.mp z
    obtain ⟨_, _, _, _, _, q⟩ := pairs.pairs j _ hj
    exact absurd (Heap.lt_size q) (Nat.lt_irrefl _)
  have old : ∀ b, b < s2.heap.objs.size → b ∉ as := fun b hb z => Nat.lt_irrefl _ (Nat.lt_trans hb (pairs.above b z))
  have all := pairsH_all (H := H1) (as := as) (kvs := kvs) (len.trans lk.symm) nd as kvs nd fun j b e => ⟨j, e, rfl⟩
  have off : ∀ {xs : List Addr} {ys : List (Key × V)}, h'.objs.size ∉ xs → Paired (fun (t : Addr) (q : Key × V) => pairsH H1 as kvs t = some (.tup [kV q.1, q.2])) xs ys → Paired (fun (t : Addr) (q : Key × V) => upd (pairsH H1 as kvs) h'.objs.size (.frz { cls := .type "tuple", data := .seq (as.map Value.ref).toArray } (.tup (as.map V.ref))) t = some (.tup [kV q.1, q.2])) xs ys := fun {xs ys} no z => by
    induction z with
    | nil => exact .nil
    | cons h _ ih => exact .cons (by rw [upd_ne (fun e => no (by rw [← e]; exact List.mem_cons_self))]; exact h) (ih fun z => no (List.mem_cons_of_mem _ z))
  have all2 := off pout all
  have le2 : s2.heap.objs.size ≤ h'.objs.size := by
    rw [sz2]
    exact top
  have oneNone : H1 h'.objs.size = none := I2.hok.fresh le2
  have J := inv_more (tk := tk) (H' := upd (pairsH H1 as kvs) h'.objs.size (.frz { cls := .type "tuple", data := .seq (as.map Value.ref).toArray } (.tup (as.map V.ref)))) (h' := h'.push { cls := .type "tuple", data := .seq (as.map Value.ref).toArray }) I2 (fun b o e => Heap.get?_push_of_some _ (keep b o e)) (fun b hb => ?_) (fun b o hb e => ?_)
  · exact ⟨.ref h'.objs.size, _, J, rfl, fin _ _ { cls := .type "tuple", data := .seq (as.map Value.ref).toArray } as (fun b o e => by
      rw [upd_ne (fun q => by rw [q, oneNone] at e; cases e), pairsH_off (old b (I2.hok b o e).lt)]
      exact e) oneNone rfl upd_same all2⟩
  · rw [upd_ne (Nat.ne_of_lt (Nat.lt_of_lt_of_le hb le2)), pairsH_off (old b hb)]
  · by_cases c1 : b = h'.objs.size
    · subst c1
      rw [upd_same] at e
      cases e
      exact ⟨Heap.get?_push_size _ rfl, by rw [List.length_map, len, ← lk]; exact few, as.map Value.ref, LiI.vals_refs as, ⟨_, Heap.get?_push_size _ rfl, rfl, _, rfl⟩⟩
    rw [upd_ne c1] at e
    by_cases c2 : b ∈ as
    · obtain ⟨j, hj⟩ := List.mem_iff_getElem?.mp c2
      obtain ⟨key, k, x, g1, g2, g3⟩ := pairs.pairs j b hj
      have hjl : j < kvs.length := by rw [lk, ← len]; exact (List.getElem?_eq_some_iff.mp hj).1
      have ek : kvs[j]? = some kvs[j] := List.getElem?_eq_getElem hjl
      unfold pairsH at e
      rw [find_zip nd hj ek] at e
      cases e
      obtain ⟨y, hy, ry⟩ := kv_get kv (k := kvs[j].1) (v := kvs[j].2) ek
      rw [g1] at hy
      obtain ⟨rfl, rfl⟩ : k = kvs[j].1 ∧ x = y := by
        have := Option.some.inj hy
        exact ⟨(Prod.mk.inj this).1, (Prod.mk.inj this).2⟩
      exact ⟨(by show 2 ≤ sizeLine; decide), [key, x], .cons (relV_key (show keyIs kvs[j].1 key = true from g2)) (.cons ry .nil), ⟨_, Heap.get?_push_of_some _ g3, rfl, _, rfl⟩⟩
    · rw [pairsH_off c2] at e
      exact absurd (I2.hok b o e).lt (Nat.not_lt.mpr hb)
/-- (), the object told -/
theorem pe_tup0F {X : Cx} {k : Nat} {pos : Pos} : PE X (.Tuple [] k pos) (fun _ H Q => ∀ p (o : Obj), H p = none → o.dict = none → Q (.ref p) (upd H p (.frz o (.tup [])))) := by
  refine ⟨fun pins s σ H Q I hq => ?_⟩
  refine wpAny_Tuple_spliced (thn ((pa_nil (X := X)).run pos pins s σ H (fun xs H' => xs = [] ∧ H' = H) I ⟨rfl, rfl⟩) fun us s1 ⟨xs, H1, I1, r, e1, e2⟩ => ?_)
  subst e1 e2
  cases r
  refine ⟨(by show 0 ≤ sizeLine; decide), ⟨.ref s1.heap.objs.size, upd H1 s1.heap.objs.size (.frz { cls := .type "tuple", data := .seq ([] : List Value).toArray } (.tup [])), I1.laid (t' := s1.toks) (fun b u e => Heap.get?_push_of_some _ e) (Nat.le_refl _) ?_, rfl, hq _ _ (I1.hok.fresh (Nat.le_refl _)) rfl⟩⟩
  exact ⟨Heap.get?_push_size _ rfl, (by show 0 ≤ sizeLine; decide), [], .nil, ⟨_, Heap.get?_push_size _ rfl, rfl, _, rfl⟩⟩
end
/-! ### == by an own __eq__, any answer -/
section
theorem op_eqOwn {X : Cx} {n : Nat} {C f : Addr} {fd : FuncData} {ps : List Str} {sp : Sp} (F : FnOk X.prog X.w X.K X.mg X.base CX0 n f fd ps sp) (room : Room n X.A) (hs : PySem.W.findIn X.K (.ref C) "__eq__" = some (some (.ref f))) (hf : PySem.W.isFn X.K (.ref f) = true) (hb : Binds X.K fd ps []) :
    OpR X (compareOp .Eq) (fun x y H Q => ∃ a b dx dy fs gs, x = .ref a ∧ y = .ref b ∧ H a = some (.ins C dx fs) ∧ H b = some (.ins C dy gs) ∧ sp [.ref a, .ref b] H (fun v H' => (∃ t, v = .bl t) ∧ Q v H') E0) := by
  intro pins s σ H x y v u Q I rx ry want
  obtain ⟨a, b, dx, dy, fs, gs, rfl, rfl, ha, hb2, want⟩ := want
  obtain rfl : v = Value.ref a := rx
  obtain rfl : u = Value.ref b := ry
  obtain ⟨_, J, _⟩ := ins_get I.hok ha
  obtain ⟨_, J2, _⟩ := ins_get I.hok hb2
  obtain ⟨_, J, _⟩ := J.look
  obtain ⟨_, J2, _⟩ := J2.look
  obtain ⟨m, fr⟩ := I.fr
  refine PySem.W.cmp_K (op := .Eq) (tb := .ref C) room.units0 fr I.ok.mod.kin J J2.type (by simp [PySem.W.notFirst]) hs hf ?_
  refine wpAny_mono (run_fnS (E := fun _ => E0) F room hb (fun _ _ _ _ _ _ c => False.elim c) I (show Vals [V.ref a, V.ref b] [Value.ref a, Value.ref b] from .cons rfl (.cons rfl .nil)) want) (fun z s2 q => ?_) fun _ _ q => q
  obtain ⟨v2, H2, I2, rz, ⟨t, ev⟩, q⟩ := q
  subst ev
  obtain rfl : z = Value.bool t := rz
  exact ⟨.bl t, H2, I2, rfl, q⟩
end

/-! ### xs[j] op= e, j not below 0; sums of tuples -/
section
open PyProof.Rows
def rGetLN (K : PySem.W.Frag) : V → V → Hp → VK → Prop := fun o i H Q => ∃ (p : Addr) (xs : List V) (j : Nat) (v : V), o = .ref p ∧ i = .int (j : Int) ∧ SqL K H p xs ∧ xs[j]? = some v ∧ Q v H
theorem get_listN {X : Cx} : PGet X (rGetLN X.K) := by
  intro pins s σ H o i ov iv Q I ro ri h
  obtain ⟨p, xs, j, z, rfl, rfl, hq, hz, q⟩ := h
  obtain rfl : ov = Value.ref p := ro
  obtain ⟨t, rfl⟩ := ri
  obtain ⟨its, r, pl, few⟩ := I.list hq
  obtain ⟨u, hu, ru⟩ := r.get hz
  have hj := (List.getElem?_eq_some_iff.mp hz).1
  have hn := line63
  exact getItem_listL pl.isList (Int.natCast_nonneg j) (by omega) (by rw [Int.toNat_natCast]; exact hu) ⟨z, H, I, ru, q⟩
/-- t + u: somewhere the sum lies -/
def rCatB : R2 := fun x y H Q => ∃ a b xs ys, x = .ref a ∧ y = .ref b ∧ H a = some (.tup xs) ∧ H b = some (.tup ys) ∧ xs.length + ys.length ≤ sizeLine ∧ ∀ p H', Same H H' → H' p = some (.tup (xs ++ ys)) → Q (.ref p) H'
theorem op_catB {X : Cx} : OpR X (binaryOp .Add) rCatB := by
  intro pins s σ H x y v u Q I rx ry h
  obtain ⟨a, b, xs, ys, ex, ey, ha, hb, hz, q⟩ := h
  refine op_catA pins s σ H x y v u Q I rx ry ⟨a, b, xs, ys, ex, ey, SqT.of ha, SqT.of hb, hz, fun e => q b H (Same.refl H) ?_, fun _ e => q a H (Same.refl H) ?_, fun _ _ p hp => q p _ (same_new hp) upd_same⟩
  · rw [hb, e]
    rfl
  · rw [ha, e, List.append_nil]
end

structure TxtE (w : World) (K : PySem.W.Frag) (mg : Str → Option Value) (a : Ads) : Prop where
  g_MARKS : mg "MARKS" = some (.ref a.P_MARKS)
  tab_MARKS : KTab K w a.P_MARKS [("p", a.M_MARKS_p), ("w", a.M_MARKS_w), ("d", a.M_MARKS_d), ("k", a.M_MARKS_k)]
  s_MARKS_p : ∀ H, SqT K H a.M_MARKS_p [V.str "p", V.str "q", V.str "r"]
  s_MARKS_w : ∀ H, SqT K H a.M_MARKS_w [V.str "w", V.str "x"]
  s_MARKS_d : ∀ H, SqT K H a.M_MARKS_d [V.str "d", V.str "z"]
  s_MARKS_k : ∀ H, SqT K H a.M_MARKS_k [V.str "k", V.str "b", V.str "v"]
  g_BadCommand : mg "BadCommand" = some (.ref a.C_BadCommand)
  x_BadCommand : PySem.W.excIn K a.C_BadCommand [.type "ValueError", .type "Exception", .type "BaseException", .type "object"] "ValueError.__new__" = true
  kc_BadCommand : PySem.W.keepIn K (.ref a.C_BadCommand) = true
  b_BadCommand : PySem.W.subIn K (.ref a.C_BadCommand) (.type "BaseException") = some true
  t_BadCommand : PySem.W.typeIn K (.ref a.C_BadCommand) = some (.type "type")
  xc_BadCommand : XcC K a.C_BadCommand
  exm_BadCommand_BadCommand : PySem.W.exmOne K (.ref a.C_BadCommand) (.ref a.C_BadCommand) = some true
  g_OF_TWO : mg "OF_TWO" = some (.ref a.P_OF_TWO)
  tab_OF_TWO : KTab K w a.P_OF_TWO [("a", a.d_plus), ("s", a.d_minus), ("m", a.d_times), ("t", a.d_append_digit), ("c", a.d_is_less), ("e", a.d_is_equal)]
  g_Failed : mg "Failed" = some (.ref a.C_Failed)
  x_Failed : PySem.W.excIn K a.C_Failed [.type "ValueError", .type "Exception", .type "BaseException", .type "object"] "ValueError.__new__" = true
  kc_Failed : PySem.W.keepIn K (.ref a.C_Failed) = true
  b_Failed : PySem.W.subIn K (.ref a.C_Failed) (.type "BaseException") = some true
  t_Failed : PySem.W.typeIn K (.ref a.C_Failed) = some (.type "type")
  xc_Failed : XcC K a.C_Failed
  exm_Failed_Failed : PySem.W.exmOne K (.ref a.C_Failed) (.ref a.C_Failed) = some true
  kt_Ledger_Ledger : PySem.W.kitOne K (.ref a.C_Ledger) (.ref a.C_Ledger) = some true
  ic_Ledger : PySem.W.findIn K (.ref a.C_Ledger) "__class__" = some (some (.builtin "object.__class__")) ∧ PySem.W.specialIn K (.builtin "object.__class__") "__get__" = some (some (.builtin "getset_descriptor.__get__")) ∧ PySem.W.takesIn K (.builtin "object.__class__") = some true ∧ PySem.W.mroIn K a.C_Ledger (.type "object") = some true

def spFirst (K : PySem.W.Frag) : Sp := fun vs H Q _ => ∃ (p : Addr) (ws : List Int), vs = [.ref p] ∧ SqL K H p (ws.map V.int) ∧ GoodW ws ∧ ∀ H', Same H H' → Q .non H'
def spInit (K : PySem.W.Frag) (C : Addr) : Sp := fun vs H Q _ => ∃ (p dx l : Addr) (ws : List Int), vs = [.ref p, .ref l] ∧ H p = some (.ins C dx []) ∧ SqL K H l (ws.map V.int) ∧ GoodW ws ∧
  ∀ H' : Hp, CommAt C H' p ws → (∀ b o, H b = some o → b ≠ p → H' b = some o) → Q .non H'

/-- a command -/
inductive Cm where
  | p (a b c : Int)
  | w (a b : Int)
  | k (a b c : Int)
  | d (a : Int) (code : Str)
def nu (i : Int) : Str := Str.ofString (toString i)
def Cm.ki : Cm → Str
  | .p _ _ _ => "p"
  | .w _ _ => "w"
  | .k _ _ _ => "k"
  | .d _ _ => "d"
def Cm.ps : Cm → List V
  | .p a b c => [.int a, .int b, .int c]
  | .w a b => [.int a, .int b]
  | .k a b c => [.int a, .int b, .int c]
  | .d a s => [.int a, .str s]
def Cm.txt : Cm → Str
  | .p a b c => "p" ++ nu a ++ "q" ++ nu b ++ "r" ++ nu c
  | .w a b => "w" ++ nu a ++ "x" ++ nu b
  | .k a b c => "k" ++ nu a ++ "b" ++ nu b ++ "v" ++ nu c
  | .d a s => "d" ++ nu a ++ "z" ++ s ++ "z"
/-- what stands before each part -/
def Cm.ms : Cm → List Str
  | .p _ _ _ => ["p", "q", "r"]
  | .w _ _ => ["w", "x"]
  | .k _ _ _ => ["k", "b", "v"]
  | .d _ _ => ["d", "z"]
def Cm.ma (a : Ads) : Cm → Addr
  | .p _ _ _ => a.M_MARKS_p
  | .w _ _ => a.M_MARKS_w
  | .k _ _ _ => a.M_MARKS_k
  | .d _ _ => a.M_MARKS_d
/-- each part behind its mark -/
def Cm.bits : Cm → List Str
  | .p a b c => ["p" ++ nu a, "q" ++ nu b, "r" ++ nu c]
  | .w a b => ["w" ++ nu a, "x" ++ nu b]
  | .k a b c => ["k" ++ nu a, "b" ++ nu b, "v" ++ nu c]
  | .d a s => ["d" ++ nu a, "z" ++ s]
/-- a part as a text -/
def paT : V → Str
  | .int i => nu i
  | .str s => s
  | _ => Str.empty
def CmAt (H : Hp) (p : Addr) (c : Cm) : Prop := H p = some (.tup (.str c.ki :: c.ps))
def NOk (i : Int) : Prop := 0 ≤ i ∧ i ≤ 999999
/-- a number that may stand in a command tuple -/
def WOk (i : Int) : Prop := -1000 ≤ i ∧ i ≤ 2000000
theorem NOk.w {i : Int} (h : NOk i) : WOk i := ⟨by have := h.1; omega, by have := h.2; omega⟩
def Cm.ok : Cm → Prop
  | .p a b c => WOk a ∧ WOk b ∧ WOk c
  | .w a b => WOk a ∧ WOk b
  | .k a b c => WOk a ∧ WOk b ∧ WOk c
  | .d a s => WOk a ∧ s.length ≤ 250 ∧ PyData.strOk s = true
def spText (K : PySem.W.Frag) : Sp := fun vs H Q _ => ∃ (p : Addr) (c : Cm), vs = [.ref p] ∧ CmAt H p c ∧ c.ok ∧ ∀ H', Same H H' → Q (.str c.txt) H'
def spCell (K : PySem.W.Frag) : Sp := fun vs H Q _ => ∃ (a : Addr) (ns : List Int) (k : Int), vs = [.ref a, .int k] ∧ SqL K H a (ns.map V.int) ∧ ns.length ≤ 63 ∧ 0 ≤ k ∧ Q (.int (ns.getD k.toNat 0)) H
def spRow (K : PySem.W.Frag) : Sp := fun vs H Q _ => ∃ (cell count size : Int), vs = [.int cell, .int count, .int size] ∧ 0 ≤ count ∧ count ≤ 1000 ∧ 0 < size ∧ size < 1000 ∧
  ∀ p (row : List Int) H', Same H H' → H' p = some (.lst (row.map V.int)) → row.length = count.toNat → (∀ x ∈ row, 0 ≤ x ∧ x < size) → H p = none → Q (.ref p) H'
def spIsInt (K : PySem.W.Frag) : Sp := fun vs H Q _ => ∃ i : Int, vs = [.int i] ∧ Q (.bl true) H
def spNumber : Sp := fun vs H Q _ => ∃ c : Int, vs = [.int c] ∧ ∀ v, NOk v → Q (.int v) H
def spPlace : Sp := fun vs H Q _ => ∃ c : Int, vs = [.int c] ∧ ∀ v, NOk v → Q (.int v) H
/-- the signs of programs -/
def Sgn (z : Str) : Prop := ∀ n ∈ TL.tl z, n ∈ TL.tl "0123456789ginasmtcehlujfyo"
def spCode : Sp := fun vs H Q _ => ∃ c : Int, vs = [.int c] ∧ ∀ (z : Str) H', Same H H' → z.length ≤ 12 → Sgn z → Q (.str z) H'
/-- a command that a text writes -/
def Cm.right : Cm → Prop
  | .p a b c => NOk a ∧ NOk b ∧ NOk c
  | .w a b => NOk a ∧ NOk b
  | .k a b c => NOk a ∧ NOk b ∧ NOk c
  | .d a s => NOk a ∧ Sgn s
/-- a command that the law makes -/
def Cm.good : Cm → Prop
  | .p a b c => NOk a ∧ NOk b ∧ NOk c
  | .w a b => NOk a ∧ NOk b
  | .k a b c => NOk a ∧ NOk b ∧ NOk c
  | .d a s => NOk a ∧ s.length ≤ 12 ∧ Sgn s
theorem strOk_cps {x : Str} (h : ∀ c ∈ TL.tl x, c < 1114112) : PyData.strOk x = true := by
  unfold PyData.strOk
  rw [← Array.all_toList]
  exact List.all_eq_true.mpr fun c hc => decide_eq_true (h c hc)
theorem Sgn.ok {z : Str} (h : Sgn z) : PyData.strOk z = true := strOk_cps fun c hc => by
  have : ∀ c ∈ TL.tl "0123456789ginasmtcehlujfyo", c < 1114112 := by decide +kernel
  exact this c (h c hc)
theorem Cm.good.ok : ∀ {c : Cm}, c.good → c.ok
  | .p _ _ _, h => ⟨h.1.w, h.2.1.w, h.2.2.w⟩
  | .w _ _, h => ⟨h.1.w, h.2.w⟩
  | .k _ _ _, h => ⟨h.1.w, h.2.1.w, h.2.2.w⟩
  | .d _ _, h => ⟨h.1.w, Nat.le_trans h.2.1 (by decide), h.2.2.ok⟩
theorem Cm.good.right : ∀ {c : Cm}, c.good → c.right
  | .p _ _ _, h => h
  | .w _ _, h => h
  | .k _ _ _, h => h
  | .d _ _, h => ⟨h.1, h.2.2⟩
def spMake : Sp := fun vs H Q _ => ∃ c m : Int, vs = [.int c, .int m] ∧ ∀ (p : Addr) (x : Cm) H', Same H H' → H p = none → CmAt H' p x → x.good → Q (.ref p) H'
instance : Inhabited Cm := ⟨.w 0 0⟩
def CmsAt (H : Hp) (ps : List Addr) (cs : List Cm) : Prop := ps.length = cs.length ∧ ∀ i, i < cs.length → CmAt H (ps.getD i 0) (cs.getD i default)
theorem CmsAt.same {H H' : Hp} {ps : List Addr} {cs : List Cm} (h : CmsAt H ps cs) (s : Same H H') : CmsAt H' ps cs := ⟨h.1, fun i hi => s _ _ (h.2 i hi)⟩
/-- the texts one behind the other -/
def cat (cs : List Cm) : Str := cs.foldl (fun z c => z ++ c.txt) Str.empty
theorem cat_snoc (cs : List Cm) (c : Cm) : cat (cs ++ [c]) = cat cs ++ c.txt := by
  unfold cat
  rw [List.foldl_append]
  rfl
/-- the first n commands fit, and no more do -/
def Fit (cs : List Cm) (n : Nat) : Prop := n ≤ cs.length ∧ (∀ j, j ≤ n → (cat (cs.take j)).length ≤ 60) ∧ (n < cs.length → 60 < (cat (cs.take (n + 1))).length)
theorem Fit.one {cs : List Cm} {m n : Nat} (h : Fit cs m) (g : Fit cs n) : m = n := by
  obtain ⟨a1, a2, a3⟩ := h
  obtain ⟨b1, b2, b3⟩ := g
  rcases Nat.lt_trichotomy m n with c | c | c
  · have := a3 (by omega)
    have := b2 (m + 1) c
    omega
  · exact c
  · have := b3 (by omega)
    have := a2 (n + 1) c
    omega
def spFitting (K : PySem.W.Frag) : Sp := fun vs H Q _ => ∃ (l : Addr) (ps : List Addr) (cs : List Cm), vs = [.ref l] ∧ H l = some (.lst (ps.map V.ref)) ∧ CmsAt H ps cs ∧ cs.length ≤ 100 ∧ (∀ c ∈ cs, c.ok) ∧
  ∀ (q tk : Addr) (n : Nat) H', Same H H' → H' q = some (.tup [.str (cat (cs.take n)), .ref tk]) → H' tk = some (.lst ((ps.take n).map V.ref)) → H tk = none → Fit cs n → Q (.ref q) H'
def spBlock (K : PySem.W.Frag) : Sp := fun vs H Q _ => ∃ (l : Addr) (ps : List Addr) (cs : List Cm), vs = [.ref l] ∧ H l = some (.lst (ps.map V.ref)) ∧ CmsAt H ps cs ∧ cs.length ≤ 100 ∧ (∀ c ∈ cs, c.ok) ∧
  ∀ (q : Addr) (n : Nat) H', Same H H' → H' q = some (.tup [.str (cat (cs.take n)), .int (n : Int)]) → Fit cs n → Q (.ref q) H'
def spChanged : Sp := fun vs H Q _ => ∃ (z : Str) (w : Int), vs = [.str z, .int w] ∧ z.length ≤ 60 ∧ ∀ z2 : Str, z2.length ≤ 200 → Q (.str z2) H
/-- a reader of z that stands at i -/
def RdAt (C : Addr) (H : Hp) (p : Addr) (z : Str) (i : Nat) : Prop := ∃ dx, H p = some (.ins C dx [("text", .str z), ("at", .int (i : Int))])
/-- how many signs from i on are allowed -/
def runL (al : List Nat) : List Nat → Nat
  | [] => 0
  | c :: r => if c ∈ al then runL al r + 1 else 0
def spRInit (C : Addr) : Sp := fun vs H Q _ => ∃ (p dx : Addr) (z : Str), vs = [.ref p, .str z] ∧ H p = some (.ins C dx []) ∧ ∀ H', RdAt C H' p z 0 → (∀ b o, b ≠ p → H b = some o → H' b = some o) → Q .non H'
def spSigns (C : Addr) : Sp := fun vs H Q _ => ∃ (p : Addr) (z al : Str) (i : Nat), vs = [.ref p, .str al] ∧ RdAt C H p z i ∧ z.length ≤ 1000 ∧ i ≤ z.length ∧
  ∀ H', RdAt C H' p z (i + runL (TL.tl al) ((TL.tl z).drop i)) → (∀ b o, b ≠ p → H b = some o → H' b = some o) → Q (.str ⟨(((TL.tl z).drop i).take (runL (TL.tl al) ((TL.tl z).drop i))).toArray⟩) H'
def spSkip (C CE : Addr) : Sp := fun vs H Q E => ∃ (p : Addr) (z : Str) (c i : Nat), vs = [.ref p, .str ⟨#[c]⟩] ∧ RdAt C H p z i ∧ z.length ≤ 1000 ∧ i ≤ z.length ∧
  ((TL.tl z)[i]? = some c → ∀ H', RdAt C H' p z (i + 1) → (∀ b o, b ≠ p → H b = some o → H' b = some o) → Q .non H') ∧
  ((TL.tl z)[i]? ≠ some c → E (.ref CE) none H)
/-- the digits that stand at i -/
def digsAt (z : Str) (i : Nat) : List Nat := ((TL.tl z).drop i).take (runL (TL.tl "0123456789") ((TL.tl z).drop i))
/-- a right number -/
def NumW (w : List Nat) : Prop := 1 ≤ w.length ∧ w.length ≤ 6 ∧ ¬ (w.head? = some 48 ∧ w ≠ [48])
def spNumR (C CE : Addr) : Sp := fun vs H Q E => ∃ (p : Addr) (z : Str) (i : Nat), vs = [.ref p] ∧ RdAt C H p z i ∧ z.length ≤ 1000 ∧ i ≤ z.length ∧
  (NumW (digsAt z i) → ∀ H', RdAt C H' p z (i + (digsAt z i).length) → (∀ b o, b ≠ p → H b = some o → H' b = some o) → Q (.int (NumText.digitsVal (digsAt z i) : Nat)) H') ∧
  (¬ NumW (digsAt z i) → ∀ H', (∀ b o, b ≠ p → H b = some o → H' b = some o) → E (.ref CE) none H')
def spLaw (K : PySem.W.Frag) : Sp := fun vs H Q _ => ∃ (a : Addr) (ns : List Int), vs = [.ref a] ∧ SqL K H a (ns.map V.int) ∧ ns.length ≤ 63 ∧ ∀ H', Q (.bl true) H'

/-! ### a program's run -/
structure Mc where
  stk : List Nat
  kv : List (Nat × Nat)
  pl : Nat
  pd : Nat
  st : Nat
structure Gv where
  code : Str
  given : Nat
  amount : Nat
def kvV (kv : List (Nat × Nat)) : List (Key × V) := kv.map fun x => (Sum.inl (x.1 : Int), V.int (x.2 : Int))
def getN (kv : List (Nat × Nat)) (k : Nat) : Nat := ((kv.find? fun x => decide (x.1 = k)).map (·.2)).getD 0
def putN (kv : List (Nat × Nat)) (k v : Nat) : List (Nat × Nat) := if (kv.any fun x => decide (x.1 = k)) = true then kv.map (fun x => if x.1 = k then (x.1, v) else x) else kv ++ [(k, v)]
theorem key_dec (i k : Nat) : decide ((Sum.inl (i : Int) : Key) = Sum.inl (k : Int)) = decide (i = k) := by
  by_cases h : i = k
  · rw [decide_eq_true h, decide_eq_true (by rw [h])]
  · rw [decide_eq_false h, decide_eq_false (fun e => h (by have := Sum.inl.inj e; omega))]
theorem val_kv (k : Nat) : ∀ kv : List (Nat × Nat), valV (kvV kv) (Sum.inl (k : Int)) = (kv.find? fun x => decide (x.1 = k)).map fun x => V.int (x.2 : Int)
  | [] => rfl
  | (i, v) :: r => by
    have ih := val_kv k r
    unfold valV kvV at ih ⊢
    rw [List.map_cons, List.find?_cons, List.find?_cons]
    have e : decide ((Sum.inl (i : Int) : Key) = Sum.inl (k : Int)) = decide (i = k) := key_dec i k
    simp only [e]
    by_cases h : i = k
    · simp [h]
    · simp only [decide_eq_false h]
      exact ih
theorem get_kv (kv : List (Nat × Nat)) (k : Nat) : (valV (kvV kv) (Sum.inl (k : Int))).getD (V.int 0) = V.int (getN kv k : Nat) := by
  rw [val_kv]
  unfold getN
  cases kv.find? fun x => decide (x.1 = k) <;> rfl
theorem put_kv (kv : List (Nat × Nat)) (k v : Nat) : putK (kvV kv) (Sum.inl (k : Int)) (V.int (v : Int)) = kvV (putN kv k v) := by
  have e : ((kvV kv).any fun x => decide (x.1 = (Sum.inl (k : Int) : Key))) = kv.any fun x => decide (x.1 = k) := by
    unfold kvV
    rw [List.any_map]
    congr 1
    funext x
    exact key_dec x.1 k
  unfold putK putN
  rw [e]
  split
  · unfold kvV
    rw [List.map_map, List.map_map]
    refine List.map_congr_left fun x _ => ?_
    show (if (Sum.inl (x.1 : Int) : Key) = Sum.inl (k : Int) then _ else _) = _
    by_cases h : x.1 = k
    · rw [if_pos (by rw [h])]
      simp [Function.comp, h]
    · rw [if_neg (fun e => h (by have := Sum.inl.inj e; omega))]
      simp [Function.comp, h]
  · unfold kvV
    rw [List.map_append]
    rfl
theorem len_kv (kv : List (Nat × Nat)) : (kvV kv).length = kv.length := List.length_map ..
theorem len_put (kv : List (Nat × Nat)) (k v : Nat) : (putN kv k v).length ≤ kv.length + 1 := by
  unfold putN
  split
  · rw [List.length_map]
    omega
  · rw [List.length_append]
    exact Nat.le_refl _
/-- two values made one -/
def work (c l r : Nat) : Nat := if c = 97 then l + r else if c = 115 then l - r else if c = 109 then l * r else if c = 116 then 10 * l + r else if c = 99 then (if l < r then 1 else 0) else if l = r then 1 else 0
def pushM (v : Nat) (m : Mc) : Option Mc := if 16 ≤ m.stk.length then none else some { m with stk := m.stk ++ [v % 1000000] }
def takeM (m : Mc) : Option (Nat × Mc) := m.stk.getLast?.map fun t => (t, { m with stk := m.stk.dropLast })
def numberM (G : Gv) (c : Nat) (m : Mc) : Option Mc := if c = 103 then pushM G.given m else if c = 105 then pushM G.amount m else pushM m.stk.length m
def combineM (c : Nat) (m : Mc) : Option Mc := (takeM m).bind fun x => (takeM x.2).bind fun y => pushM (work c y.1 x.1) y.2
def moveM (c : Nat) (m : Mc) : Option Mc := (takeM m).bind fun x => if c = 104 then (pushM x.1 x.2).bind (pushM x.1) else if c = 108 then pushM (getN x.2.kv x.1) x.2 else (takeM x.2).map fun y => { y.2 with kv := putN y.2.kv x.1 y.1 }
def jumpM (c : Nat) (m : Mc) : Option Mc := (takeM m).bind fun x => if c = 106 then some { x.2 with pl := x.1 } else (takeM x.2).map fun y => if y.1 = 0 then { y.2 with pl := x.1 } else y.2
def settleM (c : Nat) (m : Mc) : Option Mc := (takeM m).bind fun x => if c = 121 then some { x.2 with pd := x.2.pd + x.1 } else if x.1 = 0 then none else some x.2
def performM (G : Gv) (c : Nat) (m : Mc) : Option Mc :=
  if 48 ≤ c ∧ c ≤ 57 then pushM (c - 48) m
  else if c = 103 ∨ c = 105 ∨ c = 110 then numberM G c m
  else if c = 97 ∨ c = 115 ∨ c = 109 ∨ c = 116 ∨ c = 99 ∨ c = 101 then combineM c m
  else if c = 104 ∨ c = 108 ∨ c = 117 then moveM c m
  else if c = 106 ∨ c = 102 then jumpM c m
  else settleM c m
theorem take_cat (s : List Nat) (t : Nat) (kv : List (Nat × Nat)) (pl pd st : Nat) : takeM ⟨s ++ [t], kv, pl, pd, st⟩ = some (t, ⟨s, kv, pl, pd, st⟩) := by
  simp [takeM]
/-- what all machines keep -/
def FitM (m : Mc) : Prop := m.stk.length ≤ 16 ∧ m.kv.length ≤ 30900 ∧ ∀ v ∈ m.stk, v < 1000000
theorem FitM.take {m : Mc} (f : FitM m) {x : Nat × Mc} (e : takeM m = some x) : FitM x.2 ∧ x.1 < 1000000 ∧ x.2.st = m.st ∧ x.2.kv = m.kv ∧ x.2.pl = m.pl ∧ x.2.pd = m.pd ∧ x.2.stk.length + 1 = m.stk.length ∧ m.stk = x.2.stk ++ [x.1] := by
  obtain ⟨stk, kv, pl, pd, st⟩ := m
  rcases List.eq_nil_or_concat stk with rfl | ⟨s, t, rfl⟩
  · cases e
  · rw [List.concat_eq_append] at e f ⊢
    rw [take_cat] at e
    obtain rfl := Option.some.inj e
    obtain ⟨f1, f2, f3⟩ := f
    have f1 : (s ++ [t]).length ≤ 16 := f1
    rw [List.length_append, List.length_singleton] at f1
    exact ⟨⟨by show s.length ≤ 16; omega, f2, fun v hv => f3 v (List.mem_append_left _ hv)⟩, f3 t (by simp), rfl, rfl, rfl, rfl, by simp, rfl⟩
theorem FitM.push {m m' : Mc} (f : FitM m) {v : Nat} (e : pushM v m = some m') : FitM m' ∧ m'.st = m.st ∧ m'.kv = m.kv ∧ m'.pl = m.pl ∧ m'.pd = m.pd ∧ m'.stk = m.stk ++ [v % 1000000] := by
  unfold pushM at e
  split at e
  · cases e
  · rename_i h
    obtain rfl := Option.some.inj e
    refine ⟨⟨?_, f.2.1, fun x hx => ?_⟩, rfl, rfl, rfl, rfl, rfl⟩
    · show (m.stk ++ [v % 1000000]).length ≤ 16
      rw [List.length_append, List.length_singleton]
      omega
    · rcases List.mem_append.mp hx with hx | hx
      · exact f.2.2 x hx
      · rw [List.mem_singleton.mp hx]
        exact Nat.mod_lt _ (by decide)
/-- a machine in the heap -/
def MAt (C : Addr) (H : Hp) (p D L : Addr) (G : Gv) (m : Mc) : Prop := ∃ dx, H p = some (.ins C dx [("code", .str G.code), ("given", .int (G.given : Nat)), ("amount", .int (G.amount : Nat)), ("store", .ref D), ("stack", .ref L), ("place", .int (m.pl : Nat)), ("paid", .int (m.pd : Nat)), ("steps", .int (m.st : Nat))]) ∧
  H D = some (.dK (kvV m.kv)) ∧ H L = some (.lst (m.stk.map fun n => V.int (n : Nat)))
def Oth (p D L : Addr) (H H' : Hp) : Prop := ∀ b o, b ≠ p → b ≠ D → b ≠ L → H b = some o → H' b = some o
theorem Oth.rfl {p D L : Addr} {H : Hp} : Oth p D L H H := fun _ _ _ _ _ e => e
theorem Oth.trans {p D L : Addr} {H H1 H2 : Hp} (h : Oth p D L H H1) (k : Oth p D L H1 H2) : Oth p D L H H2 := fun b o n1 n2 n3 e => k b o n1 n2 n3 (h b o n1 n2 n3 e)
theorem MAt.ne {C : Addr} {H : Hp} {p D L : Addr} {G : Gv} {m : Mc} (h : MAt C H p D L G m) : p ≠ D ∧ p ≠ L ∧ D ≠ L := by
  obtain ⟨dx, h1, h2, h3⟩ := h
  refine ⟨fun e => ?_, fun e => ?_, fun e => ?_⟩
  · rw [e, h2] at h1; cases h1
  · rw [e, h3] at h1; cases h1
  · rw [e, h3] at h2; cases h2
/-- what a method of the machine tells -/
def Res (C CE p D L : Addr) (G : Gv) (H : Hp) (m : Mc) (r : Option Mc) (Q : VK) (E : XK) : Prop :=
  (∀ m' H', r = some m' → MAt C H' p D L G m' → Oth p D L H H' → Q .non H') ∧ (r = none → ∀ m' H', MAt C H' p D L G m' → m'.st = m.st → Oth p D L H H' → E (.ref CE) none H')
theorem Res.on {C CE p D L : Addr} {G : Gv} {H H1 : Hp} {m m1 : Mc} {r : Option Mc} {Q : VK} {E : XK} (h : Res C CE p D L G H m r Q E) (s : m1.st = m.st) (o : Oth p D L H H1) : Res C CE p D L G H1 m1 r Q E :=
  ⟨fun m' H' e h1 o1 => h.1 m' H' e h1 (o.trans o1), fun e m' H' h1 s1 o1 => h.2 e m' H' h1 (s1.trans s) (o.trans o1)⟩
def spPush (C CE : Addr) : Sp := fun vs H Q E => ∃ (p D L : Addr) (G : Gv) (m : Mc) (v : Nat), vs = [.ref p, .int (v : Nat)] ∧ MAt C H p D L G m ∧ FitM m ∧ Res C CE p D L G H m (pushM v m) Q E
def spTake (C CE : Addr) : Sp := fun vs H Q E => ∃ (p D L : Addr) (G : Gv) (m : Mc), vs = [.ref p] ∧ MAt C H p D L G m ∧ FitM m ∧
  (∀ t m' H', takeM m = some (t, m') → MAt C H' p D L G m' → Oth p D L H H' → Q (.int (t : Nat)) H') ∧ (takeM m = none → ∀ m' H', MAt C H' p D L G m' → m'.st = m.st → Oth p D L H H' → E (.ref CE) none H')
def spSign (C CE : Addr) (op : Gv → Nat → Mc → Option Mc) (ok : Nat → Prop) : Sp := fun vs H Q E => ∃ (p D L : Addr) (G : Gv) (m : Mc) (c : Nat), vs = [.ref p, .str ⟨#[c]⟩] ∧ ok c ∧ MAt C H p D L G m ∧ FitM m ∧ Res C CE p D L G H m (op G c m) Q E
def spWork (c : Nat) : Sp := fun vs H Q _ => ∃ l r : Nat, vs = [.int (l : Nat), .int (r : Nat)] ∧ l < 1000000 ∧ r < 1000000 ∧ Q (.int (work c l r : Nat)) H
def spMInit (C : Addr) : Sp := fun vs H Q _ => ∃ (p dx d : Addr) (G : Gv) (kv : List (Nat × Nat)), vs = [.ref p, .str G.code, .int (G.given : Nat), .int (G.amount : Nat), .ref d] ∧ H p = some (.ins C dx []) ∧ Rd H d (.dK (kvV kv)) ∧
  ∀ D L H', H D = none → H L = none → MAt C H' p D L G ⟨[], kv, 0, 0, 0⟩ → (∀ b o, b ≠ p → H b = some o → H' b = some o) → Q .non H'
def spRun0 (C : Addr) : Sp := fun vs H Q _ => ∃ (j dx : Addr) (w s p n : V), vs = [.ref j, w, s, p, n] ∧ H j = some (.ins C dx []) ∧ ∀ H', H' j = some (.ins C dx [("well", w), ("store", s), ("paid", p), ("steps", n)]) → (∀ b o, b ≠ j → H b = some o → H' b = some o) → Q .non H'
/-! ### a call of what a local holds -/
section
variable {X : Cx} {k i : Nat} {x : Str} {q pos : Pos} {e : Expr} {es : List Expr} {t : TA}
def tCallV (P : Program) (w : World) (K : PySem.W.Frag) (mg : Str → Option Value) (base : Heap) (k i : Nat) (t : TA) : TE := fun σ H Q => ∃ f fd ps sp, σ[i]? = some (some (.ref f)) ∧ FnOk P w K mg base CX0 k f fd ps sp ∧ Binds K fd ps [] ∧ PySem.W.keepIn K (.ref f) = true ∧ t σ H fun vs H1 => sp vs H1 Q E0
theorem pe_callV (hr : Room k X.A) (hN : X.N[i]? = some x) (hv : Vis X.env.scope x) (ha : PA X (e :: es) t) (hd : (x == ("__debug__" : Str)) = false := by decide) (hcd : (x == ("__classdict__" : Str)) = false := by decide)
    (he : starEach (e :: es) X.env = (false, eval e X.env) :: starEach es X.env := by rfl) (hpl : (backTo pos (starEach es X.env)).any (·.1) = false := by rfl) :
    PE X (.Call (.Name x q) (e :: es) [] pos) (tCallV X.prog X.w X.K X.mg X.base k i t) := by
  refine ⟨fun pins s σ H Q I h => ?_⟩
  obtain ⟨f, fd, ps, sp, hs, F, hb, hk, h⟩ := h
  refine wpAny_Call_Name_kw (thn ((pe_var (pos := q) hN hv hd hcd).run pins s σ H (fun v H1 => v = .ref f ∧ H1 = H) I ⟨_, hs, rfl, rfl⟩) fun u s0 ⟨v, H0, I0, rv, ev, eh⟩ => ?_)
  subst ev eh
  obtain rfl : u = Value.ref f := rv
  refine PySem.W.callWith_K (h₀ := X.base) I0.ok.mod.kin hk (thn (ha.run pos pins s0 σ H0 _ I0 h) fun us s1 ⟨vs, H1, I1, r, q⟩ => ⟨I1.kIn, ?_⟩) he hpl
  exact run_fnS (E := fun _ => E0) F hr hb (fun _ _ _ _ _ _ c => False.elim c) I1 r q
end
/-! ### an object made while any exception is handled -/
section
variable {X : Cx} {k : Nat} {f C : Addr} {fd : FuncData} {ps : List Str} {sp : Sp} {x : Str} {q pos : Pos} {e : Expr} {es : List Expr} {t : TA} {p : Addr × Obj}
theorem L2H.RoomH.make {k : Nat} {A : Around} (r : L2H.RoomH (k + 1) A) (C : Addr) (us : List Value) (kw : List (Str × Value)) : L2H.RoomH k (A.under (.builtin "type.__call__" ⟨.ref C :: us, kw⟩)) :=
  ⟨by have := r.dp; rw [make_depth]; omega, by have := r.un; rw [make_units]; omega⟩
theorem pe_makeW (M : Mk X.K C f) (F : FnW X.prog X.w X.K X.mg X.base k f fd ps sp) (room : L2H.RoomH (k + 1) X.A) (hp : p ∈ X.pn) (hg : Gl X x) (hm : X.mg x = some (.ref C)) (hb : Binds X.K fd ps [])
    (ha : PA X (e :: es) t) (hdb : (x == ("__debug__" : Str)) = false := by decide) (he : starEach (e :: es) X.env = (false, eval e X.env) :: starEach es X.env := by rfl) (hpl : (backTo pos (starEach es X.env)).any (·.1) = false := by rfl) :
    PE X (.Call (.Name x q) (e :: es) [] pos) (tMake C sp [] E0 t) := by
  refine ⟨fun pins s σ H Q I h => ?_⟩
  refine wpAny_Call_Name_kw (ld_glob I hg hm ?_ hdb)
  refine PySem.W.callWith_K (h₀ := X.base) I.ok.mod.kin M.kp (thn (ha.run pos pins s σ H _ I h) fun us s1 ⟨vs, H1, I1, r, q⟩ => ⟨I1.kIn, ?_⟩) he hpl
  have hq := q (s1.heap.objs.size + 1) s1.heap.objs.size (I1.hok.fresh (Nat.le_succ _)) (I1.hok.fresh (Nat.le_refl _)) (Nat.ne_of_lt (Nat.lt_succ_self _))
  have I2 := L2.Inv.made (C := C) I1
  rw [List.append_nil] at hq
  have r2 : Vals (V.ref (s1.heap.objs.size + 1) :: vs) (Value.ref (s1.heap.objs.size + 1) :: us) := .cons rfl r
  have hl : (Value.ref (s1.heap.objs.size + 1) :: us).length = ps.length := by
    have e := r2.length
    rw [F.len _ _ _ _ hq] at e
    exact e.symm
  have bind := hb _ (Value.ref (s1.heap.objs.size + 1) :: us) I2.kIn (by rw [List.append_nil]; exact hl)
  rw [List.append_nil] at bind
  have at1 := I2.pin p (List.mem_append_left _ hp)
  have pin := L2H.PinOk.mk (outer := X.stack) (p := p) at1.1 at1.2.1 (fun hmm => by
    rcases List.mem_cons.mp (I2.stkSub p.1 hmm) with z | z
    · exact at1.2.2.1 z
    · exact at1.2.2.2.1 z) at1.2.2.2.2
  refine wpAny_call (make_map (f := f) I1.kIn M.makes M.init (beq_iff_eq.mp M.fn) (codeAny_mono (F.run _ X.stack _ _ ⟨Value.ref (s1.heap.objs.size + 1) :: us, []⟩ (Value.ref (s1.heap.objs.size + 1) :: us) _ _ E0 p (room.make C us [])
    pin (I2.env0.make C us []) bind r2 hq) fun r s' hq' => ?_))
  cases r with
  | error e => exact (hq' : False).elim
  | ok fl =>
    cases fl with
    | ret u =>
      obtain ⟨v, H', I3, rv, ev, q3⟩ := I2.after hq'
      subst ev
      exact ⟨rv, ⟨V.ref (s1.heap.objs.size + 1), H', I3, rfl, q3⟩⟩
    | next => exact False.elim hq'
    | brk => exact False.elim hq'
    | cont => exact False.elim hq'
end

section
local macro_rules | `(tactic| walk_at "r1") => `(tactic| first
  | refine ⟨_, rfl, ?_⟩
  | refine ⟨_, _, rfl, rfl, (by show (0 : Int) < _; first | decide | omega), ?_⟩
  | refine ⟨_, _, rfl, rfl, (show CDiv _ _ from ⟨by decide, by decide⟩), ?_⟩
  | refine ⟨_, _, rfl, rfl, (show CMul _ _ from .inl ⟨by decide, by decide⟩), ?_⟩
  | refine ⟨_, _, rfl, rfl, (show CMul _ _ from .inr ⟨by decide, by decide⟩), ?_⟩
  | refine ⟨_, _, rfl, rfl, (show CPow _ _ from ⟨by decide, by decide, by decide⟩), ?_⟩
  | refine ⟨_, _, rfl, rfl, ?_⟩
  | refine ⟨_, _, _, _, rfl, rfl, SqT.of (by assumption), by first | exact at0 _ | exact at1 _ | exact at2 _ | exact at3 _ | exact at4 _ (by assumption), ?_⟩
  | refine ⟨scal_oS _ _, ?_⟩
  | refine .inl ⟨_, rfl, ?_⟩
  | refine ⟨rfl, ?_⟩)
local macro_rules | `(tactic| walk_at "rs") => `(tactic| repeat walk_at "r1")

variable {P : Program} {w : World} {K : PySem.W.Frag} {mg : Str → Option Value} {base : Heap} {a : Ads}
theorem getD_mem {zs : List Int} {i : Nat} (h : i < zs.length) : zs.getD i 0 ∈ zs := by
  rw [List.getD_eq_getElem?_getD, List.getElem?_eq_getElem h]
  exact List.getElem_mem h
theorem at_ints {zs : List Int} {i : Nat} (h : i < zs.length) : (zs.map V.int)[i]? = some (.int (zs.getD i 0)) := by
  rw [List.getElem?_map, List.getD_eq_getElem?_getD, List.getElem?_eq_getElem h]
  rfl

theorem ok_first_wrong (T : Txt K mg a) : ∃ fd, FnOk P w K mg base CX0 1 a.d_first_wrong fd ["weights"] (spFirst K) ∧ Binds K fd ["weights"] [] := by
  obtain ⟨fd, F, b⟩ := T.d_first_wrong.F
  refine ⟨fd, F.ok sc_first_wrong (fun vs H Q E h => ?_) (fun cdv A outer s H vs Q E hr h => ?_), b⟩
  · obtain ⟨_, _, rfl, _⟩ := h
    rfl
  · obtain ⟨p, ws, rfl, hp, gw, k⟩ := h
    refine ⟨_, (pss_cons (ps_for PassesOwn.never rfl (pi_enum (by rfl) T.n_enumerate (pa_cons (pv 0) pa_nil)) (pg_tup rfl (pgs_cons (pg_name (i := 1) sc_first_wrong.nd rfl (Or.inl rfl)) (pgs_cons (pg_name (i := 2) sc_first_wrong.nd rfl (Or.inl rfl)) pgs_nil)))
      (pss_one (ps_if (PW.pt (pw_or (pt_cmpR op_ge (pv 1) (pe_glob (v := (.int 16)) rfl T.c_MOST_MEMBERS.choose_spec ⟨_, rfl⟩) (nomark _)) (pw_or (pt_cmpR op_lt (pv 2) pe_int (nomark _)) (pw_or1 (pt_cmpR op_gt (pv 2) (pe_glob (v := (.int 1000000000000)) rfl T.c_MOST_WEIGHT.choose_spec ⟨_, rfl⟩) (nomark _))))))
        (pss_one (ps_ret (pv 1)))
        pss_nil)))
      (pss_cons (ps_if (pt_cmpR op_eq (pe_callB call_len_seq (by rfl) T.n_len PySem.boot_len (pa_cons (pv 0) pa_nil)) pe_int (nomark _))
      (pss_one (ps_ret pe_int))
      pss_nil)
      (pss_one (ps_ret pe_non)))), ?_⟩
    walk_at "rs"
    refine ⟨p, _, rfl, hp, ?_⟩
    refine for_enumL (K := K) (a := p) (ys := ws.map V.int) (fun i σ H2 => ∃ v1 v2 : Option V, σ = [some (.ref p), v1, v2] ∧ Same H H2) ⟨_, _, rfl, Same.refl H⟩ (fun i σ H2 _ ⟨_, _, _, s2⟩ => s2.seq hp) ?_ ?_
    · rintro i y σ H2 q hy ⟨v1, v2, rfl, s2⟩ hq
      have hi : i < ws.length := by
        have e := (List.getElem?_eq_some_iff.mp hy).1
        rwa [List.length_map] at e
      rw [at_ints hi] at hy
      cases hy
      have g1 := gw.2.2 _ (getD_mem hi)
      have g2 := gw.2.1
      walk_at "rs"
      refine ⟨q, _, rfl, SqT.of upd_same, rfl, ?_⟩
      refine ⟨_, _, rfl, _, _, rfl, rfl, ?_⟩
      walk_at "rs"
      refine ite2 (fun c1 => ?_) (fun c1 => ?_)
      · exfalso
        have := of_decide_eq_true c1
        omega
      walk_at "rs"
      refine ite2 (fun c2 => ?_) (fun c2 => ?_)
      · exfalso
        have := of_decide_eq_true c2
        omega
      walk_at "rs"
      refine ite2 (fun c3 => ?_) (fun c3 => ?_)
      · exfalso
        have := of_decide_eq_true c3
        omega
      exact ⟨_, _, rfl, same_upd s2 (s2.free hq)⟩
    · rintro σ H2 ⟨v1, v2, rfl, s2⟩
      walk_at "rs"
      refine ⟨p, _, rfl, .inl (s2.seq hp), ?_⟩
      walk_at "rs"
      refine ite2 (fun c1 => ?_) (fun c1 => ?_)
      · exfalso
        have g0 := gw.1
        simp at c1
        simp [c1] at g0
      exact k H2 s2
theorem ok_Committee_init (T : Txt K mg a) : ∃ fd, FnOk P w K mg base CX0 2 a.d_Committee_init fd ["self", "weights"] (spInit K a.C_Committee) ∧ Binds K fd ["self", "weights"] [] := by
  obtain ⟨fd, F, b⟩ := T.d_Committee_init.F
  obtain ⟨fd_first_wrong, G_first_wrong, b_first_wrong⟩ := ok_first_wrong (P := P) (w := w) (base := base) T
  refine ⟨fd, F.ok sc_Committee_init (fun vs H Q E h => ?_) (fun cdv A outer s H vs Q E hr h => ?_), b⟩
  · obtain ⟨_, _, _, _, rfl, _⟩ := h
    rfl
  · obtain ⟨p, dx, l, ws, rfl, hp, hl, gw, k⟩ := h
    refine ⟨_, (pss_cons (ps_set (i := 2) sc_Committee_init.nd rfl (Or.inl rfl) (pe_call G_first_wrong (hr.mono (by decide)) rfl T.d_first_wrong.g T.d_first_wrong.kp b_first_wrong .nil pass0 (pa_cons (pv 1) pa_nil)))
      (pss_cons (ps_if (pt_cmpR op_notN (pv 2) pe_non (nomark _))
      (pss_one ps_never)
      pss_nil)
      (pss_cons (ps_fld (pv 0) (pe_callTy call_tuple_of (by rfl) T.n_tuple (by decide +kernel) (pa_cons (pv 1) pa_nil)) rfl)
      (pss_cons (ps_fld (pv 0) (pe_callB call_len_seq (by rfl) T.n_len PySem.boot_len (pa_cons (pe_fld (pv 0) rfl) pa_nil)) rfl)
      (pss_one (ps_fld (pv 0) (pe_callB (cr_sumT rfl) (by rfl) T.n_sum (by decide +kernel) (pa_cons (pe_fld (pv 0) rfl) pa_nil)) rfl)))))), ?_⟩
    walk_at "rs"
    refine ⟨l, ws, rfl, hl, gw, fun H1 s1 => ?_⟩
    walk_at "rs"
    have hp1 := s1 _ _ hp
    refine ⟨l, _, rfl, .inl ⟨s1.seq hl, fun t ht => ?_⟩⟩
    have npt : p ≠ t := ne_of_none hp1 ht
    have hp2 : (upd H1 t (.tup (ws.map V.int))) p = some (.ins a.C_Committee dx []) := by rw [upd_ne npt]; exact hp1
    walk_at "rs"
    refine ⟨p, _, dx, [], rfl, hp2, T.cl_Committee, T.a_Committee_weights, (by show 0 < 1000; decide), ?_⟩
    have ht3 : ∀ o : HO, (upd (upd H1 t (.tup (ws.map V.int))) p o) t = some (.tup (ws.map V.int)) := fun o => by rw [upd_ne npt.symm, upd_same]
    walk_at "rs"
    refine ⟨p, _, dx, _, .ref t, rfl, upd_same, T.cl_Committee, T.a_Committee_weights, by rw [lookup_putF, if_pos rfl], ?_⟩
    walk_at "rs"
    refine ⟨t, _, rfl, .inr (SqT.of (ht3 _)), ?_⟩
    walk_at "rs"
    refine ⟨p, _, dx, _, rfl, upd_same, T.cl_Committee, T.a_Committee_size, (by show 1 < 1000; decide), ?_⟩
    rw [upd_upd]
    walk_at "rs"
    refine ⟨p, _, dx, _, .ref t, rfl, upd_same, T.cl_Committee, T.a_Committee_weights, by rw [lookup_putF, if_neg ne_ws, lookup_putF, if_pos rfl], ?_⟩
    walk_at "rs"
    refine ⟨t, ws, rfl, SqT.of (ht3 _), ?_⟩
    walk_at "rs"
    refine ⟨p, _, dx, _, rfl, upd_same, T.cl_Committee, T.a_Committee_total, (Nat.lt_of_le_of_lt (length_putF _ _ _) (Nat.lt_of_le_of_lt (Nat.add_le_add_right (length_putF _ _ _) 1) (by show 2 < 1000; decide))), ?_⟩
    rw [upd_upd, List.length_map]
    exact k _ ⟨dx, t, upd_same, ht3 _⟩ fun b o e hb => by
      rw [upd_ne hb, upd_ne (ne_of_none (s1 _ _ e) ht)]
      exact s1 _ _ e

/-! ### a committee made of a tuple -/
theorem seqT_same {H H' : Hp} {b : Addr} {xs : List V} (e : Same H H') (h : SqT K H b xs) : SqT K H' b xs := by
  rcases h with (h | ⟨o, h⟩) | h
  · exact .inl (.inl (e _ _ h))
  · exact .inl (.inr ⟨o, e _ _ h⟩)
  · exact .inr h
def spFirstT (K : PySem.W.Frag) : Sp := fun vs H Q _ => ∃ (p : Addr) (ws : List Int), vs = [.ref p] ∧ SqT K H p (ws.map V.int) ∧ GoodW ws ∧ ∀ H', Same H H' → Q .non H'
def spInitT (K : PySem.W.Frag) (C : Addr) : Sp := fun vs H Q _ => ∃ (p dx t : Addr) (ws : List Int), vs = [.ref p, .ref t] ∧ H p = some (.ins C dx []) ∧ H t = some (.tup (ws.map V.int)) ∧ GoodW ws ∧
  ∀ H' : Hp, CommAt C H' p ws → (∀ b o, H b = some o → b ≠ p → H' b = some o) → Q .non H'
theorem ok_first_wrongT (T : Txt K mg a) : ∃ fd, FnOk P w K mg base CX0 1 a.d_first_wrong fd ["weights"] (spFirstT K) ∧ Binds K fd ["weights"] [] := by
  obtain ⟨fd, F, b⟩ := T.d_first_wrong.F
  refine ⟨fd, F.ok sc_first_wrong (fun vs H Q E h => ?_) (fun cdv A outer s H vs Q E hr h => ?_), b⟩
  · obtain ⟨_, _, rfl, _⟩ := h
    rfl
  · obtain ⟨p, ws, rfl, hp, gw, k⟩ := h
    refine ⟨_, (pss_cons (ps_for PassesOwn.never rfl (pi_enumT (by rfl) T.n_enumerate (pa_cons (pv 0) pa_nil)) (pg_tup rfl (pgs_cons (pg_name (i := 1) sc_first_wrong.nd rfl (Or.inl rfl)) (pgs_cons (pg_name (i := 2) sc_first_wrong.nd rfl (Or.inl rfl)) pgs_nil)))
      (pss_one (ps_if (PW.pt (pw_or (pt_cmpR op_ge (pv 1) (pe_glob (v := (.int 16)) rfl T.c_MOST_MEMBERS.choose_spec ⟨_, rfl⟩) (nomark _)) (pw_or (pt_cmpR op_lt (pv 2) pe_int (nomark _)) (pw_or1 (pt_cmpR op_gt (pv 2) (pe_glob (v := (.int 1000000000000)) rfl T.c_MOST_WEIGHT.choose_spec ⟨_, rfl⟩) (nomark _))))))
        (pss_one (ps_ret (pv 1)))
        pss_nil)))
      (pss_cons (ps_if (pt_cmpR op_eq (pe_callB call_len_seq (by rfl) T.n_len PySem.boot_len (pa_cons (pv 0) pa_nil)) pe_int (nomark _))
      (pss_one (ps_ret pe_int))
      pss_nil)
      (pss_one (ps_ret pe_non)))), ?_⟩
    walk_at "rs"
    refine ⟨p, _, rfl, hp, ?_⟩
    refine for_enumT (K := K) (a := p) (ys := ws.map V.int) (fun i σ H2 => ∃ v1 v2 : Option V, σ = [some (.ref p), v1, v2] ∧ Same H H2) ⟨_, _, rfl, Same.refl H⟩ (fun i σ H2 _ ⟨_, _, _, s2⟩ => seqT_same s2 hp) ?_ ?_
    · rintro i y σ H2 q hy ⟨v1, v2, rfl, s2⟩ hq
      have hi : i < ws.length := by
        have e := (List.getElem?_eq_some_iff.mp hy).1
        rwa [List.length_map] at e
      rw [at_ints hi] at hy
      cases hy
      have g1 := gw.2.2 _ (getD_mem hi)
      have g2 := gw.2.1
      walk_at "rs"
      refine ⟨q, _, rfl, SqT.of upd_same, rfl, ?_⟩
      refine ⟨_, _, rfl, _, _, rfl, rfl, ?_⟩
      walk_at "rs"
      refine ite2 (fun c1 => ?_) (fun c1 => ?_)
      · exfalso
        have := of_decide_eq_true c1
        omega
      walk_at "rs"
      refine ite2 (fun c2 => ?_) (fun c2 => ?_)
      · exfalso
        have := of_decide_eq_true c2
        omega
      walk_at "rs"
      refine ite2 (fun c3 => ?_) (fun c3 => ?_)
      · exfalso
        have := of_decide_eq_true c3
        omega
      exact ⟨_, _, rfl, same_upd s2 (s2.free hq)⟩
    · rintro σ H2 ⟨v1, v2, rfl, s2⟩
      walk_at "rs"
      refine ⟨p, _, rfl, .inr (seqT_same s2 hp), ?_⟩
      walk_at "rs"
      refine ite2 (fun c1 => ?_) (fun c1 => ?_)
      · exfalso
        have g0 := gw.1
        simp at c1
        simp [c1] at g0
      exact k H2 s2
theorem ok_Committee_initT (T : Txt K mg a) : ∃ fd, FnOk P w K mg base CX0 2 a.d_Committee_init fd ["self", "weights"] (spInitT K a.C_Committee) ∧ Binds K fd ["self", "weights"] [] := by
  obtain ⟨fd, F, b⟩ := T.d_Committee_init.F
  obtain ⟨fd_first_wrong, G_first_wrong, b_first_wrong⟩ := ok_first_wrongT (P := P) (w := w) (base := base) T
  refine ⟨fd, F.ok sc_Committee_init (fun vs H Q E h => ?_) (fun cdv A outer s H vs Q E hr h => ?_), b⟩
  · obtain ⟨_, _, _, _, rfl, _⟩ := h
    rfl
  · obtain ⟨p, dx, t, ws, rfl, hp, ht, gw, k⟩ := h
    refine ⟨_, (pss_cons (ps_set (i := 2) sc_Committee_init.nd rfl (Or.inl rfl) (pe_call G_first_wrong (hr.mono (by decide)) rfl T.d_first_wrong.g T.d_first_wrong.kp b_first_wrong .nil pass0 (pa_cons (pv 1) pa_nil)))
      (pss_cons (ps_if (pt_cmpR op_notN (pv 2) pe_non (nomark _))
      (pss_one ps_never)
      pss_nil)
      (pss_cons (ps_fld (pv 0) (pe_callTy call_tuple_of (by rfl) T.n_tuple (by decide +kernel) (pa_cons (pv 1) pa_nil)) rfl)
      (pss_cons (ps_fld (pv 0) (pe_callB call_len_seq (by rfl) T.n_len PySem.boot_len (pa_cons (pe_fld (pv 0) rfl) pa_nil)) rfl)
      (pss_one (ps_fld (pv 0) (pe_callB (cr_sumT rfl) (by rfl) T.n_sum (by decide +kernel) (pa_cons (pe_fld (pv 0) rfl) pa_nil)) rfl)))))), ?_⟩
    walk_at "rs"
    refine ⟨t, ws, rfl, SqT.of ht, gw, fun H1 s1 => ?_⟩
    walk_at "rs"
    have hp1 := s1 _ _ hp
    have ht1 := s1 _ _ ht
    refine ⟨t, _, rfl, .inr ⟨SqT.of ht1, ?_⟩⟩
    have npt : p ≠ t := fun e => by rw [e, ht] at hp; cases hp
    walk_at "rs"
    refine ⟨p, _, dx, [], rfl, hp1, T.cl_Committee, T.a_Committee_weights, (by show 0 < 1000; decide), ?_⟩
    have ht3 : ∀ o : HO, (upd H1 p o) t = some (.tup (ws.map V.int)) := fun o => by rw [upd_ne npt.symm]; exact ht1
    walk_at "rs"
    refine ⟨p, _, dx, _, .ref t, rfl, upd_same, T.cl_Committee, T.a_Committee_weights, by rw [lookup_putF, if_pos rfl], ?_⟩
    walk_at "rs"
    refine ⟨t, _, rfl, .inr (SqT.of (ht3 _)), ?_⟩
    walk_at "rs"
    refine ⟨p, _, dx, _, rfl, upd_same, T.cl_Committee, T.a_Committee_size, (by show 1 < 1000; decide), ?_⟩
    rw [upd_upd]
    walk_at "rs"
    refine ⟨p, _, dx, _, .ref t, rfl, upd_same, T.cl_Committee, T.a_Committee_weights, by rw [lookup_putF, if_neg ne_ws, lookup_putF, if_pos rfl], ?_⟩
    walk_at "rs"
    refine ⟨t, ws, rfl, SqT.of (ht3 _), ?_⟩
    walk_at "rs"
    refine ⟨p, _, dx, _, rfl, upd_same, T.cl_Committee, T.a_Committee_total, (Nat.lt_of_le_of_lt (length_putF _ _ _) (Nat.lt_of_le_of_lt (Nat.add_le_add_right (length_putF _ _ _) 1) (by show 2 < 1000; decide))), ?_⟩
    rw [upd_upd, List.length_map]
    exact k _ ⟨dx, t, upd_same, ht3 _⟩ fun b o e hb => by
      rw [upd_ne hb]
      exact s1 _ _ e

theorem sg_eq (c k : Nat) : ((⟨#[c]⟩ : Str) = ⟨#[k]⟩) ↔ c = k := ⟨fun e => by simpa using e, fun e => by rw [e]⟩
theorem ok_Run_init (T : Txt K mg a) : ∃ fd, FnOk P w K mg base CX0 1 a.d_Run_init fd ["self", "well", "store", "paid", "steps"] (spRun0 a.C_Run) ∧ Binds K fd ["self", "well", "store", "paid", "steps"] [] := by
  obtain ⟨fd, F, b⟩ := T.d_Run_init.F
  refine ⟨fd, F.ok sc_Run_init (fun vs H Q E h => ?_) (fun cdv A outer s H vs Q E hr h => ?_), b⟩
  · obtain ⟨_, _, _, _, _, _, rfl, _⟩ := h
    rfl
  · obtain ⟨j, dx, x1, x2, x3, x4, rfl, hj, k⟩ := h
    refine ⟨_, (pss_cons (ps_fld (pv 0) (pv 1) rfl)
      (pss_cons (ps_fld (pv 0) (pv 2) rfl)
      (pss_cons (ps_fld (pv 0) (pv 3) rfl)
      (pss_one (ps_fld (pv 0) (pv 4) rfl))))), ?_⟩
    walk_at "rs"
    refine ⟨j, _, dx, [], rfl, hj, T.cl_Run, T.a_Run_well, (by show 0 < 1000; decide), ?_⟩
    walk_at "rs"
    refine ⟨j, _, dx, _, rfl, upd_same, T.cl_Run, T.a_Run_store, (by show 1 < 1000; decide), ?_⟩
    rw [upd_upd]
    walk_at "rs"
    refine ⟨j, _, dx, _, rfl, upd_same, T.cl_Run, T.a_Run_paid, (by show 2 < 1000; decide), ?_⟩
    rw [upd_upd]
    walk_at "rs"
    refine ⟨j, _, dx, _, rfl, upd_same, T.cl_Run, T.a_Run_steps, (by show 3 < 1000; decide), ?_⟩
    rw [upd_upd]
    exact k _ (by rw [upd_same]; rfl) fun b o n e => by rw [upd_ne n]; exact e
theorem okW_Run_init (T : Txt K mg a) : ∃ fd, FnW P w K mg base 1 a.d_Run_init fd ["self", "well", "store", "paid", "steps"] (spRun0 a.C_Run) ∧ Binds K fd ["self", "well", "store", "paid", "steps"] [] := by
  obtain ⟨fd, F, b⟩ := T.d_Run_init.F
  refine ⟨fd, fun_okW F sc_Run_init (fun vs H Q E h => ?_) (fun cdv A outer s H vs Q E p hr h => ?_), b⟩
  · obtain ⟨_, _, _, _, _, _, rfl, _⟩ := h
    rfl
  · obtain ⟨j, dx, x1, x2, x3, x4, rfl, hj, k⟩ := h
    refine ⟨_, (pss_cons (ps_fld (pv 0) (pv 1) rfl)
      (pss_cons (ps_fld (pv 0) (pv 2) rfl)
      (pss_cons (ps_fld (pv 0) (pv 3) rfl)
      (pss_one (ps_fld (pv 0) (pv 4) rfl))))), ?_⟩
    walk_at "rs"
    refine ⟨j, _, dx, [], rfl, hj, T.cl_Run, T.a_Run_well, (by show 0 < 1000; decide), ?_⟩
    walk_at "rs"
    refine ⟨j, _, dx, _, rfl, upd_same, T.cl_Run, T.a_Run_store, (by show 1 < 1000; decide), ?_⟩
    rw [upd_upd]
    walk_at "rs"
    refine ⟨j, _, dx, _, rfl, upd_same, T.cl_Run, T.a_Run_paid, (by show 2 < 1000; decide), ?_⟩
    rw [upd_upd]
    walk_at "rs"
    refine ⟨j, _, dx, _, rfl, upd_same, T.cl_Run, T.a_Run_steps, (by show 3 < 1000; decide), ?_⟩
    rw [upd_upd]
    exact k _ (by rw [upd_same]; rfl) fun b o n e => by rw [upd_ne n]; exact e
theorem ok_Machine_init (T : Txt K mg a) : ∃ fd, FnOk P w K mg base CX0 1 a.d_Machine_init fd ["self", "code", "given", "amount", "store"] (spMInit a.C_Machine) ∧ Binds K fd ["self", "code", "given", "amount", "store"] [] := by
  obtain ⟨fd, F, b⟩ := T.d_Machine_init.F
  refine ⟨fd, F.ok sc_Machine_init (fun vs H Q E h => ?_) (fun cdv A outer s H vs Q E hr h => ?_), b⟩
  · obtain ⟨_, _, _, _, _, rfl, _⟩ := h
    rfl
  · obtain ⟨p, dx, d, G, kv, rfl, hp, hd, k⟩ := h
    have pd : d ≠ p := fun e => by
      rw [e] at hd
      rcases hd with e | ⟨o, e⟩ <;> (rw [hp] at e; cases e)
    refine ⟨_, (pss_cons (ps_fld (pv 0) (pv 1) rfl)
      (pss_cons (ps_fld (pv 0) (pv 2) rfl)
      (pss_cons (ps_fld (pv 0) (pv 3) rfl)
      (pss_cons (ps_fld (pv 0) (pe_callTy call_dictD (by rfl) T.n_dict (by decide +kernel) (pa_cons (pv 4) pa_nil)) rfl)
      (pss_cons (ps_fld (pv 0) (pe_lst pa_nil) rfl)
      (pss_cons (ps_fld (pv 0) pe_int rfl)
      (pss_cons (ps_fld (pv 0) pe_int rfl)
      (pss_one (ps_fld (pv 0) pe_int rfl))))))))), ?_⟩
    walk_at "rs"
    refine ⟨p, _, dx, [], rfl, hp, T.cl_Machine, T.a_Machine_code, (by show 0 < 1000; decide), ?_⟩
    walk_at "rs"
    refine ⟨p, _, dx, _, rfl, upd_same, T.cl_Machine, T.a_Machine_given, (by show 1 < 1000; decide), ?_⟩
    rw [upd_upd]
    walk_at "rs"
    refine ⟨p, _, dx, _, rfl, upd_same, T.cl_Machine, T.a_Machine_amount, (by show 2 < 1000; decide), ?_⟩
    rw [upd_upd]
    walk_at "rs"
    refine ⟨d, _, rfl, hd.imp (fun e => by rw [upd_ne pd]; exact e) (fun ⟨o, e⟩ => ⟨o, by rw [upd_ne pd]; exact e⟩), fun D hD => ?_⟩
    have nD : D ≠ p := fun e => by rw [e, upd_same] at hD; cases hD
    rw [upd_ne nD] at hD
    walk_at "rs"
    refine ⟨p, _, dx, _, rfl, (by rw [upd_ne (fun e => nD e.symm)]; exact upd_same), T.cl_Machine, T.a_Machine_store, (by show 3 < 1000; decide), ?_⟩
    walk_at "rs"
    refine ⟨(by show 0 ≤ sizeLine; decide), fun L hL => ?_⟩
    have nL : L ≠ p := fun e => by rw [e, upd_same] at hL; cases hL
    rw [upd_ne nL] at hL
    have nLD : L ≠ D := fun e => by rw [e, upd_same] at hL; cases hL
    rw [upd_ne nLD, upd_ne nL] at hL
    walk_at "rs"
    refine ⟨p, _, dx, _, rfl, (by rw [upd_ne (fun e => nL e.symm)]; exact upd_same), T.cl_Machine, T.a_Machine_stack, (by show 4 < 1000; decide), ?_⟩
    walk_at "rs"
    refine ⟨p, _, dx, _, rfl, upd_same, T.cl_Machine, T.a_Machine_place, (by show 5 < 1000; decide), ?_⟩
    rw [upd_upd]
    walk_at "rs"
    refine ⟨p, _, dx, _, rfl, upd_same, T.cl_Machine, T.a_Machine_paid, (by show 6 < 1000; decide), ?_⟩
    rw [upd_upd]
    walk_at "rs"
    refine ⟨p, _, dx, _, rfl, upd_same, T.cl_Machine, T.a_Machine_steps, (by show 7 < 1000; decide), ?_⟩
    rw [upd_upd]
    refine k D L _ hD hL ⟨dx, (by rw [upd_same]; rfl), ?_, ?_⟩ fun b o n e => ?_
    · rw [upd_ne nD, upd_ne (fun e => nLD e.symm), upd_ne nD]
      exact upd_same
    · rw [upd_ne nL]
      exact upd_same
    · rw [upd_ne n, upd_ne (fun q => by rw [q, hL] at e; cases e), upd_ne n, upd_ne (fun q => by rw [q, hD] at e; cases e), upd_ne n]
      exact e
theorem ok_Machine_push (TE : TxtE w K mg a) (T : Txt K mg a) : ∃ fd, FnOk P w K mg base (L2.CX P w) 1 a.d_Machine_push fd ["self", "value"] (spPush a.C_Machine a.C_Failed) ∧ Binds K fd ["self", "value"] [] := by
  obtain ⟨fd, F, b⟩ := T.d_Machine_push.F
  refine ⟨fd, F.okX sc_Machine_push (fun vs H Q E h => ?_) (fun cdv A outer s H vs Q E hr h => ?_), b⟩
  · obtain ⟨_, _, _, _, _, _, rfl, _⟩ := h
    rfl
  · obtain ⟨p, D, L, G, m, v, rfl, hm, hf, k1, k2⟩ := h
    obtain ⟨npD, npL, nDL⟩ := hm.ne
    obtain ⟨dx, hp, hD, hL⟩ := id hm
    have hl : (m.stk.map fun n => V.int (n : Nat)).length = m.stk.length := List.length_map ..
    refine ⟨_, (pss_cons (ps_if (pt_cmpR op_ge (pe_callB call_len_seq (by rfl) T.n_len PySem.boot_len (pa_cons (pe_fld (pv 0) rfl) pa_nil)) (pe_glob (v := (.int 16)) rfl T.c_MOST_VALUES.choose_spec ⟨_, rfl⟩) (nomark _))
      (pss_one (ps_raise rfl (takes_of rfl rfl rfl rfl) (pmk_own PySem.F.excBase_ValueError TE.x_Failed TE.g_Failed TE.kc_Failed (raises_own TE.b_Failed TE.t_Failed) rfl)))
      pss_nil)
      (pss_one (ps_expr (pe_bm PySem.F.plainAttrs_list PySem.F.slot_list_append PySem.F.type_list_append mt_append (pe_fld (pv 0) rfl) (pa_cons (pe_op op_mod (pv 1) (pe_glob (v := (.int 1000000)) rfl T.c_MODULUS.choose_spec ⟨_, rfl⟩)) pa_nil))))), ?_⟩
    walk_at "rs"
    refine ⟨p, _, dx, _, .ref L, rfl, hp, T.cl_Machine, T.a_Machine_stack, rfl, ?_⟩
    walk_at "rs"
    refine ⟨L, _, rfl, .inl (SqL.of hL), ?_⟩
    walk_at "rs"
    rw [hl]
    refine ite2 (fun c => ?_) (fun c => ?_)
    · have c : 16 ≤ m.stk.length := by
        have := of_decide_eq_true c
        omega
      exact k2 (if_pos c) m H hm rfl .rfl
    · have c : ¬ 16 ≤ m.stk.length := fun h => c (decide_eq_true (by omega))
      walk_at "rs"
      refine ⟨p, _, dx, _, .ref L, rfl, hp, T.cl_Machine, T.a_Machine_stack, rfl, ?_⟩
      refine ⟨.inl ⟨rfl, _, SqL.of hL⟩, ?_⟩
      walk_at "rs"
      refine ⟨L, _, _, rfl, rfl, hL, by rw [hl]; exact small1000 (by omega), ?_⟩
      refine k1 { m with stk := m.stk ++ [v % 1000000] } _ (if_neg c) ⟨dx, ?_, ?_, ?_⟩ fun b o n1 n2 n3 e => ?_
      · rw [upd_ne npL]
        exact hp
      · rw [upd_ne nDL]
        exact hD
      · rw [upd_same]
        simp
      · rw [upd_ne n3]
        exact e
theorem ok_Machine_take (TE : TxtE w K mg a) (T : Txt K mg a) : ∃ fd, FnOk P w K mg base (L2.CX P w) 1 a.d_Machine_take fd ["self"] (spTake a.C_Machine a.C_Failed) ∧ Binds K fd ["self"] [] := by
  obtain ⟨fd, F, b⟩ := T.d_Machine_take.F
  refine ⟨fd, F.okX sc_Machine_take (fun vs H Q E h => ?_) (fun cdv A outer s H vs Q E hr h => ?_), b⟩
  · obtain ⟨_, _, _, _, _, rfl, _⟩ := h
    rfl
  · obtain ⟨p, D, L, G, m, rfl, hm, hf, k1, k2⟩ := h
    obtain ⟨npD, npL, nDL⟩ := hm.ne
    obtain ⟨dx, hp, hD, hL⟩ := id hm
    have hl : (m.stk.map fun n => V.int (n : Nat)).length = m.stk.length := List.length_map ..
    refine ⟨_, (pss_cons (ps_if (pt_cmpR op_eq (pe_callB call_len_seq (by rfl) T.n_len PySem.boot_len (pa_cons (pe_fld (pv 0) rfl) pa_nil)) pe_int (nomark _))
      (pss_one (ps_raise rfl (takes_of rfl rfl rfl rfl) (pmk_own PySem.F.excBase_ValueError TE.x_Failed TE.g_Failed TE.kc_Failed (raises_own TE.b_Failed TE.t_Failed) rfl)))
      pss_nil)
      (pss_one (ps_ret (pe_bm0 PySem.F.plainAttrs_list PySem.F.slot_list_pop PySem.F.type_list_pop mt_pop (pe_fld (pv 0) rfl))))), ?_⟩
    walk_at "rs"
    refine ⟨p, _, dx, _, .ref L, rfl, hp, T.cl_Machine, T.a_Machine_stack, rfl, ?_⟩
    walk_at "rs"
    refine ⟨L, _, rfl, .inl (SqL.of hL), ?_⟩
    walk_at "rs"
    rw [hl]
    obtain ⟨stk, kv, pl, pd, st⟩ := m
    rcases List.eq_nil_or_concat stk with rfl | ⟨s, t, rfl⟩
    · refine ite2 (fun c => ?_) (fun c => absurd (decide_eq_true rfl) c)
      exact k2 rfl _ H hm rfl .rfl
    · rw [List.concat_eq_append] at *
      refine ite2 (fun c => absurd (of_decide_eq_true c) (by simp; omega)) (fun c => ?_)
      walk_at "rs"
      refine ⟨p, _, dx, _, .ref L, rfl, hp, T.cl_Machine, T.a_Machine_stack, rfl, ?_⟩
      refine ⟨.inl ⟨rfl, _, SqL.of hL⟩, ?_⟩
      walk_at "rs"
      refine ⟨L, _, .int (t : Nat), rfl, rfl, hL, by simp, ?_⟩
      refine k1 t ⟨s, kv, pl, pd, st⟩ _ (take_cat ..) ⟨dx, ?_, ?_, ?_⟩ fun b o n1 n2 n3 e => ?_
      · rw [upd_ne npL]
        exact hp
      · rw [upd_ne nDL]
        exact hD
      · rw [upd_same]
        simp
      · rw [upd_ne n3]
        exact e

theorem ok_plus (T : Txt K mg a) : ∃ fd, FnOk P w K mg base CX0 1 a.d_plus fd ["left", "right"] (spWork 97) ∧ Binds K fd ["left", "right"] [] := by
  obtain ⟨fd, F, b⟩ := T.d_plus.F
  refine ⟨fd, F.ok sc_plus (fun vs H Q E h => ?_) (fun cdv A outer s H vs Q E hr h => ?_), b⟩
  · obtain ⟨_, _, rfl, _⟩ := h
    rfl
  · obtain ⟨l, r, rfl, hl, hr', k⟩ := h
    refine ⟨_, (pss_one (ps_ret (pe_op op_add (pv 0) (pv 1)))), ?_⟩
    walk_at "rs"
    have e : ((work 97 l r : Nat) : Int) = (l : Int) + (r : Int) := by
      show ((l + r : Nat) : Int) = _
      omega
    rw [e] at k
    exact k
theorem ok_minus (T : Txt K mg a) : ∃ fd, FnOk P w K mg base CX0 1 a.d_minus fd ["left", "right"] (spWork 115) ∧ Binds K fd ["left", "right"] [] := by
  obtain ⟨fd, F, b⟩ := T.d_minus.F
  refine ⟨fd, F.ok sc_minus (fun vs H Q E h => ?_) (fun cdv A outer s H vs Q E hr h => ?_), b⟩
  · obtain ⟨_, _, rfl, _⟩ := h
    rfl
  · obtain ⟨l, r, rfl, hl, hr', k⟩ := h
    refine ⟨_, (pss_one (ps_ret (pe_callB (call_max2 rfl) (by rfl) T.n_max (by decide +kernel) (pa_cons pe_int (pa_cons (pe_op op_sub (pv 0) (pv 1)) pa_nil))))), ?_⟩
    walk_at "rs"
    have e : ((work 115 l r : Nat) : Int) = if (l : Int) - (r : Int) > 0 then (l : Int) - (r : Int) else 0 := by
      show ((l - r : Nat) : Int) = _
      split <;> omega
    rw [e] at k
    exact ⟨_, _, rfl, k⟩
theorem ok_times (T : Txt K mg a) : ∃ fd, FnOk P w K mg base CX0 1 a.d_times fd ["left", "right"] (spWork 109) ∧ Binds K fd ["left", "right"] [] := by
  obtain ⟨fd, F, b⟩ := T.d_times.F
  refine ⟨fd, F.ok sc_times (fun vs H Q E h => ?_) (fun cdv A outer s H vs Q E hr h => ?_), b⟩
  · obtain ⟨_, _, rfl, _⟩ := h
    rfl
  · obtain ⟨l, r, rfl, hl, hr', k⟩ := h
    refine ⟨_, (pss_one (ps_ret (pe_op op_mul (pv 0) (pv 1)))), ?_⟩
    walk_at "rs"
    refine ⟨(show CMul _ _ from .inl ⟨by omega, by omega⟩), ?_⟩
    have e : ((work 109 l r : Nat) : Int) = (l : Int) * (r : Int) := by
      show ((l * r : Nat) : Int) = _
      push_cast
      rfl
    rw [e] at k
    exact k
theorem ok_append_digit (T : Txt K mg a) : ∃ fd, FnOk P w K mg base CX0 1 a.d_append_digit fd ["left", "right"] (spWork 116) ∧ Binds K fd ["left", "right"] [] := by
  obtain ⟨fd, F, b⟩ := T.d_append_digit.F
  refine ⟨fd, F.ok sc_append_digit (fun vs H Q E h => ?_) (fun cdv A outer s H vs Q E hr h => ?_), b⟩
  · obtain ⟨_, _, rfl, _⟩ := h
    rfl
  · obtain ⟨l, r, rfl, hl, hr', k⟩ := h
    refine ⟨_, (pss_one (ps_ret (pe_op op_add (pe_op op_mul pe_int (pv 0)) (pv 1)))), ?_⟩
    walk_at "rs"
    have e : ((work 116 l r : Nat) : Int) = (10 : Int) * (l : Int) + (r : Int) := by
      show ((10 * l + r : Nat) : Int) = _
      omega
    rw [e] at k
    exact k
theorem ok_is_less (T : Txt K mg a) : ∃ fd, FnOk P w K mg base CX0 1 a.d_is_less fd ["left", "right"] (spWork 99) ∧ Binds K fd ["left", "right"] [] := by
  obtain ⟨fd, F, b⟩ := T.d_is_less.F
  refine ⟨fd, F.ok sc_is_less (fun vs H Q E h => ?_) (fun cdv A outer s H vs Q E hr h => ?_), b⟩
  · obtain ⟨_, _, rfl, _⟩ := h
    rfl
  · obtain ⟨l, r, rfl, hl, hr', k⟩ := h
    refine ⟨_, (pss_one (ps_ret (pe_ifExp (pt_cmpR op_lt (pv 0) (pv 1) (nomark _)) pe_int pe_int))), ?_⟩
    walk_at "rs"
    have e : work 99 l r = if l < r then 1 else 0 := rfl
    rw [e] at k
    refine ite2 (fun c => ?_) (fun c => ?_)
    · have c : l < r := by
        have := of_decide_eq_true c
        omega
      rw [if_pos c] at k
      exact k
    · have c : ¬ l < r := fun h => c (decide_eq_true (by omega))
      rw [if_neg c] at k
      exact k
theorem ok_is_equal (T : Txt K mg a) : ∃ fd, FnOk P w K mg base CX0 1 a.d_is_equal fd ["left", "right"] (spWork 101) ∧ Binds K fd ["left", "right"] [] := by
  obtain ⟨fd, F, b⟩ := T.d_is_equal.F
  refine ⟨fd, F.ok sc_is_equal (fun vs H Q E h => ?_) (fun cdv A outer s H vs Q E hr h => ?_), b⟩
  · obtain ⟨_, _, rfl, _⟩ := h
    rfl
  · obtain ⟨l, r, rfl, hl, hr', k⟩ := h
    refine ⟨_, (pss_one (ps_ret (pe_ifExp (pt_cmpR op_eq (pv 0) (pv 1) (nomark _)) pe_int pe_int))), ?_⟩
    walk_at "rs"
    have e : work 101 l r = if l = r then 1 else 0 := rfl
    rw [e] at k
    refine ite2 (fun c => ?_) (fun c => ?_)
    · have c : l = r := by
        have := of_decide_eq_true c
        have := V.int.inj this
        omega
      rw [if_pos c] at k
      exact k
    · have c : ¬ l = r := fun h => c (decide_eq_true (by rw [h]))
      rw [if_neg c] at k
      exact k

theorem works (TE : TxtE w K mg a) (T : Txt K mg a) {c : Nat} (h : c = 97 ∨ c = 115 ∨ c = 109 ∨ c = 116 ∨ c = 99 ∨ c = 101) : ∃ f fd, KDct K w a.P_OF_TWO ⟨#[c]⟩ (.ref f) ∧ FnOk P w K mg base CX0 1 f fd ["left", "right"] (spWork c) ∧ Binds K fd ["left", "right"] [] ∧ PySem.W.keepIn K (.ref f) = true := by
  rcases h with rfl | rfl | rfl | rfl | rfl | rfl
  · obtain ⟨fd, F, b⟩ := ok_plus (P := P) (w := w) (base := base) T
    exact ⟨_, fd, TE.tab_OF_TWO.get rfl, F, b, T.d_plus.kp⟩
  · obtain ⟨fd, F, b⟩ := ok_minus (P := P) (w := w) (base := base) T
    exact ⟨_, fd, TE.tab_OF_TWO.get rfl, F, b, T.d_minus.kp⟩
  · obtain ⟨fd, F, b⟩ := ok_times (P := P) (w := w) (base := base) T
    exact ⟨_, fd, TE.tab_OF_TWO.get rfl, F, b, T.d_times.kp⟩
  · obtain ⟨fd, F, b⟩ := ok_append_digit (P := P) (w := w) (base := base) T
    exact ⟨_, fd, TE.tab_OF_TWO.get rfl, F, b, T.d_append_digit.kp⟩
  · obtain ⟨fd, F, b⟩ := ok_is_less (P := P) (w := w) (base := base) T
    exact ⟨_, fd, TE.tab_OF_TWO.get rfl, F, b, T.d_is_less.kp⟩
  · obtain ⟨fd, F, b⟩ := ok_is_equal (P := P) (w := w) (base := base) T
    exact ⟨_, fd, TE.tab_OF_TWO.get rfl, F, b, T.d_is_equal.kp⟩
theorem of_two {c : Nat} {x1 x2 x3 x4 x5 x6 : Addr} : (([("a", x1), ("s", x2), ("m", x3), ("t", x4), ("c", x5), ("e", x6)] : List (Str × Addr)).lookup ⟨#[c]⟩).isSome = decide (c = 97 ∨ c = 115 ∨ c = 109 ∨ c = 116 ∨ c = 99 ∨ c = 101) := by
  have e : ∀ k : Nat, ((⟨#[c]⟩ : Str) == ⟨#[k]⟩) = decide (c = k) := fun k => by
    by_cases h : c = k
    · rw [h, decide_eq_true rfl, beq_self_eq_true]
    · rw [decide_eq_false h, beq_eq_false_iff_ne.mpr fun e => h ((sg_eq c k).mp e)]
  have e1 := e 97
  have e2 := e 115
  have e3 := e 109
  have e4 := e 116
  have e5 := e 99
  have e6 := e 101
  rw [show (⟨#[97]⟩ : Str) = "a" from rfl] at e1
  rw [show (⟨#[115]⟩ : Str) = "s" from rfl] at e2
  rw [show (⟨#[109]⟩ : Str) = "m" from rfl] at e3
  rw [show (⟨#[116]⟩ : Str) = "t" from rfl] at e4
  rw [show (⟨#[99]⟩ : Str) = "c" from rfl] at e5
  rw [show (⟨#[101]⟩ : Str) = "e" from rfl] at e6
  simp only [List.lookup, e1, e2, e3, e4, e5, e6]
  by_cases h1 : c = 97
  · simp [h1]
  by_cases h2 : c = 115
  · simp [h2]
  by_cases h3 : c = 109
  · simp [h3]
  by_cases h4 : c = 116
  · simp [h4]
  by_cases h5 : c = 99
  · simp [h5]
  by_cases h6 : c = 101
  · simp [h6]
  simp [h1, h2, h3, h4, h5, h6]
theorem in_signs (c : Nat) (ks : List Nat) : inV (V.str ⟨#[c]⟩) (ks.map fun k => V.str ⟨#[k]⟩) = decide (c ∈ ks) := by
  unfold inV
  rw [List.any_map, Bool.eq_iff_iff, List.any_eq_true, decide_eq_true_iff]
  constructor
  · rintro ⟨k, hk, e⟩
    have e : decide ((⟨#[k]⟩ : Str) = ⟨#[c]⟩) = true := e
    rw [(sg_eq k c).mp (of_decide_eq_true e)] at hk
    exact hk
  · intro h
    exact ⟨c, h, decide_eq_true rfl⟩

theorem small8000 {n : Nat} (h : n ≤ 31000) : n < sizeLine := by
  rw [sizeLine_eq]
  omega
theorem ok_Machine_push_number (TE : TxtE w K mg a) (T : Txt K mg a) : ∃ fd, FnOk P w K mg base (L2.CX P w) 2 a.d_Machine_push_number fd ["self", "sign"] (spSign a.C_Machine a.C_Failed numberM fun _ => True) ∧ Binds K fd ["self", "sign"] [] := by
  obtain ⟨fd, F, b⟩ := T.d_Machine_push_number.F
  obtain ⟨fd_Machine_push, G_Machine_push, b_Machine_push⟩ := ok_Machine_push (P := P) (w := w) (base := base) TE T
  refine ⟨fd, F.okX sc_Machine_push_number (fun vs H Q E h => ?_) (fun cdv A outer s H vs Q E hr h => ?_), b⟩
  · obtain ⟨_, _, _, _, _, _, rfl, _⟩ := h
    rfl
  · obtain ⟨p, D, L, G, m, c, rfl, -, hm, hf, k⟩ := h
    obtain ⟨dx, hp, hD, hL⟩ := id hm
    refine ⟨_, (pss_one (ps_if (pt_cmpR op_eq (pv 1) pe_str (nomark _))
      (pss_one (ps_expr (pe_meth (pv 0) T.cl_Machine T.me_Machine_push G_Machine_push (hr.mono (by decide)) b_Machine_push .nil (L2.passes_call (W := fun c d _ H => E c d H) (E := E) (L2.takes_of rfl rfl rfl rfl) (fun _ _ _ _ h => h)) (pa_cons (pe_fld (pv 0) rfl) pa_nil))))
      (pss_one (ps_if (pt_cmpR op_eq (pv 1) pe_str (nomark _))
        (pss_one (ps_expr (pe_meth (pv 0) T.cl_Machine T.me_Machine_push G_Machine_push (hr.mono (by decide)) b_Machine_push .nil (L2.passes_call (W := fun c d _ H => E c d H) (E := E) (L2.takes_of rfl rfl rfl rfl) (fun _ _ _ _ h => h)) (pa_cons (pe_fld (pv 0) rfl) pa_nil))))
        (pss_one (ps_expr (pe_meth (pv 0) T.cl_Machine T.me_Machine_push G_Machine_push (hr.mono (by decide)) b_Machine_push .nil (L2.passes_call (W := fun c d _ H => E c d H) (E := E) (L2.takes_of rfl rfl rfl rfl) (fun _ _ _ _ h => h)) (pa_cons (pe_callB call_len_seq (by rfl) T.n_len PySem.boot_len (pa_cons (pe_fld (pv 0) rfl) pa_nil)) pa_nil)))))))), ?_⟩
    unfold numberM at k
    walk_at "rs"
    refine ite2 (fun c1 => ?_) (fun c1 => ?_)
    · have c1 : c = 103 := (sg_eq c 103).mp (V.str.inj (of_decide_eq_true c1))
      rw [if_pos c1] at k
      walk_at "rs"
      refine ⟨p, dx, _, rfl, hp, rfl, ?_⟩
      walk_at "rs"
      refine ⟨p, _, dx, _, .int (G.given : Nat), rfl, hp, T.cl_Machine, T.a_Machine_given, rfl, ?_⟩
      exact ⟨p, D, L, G, m, _, rfl, hm, hf, k⟩
    · have c1 : c ≠ 103 := fun e => c1 (decide_eq_true (congrArg V.str ((sg_eq c 103).mpr e)))
      rw [if_neg c1] at k
      walk_at "rs"
      refine ite2 (fun c2 => ?_) (fun c2 => ?_)
      · have c2 : c = 105 := (sg_eq c 105).mp (V.str.inj (of_decide_eq_true c2))
        rw [if_pos c2] at k
        walk_at "rs"
        refine ⟨p, dx, _, rfl, hp, rfl, ?_⟩
        walk_at "rs"
        refine ⟨p, _, dx, _, .int (G.amount : Nat), rfl, hp, T.cl_Machine, T.a_Machine_amount, rfl, ?_⟩
        exact ⟨p, D, L, G, m, _, rfl, hm, hf, k⟩
      · have c2 : c ≠ 105 := fun e => c2 (decide_eq_true (congrArg V.str ((sg_eq c 105).mpr e)))
        rw [if_neg c2] at k
        have hl : (m.stk.map fun n => V.int (n : Nat)).length = m.stk.length := List.length_map ..
        walk_at "rs"
        refine ⟨p, dx, _, rfl, hp, rfl, ?_⟩
        walk_at "rs"
        refine ⟨p, _, dx, _, .ref L, rfl, hp, T.cl_Machine, T.a_Machine_stack, rfl, ?_⟩
        refine ⟨L, _, rfl, .inl (SqL.of hL), ?_⟩
        exact ⟨p, D, L, G, m, _, by rw [hl]; rfl, hm, hf, k⟩
theorem ok_Machine_combine (TE : TxtE w K mg a) (T : Txt K mg a) : ∃ fd, FnOk P w K mg base (L2.CX P w) 2 a.d_Machine_combine fd ["self", "sign"] (spSign a.C_Machine a.C_Failed (fun _ => combineM) fun c => c = 97 ∨ c = 115 ∨ c = 109 ∨ c = 116 ∨ c = 99 ∨ c = 101) ∧ Binds K fd ["self", "sign"] [] := by
  obtain ⟨fd, F, b⟩ := T.d_Machine_combine.F
  obtain ⟨fd_Machine_take, G_Machine_take, b_Machine_take⟩ := ok_Machine_take (P := P) (w := w) (base := base) TE T
  obtain ⟨fd_Machine_push, G_Machine_push, b_Machine_push⟩ := ok_Machine_push (P := P) (w := w) (base := base) TE T
  refine ⟨fd, F.okX sc_Machine_combine (fun vs H Q E h => ?_) (fun cdv A outer s H vs Q E hr h => ?_), b⟩
  · obtain ⟨_, _, _, _, _, _, rfl, _⟩ := h
    rfl
  · obtain ⟨p, D, L, G, m, c, rfl, hc, hm, hf, k⟩ := h
    obtain ⟨dx, hp, hD, hL⟩ := id hm
    obtain ⟨wf, wfd, wk, wF, wb, wkp⟩ := works (P := P) (base := base) TE T hc
    refine ⟨_, (pss_cons (ps_set (i := 2) sc_Machine_combine.nd rfl (Or.inl rfl) (pe_ix ix_kdict (pe_glob (v := .ref a.P_OF_TWO) rfl TE.g_OF_TWO rfl) (pv 1) (fun _ _ => rfl)))
      (pss_cons (ps_set (i := 3) sc_Machine_combine.nd rfl (Or.inl rfl) (pe_meth0 (pv 0) T.cl_Machine T.me_Machine_take G_Machine_take (hr.mono (by decide)) b_Machine_take .nil (L2.passes_call (W := fun c d _ H => E c d H) (E := E) (L2.takes_of rfl rfl rfl rfl) (fun _ _ _ _ h => h))))
      (pss_cons (ps_set (i := 4) sc_Machine_combine.nd rfl (Or.inl rfl) (pe_meth0 (pv 0) T.cl_Machine T.me_Machine_take G_Machine_take (hr.mono (by decide)) b_Machine_take .nil (L2.passes_call (W := fun c d _ H => E c d H) (E := E) (L2.takes_of rfl rfl rfl rfl) (fun _ _ _ _ h => h))))
      (pss_one (ps_expr (pe_meth (pv 0) T.cl_Machine T.me_Machine_push G_Machine_push (hr.mono (by decide)) b_Machine_push .nil (L2.passes_call (W := fun c d _ H => E c d H) (E := E) (L2.takes_of rfl rfl rfl rfl) (fun _ _ _ _ h => h)) (pa_cons (pe_callV (k := 1) (i := 2) (hr.mono (by decide)) rfl (Or.inl rfl) (pa_cons (pv 4) (pa_cons (pv 3) pa_nil))) pa_nil))))))), ?_⟩
    replace k : Res a.C_Machine a.C_Failed p D L G H m (combineM c m) Q E := k
    unfold combineM at k
    walk_at "rs"
    refine ⟨_, _, _, rfl, rfl, wk, ?_⟩
    walk_at "rs"
    refine ⟨p, dx, _, rfl, hp, rfl, ?_⟩
    refine ⟨p, D, L, G, m, rfl, hm, hf, fun t1 m1 H1 e1 hm1 o1 => ?_, fun e m' H' h1 s1 o1 => k.2 (by rw [e]; rfl) m' H' h1 s1 o1⟩
    obtain ⟨hf1, lt1, st1, -⟩ := hf.take e1
    rw [e1] at k
    have k := k.on st1 o1
    obtain ⟨dx1, hp1, -⟩ := id hm1
    walk_at "rs"
    refine ⟨p, dx1, _, rfl, hp1, rfl, ?_⟩
    refine ⟨p, D, L, G, m1, rfl, hm1, hf1, fun t2 m2 H2 e2 hm2 o2 => ?_, fun e m' H' h1 s1 o1 => k.2 (by show (takeM m1).bind _ = _; rw [e]; rfl) m' H' h1 s1 o1⟩
    obtain ⟨hf2, lt2, st2, -⟩ := hf1.take e2
    have k : Res a.C_Machine a.C_Failed p D L G H1 m1 ((takeM m1).bind fun y => pushM (work c y.1 t1) y.2) Q E := k
    rw [e2] at k
    have k := k.on st2 o2
    obtain ⟨dx2, hp2, -⟩ := id hm2
    walk_at "rs"
    refine ⟨p, dx2, _, rfl, hp2, rfl, ?_⟩
    walk_at "rs"
    refine ⟨wf, wfd, _, _, rfl, wF, wb, wkp, ?_⟩
    walk_at "rs"
    exact ⟨t2, t1, rfl, lt2, lt1, p, D, L, G, m2, _, rfl, hm2, hf2, k⟩
theorem ok_Machine_move (TE : TxtE w K mg a) (T : Txt K mg a) : ∃ fd, FnOk P w K mg base (L2.CX P w) 2 a.d_Machine_move fd ["self", "sign"] (spSign a.C_Machine a.C_Failed (fun _ => moveM) fun _ => True) ∧ Binds K fd ["self", "sign"] [] := by
  obtain ⟨fd, F, b⟩ := T.d_Machine_move.F
  obtain ⟨fd_Machine_take, G_Machine_take, b_Machine_take⟩ := ok_Machine_take (P := P) (w := w) (base := base) TE T
  obtain ⟨fd_Machine_push, G_Machine_push, b_Machine_push⟩ := ok_Machine_push (P := P) (w := w) (base := base) TE T
  refine ⟨fd, F.okX sc_Machine_move (fun vs H Q E h => ?_) (fun cdv A outer s H vs Q E hr h => ?_), b⟩
  · obtain ⟨_, _, _, _, _, _, rfl, _⟩ := h
    rfl
  · obtain ⟨p, D, L, G, m, c, rfl, hc, hm, hf, k⟩ := h
    obtain ⟨dx, hp, hD, hL⟩ := id hm
    refine ⟨_, (pss_cons (ps_set (i := 2) sc_Machine_move.nd rfl (Or.inl rfl) (pe_meth0 (pv 0) T.cl_Machine T.me_Machine_take G_Machine_take (hr.mono (by decide)) b_Machine_take .nil (L2.passes_call (W := fun c d _ H => E c d H) (E := E) (L2.takes_of rfl rfl rfl rfl) (fun _ _ _ _ h => h))))
      (pss_one (ps_if (pt_cmpR op_eq (pv 1) pe_str (nomark _))
      (pss_cons (ps_expr (pe_meth (pv 0) T.cl_Machine T.me_Machine_push G_Machine_push (hr.mono (by decide)) b_Machine_push .nil (L2.passes_call (W := fun c d _ H => E c d H) (E := E) (L2.takes_of rfl rfl rfl rfl) (fun _ _ _ _ h => h)) (pa_cons (pv 2) pa_nil)))
        (pss_one (ps_expr (pe_meth (pv 0) T.cl_Machine T.me_Machine_push G_Machine_push (hr.mono (by decide)) b_Machine_push .nil (L2.passes_call (W := fun c d _ H => E c d H) (E := E) (L2.takes_of rfl rfl rfl rfl) (fun _ _ _ _ h => h)) (pa_cons (pv 2) pa_nil)))))
      (pss_one (ps_if (pt_cmpR op_eq (pv 1) pe_str (nomark _))
        (pss_one (ps_expr (pe_meth (pv 0) T.cl_Machine T.me_Machine_push G_Machine_push (hr.mono (by decide)) b_Machine_push .nil (L2.passes_call (W := fun c d _ H => E c d H) (E := E) (L2.takes_of rfl rfl rfl rfl) (fun _ _ _ _ h => h)) (pa_cons (pe_dget2 (hu_of hr) (pe_fld (pv 0) rfl) (pv 2) pe_int ⟨rfl, rfl, rfl, rfl⟩) pa_nil))))
        (pss_one (ps_dput (hu_of hr) (pe_fld (pv 0) rfl) (pv 2) (pe_meth0 (pv 0) T.cl_Machine T.me_Machine_take G_Machine_take (hr.mono (by decide)) b_Machine_take .nil (L2.passes_call (W := fun c d _ H => E c d H) (E := E) (L2.takes_of rfl rfl rfl rfl) (fun _ _ _ _ h => h))) rfl))))))), ?_⟩
    replace k : Res a.C_Machine a.C_Failed p D L G H m (moveM c m) Q E := k
    unfold moveM at k
    walk_at "rs"
    refine ⟨p, dx, _, rfl, hp, rfl, ?_⟩
    refine ⟨p, D, L, G, m, rfl, hm, hf, fun t1 m1 H1 e1 hm1 o1 => ?_, fun e m' H' h1 s1 o1 => k.2 (by rw [e]; rfl) m' H' h1 s1 o1⟩
    obtain ⟨hf1, lt1, st1, -⟩ := hf.take e1
    rw [e1] at k
    have k := k.on st1 o1
    have k : Res a.C_Machine a.C_Failed p D L G H1 m1 (if c = 104 then (pushM t1 m1).bind (pushM t1) else if c = 108 then pushM (getN m1.kv t1) m1 else (takeM m1).map fun y => { y.2 with kv := putN y.2.kv t1 y.1 }) Q E := k
    obtain ⟨dx1, hp1, hD1, hL1⟩ := id hm1
    walk_at "rs"
    refine ite2 (fun c1 => ?_) (fun c1 => ?_)
    · have c1 : c = 104 := (sg_eq c 104).mp (V.str.inj (of_decide_eq_true c1))
      rw [if_pos c1] at k
      walk_at "rs"
      refine ⟨p, dx1, _, rfl, hp1, rfl, ?_⟩
      walk_at "rs"
      refine ⟨p, D, L, G, m1, t1, rfl, hm1, hf1, fun m2 H2 e2 hm2 o2 => ?_, fun e m' H' h1 s1 o1 => k.2 (by rw [e]; rfl) m' H' h1 s1 o1⟩
      obtain ⟨hf2, st2, -⟩ := hf1.push e2
      rw [e2] at k
      have k := k.on st2 o2
      obtain ⟨dx2, hp2, -⟩ := id hm2
      walk_at "rs"
      refine ⟨p, dx2, _, rfl, hp2, rfl, ?_⟩
      walk_at "rs"
      exact ⟨p, D, L, G, m2, t1, rfl, hm2, hf2, k⟩
    · have c1 : c ≠ 104 := fun e => c1 (decide_eq_true (congrArg V.str ((sg_eq c 104).mpr e)))
      rw [if_neg c1] at k
      walk_at "rs"
      refine ite2 (fun c2 => ?_) (fun c2 => ?_)
      · have c2 : c = 108 := (sg_eq c 108).mp (V.str.inj (of_decide_eq_true c2))
        rw [if_pos c2] at k
        walk_at "rs"
        refine ⟨p, dx1, _, rfl, hp1, rfl, ?_⟩
        walk_at "rs"
        refine ⟨p, _, dx1, _, .ref D, rfl, hp1, T.cl_Machine, T.a_Machine_store, rfl, ?_⟩
        refine ⟨D, rfl, .inl ⟨_, .of hD1⟩, ?_⟩
        walk_at "rs"
        refine ⟨_, DGet.k (k := Sum.inl (t1 : Int)) hD1, ?_⟩
        rw [get_kv]
        exact ⟨p, D, L, G, m1, _, rfl, hm1, hf1, k⟩
      · have c2 : c ≠ 108 := fun e => c2 (decide_eq_true (congrArg V.str ((sg_eq c 108).mpr e)))
        rw [if_neg c2] at k
        walk_at "rs"
        refine ⟨p, dx1, _, rfl, hp1, rfl, ?_⟩
        refine ⟨p, D, L, G, m1, rfl, hm1, hf1, fun t2 m2 H2 e2 hm2 o2 => ?_, fun e m' H' h1 s1 o1 => k.2 (by rw [e]; rfl) m' H' h1 s1 o1⟩
        obtain ⟨hf2, lt2, st2, -⟩ := hf1.take e2
        rw [e2] at k
        have k := k.on st2 o2
        obtain ⟨npD, npL, nDL⟩ := hm2.ne
        obtain ⟨dx2, hp2, hD2, hL2⟩ := id hm2
        walk_at "rs"
        refine ⟨p, _, dx2, _, .ref D, rfl, hp2, T.cl_Machine, T.a_Machine_store, rfl, ?_⟩
        walk_at "rs"
        refine ⟨D, _, rfl, DPut.k (k := Sum.inl (t1 : Int)) hD2 (by rw [len_kv]; exact small8000 (by have : m2.kv.length ≤ 30900 := hf2.2.1; omega)), ?_⟩
        refine k.1 _ _ rfl ⟨dx2, ?_, ?_, ?_⟩ fun b o n1 n2 n3 e => ?_
        · rw [upd_ne npD]
          exact hp2
        · rw [upd_same, put_kv]
        · rw [upd_ne (fun e => nDL e.symm)]
          exact hL2
        · rw [upd_ne n2]
          exact e
theorem ok_Machine_jump (TE : TxtE w K mg a) (T : Txt K mg a) : ∃ fd, FnOk P w K mg base (L2.CX P w) 2 a.d_Machine_jump fd ["self", "sign"] (spSign a.C_Machine a.C_Failed (fun _ => jumpM) fun _ => True) ∧ Binds K fd ["self", "sign"] [] := by
  obtain ⟨fd, F, b⟩ := T.d_Machine_jump.F
  obtain ⟨fd_Machine_take, G_Machine_take, b_Machine_take⟩ := ok_Machine_take (P := P) (w := w) (base := base) TE T
  refine ⟨fd, F.okX sc_Machine_jump (fun vs H Q E h => ?_) (fun cdv A outer s H vs Q E hr h => ?_), b⟩
  · obtain ⟨_, _, _, _, _, _, rfl, _⟩ := h
    rfl
  · obtain ⟨p, D, L, G, m, c, rfl, hc, hm, hf, k⟩ := h
    obtain ⟨dx, hp, hD, hL⟩ := id hm
    refine ⟨_, (pss_cons (ps_set (i := 2) sc_Machine_jump.nd rfl (Or.inl rfl) (pe_meth0 (pv 0) T.cl_Machine T.me_Machine_take G_Machine_take (hr.mono (by decide)) b_Machine_take .nil (L2.passes_call (W := fun c d _ H => E c d H) (E := E) (L2.takes_of rfl rfl rfl rfl) (fun _ _ _ _ h => h))))
      (pss_one (ps_if (PW.pt (pw_or (pt_cmpR op_eq (pv 1) pe_str (nomark _)) (pw_or1 (pt_cmpR op_eq (pe_meth0 (pv 0) T.cl_Machine T.me_Machine_take G_Machine_take (hr.mono (by decide)) b_Machine_take .nil (L2.passes_call (W := fun c d _ H => E c d H) (E := E) (L2.takes_of rfl rfl rfl rfl) (fun _ _ _ _ h => h))) pe_int (nomark _)))))
      (pss_one (ps_fld (pv 0) (pv 2) rfl))
      pss_nil))), ?_⟩
    replace k : Res a.C_Machine a.C_Failed p D L G H m (jumpM c m) Q E := k
    unfold jumpM at k
    walk_at "rs"
    refine ⟨p, dx, _, rfl, hp, rfl, ?_⟩
    refine ⟨p, D, L, G, m, rfl, hm, hf, fun t1 m1 H1 e1 hm1 o1 => ?_, fun e m' H' h1 s1 o1 => k.2 (by rw [e]; rfl) m' H' h1 s1 o1⟩
    obtain ⟨hf1, lt1, st1, -⟩ := hf.take e1
    rw [e1] at k
    have k := k.on st1 o1
    have k : Res a.C_Machine a.C_Failed p D L G H1 m1 (if c = 106 then some { m1 with pl := t1 } else (takeM m1).map fun y => if y.1 = 0 then { y.2 with pl := t1 } else y.2) Q E := k
    obtain ⟨npD, npL, nDL⟩ := hm1.ne
    obtain ⟨dx1, hp1, hD1, hL1⟩ := id hm1
    walk_at "rs"
    have put : ∀ (m2 : Mc) (H2 : Hp), MAt a.C_Machine H2 p D L G m2 → ∃ dx2, H2 p = some (.ins a.C_Machine dx2 [("code", .str G.code), ("given", .int (G.given : Nat)), ("amount", .int (G.amount : Nat)), ("store", .ref D), ("stack", .ref L), ("place", .int (m2.pl : Nat)), ("paid", .int (m2.pd : Nat)), ("steps", .int (m2.st : Nat))]) ∧
        MAt a.C_Machine (upd H2 p (.ins a.C_Machine dx2 [("code", .str G.code), ("given", .int (G.given : Nat)), ("amount", .int (G.amount : Nat)), ("store", .ref D), ("stack", .ref L), ("place", .int (t1 : Nat)), ("paid", .int (m2.pd : Nat)), ("steps", .int (m2.st : Nat))])) p D L G { m2 with pl := t1 } := fun m2 H2 h2 => by
      obtain ⟨n1, n2, n3⟩ := h2.ne
      obtain ⟨dx2, hp2, hD2, hL2⟩ := h2
      exact ⟨dx2, hp2, dx2, upd_same, by rw [upd_ne (fun e => n1 e.symm)]; exact hD2, by rw [upd_ne (fun e => n2 e.symm)]; exact hL2⟩
    refine ite2 (fun c1 => ?_) (fun c1 => ?_)
    · have c1 : c = 106 := (sg_eq c 106).mp (V.str.inj (of_decide_eq_true c1))
      rw [if_pos c1] at k
      obtain ⟨dx2, hp2, hm2⟩ := put m1 H1 hm1
      walk_at "rs"
      refine ⟨p, _, dx2, _, rfl, hp2, T.cl_Machine, T.a_Machine_place, (by show 8 < 1000; decide), ?_⟩
      exact k.1 _ _ rfl hm2 fun b o n1 n2 n3 e => by rw [upd_ne n1]; exact e
    · have c1 : c ≠ 106 := fun e => c1 (decide_eq_true (congrArg V.str ((sg_eq c 106).mpr e)))
      rw [if_neg c1] at k
      walk_at "rs"
      refine ⟨p, dx1, _, rfl, hp1, rfl, ?_⟩
      refine ⟨p, D, L, G, m1, rfl, hm1, hf1, fun t2 m2 H2 e2 hm2 o2 => ?_, fun e m' H' h1 s1 o1 => k.2 (by rw [e]; rfl) m' H' h1 s1 o1⟩
      obtain ⟨hf2, lt2, st2, -⟩ := hf1.take e2
      rw [e2] at k
      have k := k.on st2 o2
      have k : Res a.C_Machine a.C_Failed p D L G H2 m2 (some (if t2 = 0 then { m2 with pl := t1 } else m2)) Q E := k
      obtain ⟨dx2, hp2, hm3⟩ := put m2 H2 hm2
      walk_at "rs"
      refine ite2 (fun c2 => ?_) (fun c2 => ?_)
      · have c2 : t2 = 0 := by
          have := V.int.inj (of_decide_eq_true c2)
          omega
        rw [if_pos c2] at k
        walk_at "rs"
        refine ⟨p, _, dx2, _, rfl, hp2, T.cl_Machine, T.a_Machine_place, (by show 8 < 1000; decide), ?_⟩
        exact k.1 _ _ rfl hm3 fun b o n1 n2 n3 e => by rw [upd_ne n1]; exact e
      · have c2 : ¬ t2 = 0 := fun h => c2 (decide_eq_true (by rw [h]; rfl))
        rw [if_neg c2] at k
        exact k.1 _ _ rfl hm2 .rfl
theorem ok_Machine_settle (TE : TxtE w K mg a) (T : Txt K mg a) : ∃ fd, FnOk P w K mg base (L2.CX P w) 2 a.d_Machine_settle fd ["self", "sign"] (spSign a.C_Machine a.C_Failed (fun _ => settleM) fun _ => True) ∧ Binds K fd ["self", "sign"] [] := by
  obtain ⟨fd, F, b⟩ := T.d_Machine_settle.F
  obtain ⟨fd_Machine_take, G_Machine_take, b_Machine_take⟩ := ok_Machine_take (P := P) (w := w) (base := base) TE T
  refine ⟨fd, F.okX sc_Machine_settle (fun vs H Q E h => ?_) (fun cdv A outer s H vs Q E hr h => ?_), b⟩
  · obtain ⟨_, _, _, _, _, _, rfl, _⟩ := h
    rfl
  · obtain ⟨p, D, L, G, m, c, rfl, hc, hm, hf, k⟩ := h
    obtain ⟨dx, hp, hD, hL⟩ := id hm
    refine ⟨_, (pss_cons (ps_set (i := 2) sc_Machine_settle.nd rfl (Or.inl rfl) (pe_meth0 (pv 0) T.cl_Machine T.me_Machine_take G_Machine_take (hr.mono (by decide)) b_Machine_take .nil (L2.passes_call (W := fun c d _ H => E c d H) (E := E) (L2.takes_of rfl rfl rfl rfl) (fun _ _ _ _ h => h))))
      (pss_one (ps_if (pt_cmpR op_eq (pv 1) pe_str (nomark _))
      (pss_one (ps_fldaug (pv 0) (pv 2) in_add))
      (pss_one (ps_if (pt_cmpR op_eq (pv 2) pe_int (nomark _))
        (pss_one (ps_raise rfl (takes_of rfl rfl rfl rfl) (pmk_own PySem.F.excBase_ValueError TE.x_Failed TE.g_Failed TE.kc_Failed (raises_own TE.b_Failed TE.t_Failed) rfl)))
        pss_nil))))), ?_⟩
    replace k : Res a.C_Machine a.C_Failed p D L G H m (settleM c m) Q E := k
    unfold settleM at k
    walk_at "rs"
    refine ⟨p, dx, _, rfl, hp, rfl, ?_⟩
    refine ⟨p, D, L, G, m, rfl, hm, hf, fun t1 m1 H1 e1 hm1 o1 => ?_, fun e m' H' h1 s1 o1 => k.2 (by rw [e]; rfl) m' H' h1 s1 o1⟩
    obtain ⟨hf1, lt1, st1, -⟩ := hf.take e1
    rw [e1] at k
    have k := k.on st1 o1
    have k : Res a.C_Machine a.C_Failed p D L G H1 m1 (if c = 121 then some { m1 with pd := m1.pd + t1 } else if t1 = 0 then none else some m1) Q E := k
    obtain ⟨npD, npL, nDL⟩ := hm1.ne
    obtain ⟨dx1, hp1, hD1, hL1⟩ := id hm1
    walk_at "rs"
    refine ite2 (fun c1 => ?_) (fun c1 => ?_)
    · have c1 : c = 121 := (sg_eq c 121).mp (V.str.inj (of_decide_eq_true c1))
      rw [if_pos c1] at k
      walk_at "rs"
      refine ⟨p, _, dx1, _, .int (m1.pd : Nat), rfl, hp1, T.cl_Machine, T.a_Machine_paid, rfl, ?_⟩
      walk_at "rs"
      refine ⟨dx1, _, hp1, (by show 8 < 1000; decide), ?_⟩
      refine k.1 _ _ rfl ⟨dx1, upd_same, by rw [upd_ne (fun e => npD e.symm)]; exact hD1, by rw [upd_ne (fun e => npL e.symm)]; exact hL1⟩ fun b o n1 n2 n3 e => by rw [upd_ne n1]; exact e
    · have c1 : c ≠ 121 := fun e => c1 (decide_eq_true (congrArg V.str ((sg_eq c 121).mpr e)))
      rw [if_neg c1] at k
      walk_at "rs"
      refine ite2 (fun c2 => ?_) (fun c2 => ?_)
      · have c2 : t1 = 0 := by
          have := V.int.inj (of_decide_eq_true c2)
          omega
        rw [if_pos c2] at k
        exact k.2 rfl m1 H1 hm1 rfl .rfl
      · have c2 : ¬ t1 = 0 := fun h => c2 (decide_eq_true (by rw [h]; rfl))
        rw [if_neg c2] at k
        exact k.1 _ _ rfl hm1 .rfl

theorem MAt.new {C : Addr} {H : Hp} {p D L t : Addr} {G : Gv} {m : Mc} {o : HO} (h : MAt C H p D L G m) (n : H t = none) : MAt C (upd H t o) p D L G m := by
  obtain ⟨dx, h1, h2, h3⟩ := h
  exact ⟨dx, by rw [upd_ne (ne_of_none h1 n)]; exact h1, by rw [upd_ne (ne_of_none h2 n)]; exact h2, by rw [upd_ne (ne_of_none h3 n)]; exact h3⟩
theorem Oth.new {H : Hp} {p D L t : Addr} {o : HO} (n : H t = none) : Oth p D L H (upd H t o) := fun b u _ _ _ e => by
  rw [upd_ne (ne_of_none e n)]
  exact e
theorem ok_Machine_perform (TE : TxtE w K mg a) (T : Txt K mg a) : ∃ fd, FnOk P w K mg base (L2.CX P w) 3 a.d_Machine_perform fd ["self", "sign"] (spSign a.C_Machine a.C_Failed performM fun _ => True) ∧ Binds K fd ["self", "sign"] [] := by
  obtain ⟨fd, F, b⟩ := T.d_Machine_perform.F
  obtain ⟨fd_Machine_push, G_Machine_push, b_Machine_push⟩ := ok_Machine_push (P := P) (w := w) (base := base) TE T
  obtain ⟨fd_Machine_push_number, G_Machine_push_number, b_Machine_push_number⟩ := ok_Machine_push_number (P := P) (w := w) (base := base) TE T
  obtain ⟨fd_Machine_combine, G_Machine_combine, b_Machine_combine⟩ := ok_Machine_combine (P := P) (w := w) (base := base) TE T
  obtain ⟨fd_Machine_move, G_Machine_move, b_Machine_move⟩ := ok_Machine_move (P := P) (w := w) (base := base) TE T
  obtain ⟨fd_Machine_jump, G_Machine_jump, b_Machine_jump⟩ := ok_Machine_jump (P := P) (w := w) (base := base) TE T
  obtain ⟨fd_Machine_settle, G_Machine_settle, b_Machine_settle⟩ := ok_Machine_settle (P := P) (w := w) (base := base) TE T
  refine ⟨fd, F.okX sc_Machine_perform (fun vs H Q E h => ?_) (fun cdv A outer s H vs Q E hr h => ?_), b⟩
  · obtain ⟨_, _, _, _, _, _, rfl, _⟩ := h
    rfl
  · obtain ⟨p, D, L, G, m, c, rfl, hc, hm, hf, k⟩ := h
    obtain ⟨dx, hp, hD, hL⟩ := id hm
    have dig : c ∈ (Str.ofString "0123456789").cps.toList ↔ 48 ≤ c ∧ c ≤ 57 := by
      rw [show (Str.ofString "0123456789").cps.toList = [48, 49, 50, 51, 52, 53, 54, 55, 56, 57] by decide +kernel]
      simp only [List.mem_cons, List.not_mem_nil, or_false]
      omega
    refine ⟨_, (pss_one (ps_if (pt_cmpR op_in_sign (pv 1) (pe_glob (v := (.str "0123456789")) rfl T.c_DIGITS.choose_spec ⟨_, rfl⟩) (by rfl))
      (pss_one (ps_expr (pe_meth (pv 0) T.cl_Machine T.me_Machine_push G_Machine_push (hr.mono (by decide)) b_Machine_push .nil (L2.passes_call (W := fun c d _ H => E c d H) (E := E) (L2.takes_of rfl rfl rfl rfl) (fun _ _ _ _ h => h)) (pa_cons (pe_callTy call_int_str (by rfl) T.n_int (by decide +kernel) (pa_cons (pv 1) pa_nil)) pa_nil))))
      (pss_one (ps_if (pt_cmpR op_in_seq (pv 1) (pe_tup (pa_cons pe_str (pa_cons pe_str (pa_cons pe_str pa_nil)))) (by rfl))
        (pss_one (ps_expr (pe_meth (pv 0) T.cl_Machine T.me_Machine_push_number G_Machine_push_number (hr.mono (by decide)) b_Machine_push_number .nil (L2.passes_call (W := fun c d _ H => E c d H) (E := E) (L2.takes_of rfl rfl rfl rfl) (fun _ _ _ _ h => h)) (pa_cons (pv 1) pa_nil))))
        (pss_one (ps_if (pt_cmpR op_inKd (pv 1) (pe_glob (v := .ref a.P_OF_TWO) rfl TE.g_OF_TWO rfl) (by rfl))
          (pss_one (ps_expr (pe_meth (pv 0) T.cl_Machine T.me_Machine_combine G_Machine_combine (hr.mono (by decide)) b_Machine_combine .nil (L2.passes_call (W := fun c d _ H => E c d H) (E := E) (L2.takes_of rfl rfl rfl rfl) (fun _ _ _ _ h => h)) (pa_cons (pv 1) pa_nil))))
          (pss_one (ps_if (pt_cmpR op_in_seq (pv 1) (pe_tup (pa_cons pe_str (pa_cons pe_str (pa_cons pe_str pa_nil)))) (by rfl))
            (pss_one (ps_expr (pe_meth (pv 0) T.cl_Machine T.me_Machine_move G_Machine_move (hr.mono (by decide)) b_Machine_move .nil (L2.passes_call (W := fun c d _ H => E c d H) (E := E) (L2.takes_of rfl rfl rfl rfl) (fun _ _ _ _ h => h)) (pa_cons (pv 1) pa_nil))))
            (pss_one (ps_if (pt_cmpR op_in_seq (pv 1) (pe_tup (pa_cons pe_str (pa_cons pe_str pa_nil))) (by rfl))
              (pss_one (ps_expr (pe_meth (pv 0) T.cl_Machine T.me_Machine_jump G_Machine_jump (hr.mono (by decide)) b_Machine_jump .nil (L2.passes_call (W := fun c d _ H => E c d H) (E := E) (L2.takes_of rfl rfl rfl rfl) (fun _ _ _ _ h => h)) (pa_cons (pv 1) pa_nil))))
              (pss_one (ps_expr (pe_meth (pv 0) T.cl_Machine T.me_Machine_settle G_Machine_settle (hr.mono (by decide)) b_Machine_settle .nil (L2.passes_call (W := fun c d _ H => E c d H) (E := E) (L2.takes_of rfl rfl rfl rfl) (fun _ _ _ _ h => h)) (pa_cons (pv 1) pa_nil)))))))))))))), ?_⟩
    unfold performM at k
    walk_at "rs"
    refine ite2 (fun c1 => ?_) (fun c1 => ?_)
    · have c1 := dig.mp (of_decide_eq_true c1)
      rw [if_pos c1] at k
      walk_at "rs"
      refine ⟨p, dx, _, rfl, hp, rfl, ?_⟩
      walk_at "rs"
      have hall : NumText.AllDigits [c] := fun n hn => by
        rw [List.mem_singleton.mp hn]
        exact c1
      refine ⟨_, _, rfl, PySem.intText_digits (x := ⟨#[c]⟩) hall (fun e => nomatch e) (by show 1 ≤ _; decide), (by show 1 ≤ 640; decide), ?_⟩
      refine ⟨p, D, L, G, m, c - 48, ?_, hm, hf, k⟩
      show [V.ref p, V.int ((NumText.digitsVal [c] : Nat) : Int)] = _
      rw [show NumText.digitsVal [c] = c - 48 by simp [NumText.digitsVal]]
    rw [if_neg (fun h => c1 (decide_eq_true (dig.mpr h)))] at k
    walk_at "rs"
    refine ⟨(by show 3 ≤ sizeLine; decide), fun t1 n1 => ?_⟩
    have hm1 := hm.new (o := .tup ([103, 105, 110].map fun k => V.str ⟨#[k]⟩)) n1
    replace k := k.on (m1 := m) rfl (Oth.new (o := .tup ([103, 105, 110].map fun k => V.str ⟨#[k]⟩)) n1)
    clear hm hp hD hL
    refine ⟨t1, [103, 105, 110].map fun k => V.str ⟨#[k]⟩, rfl, .inr (SqT.of upd_same), rfl, rfl, ?_⟩
    replace hm1 : MAt a.C_Machine (upd H t1 (.tup [.str "g", .str "i", .str "n"])) p D L G m := hm1
    obtain ⟨dx, hp, hD, hL⟩ := id hm1
    walk_at "rs"
    refine ite2 (fun c2 => ?_) (fun c2 => ?_)
    · replace c2 : inV (V.str ⟨#[c]⟩) ([103, 105, 110].map fun k => V.str ⟨#[k]⟩) = true := c2
      rw [in_signs, decide_eq_true_iff] at c2
      rw [if_pos (by simpa using c2)] at k
      walk_at "rs"
      refine ⟨p, dx, _, rfl, hp, rfl, ?_⟩
      walk_at "rs"
      exact ⟨p, D, L, G, m, c, rfl, trivial, hm1, hf, k⟩
    replace c2 : ¬ inV (V.str ⟨#[c]⟩) ([103, 105, 110].map fun k => V.str ⟨#[k]⟩) = true := c2
    rw [in_signs, decide_eq_true_iff] at c2
    rw [if_neg (by simpa using c2)] at k
    walk_at "rs"
    refine ⟨_, _, _, rfl, rfl, TE.tab_OF_TWO.has _, ?_⟩
    walk_at "rs"
    rw [of_two]
    refine ite2 (fun c3 => ?_) (fun c3 => ?_)
    · have c3 := of_decide_eq_true c3
      rw [if_pos c3] at k
      walk_at "rs"
      refine ⟨p, dx, _, rfl, hp, rfl, ?_⟩
      walk_at "rs"
      exact ⟨p, D, L, G, m, c, rfl, c3, hm1, hf, k⟩
    rw [if_neg (fun h => c3 (decide_eq_true h))] at k
    walk_at "rs"
    refine ⟨(by show 3 ≤ sizeLine; decide), fun t2 n2 => ?_⟩
    have hm2 := hm1.new (o := .tup ([104, 108, 117].map fun k => V.str ⟨#[k]⟩)) n2
    replace k := Res.on (m1 := m) k rfl (Oth.new (o := .tup ([104, 108, 117].map fun k => V.str ⟨#[k]⟩)) n2)
    clear hm1 hp hD hL
    refine ⟨t2, [104, 108, 117].map fun k => V.str ⟨#[k]⟩, rfl, .inr (SqT.of upd_same), rfl, rfl, ?_⟩
    obtain ⟨dx, hp, hD, hL⟩ := id hm2
    walk_at "rs"
    refine ite2 (fun c4 => ?_) (fun c4 => ?_)
    · replace c4 : inV (V.str ⟨#[c]⟩) ([104, 108, 117].map fun k => V.str ⟨#[k]⟩) = true := c4
      rw [in_signs, decide_eq_true_iff] at c4
      rw [if_pos (by simpa using c4)] at k
      walk_at "rs"
      refine ⟨p, dx, _, rfl, hp, rfl, ?_⟩
      walk_at "rs"
      exact ⟨p, D, L, G, m, c, rfl, trivial, hm2, hf, k⟩
    replace c4 : ¬ inV (V.str ⟨#[c]⟩) ([104, 108, 117].map fun k => V.str ⟨#[k]⟩) = true := c4
    rw [in_signs, decide_eq_true_iff] at c4
    rw [if_neg (by simpa using c4)] at k
    walk_at "rs"
    refine ⟨(by show 2 ≤ sizeLine; decide), fun t3 n3 => ?_⟩
    have hm3 := hm2.new (o := .tup ([106, 102].map fun k => V.str ⟨#[k]⟩)) n3
    replace k := Res.on (m1 := m) k rfl (Oth.new (o := .tup ([106, 102].map fun k => V.str ⟨#[k]⟩)) n3)
    clear hm2 hp hD hL
    refine ⟨t3, [106, 102].map fun k => V.str ⟨#[k]⟩, rfl, .inr (SqT.of upd_same), rfl, rfl, ?_⟩
    obtain ⟨dx, hp, hD, hL⟩ := id hm3
    walk_at "rs"
    refine ite2 (fun c5 => ?_) (fun c5 => ?_)
    · replace c5 : inV (V.str ⟨#[c]⟩) ([106, 102].map fun k => V.str ⟨#[k]⟩) = true := c5
      rw [in_signs, decide_eq_true_iff] at c5
      rw [if_pos (by simpa using c5)] at k
      walk_at "rs"
      refine ⟨p, dx, _, rfl, hp, rfl, ?_⟩
      walk_at "rs"
      exact ⟨p, D, L, G, m, c, rfl, trivial, hm3, hf, k⟩
    replace c5 : ¬ inV (V.str ⟨#[c]⟩) ([106, 102].map fun k => V.str ⟨#[k]⟩) = true := c5
    rw [in_signs, decide_eq_true_iff] at c5
    rw [if_neg (by simpa using c5)] at k
    walk_at "rs"
    refine ⟨p, dx, _, rfl, hp, rfl, ?_⟩
    walk_at "rs"
    exact ⟨p, D, L, G, m, c, rfl, trivial, hm3, hf, k⟩
/-- the run -/
def finM (G : Gv) : Nat → Mc → Option Mc × Nat
  | 0, m => (none, m.st)
  | n + 1, m => match (TL.tl G.code)[m.pl]? with
    | none => (some m, m.st)
    | some c => if m.st = 200 then (none, 200) else match performM G c { m with st := m.st + 1, pl := m.pl + 1 } with
      | none => (none, m.st + 1)
      | some m' => finM G n m'
theorem FitM.perform {G : Gv} {c : Nat} {m m' : Mc} (f : FitM m) (few : m.kv.length ≤ 30899) (e : performM G c m = some m') : FitM m' ∧ m'.st = m.st ∧ m'.kv.length ≤ m.kv.length + 1 := by
  have pu : ∀ {v : Nat} {m1 m2 : Mc}, FitM m1 → m1.st = m.st → m1.kv = m.kv → pushM v m1 = some m2 → FitM m2 ∧ m2.st = m.st ∧ m2.kv.length ≤ m.kv.length + 1 := fun f1 s1 k1 e1 => by
    obtain ⟨g1, g2, g3, -⟩ := f1.push e1
    exact ⟨g1, g2.trans s1, by rw [g3, k1]; omega⟩
  have ta : ∀ {m1 m2 : Mc} {g : Nat × Mc → Option Mc}, FitM m1 → m1.st = m.st → m1.kv = m.kv → (takeM m1).bind g = some m2 → ∃ x, takeM m1 = some x ∧ g x = some m2 ∧ FitM x.2 ∧ x.1 < 1000000 ∧ x.2.st = m.st ∧ x.2.kv = m.kv := fun {m1 m2 g} f1 s1 k1 e1 => by
    cases h : takeM m1 with
    | none => rw [h] at e1; cases e1
    | some x =>
      rw [h] at e1
      obtain ⟨g1, g2, g3, g4, -⟩ := f1.take h
      exact ⟨x, rfl, e1, g1, g2, g3.trans s1, g4.trans k1⟩
  unfold performM at e
  split at e
  · exact pu f rfl rfl e
  split at e
  · unfold numberM at e
    split at e
    · exact pu f rfl rfl e
    split at e
    · exact pu f rfl rfl e
    · exact pu f rfl rfl e
  split at e
  · unfold combineM at e
    obtain ⟨x, hx, e, f1, -, s1, k1⟩ := ta f rfl rfl e
    obtain ⟨y, hy, e, f2, -, s2, k2⟩ := ta f1 s1 k1 e
    exact pu f2 s2 k2 e
  split at e
  · unfold moveM at e
    obtain ⟨x, hx, e, f1, l1, s1, k1⟩ := ta f rfl rfl e
    split at e
    · cases h : pushM x.1 x.2 with
      | none => rw [h] at e; cases e
      | some m2 =>
        rw [h] at e
        obtain ⟨g1, g2, g3, -⟩ := f1.push h
        exact pu g1 (g2.trans s1) (g3.trans k1) e
    split at e
    · exact pu f1 s1 k1 e
    · cases h : takeM x.2 with
      | none => rw [h] at e; cases e
      | some y =>
        rw [h] at e
        obtain ⟨g1, g2, g3, g4, -⟩ := f1.take h
        obtain rfl := Option.some.inj e
        have := len_put y.2.kv x.1 y.1
        rw [g4, k1] at this
        refine ⟨⟨g1.1, ?_, g1.2.2⟩, g3.trans s1, ?_⟩
        · show (putN y.2.kv x.1 y.1).length ≤ 30900
          rw [g4, k1]
          omega
        · show (putN y.2.kv x.1 y.1).length ≤ _
          rw [g4, k1]
          exact this
  split at e
  · unfold jumpM at e
    obtain ⟨x, hx, e, f1, l1, s1, k1⟩ := ta f rfl rfl e
    split at e
    · obtain rfl := Option.some.inj e
      exact ⟨f1, s1, by show x.2.kv.length ≤ _; rw [k1]; omega⟩
    · cases h : takeM x.2 with
      | none => rw [h] at e; cases e
      | some y =>
        rw [h] at e
        obtain ⟨g1, g2, g3, g4, -⟩ := f1.take h
        have e := Option.some.inj e
        have e : (if y.1 = 0 then { y.2 with pl := x.1 } else y.2) = m' := e
        split at e
        · subst e
          exact ⟨g1, g3.trans s1, by show y.2.kv.length ≤ _; rw [g4, k1]; omega⟩
        · subst e
          exact ⟨g1, g3.trans s1, by rw [g4, k1]; omega⟩
  · unfold settleM at e
    obtain ⟨x, hx, e, f1, l1, s1, k1⟩ := ta f rfl rfl e
    split at e
    · obtain rfl := Option.some.inj e
      exact ⟨f1, s1, by show x.2.kv.length ≤ _; rw [k1]; omega⟩
    split at e
    · cases e
    · obtain rfl := Option.some.inj e
      exact ⟨f1, s1, by rw [k1]; omega⟩
def spFin (C CE : Addr) : Sp := fun vs H Q E => ∃ (p D L : Addr) (G : Gv) (m : Mc), vs = [.ref p] ∧ MAt C H p D L G m ∧ FitM m ∧ m.st = 0 ∧ m.kv.length ≤ 30600 ∧ G.code.length ≤ 5000 ∧
  (∀ m' n H', finM G 201 m = (some m', n) → MAt C H' p D L G m' → FitM m' → Oth p D L H H' → Q .non H') ∧ (∀ n, finM G 201 m = (none, n) → ∀ m' H', MAt C H' p D L G m' → m'.st = n → Oth p D L H H' → E (.ref CE) none H')
theorem ok_Machine_finish (TE : TxtE w K mg a) (T : Txt K mg a) : ∃ fd, FnOk P w K mg base (L2.CX P w) 4 a.d_Machine_finish fd ["self"] (spFin a.C_Machine a.C_Failed) ∧ Binds K fd ["self"] [] := by
  obtain ⟨fd, F, b⟩ := T.d_Machine_finish.F
  obtain ⟨fd_Machine_perform, G_Machine_perform, b_Machine_perform⟩ := ok_Machine_perform (P := P) (w := w) (base := base) TE T
  refine ⟨fd, F.okX sc_Machine_finish (fun vs H Q E h => ?_) (fun cdv A outer s H vs Q E hr h => ?_), b⟩
  · obtain ⟨_, _, _, _, _, rfl, _⟩ := h
    rfl
  · obtain ⟨p, D, L, G, m, rfl, hm, hf, h0, few, lc, k1, k2⟩ := h
    obtain ⟨r, er⟩ : ∃ r, r = finM G 201 m := ⟨_, rfl⟩
    rw [← er] at k1 k2
    refine ⟨_, (pss_one (ps_while (passes_of rfl) (pt_cmpR op_lt (pe_fld (pv 0) rfl) (pe_callB call_len_str (by rfl) T.n_len PySem.boot_len (pa_cons (pe_fld (pv 0) rfl) pa_nil)) (nomark _))
      (pss_cons (ps_if (pt_cmpR op_eq (pe_fld (pv 0) rfl) (pe_glob (v := (.int 200)) rfl T.c_MOST_STEPS.choose_spec ⟨_, rfl⟩) (nomark _))
        (pss_one (ps_raise rfl (takes_of rfl rfl rfl rfl) (pmk_own PySem.F.excBase_ValueError TE.x_Failed TE.g_Failed TE.kc_Failed (raises_own TE.b_Failed TE.t_Failed) rfl)))
        pss_nil)
        (pss_cons (ps_set (i := 1) sc_Machine_finish.nd rfl (Or.inl rfl) (pe_ix ix_str (pe_fld (pv 0) rfl) (pe_fld (pv 0) rfl) (fun _ _ => rfl)))
        (pss_cons (ps_fldaug (pv 0) pe_int in_add)
        (pss_cons (ps_fldaug (pv 0) pe_int in_add)
        (pss_one (ps_expr (pe_meth (pv 0) T.cl_Machine T.me_Machine_perform G_Machine_perform (hr.mono (by decide)) b_Machine_perform .nil (L2.passes_call (W := fun c d _ H => E c d H) (E := E) (L2.takes_of rfl rfl rfl rfl) (fun _ _ _ _ h => h)) (pa_cons (pv 1) pa_nil)))))))))), ?_⟩
    refine ⟨fun n σ H2 => ∃ (m2 : Mc) (v : Option V), n = 201 - m2.st ∧ σ = [some (.ref p), v] ∧ MAt a.C_Machine H2 p D L G m2 ∧ FitM m2 ∧ m2.st ≤ 200 ∧ m2.kv.length ≤ 30600 + m2.st ∧ Oth p D L H H2 ∧ r = finM G (201 - m2.st) m2,
      ⟨_, m, _, rfl, rfl, hm, hf, by omega, by omega, .rfl, by rw [h0]; exact er⟩, ?_⟩
    rintro n σ H2 ⟨m2, v, rfl, rfl, hm2, hf2, st2, few2, o2, e2⟩
    obtain ⟨npD, npL, nDL⟩ := hm2.ne
    obtain ⟨dx, hp, hD, hL⟩ := id hm2
    obtain ⟨f, ef⟩ : ∃ f, 201 - m2.st = f + 1 := ⟨200 - m2.st, by omega⟩
    rw [ef, finM] at e2
    walk_at "rs"
    refine ⟨p, _, dx, _, .int (m2.pl : Nat), rfl, hp, T.cl_Machine, T.a_Machine_place, rfl, ?_⟩
    walk_at "rs"
    refine ⟨p, _, dx, _, .str G.code, rfl, hp, T.cl_Machine, T.a_Machine_code, rfl, ?_⟩
    walk_at "rs"
    refine ⟨(by rw [sizeLine_eq]; omega), ?_⟩
    walk_at "rs"
    refine ite2 (fun c1 => ?_) (fun c1 => ?_)
    · have c1 : m2.pl < G.code.length := by
        have := of_decide_eq_true c1
        omega
      obtain ⟨c, eg⟩ : ∃ c, (TL.tl G.code)[m2.pl]? = some c := ⟨_, List.getElem?_eq_getElem (by rw [← TL.len_tl]; exact c1)⟩
      rw [eg] at e2
      replace e2 : r = if m2.st = 200 then (none, 200) else match performM G c { m2 with st := m2.st + 1, pl := m2.pl + 1 } with
        | none => (none, m2.st + 1)
        | some m' => finM G f m' := e2
      refine ⟨fun σ' H' => ∃ (m3 : Mc) (v : Option V), σ' = [some (.ref p), v] ∧ MAt a.C_Machine H' p D L G m3 ∧ FitM m3 ∧ m3.st = m2.st + 1 ∧ m3.st ≤ 200 ∧ m3.kv.length ≤ 30600 + m3.st ∧ Oth p D L H H' ∧ r = finM G f m3, ?_, ?_⟩
      · rintro σ' H' ⟨m3, v, rfl, h1, h2, h3, h4, h5, h6, h7⟩
        exact ⟨201 - m3.st, by omega, m3, v, rfl, rfl, h1, h2, h4, h5, h6, by rw [h7]; congr 1; omega⟩
      walk_at "rs"
      refine ⟨p, _, dx, _, .int (m2.st : Nat), rfl, hp, T.cl_Machine, T.a_Machine_steps, rfl, ?_⟩
      walk_at "rs"
      refine ite2 (fun c2 => ?_) (fun c2 => ?_)
      · have c2 : m2.st = 200 := by
          have := V.int.inj (of_decide_eq_true c2)
          omega
        rw [if_pos c2] at e2
        exact k2 _ e2 m2 H2 hm2 c2 o2
      have c2 : ¬ m2.st = 200 := fun h => c2 (decide_eq_true (by rw [h]; rfl))
      rw [if_neg c2] at e2
      walk_at "rs"
      refine ⟨p, _, dx, _, .str G.code, rfl, hp, T.cl_Machine, T.a_Machine_code, rfl, ?_⟩
      walk_at "rs"
      refine ⟨p, _, dx, _, .int (m2.pl : Nat), rfl, hp, T.cl_Machine, T.a_Machine_place, rfl, ?_⟩
      walk_at "rs"
      refine ⟨G.code, m2.pl, c, rfl, rfl, (by rw [sizeLine_eq]; omega), atI_nat eg, ?_⟩
      walk_at "rs"
      refine ⟨p, _, dx, _, .int (m2.st : Nat), rfl, hp, T.cl_Machine, T.a_Machine_steps, rfl, ?_⟩
      walk_at "rs"
      refine ⟨dx, _, hp, (by show 8 < 1000; decide), ?_⟩
      walk_at "rs"
      refine ⟨p, _, dx, _, .int (m2.pl : Nat), rfl, upd_same, T.cl_Machine, T.a_Machine_place, rfl, ?_⟩
      walk_at "rs"
      refine ⟨dx, _, upd_same, (by show 8 < 1000; decide), ?_⟩
      rw [upd_upd]
      have hm3 : MAt a.C_Machine (upd H2 p (.ins a.C_Machine dx [("code", .str G.code), ("given", .int (G.given : Nat)), ("amount", .int (G.amount : Nat)), ("store", .ref D), ("stack", .ref L), ("place", .int ((m2.pl + 1 : Nat) : Int)), ("paid", .int (m2.pd : Nat)), ("steps", .int ((m2.st + 1 : Nat) : Int))])) p D L G { m2 with st := m2.st + 1, pl := m2.pl + 1 } :=
        ⟨dx, upd_same, by rw [upd_ne (fun e => npD e.symm)]; exact hD, by rw [upd_ne (fun e => npL e.symm)]; exact hL⟩
      have o3 : Oth p D L H2 (upd H2 p (.ins a.C_Machine dx [("code", .str G.code), ("given", .int (G.given : Nat)), ("amount", .int (G.amount : Nat)), ("store", .ref D), ("stack", .ref L), ("place", .int ((m2.pl + 1 : Nat) : Int)), ("paid", .int (m2.pd : Nat)), ("steps", .int ((m2.st + 1 : Nat) : Int))])) := fun b o n1 n2 n3 e => by
        rw [upd_ne n1]
        exact e
      walk_at "rs"
      refine ⟨p, dx, _, rfl, upd_same, rfl, ?_⟩
      walk_at "rs"
      refine ⟨p, D, L, G, { m2 with st := m2.st + 1, pl := m2.pl + 1 }, c, rfl, trivial, hm3, hf2, fun m4 H4 e4 h4 o4 => ?_, fun e4 m4 H4 h4 s4 o4 => ?_⟩
      · rw [e4] at e2
        obtain ⟨f4, s4, n4⟩ := FitM.perform (m := { m2 with st := m2.st + 1, pl := m2.pl + 1 }) hf2 (by show m2.kv.length ≤ 30899; omega) e4
        replace s4 : m4.st = m2.st + 1 := s4
        replace n4 : m4.kv.length ≤ m2.kv.length + 1 := n4
        exact ⟨m4, _, rfl, h4, f4, s4, by omega, by omega, (o2.trans o3).trans o4, e2⟩
      · rw [e4] at e2
        exact k2 _ e2 m4 H4 h4 s4 ((o2.trans o3).trans o4)
    · have c1 : ¬ m2.pl < G.code.length := fun h => c1 (decide_eq_true (by omega))
      rw [List.getElem?_eq_none (by rw [← TL.len_tl]; omega)] at e2
      exact k1 _ _ H2 e2 hm2 hf2 o2

theorem take_nil {m : Mc} (h : m.stk = []) : takeM m = none := by
  unfold takeM
  rw [h]
  rfl
theorem take_at {m : Mc} {s : List Nat} {t : Nat} (h : m.stk = s ++ [t]) : takeM m = some (t, { m with stk := s }) := by
  unfold takeM
  rw [h]
  simp
theorem get_lt {kv : List (Nat × Nat)} (h : ∀ x ∈ kv, x.2 < 1000000) (k : Nat) : getN kv k < 1000000 := by
  unfold getN
  cases e : kv.find? fun x => decide (x.1 = k) with
  | none => decide
  | some x => exact h x (List.mem_of_find?_eq_some e)

/-- how one sign changes a machine -/
def Base (G : Gv) (v : Nat) : Prop := v ≤ 16 ∨ v = G.given % 1000000 ∨ v = G.amount % 1000000
def From (G : Gv) (m : Mc) (v : Nat) : Prop := v ∈ m.stk ∨ Base G v ∨ ∃ x ∈ m.kv, v = x.2 % 1000000
def StepA (G : Gv) (m m' : Mc) : Prop := m'.kv = m.kv ∧ m'.stk.length ≤ m.stk.length + 1 ∧ ∀ v ∈ m'.stk, From G m v
def StepB (m m' : Mc) : Prop := m'.kv = m.kv ∧ m'.stk.length + 1 = m.stk.length ∧ ∃ s v, m'.stk = s ++ [v] ∧ ∀ x ∈ s, x ∈ m.stk
def StepC (m m' : Mc) : Prop := m'.stk.length + 2 = m.stk.length ∧ (∀ v ∈ m'.stk, v ∈ m.stk) ∧ ∃ t y, t ∈ m.stk ∧ y ∈ m.stk ∧ m'.kv = putN m.kv t y
theorem step_push {G : Gv} {v : Nat} {m m1 m' : Mc} (e : pushM v m1 = some m') (k : m1.kv = m.kv) (l : m1.stk.length ≤ m.stk.length) (h : ∀ x ∈ m1.stk, From G m x) (hv : From G m (v % 1000000)) : StepA G m m' := by
  unfold pushM at e
  split at e
  · cases e
  · obtain rfl := Option.some.inj e
    refine ⟨k, ?_, fun x hx => ?_⟩
    · show (m1.stk ++ [v % 1000000]).length ≤ _
      rw [List.length_append, List.length_singleton]
      omega
    · rcases List.mem_append.mp hx with hx | hx
      · exact h x hx
      · rw [List.mem_singleton.mp hx]
        exact hv
theorem take_out {m : Mc} {g : Nat × Mc → Option Mc} {m' : Mc} (e : (takeM m).bind g = some m') : ∃ s t, m.stk = s ++ [t] ∧ g (t, { m with stk := s }) = some m' := by
  rcases List.eq_nil_or_concat m.stk with h | ⟨s, t, h⟩
  · rw [take_nil h] at e
    cases e
  · rw [List.concat_eq_append] at h
    rw [take_at h] at e
    exact ⟨s, t, h, e⟩
theorem step_of {G : Gv} {c : Nat} {m m' : Mc} (f : FitM m) (e : performM G c m = some m') : StepA G m m' ∨ StepB m m' ∨ StepC m m' := by
  have self : ∀ x ∈ m.stk, From G m x := fun x hx => .inl hx
  unfold performM at e
  split at e
  · rename_i d
    exact .inl (step_push e rfl (Nat.le_refl _) self (.inr (.inl (.inl (by have : (c - 48) % 1000000 ≤ c - 48 := Nat.mod_le _ _; omega)))))
  split at e
  · unfold numberM at e
    split at e
    · exact .inl (step_push e rfl (Nat.le_refl _) self (.inr (.inl (.inr (.inl rfl)))))
    split at e
    · exact .inl (step_push e rfl (Nat.le_refl _) self (.inr (.inl (.inr (.inr rfl)))))
    · exact .inl (step_push e rfl (Nat.le_refl _) self (.inr (.inl (.inl (by have := f.1; have : m.stk.length % 1000000 ≤ m.stk.length := Nat.mod_le _ _; omega)))))
  split at e
  · obtain ⟨s, t, e1, e⟩ := take_out e
    obtain ⟨s2, l, e2, e⟩ := take_out (m := { m with stk := s }) e
    replace e2 : s = s2 ++ [l] := e2
    replace e : pushM (work c l t) { m with stk := s2 } = some m' := e
    unfold pushM at e
    split at e
    · cases e
    · obtain rfl := Option.some.inj e
      refine .inr (.inl ⟨rfl, ?_, s2, _, rfl, fun x hx => ?_⟩)
      · show (s2 ++ [_]).length + 1 = _
        rw [e1, e2]
        simp
      · rw [e1, e2]
        simp [hx]
  split at e
  · obtain ⟨s, t, e1, e⟩ := take_out e
    have ls : s.length + 1 = m.stk.length := by rw [e1]; simp
    have sub : ∀ x ∈ s, x ∈ m.stk := fun x hx => by rw [e1]; simp [hx]
    have tin : t ∈ m.stk := by rw [e1]; simp
    have lt := f.2.2 t tin
    have mt : t % 1000000 = t := Nat.mod_eq_of_lt lt
    split at e
    · cases h : pushM t { m with stk := s } with
      | none => rw [h] at e; cases e
      | some m2 =>
        rw [h] at e
        unfold pushM at h
        split at h
        · cases h
        · obtain rfl := Option.some.inj h
          refine .inl (step_push (m := m) (v := t) e rfl (by show (s ++ [t % 1000000]).length ≤ _; rw [List.length_append, List.length_singleton]; omega) (fun x hx => ?_) (by rw [mt]; exact .inl tin))
          rcases List.mem_append.mp hx with hx | hx
          · exact .inl (sub x hx)
          · rw [List.mem_singleton.mp hx, mt]
            exact .inl tin
    split at e
    · refine .inl (step_push (m := m) e rfl (by show s.length ≤ _; omega) (fun x hx => .inl (sub x hx)) ?_)
      show From G m (getN m.kv t % 1000000)
      unfold getN
      cases h : m.kv.find? fun x => decide (x.1 = t) with
      | none => exact .inr (.inl (.inl (by decide)))
      | some x => exact .inr (.inr ⟨x, List.mem_of_find?_eq_some h, rfl⟩)
    · replace e : (takeM { m with stk := s }).map (fun y => { y.2 with kv := putN y.2.kv t y.1 }) = some m' := e
      rcases List.eq_nil_or_concat s with h | ⟨s2, y, h⟩
      · rw [take_nil (m := { m with stk := s }) h] at e
        cases e
      · rw [List.concat_eq_append] at h
        rw [take_at (m := { m with stk := s }) h] at e
        obtain rfl := Option.some.inj e
        refine .inr (.inr ⟨?_, fun x hx => sub x ?_, t, y, tin, sub y ?_, rfl⟩)
        · show s2.length + 2 = _
          rw [← ls, h]
          simp
        · rw [h]
          exact List.mem_append_left _ hx
        · rw [h]
          simp
  split at e
  · obtain ⟨s, t, e1, e⟩ := take_out e
    have ls : s.length + 1 = m.stk.length := by rw [e1]; simp
    have sub : ∀ x ∈ s, x ∈ m.stk := fun x hx => by rw [e1]; simp [hx]
    split at e
    · obtain rfl := Option.some.inj e
      exact .inl ⟨rfl, by show s.length ≤ _; omega, fun x hx => .inl (sub x hx)⟩
    · replace e : (takeM { m with stk := s }).map (fun y => if y.1 = 0 then { y.2 with pl := t } else y.2) = some m' := e
      rcases List.eq_nil_or_concat s with h | ⟨s2, y, h⟩
      · rw [take_nil (m := { m with stk := s }) h] at e
        cases e
      · rw [List.concat_eq_append] at h
        rw [take_at (m := { m with stk := s }) h] at e
        have e := Option.some.inj e
        have sub2 : ∀ x ∈ s2, x ∈ m.stk := fun x hx => sub x (by rw [h]; exact List.mem_append_left _ hx)
        have l2 : s2.length ≤ m.stk.length + 1 := by
          rw [h] at ls
          simp at ls
          omega
        replace e : (if y = 0 then ({ m with stk := s2, pl := t } : Mc) else { m with stk := s2 }) = m' := e
        split at e
        · subst e
          exact .inl ⟨rfl, l2, fun x hx => .inl (sub2 x hx)⟩
        · subst e
          exact .inl ⟨rfl, l2, fun x hx => .inl (sub2 x hx)⟩
  · obtain ⟨s, t, e1, e⟩ := take_out e
    have ls : s.length + 1 = m.stk.length := by rw [e1]; simp
    have sub : ∀ x ∈ s, x ∈ m.stk := fun x hx => by rw [e1]; simp [hx]
    split at e
    · obtain rfl := Option.some.inj e
      exact .inl ⟨rfl, by show s.length ≤ _; omega, fun x hx => .inl (sub x hx)⟩
    split at e
    · cases e
    · obtain rfl := Option.some.inj e
      exact .inl ⟨rfl, by show s.length ≤ _; omega, fun x hx => .inl (sub x hx)⟩
theorem put_mem {kv : List (Nat × Nat)} {k v : Nat} {x : Nat × Nat} (h : x ∈ putN kv k v) : x ∈ kv ∨ x = (k, v) := by
  unfold putN at h
  split at h
  · obtain ⟨y, hy, e⟩ := List.mem_map.mp h
    split at e
    · rename_i q
      right
      rw [← e, q]
    · left
      rw [← e]
      exact hy
  · rcases List.mem_append.mp h with h | h
    · exact .inl h
    · exact .inr (List.mem_singleton.mp h)
theorem put_nodup {kv : List (Nat × Nat)} {k v : Nat} (h : (kv.map (·.1)).Nodup) : ((putN kv k v).map (·.1)).Nodup := by
  unfold putN
  split
  · have e : (kv.map fun x => if x.1 = k then (x.1, v) else x).map (·.1) = kv.map (·.1) := by
      rw [List.map_map]
      refine List.map_congr_left fun x _ => ?_
      show (if x.1 = k then (x.1, v) else x).1 = x.1
      split <;> rfl
    rw [e]
    exact h
  · rename_i c
    rw [List.map_append, List.nodup_append]
    refine ⟨h, by simp, fun a ha b hb e => ?_⟩
    have hb : b = k := by simpa using hb
    obtain ⟨x, hx, ex⟩ := List.mem_map.mp ha
    exact c (List.any_eq_true.mpr ⟨x, hx, decide_eq_true (by rw [ex, e, hb])⟩)

/-- o.m() within a try: what the method lets out is wished for at the slots -/
def tMethT0 (C : Addr) (m : Str) (sp : Sp) (E : L2.St → XK) (ta : TE) : TE := fun σ H Q => ta σ H fun x H1 => ∃ (j dx : Addr) (fs : List (Str × V)), x = V.ref j ∧ H1 j = some (HO.ins C dx fs) ∧ fs.lookup m = Option.none ∧ sp [x] H1 Q (E σ)
theorem pe_methT0 {X : Cx} {CX : CXT} {k : Nat} {f C : Addr} {fd : FuncData} {ps : List Str} {sp : Sp} {E : L2.St → XK} {m : Str} {apos pos : Pos} {o : Expr} {ta : TE} {pl : Sem Bool} (he : PE X o ta) (c : L2.Cls X.K C) (hm : L2.Meth X.K C m f) (F : FnOk X.prog X.w X.K X.mg X.base CX k f fd ps sp)
    (hr : Room k X.A) (hb : Binds X.K fd ps []) (hx : ∀ σ, PassesAt CX X σ (E σ))
    (text : eval (.Call (.Attribute o m apos) [] [] pos) X.env = (do let ov ← eval o X.env; standAt apos.atName; let (f, first) ← holding [ov] (getMethod ov m pl); callWith pos f first (backTo pos (starEach [] X.env)) (backToKw pos (keywordEach [] X.env))) := by rfl) :
    PE X (.Call (.Attribute o m apos) [] [] pos) (tMethT0 C m sp E ta) := by
  constructor
  intro pins s σ H Q I hyp
  refine PySem.W.methodCall_KW (pl := pl) (thn (he.run pins s σ H _ I hyp) fun u s1 got => ?_) text
  obtain ⟨x, H1, I1, rx, j, dx, fs, ex, ej, nf, q⟩ := got
  subst ex
  have eu : u = Value.ref j := rx
  subst eu
  refine getmeth_ok I1 ej c hm nf ?_
  exact PySem.W.callWith_K0 (first := [Value.ref j]) I1.kIn hm.kp (run_fnS (us := [Value.ref j]) (vs := [V.ref j]) F hr hb (hx σ) I1 (.cons rfl .nil) q)

/-! ### a local set to a dict comprehension -/
section
variable {X : Cx}
theorem ps_setDc {i : Nat} {y : Str} {py : Pos} {kx vx tg iter : Expr} {ifs : List Expr} {scope : Scope} {own : List (Str × Nat)} {pos spos : Pos} {wi : TI} {g : TG} {tt : TT} {tk tv : TE} (hc : X.calm = true) (hN : X.N.Nodup) (hy : X.N[i]? = some y) (hyl : X.env.scope.names.lookup y = some .local)
    (hsw : swapsWith (.DictComp kx vx [⟨tg, iter, ifs, 0⟩] scope pos) (some (.Name y py)) spos.line X.env = pure true) (hi : PI X tg iter wi) (ok : BlkOk X.N X.env.scope scope own)
    (hg : ∀ (s : Shared) (H : Hp) (C : Addr) (cl : List (Str × Addr)) (fp : List Addr), PG (X.blk s H scope (compEnvC scope cl C X.env) fp) tg g) (ht : ∀ (s : Shared) (H : Hp) (C : Addr) (cl : List (Str × Addr)) (fp : List Addr), PTs (X.blk s H scope (compEnvC scope cl C X.env) fp) ifs tt)
    (hk : ∀ (s : Shared) (H : Hp) (C : Addr) (cl : List (Str × Addr)) (fp : List Addr), PE (X.blk s H scope (compEnvC scope cl C X.env) fp) kx tk)
    (hv : ∀ (s : Shared) (H : Hp) (C : Addr) (cl : List (Str × Addr)) (fp : List Addr), PE (X.blk s H scope (compEnvC scope cl C X.env) fp) vx tv) (hs : ∀ x, foldedSetIterable iter X.env x = pure x := by intro _; rfl) :
    PS X (.Assign [.Name y py] (.DictComp kx vx [⟨tg, iter, ifs, 0⟩] scope pos) spos) (tAsg (tDc wi g tt tk tv (own.map (·.2))) (gName i)) := by
  constructor
  intro pins s σ H D I want
  rw [exec_Assign_Name_used _ _ _ _ hsw]
  refine wpAny_bind (wpAny_standAt (wpAny_bind ?_))
  show wpAny _ X.A (do let _ ← comprehension (.DictComp kx vx [⟨tg, iter, ifs, 0⟩] scope pos) scope X.env (firstIterPos [⟨tg, iter, ifs, 0⟩] pos) newDict false (eval iter X.env) (some (assign (.Name y py) X.env))) _ _ s
  replace want : tDc wi g tt tk tv (own.map (·.2)) σ H (fun x H1 => gName i x σ H1 D.nx) := want
  refine wpAny_bind (thn (dc_core (Qf := fun _ s' => SP X pins D .next s') hc hN I hi ok hg ht hk hv hs want fun B C s' m H' I' q names far => ?_) fun _ s' hq => wpAny_pure (wpAny_pure hq))
  show wpAny _ _ (assign (.Name y py) X.env (.ref B)) _ _ _
  refine wpAny_assign_Name (store_ok2 (v := V.ref B) I' hN hy (.inl hyl) rfl (fun s2 I2 same => ?_) (.inr hyl))
  obtain ⟨z, sb, which⟩ := same
  obtain ⟨f0, f1, f2, f3, f4, f5⟩ := far
  have apart : C ≠ z := which.elim (fun e => by rw [e]; exact f1) fun e q => f4 y z e q.symm
  exact ⟨m, names.sameBut sb apart, fun h3 sb3 => ⟨_, H', I2.turned (t' := s2.toks) (fun b o hb e => (sb3.2 b hb).trans e) f0 f1 f3 f4 f5, q⟩⟩
theorem sw_trueD {kx vx : Expr} {gs : List Comprehension} {scope : Scope} {pos py : Pos} {y : Str} {l : Nat} {env : Env} (hk : env.scope.kind = .function) (hy : env.scope.names.lookup y = some .local) (hl : (py.line == pos.line) = true)
    (ha : (scope.names.any fun (n, k) => n == y && (k == .local || k == .cell)) = false) : swapsWith (.DictComp kx vx gs scope pos) (some (.Name y py)) l env = pure true := by
  have ky : env.kindOf y = some .local := hy
  have hb : env.blockKind = .function := by unfold Env.blockKind; rw [hk]; rfl
  unfold swapsWith
  simp only [hb, ky, ha, Expr.pos, hl]
  rfl
end
/-- what stays of a store: keys ys, no 0 -/
def pickM (ys : List Nat) (kv : List (Nat × Nat)) : List (Nat × Nat) := (ys.filter fun k => decide (getN kv k ≠ 0)).map fun k => (k, getN kv k)
theorem pick_take {ys : List Nat} {kv : List (Nat × Nat)} {i k : Nat} (h : ys[i]? = some k) : pickM (ys.take (i + 1)) kv = if getN kv k ≠ 0 then pickM (ys.take i) kv ++ [(k, getN kv k)] else pickM (ys.take i) kv := by
  unfold pickM
  rw [List.take_add_one, h]
  split
  · rename_i c
    rw [Option.toList, List.filter_append, List.map_append, List.filter_cons_of_pos (by rw [decide_eq_true c])]
    rfl
  · rename_i c
    rw [Option.toList, List.filter_append, List.map_append, List.filter_cons_of_neg (by rw [decide_eq_false c]; exact Bool.false_ne_true)]
    simp
theorem pick_keys {ys : List Nat} {kv : List (Nat × Nat)} {x : Nat × Nat} (h : x ∈ pickM ys kv) : x.1 ∈ ys := by
  obtain ⟨k, hk, rfl⟩ := List.mem_map.mp h
  exact (List.mem_filter.mp hk).1
theorem put_new {kv : List (Nat × Nat)} {k v : Nat} (h : ∀ x ∈ kv, x.1 ≠ k) : putN kv k v = kv ++ [(k, v)] := by
  unfold putN
  rw [if_neg]
  intro e
  obtain ⟨x, hx, e⟩ := List.any_eq_true.mp e
  exact h x hx (of_decide_eq_true e)
theorem nodup_take {ys : List Nat} (nd : ys.Nodup) {i k : Nat} (h : ys[i]? = some k) : k ∉ ys.take i := fun hm => by
  obtain ⟨j, hj, e⟩ := List.getElem_of_mem hm
  rw [List.length_take] at hj
  rw [List.getElem_take] at e
  obtain ⟨hi, e2⟩ := List.getElem?_eq_some_iff.mp h
  have := (List.getElem_inj (h₀ := by omega) (h₁ := hi) nd).mp (e.trans e2.symm)
  omega
theorem val_mem {kv : List (Nat × Nat)} {k : Nat} (h : k ∈ kv.map (·.1)) : valV (kvV kv) (Sum.inl (k : Int)) = some (V.int (getN kv k : Nat)) := by
  rw [val_kv]
  unfold getN
  cases e : kv.find? fun x => decide (x.1 = k) with
  | some x => rfl
  | none =>
    obtain ⟨x, hx, ex⟩ := List.mem_map.mp h
    exact absurd (decide_eq_true ex) (List.find?_eq_none.mp e x hx)
/-- a dict comprehension over a list of ints -/
theorem dc_ints {K : PySem.W.Frag} {a D : Addr} {xs : List V} {g : TG} {tt : TT} {tk tv : TE} {vs : List Nat} {σ : St} {H1 : Hp} {Qd : Hp → Prop} (Pv : Nat → Hp → Prop) (h0 : Pv 0 (upd H1 D (.dK []))) (hl : ∀ i H, Pv i H → SqL K H a xs)
    (hs : ∀ i x H, xs[i]? = some x → Pv i H → g x (wipe σ vs) H fun σ2 H2 => wipe σ2 vs = wipe σ vs ∧ tt σ2 H2 fun b H3 =>
      if b = true then tk σ2 H3 fun y H4 => tv σ2 H4 fun z H5 => ∃ kvs k, y = kV k ∧ H5 D = some (.dK kvs) ∧ kvs.length < sizeLine ∧ Pv (i + 1) (upd H5 D (.dK (putK kvs k z))) else Pv (i + 1) H3) (hd : ∀ H, Pv xs.length H → Qd H) :
    ∃ W : Nat → Nat → Hp → Prop, (∃ m, W 0 m (upd H1 D (.dK []))) ∧ ∀ i m H, W i m H →
      ((Itl K a).stop i H ∧ Qd H) ∨ ((Itl K a).go i H ∧ ∃ Nx : Hp → Prop, (∀ H', Nx H' → ∃ m', m' < m ∧ W (i + 1) m' H') ∧ ∀ x H', (Itl K a).yld i H x H' → g x (wipe σ vs) H' fun σ2 H2 => wipe σ2 vs = wipe σ vs ∧ tt σ2 H2 fun b H3 =>
        if b = true then tk σ2 H3 fun y H4 => tv σ2 H4 fun z H5 => ∃ kvs k, y = kV k ∧ H5 D = some (.dK kvs) ∧ kvs.length < sizeLine ∧ Nx (upd H5 D (.dK (putK kvs k z))) else Nx H3) := by
  refine ⟨fun i m H => (m = xs.length - i ∧ i ≤ xs.length) ∧ Pv i H, ⟨_, ⟨rfl, Nat.zero_le _⟩, h0⟩, ?_⟩
  rintro i m H ⟨⟨rfl, le⟩, now⟩
  have there := hl i H now
  rcases Nat.lt_or_ge i xs.length with lt | ge
  · refine .inr ⟨⟨xs, xs[i], there, by simp [lt]⟩, Pv (i + 1), fun H' nx => ⟨xs.length - (i + 1), by omega, ⟨rfl, lt⟩, nx⟩, ?_⟩
    rintro x H' ⟨rfl, what⟩
    exact hs i x _ (what xs there) now
  · obtain rfl : i = xs.length := by omega
    exact .inl ⟨⟨xs, there, Nat.le_refl _⟩, hd H now⟩
theorem made {j dx : Addr} {H3 H5 : Hp} {o1 o2 : HO} (hj : H3 j = none) (hdx : H3 dx = none) (keep : ∀ b o, b ≠ j → (upd (upd H3 dx o1) j o2) b = some o → H5 b = some o) : Same H3 H5 := fun b o e => keep b o (ne_of_none e hj) (by
  rw [upd_ne (ne_of_none e hj), upd_ne (ne_of_none e hdx)]
  exact e)

theorem perm_one : ∀ {l m : List Nat}, l.Perm m → l.Pairwise (· ≤ ·) → m.Pairwise (· ≤ ·) → l = m
  | [], m, h, _, _ => (List.Perm.nil_eq h)
  | x :: l, [], h, _, _ => absurd h.length_eq (by simp)
  | x :: l, y :: m, h, h1, h2 => by
    have a1 := List.pairwise_cons.mp h1
    have a2 := List.pairwise_cons.mp h2
    have e : x = y := by
      have m1 : x ∈ y :: m := h.mem_iff.mp (List.mem_cons_self ..)
      have m2 : y ∈ x :: l := h.mem_iff.mpr (List.mem_cons_self ..)
      have b1 : y ≤ x := by
        rcases List.mem_cons.mp m1 with e | e
        · exact Nat.le_of_eq e.symm
        · exact a2.1 x e
      have b2 : x ≤ y := by
        rcases List.mem_cons.mp m2 with e | e
        · exact Nat.le_of_eq e.symm
        · exact a1.1 y e
      omega
    subst e
    rw [perm_one (List.Perm.cons_inv h) a1.2 a2.2]
theorem pickM_nodup {ys : List Nat} (h : ys.Nodup) (kv : List (Nat × Nat)) : ((pickM ys kv).map (·.1)).Nodup := by
  unfold pickM
  rw [List.map_map]
  have e : (ys.filter fun k => decide (getN kv k ≠ 0)).map ((fun x : Nat × Nat => x.1) ∘ fun k => (k, getN kv k)) = ys.filter fun k => decide (getN kv k ≠ 0) := by
    conv => rhs; rw [← List.map_id (ys.filter fun k => decide (getN kv k ≠ 0))]
    rfl
  rw [e]
  exact h.filter _
theorem pickM_len (ys : List Nat) (kv : List (Nat × Nat)) : (pickM ys kv).length ≤ ys.length := by
  unfold pickM
  rw [List.length_map]
  exact List.length_filter_le _ _

/-- a machine that runs from a store of at most n entries -/
def Keep (n : Nat) (m : Mc) : Prop := FitM m ∧ (m.kv.map (·.1)).Nodup ∧ (∀ x ∈ m.kv, x.2 < 1000000) ∧ m.kv.length ≤ n + m.st
theorem Keep.small {n : Nat} {m : Mc} (k : Keep n m) (hn : n ≤ 30000) (h : m.st ≤ 200) : m.kv.length ≤ 30200 := by
  have := k.2.2.2
  omega
theorem Keep.step {G : Gv} {n c pl : Nat} {m m' : Mc} (hn : n ≤ 30000) (k : Keep n m) (h : m.st ≤ 199) (e : performM G c { m with st := m.st + 1, pl := pl } = some m') : Keep n m' ∧ m'.st = m.st + 1 := by
  have sm := k.small hn (by omega)
  obtain ⟨f, nd, hv, hl⟩ := k
  have f0 : FitM { m with st := m.st + 1, pl := pl } := f
  obtain ⟨f', s', l'⟩ := FitM.perform f0 (by show m.kv.length ≤ 30899; omega) e
  replace s' : m'.st = m.st + 1 := s'
  replace l' : m'.kv.length ≤ m.kv.length + 1 := l'
  refine ⟨⟨f', ?_, ?_, by omega⟩, s'⟩
  · rcases step_of f0 e with ⟨a1, _⟩ | ⟨a1, _⟩ | ⟨_, _, t, y, _, _, a1⟩
    · rw [a1]; exact nd
    · rw [a1]; exact nd
    · rw [a1]; exact put_nodup nd
  · rcases step_of f0 e with ⟨a1, _⟩ | ⟨a1, _⟩ | ⟨_, _, t, y, _, hy, a1⟩
    · rw [a1]; exact hv
    · rw [a1]; exact hv
    · rw [a1]
      intro x hx
      rcases put_mem hx with hx | rfl
      · exact hv x hx
      · exact f.2.2 y hy
theorem Keep.start {n : Nat} {kv : List (Nat × Nat)} (nd : (kv.map (·.1)).Nodup) (l : kv.length ≤ n) (hn : n ≤ 30000) (hv : ∀ x ∈ kv, x.2 < 1000000) : Keep n ⟨[], kv, 0, 0, 0⟩ :=
  ⟨⟨by show 0 ≤ 16; decide, by show kv.length ≤ 30900; omega, fun v hv => nomatch hv⟩, nd, hv, l⟩
theorem Keep.fin {G : Gv} {k0 : Nat} (hk0 : k0 ≤ 30000) : ∀ {n : Nat} {m m' : Mc} {k : Nat}, Keep k0 m → n = 201 - m.st → m.st ≤ 200 → finM G n m = (some m', k) → Keep k0 m' ∧ m'.st ≤ 200 ∧ k = m'.st
  | 0, m, m', k, hk, hn, h2, e => by cases e
  | n + 1, m, m', k, hk, hn, h2, e => by
    rw [finM] at e
    cases h : (TL.tl G.code)[m.pl]? with
    | none =>
      rw [h] at e
      obtain ⟨rfl, rfl⟩ : m = m' ∧ m.st = k := by
        have := Prod.mk.inj e
        exact ⟨Option.some.inj this.1, this.2⟩
      exact ⟨hk, h2, rfl⟩
    | some c =>
      rw [h] at e
      replace e : (if m.st = 200 then (none, 200) else match performM G c { m with st := m.st + 1, pl := m.pl + 1 } with
        | none => (none, m.st + 1)
        | some m' => finM G n m') = (some m', k) := e
      split at e
      · cases e
      · cases hp : performM G c { m with st := m.st + 1, pl := m.pl + 1 } with
        | none => rw [hp] at e; cases e
        | some m2 =>
          rw [hp] at e
          obtain ⟨k2, s2⟩ := hk.step hk0 (by omega) hp
          exact Keep.fin hk0 k2 (by omega) (by omega) e
/-- only the amount's remainder counts -/
def cutG (G : Gv) : Gv := ⟨G.code, G.given, G.amount % 1000000⟩
theorem push_mod (v : Nat) (m : Mc) : pushM (v % 1000000) m = pushM v m := by
  unfold pushM
  rw [Nat.mod_mod]
theorem perform_cut (G : Gv) (c : Nat) (m : Mc) : performM (cutG G) c m = performM G c m := by
  unfold performM numberM
  have e : pushM (cutG G).amount m = pushM G.amount m := push_mod G.amount m
  rw [e]
  rfl
theorem fin_cut (G : Gv) : ∀ (n : Nat) (m : Mc), finM (cutG G) n m = finM G n m
  | 0, m => rfl
  | n + 1, m => by
    rw [finM, finM]
    show (match (TL.tl G.code)[m.pl]? with | none => _ | some c => _) = _
    cases (TL.tl G.code)[m.pl]? with
    | none => rfl
    | some c =>
      show (if m.st = 200 then _ else match performM (cutG G) c { m with st := m.st + 1, pl := m.pl + 1 } with | none => _ | some m' => finM (cutG G) n m') = (if m.st = 200 then _ else match performM G c { m with st := m.st + 1, pl := m.pl + 1 } with | none => _ | some m' => finM G n m')
      rw [perform_cut]
      split
      · rfl
      · cases performM G c { m with st := m.st + 1, pl := m.pl + 1 } with
        | none => rfl
        | some m' => exact fin_cut G n m'
/-- numbers in ascending order -/
def ordN (l : List Nat) : List Nat := l.mergeSort fun x y => decide (x ≤ y)
theorem ord_perm (l : List Nat) : (ordN l).Perm l := List.mergeSort_perm ..
theorem ord_sorted (l : List Nat) : (ordN l).Pairwise (· ≤ ·) := by
  have h : (ordN l).Pairwise fun x y => decide (x ≤ y) = true := List.pairwise_mergeSort (le := fun x y : Nat => decide (x ≤ y)) (fun x y z h1 h2 => decide_eq_true (Nat.le_trans (of_decide_eq_true h1) (of_decide_eq_true h2))) (fun x y => by
    rcases Nat.le_total x y with h | h
    · rw [decide_eq_true h]; rfl
    · rw [decide_eq_true h, Bool.or_true]) l
  exact h.imp fun h => of_decide_eq_true h
theorem ord_is {ys l : List Nat} (p : ys.Perm l) (s : ys.Pairwise (· ≤ ·)) : ys = ordN l := perm_one (p.trans (ord_perm l).symm) s (ord_sorted l)
/-- the store that a run leaves -/
def leftM (m : Mc) : List (Nat × Nat) := pickM (ordN (m.kv.map (·.1))) m.kv
/-- a store of an account -/
def GoodS (n : Nat) (kv : List (Nat × Nat)) : Prop := (kv.map (·.1)).Pairwise (· < ·) ∧ (∀ x ∈ kv, x.2 < 1000000) ∧ kv.length ≤ n
theorem GoodS.nd {n : Nat} {kv : List (Nat × Nat)} (g : GoodS n kv) : (kv.map (·.1)).Nodup := g.1.imp fun h => Nat.ne_of_lt h
theorem pick_map (ys : List Nat) (kv : List (Nat × Nat)) : (pickM ys kv).map (·.1) = ys.filter fun k => decide (getN kv k ≠ 0) := by
  unfold pickM
  rw [List.map_map]
  conv => rhs; rw [← List.map_id (ys.filter fun k => decide (getN kv k ≠ 0))]
  rfl
theorem left_good {n : Nat} {m : Mc} (k : Keep n m) (h : m.st ≤ 200) : GoodS (n + 200) (leftM m) := by
  have p := ord_perm (m.kv.map (·.1))
  have nd : (ordN (m.kv.map (·.1))).Nodup := p.nodup_iff.mpr k.2.1
  have lt : (ordN (m.kv.map (·.1))).Pairwise (· < ·) := by
    have := List.Pairwise.and (S := fun x y : Nat => x ≠ y) (ord_sorted (m.kv.map fun x : Nat × Nat => x.1)) nd
    exact this.imp fun h => Nat.lt_of_le_of_ne h.1 h.2
  refine ⟨?_, fun x hx => ?_, ?_⟩
  · unfold leftM
    rw [pick_map]
    exact lt.filter _
  · obtain ⟨k', _, rfl⟩ := List.mem_map.mp hx
    exact get_lt k.2.2.1 k'
  · refine Nat.le_trans (pickM_len _ _) ?_
    rw [p.length_eq, List.length_map]
    have := k.2.2.2
    omega

def spRunM (CR : Addr) : Sp := fun vs H Q _ => ∃ (d : Addr) (G : Gv) (kv : List (Nat × Nat)), vs = [.str G.code, .int (G.given : Nat), .int (G.amount : Nat), .ref d] ∧ H d = some (.dK (kvV kv)) ∧ GoodS 30000 kv ∧ G.code.length ≤ 5000 ∧
  (∀ m' n, finM G 201 ⟨[], kv, 0, 0, 0⟩ = (some m', n) → ∀ (j S dx : Addr) H', Same H H' → H S = none → H' S = some (.dK (kvV (leftM m'))) →
    H' j = some (.ins CR dx [("well", .bl true), ("store", .ref S), ("paid", .int (m'.pd : Nat)), ("steps", .int (m'.st : Nat))]) → Q (.ref j) H') ∧
  (∀ n, finM G 201 ⟨[], kv, 0, 0, 0⟩ = (none, n) → ∀ (j S dx : Addr) H', Same H H' → H S = none → H' S = some (.dK (kvV kv)) → H' j = some (.ins CR dx [("well", .bl false), ("store", .ref S), ("paid", .int 0), ("steps", .int (n : Nat))]) → Q (.ref j) H')

theorem ok_run (TE : TxtE w K mg a) (T : Txt K mg a) : ∃ fd, FnOk P w K mg base CX0 5 a.d_run fd ["code", "given", "amount", "store"] (spRunM a.C_Run) ∧ Binds K fd ["code", "given", "amount", "store"] [] := by
  obtain ⟨fd, F, b⟩ := T.d_run.F
  obtain ⟨fd_Machine_init, G_Machine_init, b_Machine_init⟩ := ok_Machine_init (P := P) (w := w) (base := base) T
  obtain ⟨fd_Run_init, G_Run_init, b_Run_init⟩ := ok_Run_init (P := P) (w := w) (base := base) T
  obtain ⟨fd_Machine_finish, G_Machine_finish, b_Machine_finish⟩ := ok_Machine_finish (P := P) (w := w) (base := base) TE T
  obtain ⟨fdW, GW, bW⟩ := okW_Run_init (P := P) (w := w) (base := base) T
  refine ⟨fd, F.ok sc_run (fun vs H Q E h => ?_) (fun cdv A outer s H vs Q E hr h => ?_), b⟩
  · obtain ⟨_, _, _, rfl, _⟩ := h
    rfl
  · obtain ⟨d, G, kv, rfl, hd, few, lc, k1, k2⟩ := h
    refine ⟨_, (pss_cons (ps_set (i := 4) sc_run.nd rfl (Or.inr rfl) (pe_make T.m_Machine G_Machine_init (hr.mono (by decide)) (by rfl) T.g_Machine b_Machine_init .nil pass0 (pa_cons (pv 0) (pa_cons (pv 1) (pa_cons (pv 2) (pa_cons (pv 3) pa_nil))))))
      (pss_cons (ps_try_only rfl rfl ⟨rfl, by decide, .inl TE.g_Failed⟩ takes0 (fun W pn xe tk po => (pss_one (ps_expr (pe_methT0 (pv 4) T.cl_Machine T.me_Machine_finish G_Machine_finish (hr.mono (by decide)) b_Machine_finish (E := fun σ cls d H => W cls d σ H) (fun σ => passAt tk σ))))) (fun ae oe cls d pn hz hf => (pss_one (ps_ret (pe_makeW (k := 1) (p := (ae, oe)) T.m_Run GW ((L2H.roomH_mark hr _).mono (by decide)) List.mem_cons_self rfl T.g_Run bW (pa_cons pe_bl (pa_cons (pe_callTy call_dictD (by rfl) T.n_dict (by decide +kernel) (pa_cons (pv 3) pa_nil)) (pa_cons pe_int (pa_cons (pe_fldK (K := K) rfl (pv 4) rfl) pa_nil)))))))))
      (pss_cons (ps_setDc (i := 5) (own := [("key", 6)]) (g := (gName 6)) rfl sc_run.nd rfl rfl (sw_trueD rfl rfl rfl (by decide +kernel)) (pi_list (pe_callB (cr_sortDs rfl) (by rfl) T.n_sorted (by decide +kernel) (pa_cons (pe_fld (pv 4) rfl) pa_nil))) (blkOk_by (own := [("key", 6)]) (N := sc_run_N) (sc := defScope s_run) (by decide +kernel)) (fun _ _ _ _ _ => (pg_name (i := 6) sc_run.nd rfl (Or.inl rfl))) (fun _ _ _ _ _ => (pts_one (pt_cmpR op_ne (pe_dget (hu_of hr) (pe_fldK (K := K) rfl (pv 4) rfl) (pv 6) (fun _ _ => rfl)) pe_int (nomark _)))) (fun _ _ _ _ _ => (pv 6)) (fun _ _ _ _ _ => (pe_dget (hu_of hr) (pe_fldK (K := K) rfl (pv 4) rfl) (pv 6) (fun _ _ => rfl))))
      (pss_one (ps_ret (pe_make T.m_Run G_Run_init (hr.mono (by decide)) (by rfl) T.g_Run b_Run_init .nil pass0 (pa_cons pe_bl (pa_cons (pv 5) (pa_cons (pe_fld (pv 4) rfl) (pa_cons (pe_fld (pv 4) rfl) pa_nil)))))))))), ?_⟩
    walk_at "rs"
    intro p dx hp0 hdx0 ndx
    have dne : d ≠ p ∧ d ≠ dx := ⟨ne_of_none hd hp0, ne_of_none hd hdx0⟩
    refine ⟨p, dx, d, G, kv, rfl, upd_same, .inl (by rw [upd_ne dne.1, upd_ne dne.2]; exact hd), fun D L H1 nD nL hm keep => ?_⟩
    refine ⟨rfl, ?_⟩
    have off : ∀ {t : Addr}, (upd (upd H dx (.own p)) p (.ins a.C_Machine dx [])) t = none → H t = none := fun {t} e => by
      by_cases c1 : t = p
      · rw [c1]; exact hp0
      by_cases c2 : t = dx
      · rw [c2]; exact hdx0
      rw [upd_ne c1, upd_ne c2] at e
      exact e
    have nD := off nD
    have nL := off nL
    have s1 : Same H H1 := fun b o e => keep b o (fun q => by rw [q, hp0] at e; cases e) (by rw [upd_ne (fun q => by rw [q, hp0] at e; cases e), upd_ne (fun q => by rw [q, hdx0] at e; cases e)]; exact e)
    have on : ∀ {H' : Hp}, Oth p D L H1 H' → Same H H' := fun {H'} o b u e => o b u (fun q => by rw [q, hp0] at e; cases e) (fun q => by rw [q, nD] at e; cases e) (fun q => by rw [q, nL] at e; cases e) (s1 b u e)
    clear keep off
    walk_at "rs"
    obtain ⟨dx1, hp, hD, hL⟩ := id hm
    refine ⟨p, dx1, _, rfl, hp, rfl, ?_⟩
    refine ⟨p, D, L, G, _, rfl, hm, ⟨by show 0 ≤ 16; decide, by show kv.length ≤ 30900; have := few.2.2; omega, fun v hv => nomatch hv⟩, rfl, by show kv.length ≤ 30600; have := few.2.2; omega, lc, fun m' n H2 e2 h2 f2 o2 => ?_, fun n e2 m' H2 h2 s2 o2 => ?_⟩
    · obtain ⟨hk, hs, -⟩ := Keep.fin (k0 := 30000) (by decide) (Keep.start few.nd few.2.2 (by decide) few.2.1) rfl (Nat.zero_le _) e2
      have small := hk.small (by decide) hs
      have nd := hk.2.1
      have k1 := k1 m' n e2
      have s2 := on o2
      obtain ⟨dx2, hp2, hD2, hL2⟩ := id h2
      walk_at "rs"
      refine ⟨p, _, dx2, _, .ref D, rfl, hp2, T.cl_Machine, T.a_Machine_store, rfl, ?_⟩
      walk_at "rs"
      have lk : (m'.kv.map fun x => (x.1 : Int)).length = m'.kv.length := List.length_map ..
      refine ⟨D, kvV m'.kv, m'.kv.map fun x => (x.1 : Int), rfl, .of hD2, by unfold kvV; rw [List.map_map, List.map_map]; rfl, fun zs q hperm hpw hq => ?_⟩
      obtain ⟨ys, rfl, yp, yw⟩ : ∃ ys : List Nat, zs = ys.map (fun n : Nat => (n : Int)) ∧ ys.Perm (m'.kv.map (·.1)) ∧ ys.Pairwise (· ≤ ·) := by
        refine ⟨zs.map Int.toNat, ?_, ?_, ?_⟩
        · rw [List.map_map]
          conv => lhs; rw [← List.map_id zs]
          refine List.map_congr_left fun z hz => ?_
          obtain ⟨x, _, rfl⟩ := List.mem_map.mp (hperm.mem_iff.mp hz)
          rfl
        · have := hperm.map Int.toNat
          rw [List.map_map] at this
          exact this
        · rw [List.pairwise_map]
          exact hpw.imp fun h => Int.toNat_le_toNat h
      have hq0 := s2.free hq
      have s3 := same_upd (o := .lst ((ys.map fun n : Nat => (n : Int)).map V.int)) s2 hq0
      have nodys : ys.Nodup := yp.nodup_iff.mpr nd
      have ly : ys.length = m'.kv.length := by rw [yp.length_eq, List.length_map]
      have hp3 : ∀ o, upd H2 q o p = H2 p := fun o => upd_ne (ne_of_none hp2 hq)
      have hD3 : ∀ o, upd H2 q o D = H2 D := fun o => upd_ne (ne_of_none hD2 hq)
      walk_at "rs"
      refine ⟨⟨_, SqL.of upd_same⟩, fun B hB => ?_⟩
      generalize hH3 : upd H2 q (.lst ((ys.map fun n : Nat => (n : Int)).map V.int)) = H3 at s3 hB ⊢
      have hq3 : H3 q = some (.lst ((ys.map fun n : Nat => (n : Int)).map V.int)) := by rw [← hH3]; exact upd_same
      have hp3 : H3 p = H2 p := by rw [← hH3, hp3]
      have hD3 : H3 D = H2 D := by rw [← hH3, hD3]
      rw [hp2] at hp3
      rw [hD2] at hD3
      have hB0 := s3.free hB
      refine dc_ints (K := K) (a := q) (xs := (ys.map fun n : Nat => (n : Int)).map V.int) (fun i H4 => Same H3 H4 ∧ H4 B = some (.dK (kvV (pickM (ys.take i) m'.kv)))) ⟨same_new hB, upd_same⟩ (fun i H4 ⟨s4, _⟩ => SqL.of (s4 _ _ hq3)) ?_ ?_
      · rintro i y H4 hy ⟨s4, hB4⟩
        obtain ⟨k, hk, rfl⟩ : ∃ k, ys[i]? = some k ∧ y = V.int (k : Int) := by
          rw [List.getElem?_map, List.getElem?_map] at hy
          cases h : ys[i]? with
          | none => rw [h] at hy; cases hy
          | some k =>
            rw [h] at hy
            exact ⟨k, rfl, (Option.some.inj hy).symm⟩
        have hmem : k ∈ m'.kv.map (·.1) := yp.mem_iff.mp (List.mem_of_getElem? hk)
        have hp4 := s4 _ _ hp3
        have hg4 : DGet H4 D (V.int (k : Int)) (some (V.int (getN m'.kv k : Nat))) := by
          have := DGet.k (k := Sum.inl (k : Int)) (s4 _ _ hD3)
          rw [val_mem hmem] at this
          exact this
        have pt := pick_take (kv := m'.kv) hk
        refine ⟨rfl, ?_⟩
        walk_at "rs"
        refine ⟨p, _, dx2, _, .ref D, rfl, hp4, T.cl_Machine, T.a_Machine_store, rfl, ?_⟩
        walk_at "rs"
        refine ⟨D, _, rfl, hg4, ?_⟩
        walk_at "rs"
        refine ite2 (fun c => ?_) (fun c => ?_)
        · have c : getN m'.kv k ≠ 0 := fun e => by
            rw [e] at c
            simp at c
          rw [if_pos c] at pt
          walk_at "rs"
          refine ⟨p, _, dx2, _, .ref D, rfl, hp4, T.cl_Machine, T.a_Machine_store, rfl, ?_⟩
          walk_at "rs"
          refine ⟨D, _, rfl, hg4, ?_⟩
          have lp : (pickM (ys.take i) m'.kv).length ≤ 30200 := by
            unfold pickM
            rw [List.length_map]
            have h1 := List.length_filter_le (fun k => decide (getN m'.kv k ≠ 0)) (ys.take i)
            have h2 := List.length_take_le' i ys
            omega
          refine ⟨_, Sum.inl (k : Int), rfl, hB4, by rw [len_kv]; exact small8000 (by omega), same_upd s4 hB, ?_⟩
          rw [upd_same, put_kv, put_new (k := k) (fun x hx e => nodup_take nodys hk (by rw [← e]; exact pick_keys hx)), pt]
        · have c : ¬ getN m'.kv k ≠ 0 := fun h => c (by simpa using h)
          rw [if_neg c] at pt
          refine ⟨s4, ?_⟩
          rw [pt]
          exact hB4
      · rintro H4 ⟨s4, hB4⟩
        rw [List.take_of_length_le (by simp)] at hB4
        have s5 := s3.trans s4
        have hp4 := s4 _ _ hp3
        walk_at "rs"
        refine ⟨p, _, dx2, _, .int (m'.pd : Nat), rfl, hp4, T.cl_Machine, T.a_Machine_paid, rfl, ?_⟩
        walk_at "rs"
        refine ⟨p, _, dx2, _, .int (m'.st : Nat), rfl, hp4, T.cl_Machine, T.a_Machine_steps, rfl, ?_⟩
        walk_at "rs"
        intro j dj hj hdj nj
        refine ⟨j, dj, _, _, _, _, rfl, upd_same, fun H5 h5 keep => ?_⟩
        have s6 := made hj hdj keep
        refine ⟨rfl, ?_⟩
        exact k1 j B dj H5 (s5.trans s6) hB0 (by unfold leftM; rw [← ord_is yp yw]; exact s6 _ _ hB4) h5
    · have s3 := on o2
      obtain ⟨dx2, hp2, hD2, hL2⟩ := id h2
      refine ⟨true, TE.exm_Failed_Failed, fun _ ex hex => ?_, fun z => nomatch z⟩
      walk_at "rs"
      refine ⟨d, _, rfl, .inl (s3 _ _ hd), fun S hS => ?_⟩
      have nS := s3.free hS
      have s4 := same_upd (o := .dK (kvV kv)) s3 nS
      walk_at "rs"
      refine ⟨p, _, dx2, _, .int (m'.st : Nat), rfl, by rw [upd_ne (ne_of_none hp2 hS)]; exact hp2, T.cl_Machine, T.a_Machine_steps, rfl, ?_⟩
      walk_at "rs"
      intro j dj hj hdj nj
      refine ⟨j, dj, _, _, _, _, rfl, upd_same, fun H5 h5 keep => ?_⟩
      have s5 := made hj hdj keep
      refine ⟨rfl, ?_⟩
      rw [s2] at h5
      exact k2 n e2 j S dj H5 (s4.trans s5) nS (s5 _ _ upd_same) h5

/-! ### accounts -/
structure Ac where
  bal : List Int
  cds : List Str
  sts : List (List (Nat × Nat))
structure GoodA (n k : Nat) (A : Ac) : Prop where
  lb : A.bal.length = n
  lc : A.cds.length = n
  ls : A.sts.length = n
  few : n ≤ 100
  nn : ∀ b ∈ A.bal, 0 ≤ b
  co : ∀ z ∈ A.cds, z.length ≤ 1000 ∧ Sgn z
  st : ∀ kv ∈ A.sts, GoodS k kv
def moveA (bal : List Int) (i j : Nat) (x : Int) : List Int := (bal.set i (bal.getD i 0 - x)).set j ((bal.set i (bal.getD i 0 - x)).getD j 0 + x)
def callG (A : Ac) (j : Nat) (g : Int) : Gv := ⟨A.cds.getD j "", g.toNat, (A.bal.getD j 0).toNat⟩
/-- the accounts after a command; none: it is refused -/
def afterA (A : Ac) : Cm → Option Ac
  | .w _ _ => none
  | .d a z => if a < A.bal.length then some ⟨A.bal, A.cds.set a.toNat z, A.sts.set a.toNat []⟩ else none
  | .p a b c => if (a < A.bal.length ∧ b < A.bal.length) ∧ c ≤ A.bal.getD a.toNat 0 then some ⟨moveA A.bal a.toNat b.toNat c, A.cds, A.sts⟩ else none
  | .k a b g => if (a < A.bal.length ∧ b < A.bal.length) ∧ A.cds.getD b.toNat "" ≠ "" then
      match (finM (callG A b.toNat g) 201 ⟨[], A.sts.getD b.toNat [], 0, 0, 0⟩).1 with
      | some m => if (m.pd : Int) ≤ A.bal.getD b.toNat 0 then some ⟨moveA A.bal b.toNat a.toNat (m.pd : Int), A.cds, A.sts.set b.toNat (leftM m)⟩ else none
      | none => none
    else none
/-- a command whose parts fit -/
def Cm.fine : Cm → Prop
  | .p a b c => NOk a ∧ NOk b ∧ NOk c
  | .w a b => NOk a ∧ NOk b
  | .k a b c => NOk a ∧ NOk b ∧ NOk c
  | .d a s => NOk a ∧ s.length ≤ 1000 ∧ Sgn s
theorem Cm.good.fine : ∀ {c : Cm}, c.good → c.fine
  | .p _ _ _, h => h
  | .w _ _, h => h
  | .k _ _ _, h => h
  | .d _ _, h => ⟨h.1, Nat.le_trans h.2.1 (by decide), h.2.2⟩
theorem moveA_len (bal : List Int) (i j : Nat) (x : Int) : (moveA bal i j x).length = bal.length := by
  unfold moveA
  rw [List.length_set, List.length_set]
theorem set_mem {α : Type} {xs : List α} {i : Nat} {x y : α} (h : y ∈ xs.set i x) : y ∈ xs ∨ y = x := List.mem_or_eq_of_mem_set h
theorem moveA_nn {bal : List Int} (h : ∀ b ∈ bal, 0 ≤ b) {i j : Nat} {x : Int} (h0 : 0 ≤ x) (hx : x ≤ bal.getD i 0) : ∀ b ∈ moveA bal i j x, 0 ≤ b := by
  have one : ∀ b ∈ bal.set i (bal.getD i 0 - x), 0 ≤ b := fun b hb => by
    rcases set_mem hb with hb | rfl
    · exact h b hb
    · omega
  intro b hb
  unfold moveA at hb
  rcases set_mem hb with hb | rfl
  · exact one b hb
  · rcases Nat.lt_or_ge j (bal.set i (bal.getD i 0 - x)).length with lt | ge
    · have := one _ (getD_mem lt)
      omega
    · rw [List.getD_eq_getElem?_getD, List.getElem?_eq_none ge]
      show (0 : Int) ≤ 0 + x
      omega
theorem GoodS.mono {k l : Nat} {kv : List (Nat × Nat)} (g : GoodS k kv) (h : k ≤ l) : GoodS l kv := ⟨g.1, g.2.1, Nat.le_trans g.2.2 h⟩
theorem GoodA.mono {n k l : Nat} {A : Ac} (g : GoodA n k A) (h : k ≤ l) : GoodA n l A := { g with st := fun kv hk => (g.st kv hk).mono h }
theorem getD_memS {α : Type} {xs : List α} {d : α} {i : Nat} (h : i < xs.length) : xs.getD i d ∈ xs := by
  rw [List.getD_eq_getElem?_getD, List.getElem?_eq_getElem h]
  exact List.getElem_mem h
theorem fin_good {G : Gv} {kv : List (Nat × Nat)} {k n : Nat} {m : Mc} (g : GoodS k kv) (hk : k ≤ 30000) (e : finM G 201 ⟨[], kv, 0, 0, 0⟩ = (some m, n)) : GoodS (k + 200) (leftM m) := by
  obtain ⟨hm, hs, -⟩ := Keep.fin (k0 := k) hk (Keep.start g.nd g.2.2 hk g.2.1) rfl (Nat.zero_le _) e
  exact left_good hm hs
theorem afterA_good {n k : Nat} {A B : Ac} {c : Cm} (g : GoodA n k A) (hk : k ≤ 30000) (hc : c.fine) (e : afterA A c = some B) : GoodA n (k + 200) B := by
  cases c with
  | w a b => cases e
  | d a z =>
    rw [afterA] at e
    split at e
    · cases e
      refine ⟨g.lb, (List.length_set ..).trans g.lc, (List.length_set ..).trans g.ls, g.few, g.nn, fun y hy => ?_, fun kv hkv => ?_⟩
      · rcases set_mem hy with hy | rfl
        · exact g.co y hy
        · exact hc.2
      · rcases set_mem hkv with h | rfl
        · exact (g.st kv h).mono (by omega)
        · exact ⟨.nil, fun x hx => absurd hx List.not_mem_nil, Nat.zero_le _⟩
    · cases e
  | p a b x =>
    rw [afterA] at e
    split at e
    · rename_i h
      cases e
      exact ⟨(moveA_len ..).trans g.lb, g.lc, g.ls, g.few, moveA_nn g.nn hc.2.2.1 h.2, g.co, (g.mono (Nat.le_add_right k 200)).st⟩
    · cases e
  | k a b x =>
    rw [afterA] at e
    split at e
    · rename_i h
      obtain ⟨r, er⟩ : ∃ r, r = finM (callG A b.toNat x) 201 ⟨[], A.sts.getD b.toNat [], 0, 0, 0⟩ := ⟨_, rfl⟩
      rw [← er] at e
      obtain ⟨o, n'⟩ := r
      cases o with
      | none => cases e
      | some m =>
        replace e : (if (m.pd : Int) ≤ A.bal.getD b.toNat 0 then some (⟨moveA A.bal b.toNat a.toNat (m.pd : Int), A.cds, A.sts.set b.toNat (leftM m)⟩ : Ac) else none) = some B := e
        split at e
        · rename_i hp
          cases e
          refine ⟨(moveA_len ..).trans g.lb, g.lc, (List.length_set ..).trans g.ls, g.few, moveA_nn g.nn (Int.natCast_nonneg _) hp, g.co, fun kv hkv => ?_⟩
          rcases set_mem hkv with h' | rfl
          · exact (g.st kv h').mono (by omega)
          · have hb : b.toNat < A.sts.length := by
              have := h.1.2
              have := hc.2.1.1
              have := g.lb
              have := g.ls
              omega
            exact fin_good (g.st _ (getD_memS hb)) hk er.symm
        · cases e
    · cases e
/-! ### ledgers in the heap -/
def PrAt (H : Hp) (p : Addr) (x : Nat × Nat) : Prop := H p = some (.tup [.int (x.1 : Int), .int (x.2 : Int)])
/-- a store as a tuple of pairs, its object told -/
def TsAt (H : Hp) (t : Addr) (kv : List (Nat × Nat)) : Prop := ∃ (o : Obj) (ps : List Addr), H t = some (.frz o (.tup (ps.map V.ref))) ∧ o.dict = none ∧ Paired (PrAt H) ps kv
theorem imp_paired {α β : Type} {F G : α → β → Prop} {xs : List α} {ys : List β} (h : Paired F xs ys) (i : ∀ a b, F a b → G a b) : Paired G xs ys := L2.Paired.mapP h i
theorem TsAt.same {H H' : Hp} {t : Addr} {kv : List (Nat × Nat)} (h : TsAt H t kv) (s : Same H H') : TsAt H' t kv := by
  obtain ⟨o, ps, h1, h2, h3⟩ := h
  exact ⟨o, ps, s _ _ h1, h2, imp_paired h3 fun a b => s _ _⟩
def LgAt (C : Addr) (H : Hp) (p : Addr) (A : Ac) : Prop := ∃ (dx b c s : Addr) (ts : List Addr), H p = some (.ins C dx [("balances", .ref b), ("codes", .ref c), ("stores", .ref s)]) ∧
  H b = some (.tup (A.bal.map V.int)) ∧ H c = some (.tup (A.cds.map V.str)) ∧ H s = some (.tup (ts.map V.ref)) ∧ Paired (TsAt H) ts A.sts
theorem LgAt.same {C : Addr} {H H' : Hp} {p : Addr} {A : Ac} (h : LgAt C H p A) (s : Same H H') : LgAt C H' p A := by
  obtain ⟨dx, b, c, t, ts, h1, h2, h3, h4, h5⟩ := h
  exact ⟨dx, b, c, t, ts, s _ _ h1, s _ _ h2, s _ _ h3, s _ _ h4, imp_paired h5 fun a b z => z.same s⟩
/-- how a store is compared -/
def TpAt (K : PySem.W.Frag) (H : Hp) (t : Addr) (kv : List (Nat × Nat)) : Prop := ∃ ps : List Addr, SqT K H t (ps.map V.ref) ∧ Paired (PrAt H) ps kv
theorem TsAt.tp {K : PySem.W.Frag} {H : Hp} {t : Addr} {kv : List (Nat × Nat)} (h : TsAt H t kv) : TpAt K H t kv := by
  obtain ⟨o, ps, h1, _, h3⟩ := h
  exact ⟨ps, .inl (.inr ⟨o, h1⟩), h3⟩
def prA (x : Nat × Nat) : PyData := .tuple [.int (x.1 : Int), .int (x.2 : Int)]
def kvA (kv : List (Nat × Nat)) : PyData := .tuple (kv.map prA)
def stsA (sts : List (List (Nat × Nat))) : PyData := .tuple (sts.map kvA)
theorem dp_pairs {K : PySem.W.Frag} {H : Hp} : ∀ {ps : List Addr} {kv : List (Nat × Nat)}, Paired (PrAt H) ps kv → DpAll K H (ps.map V.ref) (kv.map prA)
  | _, _, .nil => .nil
  | _, _, .cons h t => .cons (.tup (SqT.of h) (.cons (.int _) (.cons (.int _) .nil))) (dp_pairs t)
theorem dp_kv {K : PySem.W.Frag} {H : Hp} {t : Addr} {kv : List (Nat × Nat)} (h : TpAt K H t kv) : Dp K H (.ref t) (kvA kv) := by
  obtain ⟨ps, h1, h2⟩ := h
  exact .tup h1 (dp_pairs h2)
theorem dp_kvs {K : PySem.W.Frag} {H : Hp} : ∀ {ts : List Addr} {sts : List (List (Nat × Nat))}, Paired (TpAt K H) ts sts → DpAll K H (ts.map V.ref) (sts.map kvA)
  | _, _, .nil => .nil
  | _, _, .cons h t => .cons (dp_kv h) (dp_kvs t)
theorem dp_sts {K : PySem.W.Frag} {H : Hp} {s : Addr} {ts : List Addr} {sts : List (List (Nat × Nat))} (h : SqT K H s (ts.map V.ref)) (p : Paired (TpAt K H) ts sts) : Dp K H (.ref s) (stsA sts) := .tup h (dp_kvs p)
theorem dp_intsA {K : PySem.W.Frag} {H : Hp} : ∀ xs : List Int, DpAll K H (xs.map V.int) (xs.map PyData.int)
  | [] => .nil
  | x :: xs => .cons (.int x) (dp_intsA xs)
theorem dp_strsA {K : PySem.W.Frag} {H : Hp} : ∀ xs : List Str, DpAll K H (xs.map V.str) (xs.map PyData.str)
  | [] => .nil
  | x :: xs => .cons (.str x) (dp_strsA xs)
theorem lay_all {α : Type} {f : α → PyData} : ∀ {xs : List α}, (∀ x ∈ xs, PyData.canLay0 (f x) = true) → PyData.canLayAll0 (xs.map f) = true
  | [], _ => by simp [PyData.canLayAll0]
  | x :: xs, h => by
    simp only [List.map_cons, PyData.canLayAll0, h x List.mem_cons_self, lay_all fun y hy => h y (List.mem_cons_of_mem _ hy)]
    rfl
theorem deep_all {α : Type} {f : α → PyData} {d : Nat} : ∀ {xs : List α}, (∀ x ∈ xs, (f x).depth ≤ d) → PyData.depthAll (xs.map f) ≤ d
  | [], _ => by simp [PyData.depthAll]
  | x :: xs, h => by
    simp only [List.map_cons, PyData.depthAll]
    exact Nat.max_le.mpr ⟨h x List.mem_cons_self, deep_all fun y hy => h y (List.mem_cons_of_mem _ hy)⟩
theorem deep_tup {α : Type} {f : α → PyData} {d : Nat} {xs : List α} (h : ∀ x ∈ xs, (f x).depth ≤ d) : (PyData.tuple (xs.map f)).depth ≤ d + 1 := by
  simp only [PyData.depth]
  have := deep_all h
  omega
theorem lay_tup {α : Type} {f : α → PyData} {xs : List α} (h : ∀ x ∈ xs, PyData.canLay0 (f x) = true) : PyData.canLay0 (.tuple (xs.map f)) = true := by
  simp only [PyData.canLay0]
  exact lay_all h
theorem shaped_of {d : PyData} (h1 : d.canLay0 = true) (h2 : d.depth ≤ 64) : SeqAt.shaped d = true := by
  unfold SeqAt.shaped
  rw [h1, decide_eq_true h2]
  rfl
theorem lay_pr (x : Nat × Nat) : (prA x).canLay0 = true := rfl
theorem deep_pr (x : Nat × Nat) : (prA x).depth ≤ 1 := by
  show (PyData.tuple [.int _, .int _]).depth ≤ 1
  simp [PyData.depth, PyData.depthAll]
theorem shaped_sts (sts : List (List (Nat × Nat))) : SeqAt.shaped (stsA sts) = true :=
  shaped_of (lay_tup fun kv _ => lay_tup fun x _ => lay_pr x) (Nat.le_trans (deep_tup (d := 2) fun kv _ => deep_tup (d := 1) fun x _ => deep_pr x) (by decide))
theorem shaped_intsA (xs : List Int) : SeqAt.shaped (.tuple (xs.map PyData.int)) = true :=
  shaped_of (lay_tup fun x _ => rfl) (Nat.le_trans (deep_tup (d := 0) fun x _ => by simp [PyData.depth]) (by decide))
theorem shaped_strsA {xs : List Str} (o : ∀ x ∈ xs, PyData.strOk x = true) : SeqAt.shaped (.tuple (xs.map PyData.str)) = true :=
  shaped_of (lay_tup fun x hx => by simp only [PyData.canLay0]; exact o x hx) (Nat.le_trans (deep_tup (d := 0) fun x _ => by simp [PyData.depth]) (by decide))
theorem eqv_all {α : Type} [DecidableEq α] {f : α → PyData} (hf : ∀ x y, PyData.eqv (f x) (f y) = decide (x = y)) : ∀ xs ys : List α, PyData.eqvAll (xs.map f) (ys.map f) = decide (xs = ys)
  | [], [] => rfl
  | [], y :: ys => rfl
  | x :: xs, [] => rfl
  | x :: xs, y :: ys => by
    simp only [List.map_cons, PyData.eqvAll, hf x y, eqv_all hf xs ys, List.cons.injEq, Bool.decide_and]
theorem eqv_tupA {α : Type} [DecidableEq α] {f : α → PyData} (hf : ∀ x y, PyData.eqv (f x) (f y) = decide (x = y)) (xs ys : List α) : PyData.eqv (.tuple (xs.map f)) (.tuple (ys.map f)) = decide (xs = ys) := by
  simp only [PyData.eqv]
  exact eqv_all hf xs ys
theorem beq_dec {α : Type} [DecidableEq α] (x y : α) : (x == y) = decide (x = y) := by
  by_cases h : x = y
  · rw [decide_eq_true h, h, beq_self_eq_true]
  · rw [decide_eq_false h]
    exact beq_eq_false_iff_ne.mpr h
theorem eqv_intsA (xs ys : List Int) : PyData.eqv (.tuple (xs.map PyData.int)) (.tuple (ys.map PyData.int)) = decide (xs = ys) := eqv_tupA (fun x y => by simp only [PyData.eqv]; exact beq_dec x y) xs ys
theorem eqv_strsA (xs ys : List Str) : PyData.eqv (.tuple (xs.map PyData.str)) (.tuple (ys.map PyData.str)) = decide (xs = ys) := eqv_tupA (fun x y => by
  simp only [PyData.eqv]
  by_cases h : x = y
  · rw [decide_eq_true h, h, beq_self_eq_true]
  · rw [decide_eq_false h]
    exact beq_eq_false_iff_ne.mpr h) xs ys
theorem eqv_prA (x y : Nat × Nat) : PyData.eqv (prA x) (prA y) = decide (x = y) := by
  unfold prA
  simp only [PyData.eqv, PyData.eqvAll, Bool.and_true]
  obtain ⟨x1, x2⟩ := x
  obtain ⟨y1, y2⟩ := y
  rw [beq_dec, beq_dec, ← Bool.decide_and]
  exact decide_eq_decide.mpr ⟨fun h => by have h1 := h.1; have h2 := h.2; simp only at h1 h2; rw [Int.ofNat_inj.mp h1, Int.ofNat_inj.mp h2], fun h => by cases h; exact ⟨rfl, rfl⟩⟩
theorem eqv_sts (xs ys : List (List (Nat × Nat))) : PyData.eqv (stsA xs) (stsA ys) = decide (xs = ys) := eqv_tupA (fun x y => eqv_tupA eqv_prA x y) xs ys
def eqA (A B : Ac) : Bool := decide (A.bal = B.bal) && (decide (A.cds = B.cds) && decide (A.sts = B.sts))

def spLInit (C : Addr) : Sp := fun vs H Q _ => ∃ (p dx : Addr) (v1 v2 v3 : V), vs = [.ref p, v1, v2, v3] ∧ H p = some (.ins C dx []) ∧
  ∀ H', H' p = some (.ins C dx [("balances", v1), ("codes", v2), ("stores", v3)]) → (∀ b o, b ≠ p → H b = some o → H' b = some o) → Q .non H'
theorem ok_Ledger_init (T : Txt K mg a) : ∃ fd, FnOk P w K mg base CX0 1 a.d_Ledger_init fd ["self", "balances", "codes", "stores"] (spLInit a.C_Ledger) ∧ Binds K fd ["self", "balances", "codes", "stores"] [] := by
  obtain ⟨fd, F, b⟩ := T.d_Ledger_init.F
  refine ⟨fd, F.ok sc_Ledger_init (fun vs H Q E h => ?_) (fun cdv A outer s H vs Q E hr h => ?_), b⟩
  · obtain ⟨_, _, _, _, _, rfl, _⟩ := h
    rfl
  · obtain ⟨p, dx, v1, v2, v3, rfl, hp, k⟩ := h
    refine ⟨_, (pss_cons (ps_fld (pv 0) (pv 1) rfl)
      (pss_cons (ps_fld (pv 0) (pv 2) rfl)
      (pss_one (ps_fld (pv 0) (pv 3) rfl)))), ?_⟩
    walk_at "rs"
    refine ⟨p, _, dx, [], rfl, hp, T.cl_Ledger, T.a_Ledger_balances, (by show 0 < 1000; decide), ?_⟩
    walk_at "rs"
    refine ⟨p, _, dx, _, rfl, upd_same, T.cl_Ledger, T.a_Ledger_codes, (by show 1 < 1000; decide), ?_⟩
    rw [upd_upd]
    walk_at "rs"
    refine ⟨p, _, dx, _, rfl, upd_same, T.cl_Ledger, T.a_Ledger_stores, (by show 2 < 1000; decide), ?_⟩
    rw [upd_upd]
    refine k _ ?_ (fun b o n e => by rw [upd_ne n]; exact e)
    rw [upd_same]
    rfl



theorem repl_flat {α : Type} (x : α) : ∀ n : Nat, (List.replicate n [x]).flatten = List.replicate n x
  | 0 => rfl
  | n + 1 => by
    rw [List.replicate_succ, List.flatten_cons, repl_flat x n, List.replicate_succ]
    rfl
/-- the accounts at the beginning -/
def firstA (bal : List Int) : Ac := ⟨bal, List.replicate bal.length ("" : Str), List.replicate bal.length []⟩
def spFirstL (K : PySem.W.Frag) (C : Addr) : Sp := fun vs H Q _ => ∃ (g : Addr) (bal : List Int), vs = [.ref g] ∧ (SqL K H g (bal.map V.int) ∨ H g = some (.tup (bal.map V.int))) ∧ bal.length ≤ 100 ∧
  ∀ p H', Same H H' → H p = none → LgAt C H' p (firstA bal) → Q (.ref p) H'
theorem paired_rep {α β : Type} {F : α → β → Prop} {x : α} {y : β} (h : F x y) : ∀ n : Nat, Paired F (List.replicate n x) (List.replicate n y)
  | 0 => .nil
  | n + 1 => .cons h (paired_rep h n)
theorem ok_first_ledger (T : Txt K mg a) : ∃ fd, FnOk P w K mg base CX0 3 a.d_first_ledger fd ["grants"] (spFirstL K a.C_Ledger) ∧ Binds K fd ["grants"] [] := by
  obtain ⟨fd, F, b⟩ := T.d_first_ledger.F
  obtain ⟨fd_Ledger_init, G_Ledger_init, b_Ledger_init⟩ := ok_Ledger_init (P := P) (w := w) (base := base) T
  refine ⟨fd, F.ok sc_first_ledger (fun vs H Q E h => ?_) (fun cdv A outer s H vs Q E hr h => ?_), b⟩
  · obtain ⟨_, _, rfl, _⟩ := h
    rfl
  · obtain ⟨g, bal, rfl, hg, few, k⟩ := h
    refine ⟨_, (C8.pss_cut (ps_set (i := 1) sc_first_ledger.nd rfl (Or.inl rfl) (pe_callTy call_tuple_of (by rfl) T.n_tuple (by decide +kernel) (pa_cons (pv 0) pa_nil)))
      (pss_one (ps_ret (pe_make T.m_Ledger G_Ledger_init (hr.mono (by decide)) (by rfl) T.g_Ledger b_Ledger_init .nil pass0 (pa_cons (pv 1) (pa_cons (pe_op op_repB (pe_tup (pa_cons pe_str pa_nil)) (pe_callB call_len_seq (by rfl) T.n_len PySem.boot_len (pa_cons (pv 1) pa_nil))) (pa_cons (pe_op op_repB (pe_tup (pa_cons pe_tup0F pa_nil)) (pe_callB call_len_seq (by rfl) T.n_len PySem.boot_len (pa_cons (pv 1) pa_nil))) pa_nil))))))), ?_⟩
    refine ⟨fun σ H' => ∃ t, σ = [some (.ref g), some (.ref t)] ∧ Same H H' ∧ H' t = some (.tup (bal.map V.int)), ?_, ?_⟩
    · walk_at "rs"
      refine ⟨g, bal.map V.int, rfl, ?_⟩
      rcases hg with hg | hg
      · exact .inl ⟨hg, fun t ht => ⟨t, rfl, same_new ht, upd_same⟩⟩
      · exact .inr ⟨SqT.of hg, ⟨g, rfl, Same.refl _, hg⟩⟩
    rintro σ H1 ⟨t, rfl, s1, ht1⟩
    walk_at "rs"
    refine ⟨(by show 1 ≤ sizeLine; decide), fun q1 hq1 => ?_⟩
    have s2 := same_new (o := .tup [V.str ""]) hq1
    have h2 : (upd H1 q1 (.tup [V.str ""])) q1 = some (.tup [V.str ""]) := upd_same
    generalize upd H1 q1 (.tup [V.str ""]) = H2 at s2 h2 ⊢
    walk_at "rs"
    refine ⟨t, _, rfl, .inr (SqT.of (s2 _ _ ht1)), ?_⟩
    rw [List.length_map]
    refine ⟨q1, _, _, rfl, rfl, h2, (fun e => nomatch e), by omega, by omega, (by show 1 ≤ 1000; decide), fun qc H3 s3 h3 => ?_⟩
    rw [repl_flat] at h3
    walk_at "rs"
    intro q3 o3 hq3 ho3
    have s4 := same_new (o := .frz o3 (.tup [])) hq3
    have h4 : upd H3 q3 (.frz o3 (.tup [])) q3 = some (.frz o3 (.tup [])) := upd_same
    generalize upd H3 q3 (.frz o3 (.tup [])) = H4 at s4 h4 ⊢
    walk_at "rs"
    refine ⟨(by show 1 ≤ sizeLine; decide), fun q4 hq4 => ?_⟩
    have s5 := same_new (o := .tup [V.ref q3]) hq4
    have h5 : upd H4 q4 (.tup [V.ref q3]) q4 = some (.tup [V.ref q3]) := upd_same
    generalize upd H4 q4 (.tup [V.ref q3]) = H5 at s5 h5 ⊢
    walk_at "rs"
    have s25 := s2.trans (s3.trans (s4.trans s5))
    refine ⟨t, _, rfl, .inr (SqT.of (s25 _ _ ht1)), ?_⟩
    rw [List.length_map]
    refine ⟨q4, _, _, rfl, rfl, h5, (fun e => nomatch e), by omega, by omega, (by show 1 ≤ 1000; decide), fun qs H6 s6 h6 => ?_⟩
    rw [repl_flat] at h6
    walk_at "rs"
    intro p dx hp hdx ndx
    refine ⟨p, dx, _, _, _, rfl, upd_same, fun H7 h7 keep => ⟨rfl, ?_⟩⟩
    have s7 : Same H6 H7 := fun b o e => keep b o (fun q => by rw [q, hp] at e; cases e) (by rw [upd_ne (fun q => by rw [q, hp] at e; cases e), upd_ne (fun q => by rw [q, hdx] at e; cases e)]; exact e)
    have s37 := s4.trans (s5.trans (s6.trans s7))
    have s17 := s1.trans (s2.trans (s3.trans s37))
    refine k p H7 s17 ((s1.trans (s25.trans s6)).free hp) ⟨dx, t, qc, qs, List.replicate bal.length q3, h7, s7 _ _ (s6 _ _ (s25 _ _ ht1)), ?_, ?_, paired_rep ⟨o3, [], s7 _ _ (s6 _ _ (s5 _ _ h4)), ho3, .nil⟩ _⟩
    · have e := s37 _ _ h3
      rw [e, Int.toNat_natCast]
      show _ = some (HO.tup ((List.replicate bal.length ("" : Str)).map V.str))
      rw [List.map_replicate]
    · have e := s7 _ _ h6
      rw [e, Int.toNat_natCast, List.map_replicate]

def inA (n : Nat) (xs : List Int) : Bool := xs.all fun x => decide (0 ≤ x ∧ x < (n : Int))
def spExist (K : PySem.W.Frag) (C : Addr) : Sp := fun vs H Q _ => ∃ (p l : Addr) (A : Ac) (xs : List Int), vs = [.ref p, .ref l] ∧ LgAt C H p A ∧ SqL K H l (xs.map V.int) ∧ xs.length ≤ 100 ∧ ∀ H', Same H H' → Q (.bl (inA A.bal.length xs)) H'
theorem ok_exist (T : Txt K mg a) : ∃ fd, FnOk P w K mg base CX0 1 a.d_exist fd ["ledger", "accounts"] (spExist K a.C_Ledger) ∧ Binds K fd ["ledger", "accounts"] [] := by
  obtain ⟨fd, F, b⟩ := T.d_exist.F
  refine ⟨fd, F.ok sc_exist (fun vs H Q E h => ?_) (fun cdv A outer s H vs Q E hr h => ?_), b⟩
  · obtain ⟨_, _, _, _, rfl, _⟩ := h
    rfl
  · obtain ⟨p, l, A1, xs, rfl, hp, hl, few, k⟩ := h
    obtain ⟨dx, b1, c1, s1, ts, h1, h2, h3, h4, h5⟩ := hp
    refine ⟨_, (pss_one (ps_ret (pe_callB (cr_all rfl) (by rfl) T.n_all (by decide +kernel) (pa_cons (pe_lc (own := [("account", 2)]) (g := (gName 2)) (tt := tYes) rfl sc_exist.nd (pi_list (pv 1)) (blkOk_by (own := [("account", 2)]) (N := sc_exist_N) (sc := defScope s_exist) (by decide +kernel)) (fun _ _ _ _ _ => (pg_name (i := 2) sc_exist.nd rfl (Or.inl rfl))) (fun _ _ _ _ _ => pts_nil) (fun _ _ _ _ _ => (pe_chain op_le op_lt pe_int (pv 2) (pe_callB (id := "len") (r := rLenOf K) (cr_lenK rfl) (by rfl) T.n_len PySem.boot_len (pa_cons (pe_fldK (K := K) rfl (pv 0) rfl) pa_nil))))) pa_nil)))), ?_⟩
    walk_at "rs"
    refine ⟨⟨_, hl⟩, fun D hD => ?_⟩
    refine lc_list (K := K) (a := l) (xs := xs.map V.int) (fun i H2 => Same H H2 ∧ H2 D = some (.lst ((xs.take i).map fun x : Int => V.bl (decide (0 ≤ x ∧ x < (A1.bal.length : Int)))))) ⟨same_new hD, upd_same⟩ (fun i H2 _ ⟨s2, _⟩ => s2.seq hl) ?_ ?_
    · rintro i y H2 hy ⟨s2, hd⟩
      have hi : i < xs.length := by
        have e := (List.getElem?_eq_some_iff.mp hy).1
        rwa [List.length_map] at e
      have et : xs.take (i + 1) = xs.take i ++ [xs.getD i 0] := by
        rw [List.take_add_one, List.getElem?_eq_getElem hi, List.getD_eq_getElem?_getD, List.getElem?_eq_getElem hi]
        rfl
      rw [at_ints hi] at hy
      cases hy
      refine ⟨rfl, ?_⟩
      walk_at "rs"
      have put : ∀ {b : Bool}, b = decide (0 ≤ xs.getD i 0 ∧ xs.getD i 0 < (A1.bal.length : Int)) → ∃ acc, H2 D = some (.lst acc) ∧ acc.length < sizeLine ∧ Same H (upd H2 D (.lst (acc ++ [V.bl b]))) ∧ upd H2 D (.lst (acc ++ [V.bl b])) D = some (.lst ((xs.take (i + 1)).map fun x : Int => V.bl (decide (0 ≤ x ∧ x < (A1.bal.length : Int))))) :=
        fun {b} e => ⟨_, hd, by rw [List.length_map]; exact small1000 (by have := List.length_take_le' i xs; omega), same_upd s2 hD, by rw [upd_same, et, List.map_append, e]; rfl⟩
      refine ite2 (fun c => ?_) (fun c => ?_)
      · have c := of_decide_eq_true c
        walk_at "rs"
        refine ⟨p, _, dx, _, .ref b1, rfl, s2 _ _ h1, T.cl_Ledger, T.a_Ledger_balances, rfl, ?_⟩
        walk_at "rs"
        refine ⟨b1, _, rfl, .inr (SqT.of (s2 _ _ h2)), ?_⟩
        rw [List.length_map]
        walk_at "rs"
        exact put (decide_eq_decide.mpr ⟨fun h => ⟨c, h⟩, fun h => h.2⟩)
      · exact put (by rw [decide_eq_false (fun h => c (decide_eq_true h.1))])
    · rintro H2 ⟨s2, hd⟩
      rw [List.length_map, List.take_length] at hd
      walk_at "rs"
      refine ⟨D, xs.map fun x : Int => decide (0 ≤ x ∧ x < (A1.bal.length : Int)), rfl, SqL.of (by rw [hd, List.map_map]; rfl), ?_⟩
      rw [List.all_map]
      exact k H2 s2
theorem ixN_at {n j : Nat} (h : j < n) : ixN n (j : Int) = some j := by
  unfold ixN
  rw [if_pos (Int.natCast_nonneg j), if_pos (by omega), Int.toNat_natCast]
def spMoved (K : PySem.W.Frag) : Sp := fun vs H Q _ => ∃ (t : Addr) (bal : List Int) (i j : Nat) (x : Int), vs = [.ref t, .int i, .int j, .int x] ∧ H t = some (.tup (bal.map V.int)) ∧ bal.length ≤ 100 ∧ i < bal.length ∧ j < bal.length ∧ ∀ q H', Same H H' → H' q = some (.tup ((moveA bal i j x).map V.int)) → Q (.ref q) H'
theorem ok_moved (T : Txt K mg a) : ∃ fd, FnOk P w K mg base CX0 1 a.d_moved fd ["balances", "payer", "payee", "amount"] (spMoved K) ∧ Binds K fd ["balances", "payer", "payee", "amount"] [] := by
  obtain ⟨fd, F, b⟩ := T.d_moved.F
  refine ⟨fd, F.ok sc_moved (fun vs H Q E h => ?_) (fun cdv A outer s H vs Q E hr h => ?_), b⟩
  · obtain ⟨_, _, _, _, _, rfl, _⟩ := h
    rfl
  · obtain ⟨t, bal, i, j, x, rfl, ht, few, hi, hj, k⟩ := h
    refine ⟨_, (pss_cons (ps_set (i := 4) sc_moved.nd rfl (Or.inl rfl) (pe_callTy call_list_of (by rfl) T.n_list (by decide +kernel) (pa_cons (pv 0) pa_nil)))
      (pss_cons (ps_augS (pv 4) (pv 1) get_listN (pv 3) ip_sub set_list)
      (pss_cons (ps_augS (pv 4) (pv 2) get_listN (pv 3) ip_add set_list)
      (pss_one (ps_ret (pe_callTy call_tuple_of (by rfl) T.n_tuple (by decide +kernel) (pa_cons (pv 4) pa_nil))))))), ?_⟩
    walk_at "rs"
    refine ⟨t, _, rfl, .inr (SqT.of ht), fun l hl => ?_⟩
    have s1 := same_new (o := .lst (bal.map V.int)) hl
    have h1 : (upd H l (.lst (bal.map V.int))) l = some (.lst (bal.map V.int)) := upd_same
    have only : ∀ b o, b ≠ l → H b = some o → (upd H l (.lst (bal.map V.int))) b = some o := fun b o n e => by rw [upd_ne n]; exact e
    generalize upd H l (.lst (bal.map V.int)) = H1 at s1 h1 only ⊢
    walk_at "rs"
    refine ⟨l, _, i, .int (bal.getD i 0), rfl, rfl, SqL.of h1, at_ints hi, ?_⟩
    walk_at "rs"
    refine ⟨l, _, _, i, rfl, rfl, h1, ixN_at (by rw [List.length_map]; exact hi), ?_⟩
    have h2 : (upd H1 l (.lst ((bal.map V.int).set i (.int (bal.getD i 0 - x))))) l = some (.lst ((bal.set i (bal.getD i 0 - x)).map V.int)) := by rw [upd_same, List.map_set]
    have only2 : ∀ b o, b ≠ l → H b = some o → (upd H1 l (.lst ((bal.map V.int).set i (.int (bal.getD i 0 - x))))) b = some o := fun b o n e => by rw [upd_ne n]; exact only b o n e
    generalize upd H1 l (.lst ((bal.map V.int).set i (.int (bal.getD i 0 - x)))) = H2 at h2 only2 ⊢
    walk_at "rs"
    refine ⟨l, _, j, .int ((bal.set i (bal.getD i 0 - x)).getD j 0), rfl, rfl, SqL.of h2, at_ints (by rw [List.length_set]; exact hj), ?_⟩
    walk_at "rs"
    refine ⟨l, _, _, j, rfl, rfl, h2, ixN_at (by rw [List.length_map, List.length_set]; exact hj), ?_⟩
    have h3 : (upd H2 l (.lst (((bal.set i (bal.getD i 0 - x)).map V.int).set j (.int ((bal.set i (bal.getD i 0 - x)).getD j 0 + x))))) l = some (.lst ((moveA bal i j x).map V.int)) := by
      rw [upd_same]
      unfold moveA
      rw [List.map_set (l := bal.set i (bal.getD i 0 - x))]
    have s3 : Same H (upd H2 l (.lst (((bal.set i (bal.getD i 0 - x)).map V.int).set j (.int ((bal.set i (bal.getD i 0 - x)).getD j 0 + x))))) := fun b o e => by
      have n := ne_of_none e hl
      rw [upd_ne n]
      exact only2 b o n e
    generalize upd H2 l (.lst (((bal.set i (bal.getD i 0 - x)).map V.int).set j (.int ((bal.set i (bal.getD i 0 - x)).getD j 0 + x)))) = H3 at s3 h3 ⊢
    walk_at "rs"
    refine ⟨l, _, rfl, .inl ⟨SqL.of h3, fun q hq => ?_⟩⟩
    exact k q _ (s3.trans (same_new hq)) upd_same
def spRepl (K : PySem.W.Frag) : Sp := fun vs H Q _ => ∃ (t : Addr) (xs : List V) (j : Nat) (v : V), vs = [.ref t, .int j, v] ∧ H t = some (.tup xs) ∧ xs.length ≤ 1000 ∧ j < xs.length ∧ ∀ q H', Same H H' → H' q = some (.tup (xs.set j v)) → Q (.ref q) H'
theorem ok_replaced (T : Txt K mg a) : ∃ fd, FnOk P w K mg base CX0 1 a.d_replaced fd ["parts", "at", "part"] (spRepl K) ∧ Binds K fd ["parts", "at", "part"] [] := by
  obtain ⟨fd, F, b⟩ := T.d_replaced.F
  refine ⟨fd, F.ok sc_replaced (fun vs H Q E h => ?_) (fun cdv A outer s H vs Q E hr h => ?_), b⟩
  · obtain ⟨_, _, _, _, rfl, _⟩ := h
    rfl
  · obtain ⟨t, xs, j, v, rfl, ht, few, hj, k⟩ := h
    have nw1 : ¬ (HT.sIx xs.length 0 none = 0 ∧ HT.sIx xs.length xs.length (some (j : Int)) = xs.length) := by
      rw [HT.sIx_nat]
      omega
    have nw2 : ¬ (HT.sIx xs.length 0 (some ((j : Int) + 1)) = 0 ∧ HT.sIx xs.length xs.length none = xs.length) := by
      rw [show (j : Int) + 1 = ((j + 1 : Nat) : Int) from rfl, HT.sIx_nat]
      omega
    have hput : cutV xs none (some (j : Int)) ++ [v] ++ cutV xs (some ((j : Int) + 1)) none = xs.set j v := by
      unfold cutV
      rw [show (j : Int) + 1 = ((j + 1 : Nat) : Int) from rfl, HT.sIx_nat, HT.sIx_nat, HT.sIx_none, HT.sIx_none, Nat.min_eq_left (Nat.le_of_lt hj), Nat.min_eq_left hj, Nat.sub_zero, List.drop_zero, List.take_of_length_le (l := xs.drop (j + 1)) (by rw [List.length_drop]; exact Nat.le_refl _), List.set_eq_take_append_cons_drop, if_pos hj, List.append_assoc]
      rfl
    have lA := cutV_length xs none (some (j : Int))
    have lC := cutV_length xs (some ((j : Int) + 1)) none
    refine ⟨_, (pss_one (ps_ret (pe_op op_catB (pe_op op_catB (pe_slice sl_tup (pv 0) po_none (po_some (pv 1))) (pe_tup (pa_cons (pv 2) pa_nil))) (pe_slice sl_tup (pv 0) (po_some (pe_op op_add (pv 1) pe_int)) po_none)))), ?_⟩
    walk_at "rs"
    refine ⟨t, _, rfl, SqT.of ht, nw1, fun q1 hq1 => ?_⟩
    generalize cutV xs none (some (j : Int)) = A1 at hput lA
    have s1 := same_new (o := .tup A1) hq1
    have h1 : (upd H q1 (.tup A1)) q1 = some (.tup A1) := upd_same
    generalize upd H q1 (.tup A1) = H1 at s1 h1 ⊢
    walk_at "rs"
    refine ⟨(by show 1 ≤ sizeLine; decide), fun q2 hq2 => ?_⟩
    have s2 := same_new (o := .tup [v]) hq2
    have h2 : (upd H1 q2 (.tup [v])) q2 = some (.tup [v]) := upd_same
    have h12 := s2 _ _ h1
    generalize upd H1 q2 (.tup [v]) = H2 at s2 h2 h12 ⊢
    refine ⟨q1, q2, A1, [v], rfl, rfl, h12, h2, by rw [sizeLine_eq]; show A1.length + 1 ≤ _; omega, fun q3 H3 s3 h3 => ?_⟩
    walk_at "rs"
    have s13 := s1.trans (s2.trans s3)
    refine ⟨t, _, rfl, SqT.of (s13 _ _ ht), nw2, fun q4 hq4 => ?_⟩
    generalize cutV xs (some ((j : Int) + 1)) none = C1 at hput lC
    have s4 := same_new (o := .tup C1) hq4
    have h4 : (upd H3 q4 (.tup C1)) q4 = some (.tup C1) := upd_same
    have h34 := s4 _ _ h3
    generalize upd H3 q4 (.tup C1) = H4 at s4 h4 h34 ⊢
    refine ⟨q3, q4, A1 ++ [v], C1, rfl, rfl, h34, h4, by rw [List.length_append, sizeLine_eq]; show A1.length + 1 + C1.length ≤ _; omega, fun q5 H5 s5 h5 => ?_⟩
    rw [hput] at h5
    exact k q5 H5 (s13.trans (s4.trans s5)) h5

def spPay (C : Addr) : Sp := fun vs H Q _ => ∃ (p : Addr) (A : Ac) (x y z : Int), vs = [.ref p, .int x, .int y, .int z] ∧ LgAt C H p A ∧ A.bal.length ≤ 100 ∧ NOk x ∧ NOk y ∧ NOk z ∧
  (afterA A (.p x y z) = none → ∀ H', Same H H' → Q .non H') ∧ ∀ r H' B, afterA A (.p x y z) = some B → Same H H' → LgAt C H' r B → Q (.ref r) H'
theorem at_tup {xs : List Int} {j : Nat} (h : j < xs.length) : atI (xs.map V.int) (j : Int) = some (.int (xs.getD j 0)) := atI_nat (at_ints h)
theorem ok_payment (T : Txt K mg a) : ∃ fd, FnOk P w K mg base CX0 3 a.d_payment fd ["ledger", "payer", "payee", "amount"] (spPay a.C_Ledger) ∧ Binds K fd ["ledger", "payer", "payee", "amount"] [] := by
  obtain ⟨fd, F, b⟩ := T.d_payment.F
  obtain ⟨fd_Ledger_init, G_Ledger_init, b_Ledger_init⟩ := ok_Ledger_init (P := P) (w := w) (base := base) T
  obtain ⟨fd_moved, G_moved, b_moved⟩ := ok_moved (P := P) (w := w) (base := base) T
  obtain ⟨fd_exist, G_exist, b_exist⟩ := ok_exist (P := P) (w := w) (base := base) T
  refine ⟨fd, F.ok sc_payment (fun vs H Q E h => ?_) (fun cdv A outer s H vs Q E hr h => ?_), b⟩
  · obtain ⟨_, _, _, _, _, rfl, _⟩ := h
    rfl
  · obtain ⟨p, A1, x, y, z, rfl, hp, few, ox, oy, oz, k1, k2⟩ := h
    obtain ⟨i, rfl⟩ : ∃ i : Nat, x = (i : Int) := ⟨x.toNat, by have := ox.1; omega⟩
    obtain ⟨j, rfl⟩ : ∃ j : Nat, y = (j : Int) := ⟨y.toNat, by have := oy.1; omega⟩
    obtain ⟨dx, b1, cd, s1, ts, h1, h2, h3, h4, h5⟩ := id hp
    refine ⟨_, (pss_cons (ps_if (PW.pt (pw_or (pt_not (pt_val (pe_call G_exist (hr.mono (by decide)) rfl T.d_exist.g T.d_exist.kp b_exist .nil pass0 (pa_cons (pv 0) (pa_cons (pe_lst (pa_cons (pv 1) (pa_cons (pv 2) pa_nil))) pa_nil))))) (pw_or (pt_cmpR op_lt (pv 3) pe_int (nomark _)) (pw_or1 (pt_cmpR op_gt (pv 3) (pe_ix ix_tup (pe_fld (pv 0) rfl) (pv 1) (fun _ _ => rfl)) (nomark _))))))
      (pss_one (ps_ret pe_non))
      pss_nil)
      (pss_one (ps_ret (pe_make T.m_Ledger G_Ledger_init (hr.mono (by decide)) (by rfl) T.g_Ledger b_Ledger_init .nil pass0 (pa_cons (pe_call G_moved (hr.mono (by decide)) rfl T.d_moved.g T.d_moved.kp b_moved .nil pass0 (pa_cons (pe_fld (pv 0) rfl) (pa_cons (pv 1) (pa_cons (pv 2) (pa_cons (pv 3) pa_nil))))) (pa_cons (pe_fld (pv 0) rfl) (pa_cons (pe_fld (pv 0) rfl) pa_nil))))))), ?_⟩
    walk_at "rs"
    refine ⟨(by show 2 ≤ sizeLine; decide), fun l hl => ?_⟩
    have s1' := same_new (o := .lst [V.int (i : Int), V.int (j : Int)]) hl
    refine ⟨p, l, A1, [(i : Int), (j : Int)], rfl, hp.same s1', SqL.of upd_same, (by show 2 ≤ 100; decide), fun H2 s2' => ?_⟩
    have s2 := s1'.trans s2'
    clear s1' s2'
    have ex : inA A1.bal.length [(i : Int), (j : Int)] = decide ((i : Int) < A1.bal.length ∧ (j : Int) < A1.bal.length) := by
      show (decide (0 ≤ (i : Int) ∧ (i : Int) < A1.bal.length) && (decide (0 ≤ (j : Int) ∧ (j : Int) < A1.bal.length) && true)) = _
      rw [Bool.and_true, ← Bool.decide_and]
      exact decide_eq_decide.mpr ⟨fun h => ⟨h.1.2, h.2.2⟩, fun h => ⟨⟨Int.natCast_nonneg _, h.1⟩, ⟨Int.natCast_nonneg _, h.2⟩⟩⟩
    rw [ex]
    rw [afterA] at k1 k2
    walk_at "rs"
    refine ite2 (fun c1 => ?_) (fun c1 => ?_)
    · have c1 : ¬ ((i : Int) < A1.bal.length ∧ (j : Int) < A1.bal.length) := fun h => by rw [decide_eq_true h] at c1; exact Bool.false_ne_true c1
      walk_at "rs"
      exact k1 (if_neg fun h => c1 h.1) H2 s2
    have c1 : (i : Int) < A1.bal.length ∧ (j : Int) < A1.bal.length := by
      by_cases h : (i : Int) < A1.bal.length ∧ (j : Int) < A1.bal.length
      · exact h
      · exact absurd (by rw [decide_eq_false h]; rfl) c1
    walk_at "rs"
    refine ite2 (fun c2 => absurd (of_decide_eq_true c2) (by have := oz.1; omega)) (fun _ => ?_)
    walk_at "rs"
    refine ⟨p, _, dx, _, .ref b1, rfl, s2 _ _ h1, T.cl_Ledger, T.a_Ledger_balances, rfl, ?_⟩
    walk_at "rs"
    refine ⟨b1, _, _, _, rfl, rfl, SqT.of (s2 _ _ h2), at_tup (by omega), ?_⟩
    walk_at "rs"
    refine ite2 (fun c3 => ?_) (fun c3 => ?_)
    · have c3 := of_decide_eq_true c3
      walk_at "rs"
      exact k1 (if_neg fun h => by have := h.2; rw [Int.toNat_natCast] at this; omega) H2 s2
    have c3 : z ≤ A1.bal.getD i 0 := by
      have : ¬ z > A1.bal.getD i 0 := fun h => c3 (decide_eq_true h)
      omega
    walk_at "rs"
    refine ⟨p, _, dx, _, .ref b1, rfl, s2 _ _ h1, T.cl_Ledger, T.a_Ledger_balances, rfl, ?_⟩
    walk_at "rs"
    refine ⟨b1, A1.bal, i, j, z, rfl, s2 _ _ h2, few, by omega, by omega, fun q H3 s3' hq => ?_⟩
    have s3 := s2.trans s3'
    walk_at "rs"
    refine ⟨p, _, dx, _, .ref cd, rfl, s3 _ _ h1, T.cl_Ledger, T.a_Ledger_codes, rfl, ?_⟩
    walk_at "rs"
    refine ⟨p, _, dx, _, .ref s1, rfl, s3 _ _ h1, T.cl_Ledger, T.a_Ledger_stores, rfl, ?_⟩
    walk_at "rs"
    intro r dr hr1 hdr ndr
    refine ⟨r, dr, _, _, _, rfl, upd_same, fun H4 h4' keep => ⟨rfl, ?_⟩⟩
    have s4' := made hr1 hdr keep
    have s4 := s3.trans s4'
    refine k2 r H4 ⟨moveA A1.bal i j z, A1.cds, A1.sts⟩ ?_ s4 ⟨dr, q, cd, s1, ts, h4', s4' _ _ hq, s4 _ _ h3, s4 _ _ h4, imp_paired h5 fun _ _ z => z.same s4⟩
    rw [if_pos ⟨c1, by rw [Int.toNat_natCast]; exact c3⟩, Int.toNat_natCast, Int.toNat_natCast]

theorem paired_set {α β : Type} {F : α → β → Prop} {x : α} {y : β} (h : F x y) : ∀ {xs : List α} {ys : List β} (i : Nat), Paired F xs ys → Paired F (xs.set i x) (ys.set i y)
  | _, _, _, .nil => .nil
  | _, _, 0, .cons _ t => .cons h t
  | _, _, i + 1, .cons g t => .cons g (paired_set h i t)
theorem paired_at {α β : Type} {F : α → β → Prop} {d : α} {e : β} : ∀ {xs : List α} {ys : List β} {i : Nat}, Paired F xs ys → i < ys.length → F (xs.getD i d) (ys.getD i e)
  | _, _, _, .nil, h => absurd h (Nat.not_lt_zero _)
  | _, _, 0, .cons g _, _ => g
  | _, _, i + 1, .cons _ t, h => paired_at (i := i) t (Nat.lt_of_succ_lt_succ h)
theorem paired_len {α β : Type} {F : α → β → Prop} {xs : List α} {ys : List β} (h : Paired F xs ys) : xs.length = ys.length := Paired.length h
theorem set_map {α β : Type} (f : α → β) (xs : List α) (i : Nat) (x : α) : (xs.map f).set i (f x) = (xs.set i x).map f := by rw [List.map_set]
theorem merge_kv : ∀ {kv done : List (Nat × Nat)}, ((done ++ kv).map (·.1)).Nodup → mergeK (kvV done) (kvV kv) = kvV (done ++ kv)
  | [], done, _ => by
    rw [List.append_nil]
    rfl
  | (k, v) :: kv, done, nd => by
    have hk : ∀ x ∈ done, x.1 ≠ k := fun x hx e => by
      rw [List.map_append, List.nodup_append] at nd
      exact nd.2.2 x.1 (List.mem_map.mpr ⟨x, hx, rfl⟩) k (List.mem_map.mpr ⟨(k, v), List.mem_cons_self, rfl⟩) e
    show mergeK (putK (kvV done) (Sum.inl (k : Int)) (V.int (v : Int))) (kvV kv) = _
    rw [put_kv, put_new hk]
    have e : done ++ (k, v) :: kv = done ++ [(k, v)] ++ kv := by simp
    rw [e] at nd ⊢
    exact merge_kv nd
theorem pairs_sq {K : PySem.W.Frag} {H : Hp} : ∀ {ps : List Addr} {kv : List (Nat × Nat)}, Paired (PrAt H) ps kv → Paired (fun p q => SqT K H p [kV q.1, q.2]) ps (kvV kv)
  | _, _, .nil => .nil
  | _, _, .cons h t => .cons (SqT.of h) (pairs_sq t)
theorem pairs_pr {H : Hp} : ∀ {ps : List Addr} {kv : List (Nat × Nat)}, Paired (fun t q => H t = some (.tup [kV q.1, q.2])) ps (kvV kv) → Paired (PrAt H) ps kv
  | ps, [], h => by
    cases h
    exact .nil
  | ps, x :: kv, h => by
    cases h with
    | cons g t => exact .cons g (pairs_pr t)
theorem at_strs {zs : List Str} {j : Nat} (h : j < zs.length) : atI (zs.map V.str) (j : Int) = some (.str (zs.getD j "")) := atI_nat (by
  rw [List.getElem?_map, List.getElem?_eq_getElem h, List.getD_eq_getElem?_getD, List.getElem?_eq_getElem h]
  rfl)
theorem at_refs {ps : List Addr} {j : Nat} (h : j < ps.length) : atI (ps.map V.ref) (j : Int) = some (.ref (ps.getD j 0)) := atI_nat (by
  rw [List.getElem?_map, List.getElem?_eq_getElem h, List.getD_eq_getElem?_getD, List.getElem?_eq_getElem h]
  rfl)
def spNew (C : Addr) : Sp := fun vs H Q _ => ∃ (p : Addr) (A : Ac) (n k : Nat) (x : Int) (z : Str), vs = [.ref p, .int x, .str z] ∧ LgAt C H p A ∧ GoodA n k A ∧ NOk x ∧
  (afterA A (.d x z) = none → ∀ H', Same H H' → Q .non H') ∧ ∀ r H' B, afterA A (.d x z) = some B → Same H H' → LgAt C H' r B → Q (.ref r) H'
theorem ok_new_program (T : Txt K mg a) : ∃ fd, FnOk P w K mg base CX0 3 a.d_new_program fd ["ledger", "account", "code"] (spNew a.C_Ledger) ∧ Binds K fd ["ledger", "account", "code"] [] := by
  obtain ⟨fd, F, b⟩ := T.d_new_program.F
  obtain ⟨fd_replaced, G_replaced, b_replaced⟩ := ok_replaced (P := P) (w := w) (base := base) T
  obtain ⟨fd_Ledger_init, G_Ledger_init, b_Ledger_init⟩ := ok_Ledger_init (P := P) (w := w) (base := base) T
  obtain ⟨fd_exist, G_exist, b_exist⟩ := ok_exist (P := P) (w := w) (base := base) T
  refine ⟨fd, F.ok sc_new_program (fun vs H Q E h => ?_) (fun cdv A outer s H vs Q E hr h => ?_), b⟩
  · obtain ⟨_, _, _, _, _, _, rfl, _⟩ := h
    rfl
  · obtain ⟨p, A1, n, m, x, z, rfl, hp, ga, ox, k1, k2⟩ := h
    obtain ⟨i, rfl⟩ : ∃ i : Nat, x = (i : Int) := ⟨x.toNat, by have := ox.1; omega⟩
    obtain ⟨dx, b1, cd, s1, ts, h1, h2, h3, h4, h5⟩ := id hp
    have lts := paired_len h5
    have e1 := ga.lb
    have e2 := ga.lc
    have e3 := ga.ls
    have few := ga.few
    refine ⟨_, (pss_cons (ps_if (pt_not (pt_val (pe_call G_exist (hr.mono (by decide)) rfl T.d_exist.g T.d_exist.kp b_exist .nil pass0 (pa_cons (pv 0) (pa_cons (pe_lst (pa_cons (pv 1) pa_nil)) pa_nil)))))
      (pss_one (ps_ret pe_non))
      pss_nil)
      (pss_cons (ps_set (i := 3) sc_new_program.nd rfl (Or.inl rfl) (pe_call G_replaced (hr.mono (by decide)) rfl T.d_replaced.g T.d_replaced.kp b_replaced .nil pass0 (pa_cons (pe_fld (pv 0) rfl) (pa_cons (pv 1) (pa_cons (pv 2) pa_nil)))))
      (pss_one (ps_ret (pe_make T.m_Ledger G_Ledger_init (hr.mono (by decide)) (by rfl) T.g_Ledger b_Ledger_init .nil pass0 (pa_cons (pe_fld (pv 0) rfl) (pa_cons (pv 3) (pa_cons (pe_call G_replaced (hr.mono (by decide)) rfl T.d_replaced.g T.d_replaced.kp b_replaced .nil pass0 (pa_cons (pe_fld (pv 0) rfl) (pa_cons (pv 1) (pa_cons pe_tup0F pa_nil)))) pa_nil)))))))), ?_⟩
    walk_at "rs"
    refine ⟨(by show 1 ≤ sizeLine; decide), fun l hl => ?_⟩
    have s1' := same_new (o := .lst [V.int (i : Int)]) hl
    refine ⟨p, l, A1, [(i : Int)], rfl, hp.same s1', SqL.of upd_same, (by show 1 ≤ 100; decide), fun H2 s2' => ?_⟩
    have s2 := s1'.trans s2'
    clear s1' s2'
    have ex : inA A1.bal.length [(i : Int)] = decide ((i : Int) < A1.bal.length) := by
      show (decide (0 ≤ (i : Int) ∧ (i : Int) < A1.bal.length) && true) = _
      rw [Bool.and_true]
      exact decide_eq_decide.mpr ⟨fun h => h.2, fun h => ⟨Int.natCast_nonneg _, h⟩⟩
    rw [ex]
    rw [afterA] at k1 k2
    walk_at "rs"
    refine ite2 (fun c1 => ?_) (fun c1 => ?_)
    · have c1 : ¬ ((i : Int) < A1.bal.length) := fun h => by rw [decide_eq_true h] at c1; exact Bool.false_ne_true c1
      walk_at "rs"
      exact k1 (if_neg c1) H2 s2
    have c1 : (i : Int) < A1.bal.length := by
      by_cases h : (i : Int) < A1.bal.length
      · exact h
      · exact absurd (by rw [decide_eq_false h]; rfl) c1
    walk_at "rs"
    refine ⟨p, _, dx, _, .ref cd, rfl, s2 _ _ h1, T.cl_Ledger, T.a_Ledger_codes, rfl, ?_⟩
    walk_at "rs"
    refine ⟨cd, A1.cds.map V.str, i, .str z, rfl, s2 _ _ h3, by rw [List.length_map]; omega, by rw [List.length_map]; omega, fun q H3 s3' hq => ?_⟩
    rw [set_map] at hq
    have s3 := s2.trans s3'
    walk_at "rs"
    refine ⟨p, _, dx, _, .ref b1, rfl, s3 _ _ h1, T.cl_Ledger, T.a_Ledger_balances, rfl, ?_⟩
    walk_at "rs"
    refine ⟨p, _, dx, _, .ref s1, rfl, s3 _ _ h1, T.cl_Ledger, T.a_Ledger_stores, rfl, ?_⟩
    walk_at "rs"
    intro t0 o0 ht0 ho0
    have s4' := same_new (o := .frz o0 (.tup [])) ht0
    have ht04 : upd H3 t0 (.frz o0 (.tup [])) t0 = some (.frz o0 (.tup [])) := upd_same
    generalize upd H3 t0 (.frz o0 (.tup [])) = H4 at s4' ht04 ⊢
    have s4 := s3.trans s4'
    walk_at "rs"
    refine ⟨s1, ts.map V.ref, i, .ref t0, rfl, s4 _ _ h4, by rw [List.length_map]; omega, by rw [List.length_map]; omega, fun qs H5 s5' hqs => ?_⟩
    rw [set_map] at hqs
    have s5 := s4.trans s5'
    walk_at "rs"
    intro r dr hr1 hdr ndr
    refine ⟨r, dr, _, _, _, rfl, upd_same, fun H6 h6' keep => ⟨rfl, ?_⟩⟩
    have s6' := made hr1 hdr keep
    have s6 := s5.trans s6'
    refine k2 r H6 ⟨A1.bal, A1.cds.set i z, A1.sts.set i []⟩ ?_ s6 ⟨dr, b1, q, qs, ts.set i t0, h6', s6 _ _ h2, s6' _ _ (s5' _ _ (s4' _ _ hq)), s6' _ _ hqs, paired_set ⟨o0, [], s6' _ _ (s5' _ _ ht04), ho0, .nil⟩ i (imp_paired h5 fun _ _ z => z.same s6)⟩
    rw [if_pos c1, Int.toNat_natCast]
def spCallL (C : Addr) : Sp := fun vs H Q _ => ∃ (p : Addr) (A : Ac) (n k : Nat) (x y z : Int), vs = [.ref p, .int x, .int y, .int z] ∧ LgAt C H p A ∧ GoodA n k A ∧ k ≤ 30000 ∧ NOk x ∧ NOk y ∧ NOk z ∧
  (afterA A (.k x y z) = none → ∀ H', Same H H' → Q .non H') ∧ ∀ r H' B, afterA A (.k x y z) = some B → Same H H' → LgAt C H' r B → Q (.ref r) H'
theorem ok_call (TE : TxtE w K mg a) (T : Txt K mg a) : ∃ fd, FnOk P w K mg base CX0 6 a.d_call fd ["ledger", "caller", "callee", "given"] (spCallL a.C_Ledger) ∧ Binds K fd ["ledger", "caller", "callee", "given"] [] := by
  obtain ⟨fd, F, b⟩ := T.d_call.F
  obtain ⟨fd_run, G_run, b_run⟩ := ok_run (P := P) (w := w) (base := base) TE T
  obtain ⟨fd_replaced, G_replaced, b_replaced⟩ := ok_replaced (P := P) (w := w) (base := base) T
  obtain ⟨fd_Ledger_init, G_Ledger_init, b_Ledger_init⟩ := ok_Ledger_init (P := P) (w := w) (base := base) T
  obtain ⟨fd_moved, G_moved, b_moved⟩ := ok_moved (P := P) (w := w) (base := base) T
  obtain ⟨fd_exist, G_exist, b_exist⟩ := ok_exist (P := P) (w := w) (base := base) T
  refine ⟨fd, F.ok sc_call (fun vs H Q E h => ?_) (fun cdv A outer s H vs Q E hr h => ?_), b⟩
  · obtain ⟨_, _, _, _, _, _, _, rfl, _⟩ := h
    rfl
  · obtain ⟨p, A1, n, m, x, y, z, rfl, hp, ga, hm, ox, oy, oz, k1, k2⟩ := h
    obtain ⟨i, rfl⟩ : ∃ i : Nat, x = (i : Int) := ⟨x.toNat, by have := ox.1; omega⟩
    obtain ⟨j, rfl⟩ : ∃ j : Nat, y = (j : Int) := ⟨y.toNat, by have := oy.1; omega⟩
    obtain ⟨gn, rfl⟩ : ∃ g : Nat, z = (g : Int) := ⟨z.toNat, by have := oz.1; omega⟩
    obtain ⟨dx, b1, cd, s1, ts, h1, h2, h3, h4, h5⟩ := id hp
    have lts := paired_len h5
    have e1 := ga.lb
    have e2 := ga.lc
    have e3 := ga.ls
    have few := ga.few
    refine ⟨_, (pss_cons (ps_if (PW.pt (pw_or (pt_not (pt_val (pe_call G_exist (hr.mono (by decide)) rfl T.d_exist.g T.d_exist.kp b_exist .nil pass0 (pa_cons (pv 0) (pa_cons (pe_lst (pa_cons (pv 1) (pa_cons (pv 2) pa_nil))) pa_nil))))) (pw_or1 (pt_cmpR op_eq (pe_ix ix_tup (pe_fld (pv 0) rfl) (pv 2) (fun _ _ => rfl)) pe_str (nomark _)))))
      (pss_one (ps_ret pe_non))
      pss_nil)
      (pss_cons (ps_set (i := 4) sc_call.nd rfl (Or.inl rfl) (pe_ix ix_tup (pe_fld (pv 0) rfl) (pv 2) (fun _ _ => rfl)))
      (pss_cons (ps_set (i := 5) sc_call.nd rfl (Or.inl rfl) (pe_call G_run (hr.mono (by decide)) rfl T.d_run.g T.d_run.kp b_run .nil pass0 (pa_cons (pe_ix ix_tup (pe_fld (pv 0) rfl) (pv 2) (fun _ _ => rfl)) (pa_cons (pv 3) (pa_cons (pv 4) (pa_cons (pe_callTy (call_dictPT rfl) (by rfl) T.n_dict (by decide +kernel) (pa_cons (pe_ix ix_tup (pe_fld (pv 0) rfl) (pv 2) (fun _ _ => rfl)) pa_nil)) pa_nil))))))
      (pss_cons (ps_if (PW.pt (pw_or (pt_not (pt_val (pe_fld (pv 5) rfl))) (pw_or1 (pt_cmpR op_gt (pe_fld (pv 5) rfl) (pv 4) (nomark _)))))
      (pss_one (ps_ret pe_non))
      pss_nil)
      (pss_cons (ps_set (i := 6) sc_call.nd rfl (Or.inl rfl) (pe_call G_replaced (hr.mono (by decide)) rfl T.d_replaced.g T.d_replaced.kp b_replaced .nil pass0 (pa_cons (pe_fld (pv 0) rfl) (pa_cons (pv 2) (pa_cons (pe_tupItems rfl (pe_fld (pv 5) rfl) (by rfl) T.n_tuple (by decide +kernel)) pa_nil)))))
      (pss_one (ps_ret (pe_make T.m_Ledger G_Ledger_init (hr.mono (by decide)) (by rfl) T.g_Ledger b_Ledger_init .nil pass0 (pa_cons (pe_call G_moved (hr.mono (by decide)) rfl T.d_moved.g T.d_moved.kp b_moved .nil pass0 (pa_cons (pe_fld (pv 0) rfl) (pa_cons (pv 2) (pa_cons (pv 1) (pa_cons (pe_fld (pv 5) rfl) pa_nil))))) (pa_cons (pe_fld (pv 0) rfl) (pa_cons (pv 6) pa_nil))))))))))), ?_⟩
    walk_at "rs"
    refine ⟨(by show 2 ≤ sizeLine; decide), fun l hl => ?_⟩
    have s1' := same_new (o := .lst [V.int (i : Int), V.int (j : Int)]) hl
    refine ⟨p, l, A1, [(i : Int), (j : Int)], rfl, hp.same s1', SqL.of upd_same, (by show 2 ≤ 100; decide), fun H2 s2' => ?_⟩
    have s2 := s1'.trans s2'
    clear s1' s2'
    have ex : inA A1.bal.length [(i : Int), (j : Int)] = decide ((i : Int) < A1.bal.length ∧ (j : Int) < A1.bal.length) := by
      show (decide (0 ≤ (i : Int) ∧ (i : Int) < A1.bal.length) && (decide (0 ≤ (j : Int) ∧ (j : Int) < A1.bal.length) && true)) = _
      rw [Bool.and_true, ← Bool.decide_and]
      exact decide_eq_decide.mpr ⟨fun h => ⟨h.1.2, h.2.2⟩, fun h => ⟨⟨Int.natCast_nonneg _, h.1⟩, ⟨Int.natCast_nonneg _, h.2⟩⟩⟩
    rw [ex]
    rw [afterA] at k1 k2
    walk_at "rs"
    refine ite2 (fun c1 => ?_) (fun c1 => ?_)
    · have c1 : ¬ ((i : Int) < A1.bal.length ∧ (j : Int) < A1.bal.length) := fun h => by rw [decide_eq_true h] at c1; exact Bool.false_ne_true c1
      walk_at "rs"
      exact k1 (if_neg fun h => c1 h.1) H2 s2
    have c1 : (i : Int) < A1.bal.length ∧ (j : Int) < A1.bal.length := by
      by_cases h : (i : Int) < A1.bal.length ∧ (j : Int) < A1.bal.length
      · exact h
      · exact absurd (by rw [decide_eq_false h]; rfl) c1
    walk_at "rs"
    refine ⟨p, _, dx, _, .ref cd, rfl, s2 _ _ h1, T.cl_Ledger, T.a_Ledger_codes, rfl, ?_⟩
    walk_at "rs"
    refine ⟨cd, _, _, _, rfl, rfl, SqT.of (s2 _ _ h3), at_strs (by omega), ?_⟩
    walk_at "rs"
    refine ite2 (fun c2 => ?_) (fun c2 => ?_)
    · have c2 : A1.cds.getD j "" = "" := V.str.inj (of_decide_eq_true c2)
      walk_at "rs"
      exact k1 (if_neg fun h => h.2 (by rw [Int.toNat_natCast]; exact c2)) H2 s2
    have c2 : A1.cds.getD j "" ≠ "" := fun h => c2 (decide_eq_true (congrArg V.str h))
    rw [if_pos ⟨c1, by rw [Int.toNat_natCast]; exact c2⟩, Int.toNat_natCast] at k1
    rw [if_pos ⟨c1, by rw [Int.toNat_natCast]; exact c2⟩, Int.toNat_natCast, Int.toNat_natCast] at k2
    have hj : j < A1.bal.length := by omega
    have gs := ga.st _ (getD_memS (xs := A1.sts) (d := []) (i := j) (by omega))
    have bn : 0 ≤ A1.bal.getD j 0 := ga.nn _ (getD_mem hj)
    have lc : (A1.cds.getD j "").length ≤ 1000 := (ga.co _ (getD_memS (xs := A1.cds) (d := "") (i := j) (by omega))).1
    obtain ⟨o, ps, g1, g2, g3⟩ := paired_at (d := 0) (e := []) (i := j) h5 (by omega)
    have vsE : ∀ d : Addr, [V.str (A1.cds.getD j ""), V.int (gn : Int), V.int (A1.bal.getD j 0), V.ref d] = [V.str (callG A1 j gn).code, V.int ((callG A1 j gn).given : Nat), V.int ((callG A1 j gn).amount : Nat), V.ref d] := fun d => by
      show _ = [V.str (A1.cds.getD j ""), V.int (((gn : Int).toNat : Nat) : Int), V.int (((A1.bal.getD j 0).toNat : Nat) : Int), V.ref d]
      rw [Int.toNat_natCast, Int.toNat_of_nonneg bn]
    have lcode : (callG A1 j gn).code.length ≤ 5000 := Nat.le_trans lc (by decide)
    have hat := at_tup hj
    generalize callG A1 j gn = G at k1 k2 vsE lcode
    generalize A1.sts.getD j [] = kv at k1 k2 gs g3
    generalize A1.bal.getD j 0 = bv at k1 k2 vsE bn hat
    walk_at "rs"
    refine ⟨p, _, dx, _, .ref b1, rfl, s2 _ _ h1, T.cl_Ledger, T.a_Ledger_balances, rfl, ?_⟩
    walk_at "rs"
    refine ⟨b1, _, _, _, rfl, rfl, SqT.of (s2 _ _ h2), hat, ?_⟩
    walk_at "rs"
    refine ⟨p, _, dx, _, .ref cd, rfl, s2 _ _ h1, T.cl_Ledger, T.a_Ledger_codes, rfl, ?_⟩
    walk_at "rs"
    refine ⟨cd, _, _, _, rfl, rfl, SqT.of (s2 _ _ h3), at_strs (by omega), ?_⟩
    walk_at "rs"
    refine ⟨p, _, dx, _, .ref s1, rfl, s2 _ _ h1, T.cl_Ledger, T.a_Ledger_stores, rfl, ?_⟩
    walk_at "rs"
    refine ⟨s1, _, _, _, rfl, rfl, SqT.of (s2 _ _ h4), at_refs (by omega), ?_⟩
    refine ⟨_, o, ps, kvV kv, rfl, s2 _ _ g1, g2, pairs_sq (imp_paired g3 fun _ _ => s2 _ _), fun d hd => ?_⟩
    rw [show mergeK [] (kvV kv) = kvV kv from merge_kv (done := []) gs.nd]
    have s3' := same_new (o := .dK (kvV kv)) hd
    have s3 := s2.trans s3'
    have hd3 : upd H2 d (.dK (kvV kv)) d = some (.dK (kvV kv)) := upd_same
    generalize upd H2 d (.dK (kvV kv)) = H3 at s3' s3 hd3 ⊢
    refine ⟨d, G, kv, vsE d, hd3, gs.mono hm, lcode, fun m' n' ef r S dr H4 s4' nS hS hr' => ?_, fun n' ef r S dr H4 s4' nS hS hr' => ?_⟩
    · have s4 := s3.trans s4'
      rw [ef] at k1 k2
      replace k1 : (if (m'.pd : Int) ≤ bv then some (⟨moveA A1.bal j i (m'.pd : Int), A1.cds, A1.sts.set j (leftM m')⟩ : Ac) else none) = none → ∀ H', Same H H' → Q .non H' := k1
      replace k2 : ∀ r H' B, (if (m'.pd : Int) ≤ bv then some (⟨moveA A1.bal j i (m'.pd : Int), A1.cds, A1.sts.set j (leftM m')⟩ : Ac) else none) = some B → Same H H' → LgAt a.C_Ledger H' r B → Q (.ref r) H' := k2
      walk_at "rs"
      refine ⟨r, _, dr, _, .bl true, rfl, hr', T.cl_Run, T.a_Run_well, rfl, ?_⟩
      walk_at "rs"
      refine ⟨r, _, dr, _, .int (m'.pd : Nat), rfl, hr', T.cl_Run, T.a_Run_paid, rfl, ?_⟩
      walk_at "rs"
      refine ite2 (fun c3 => ?_) (fun c3 => ?_)
      · have c3 : (m'.pd : Int) > bv := of_decide_eq_true c3
        walk_at "rs"
        exact k1 (if_neg (by omega)) H4 s4
      have c3 : (m'.pd : Int) ≤ bv := by
        have : ¬ (m'.pd : Int) > bv := fun h => c3 (decide_eq_true h)
        omega
      walk_at "rs"
      refine ⟨p, _, dx, _, .ref s1, rfl, s4 _ _ h1, T.cl_Ledger, T.a_Ledger_stores, rfl, ?_⟩
      walk_at "rs"
      refine ⟨r, _, dr, _, .ref S, rfl, hr', T.cl_Run, T.a_Run_store, rfl, ?_⟩
      refine ⟨S, kvV (leftM m'), rfl, hS, fun H5 t0 o0 us s5' nt0 ho0 ht0 hus => ?_⟩
      have s5 := s4.trans s5'
      walk_at "rs"
      refine ⟨s1, ts.map V.ref, j, .ref t0, rfl, s5 _ _ h4, by rw [List.length_map]; omega, by rw [List.length_map]; omega, fun qs H6 s6' hqs => ?_⟩
      rw [set_map] at hqs
      have s6 := s5.trans s6'
      walk_at "rs"
      refine ⟨p, _, dx, _, .ref b1, rfl, s6 _ _ h1, T.cl_Ledger, T.a_Ledger_balances, rfl, ?_⟩
      walk_at "rs"
      refine ⟨r, _, dr, _, .int (m'.pd : Nat), rfl, s6' _ _ (s5' _ _ hr'), T.cl_Run, T.a_Run_paid, rfl, ?_⟩
      walk_at "rs"
      refine ⟨b1, A1.bal, j, i, _, rfl, s6 _ _ h2, by omega, by omega, by omega, fun q H7 s7' hq => ?_⟩
      have s7 := s6.trans s7'
      walk_at "rs"
      refine ⟨p, _, dx, _, .ref cd, rfl, s7 _ _ h1, T.cl_Ledger, T.a_Ledger_codes, rfl, ?_⟩
      walk_at "rs"
      intro f df hf1 hdf ndf
      refine ⟨f, df, _, _, _, rfl, upd_same, fun H8 h8' keep => ⟨rfl, ?_⟩⟩
      have s8' := made hf1 hdf keep
      have s8 := s7.trans s8'
      have s58 := s6'.trans (s7'.trans s8')
      exact k2 f H8 _ (if_pos c3) s8 ⟨df, q, cd, qs, ts.set j t0, h8', s8' _ _ hq, s8 _ _ h3, s8' _ _ (s7' _ _ hqs), paired_set ⟨o0, us, s58 _ _ ht0, ho0, imp_paired (pairs_pr hus) fun _ _ => s58 _ _⟩ j (imp_paired h5 fun _ _ z => z.same s8)⟩
    · have s4 := s3.trans s4'
      rw [ef] at k1
      walk_at "rs"
      refine ⟨r, _, dr, _, .bl false, rfl, hr', T.cl_Run, T.a_Run_well, rfl, ?_⟩
      walk_at "rs"
      refine ite2 (fun _ => ?_) (fun c => absurd rfl c)
      walk_at "rs"
      refine ite2 (fun _ => ?_) (fun c => absurd rfl c)
      walk_at "rs"
      exact k1 rfl H4 s4

def spDone (C : Addr) : Sp := fun vs H Q _ => ∃ (p c : Addr) (A : Ac) (x : Cm) (n k : Nat), vs = [.ref p, .ref c] ∧ LgAt C H p A ∧ CmAt H c x ∧ x.fine ∧ GoodA n k A ∧ k ≤ 30000 ∧
  (afterA A x = none → ∀ H', Same H H' → Q .non H') ∧ ∀ r H' B, afterA A x = some B → Same H H' → LgAt C H' r B → Q (.ref r) H'
theorem ok_done (TE : TxtE w K mg a) (T : Txt K mg a) : ∃ fd, FnOk P w K mg base CX0 7 a.d_done fd ["ledger", "command"] (spDone a.C_Ledger) ∧ Binds K fd ["ledger", "command"] [] := by
  obtain ⟨fd, F, b⟩ := T.d_done.F
  obtain ⟨fd_payment, G_payment, b_payment⟩ := ok_payment (P := P) (w := w) (base := base) T
  obtain ⟨fd_new_program, G_new_program, b_new_program⟩ := ok_new_program (P := P) (w := w) (base := base) T
  obtain ⟨fd_call, G_call, b_call⟩ := ok_call (P := P) (w := w) (base := base) TE T
  refine ⟨fd, F.ok sc_done (fun vs H Q E h => ?_) (fun cdv A outer s H vs Q E hr h => ?_), b⟩
  · obtain ⟨_, _, _, _, _, _, rfl, _⟩ := h
    rfl
  · obtain ⟨p, c, A1, x, n, m, rfl, hp, hc, fx, ga, hm, k1, k2⟩ := h
    have few : A1.bal.length ≤ 100 := by
      have := ga.lb
      have := ga.few
      omega
    have lps : x.ps.length ≤ 3 := by cases x <;> simp [Cm.ps]
    refine ⟨_, (pss_cons (ps_asg (pv 1) (pg_starT rfl (pgs_cons (pg_name (i := 2) sc_done.nd rfl (Or.inl rfl)) (pgs_cons (pg_name (i := 3) sc_done.nd rfl (Or.inl rfl)) pgs_nil))))
      (pss_cons (ps_if (pt_cmpR op_eq (pv 2) pe_str (nomark _))
      (pss_cons (ps_asg (pv 3) (pg_lst rfl (pgs_cons (pg_name (i := 4) sc_done.nd rfl (Or.inl rfl)) (pgs_cons (pg_name (i := 5) sc_done.nd rfl (Or.inl rfl)) (pgs_cons (pg_name (i := 6) sc_done.nd rfl (Or.inl rfl)) pgs_nil)))))
        (pss_one (ps_ret (pe_call G_payment (hr.mono (by decide)) rfl T.d_payment.g T.d_payment.kp b_payment .nil pass0 (pa_cons (pv 0) (pa_cons (pv 4) (pa_cons (pv 5) (pa_cons (pv 6) pa_nil))))))))
      pss_nil)
      (pss_cons (ps_if (pt_cmpR op_eq (pv 2) pe_str (nomark _))
      (pss_cons (ps_asg (pv 3) (pg_lst rfl (pgs_cons (pg_name (i := 7) sc_done.nd rfl (Or.inl rfl)) (pgs_cons (pg_name (i := 8) sc_done.nd rfl (Or.inl rfl)) pgs_nil))))
        (pss_one (ps_ret (pe_call G_new_program (hr.mono (by decide)) rfl T.d_new_program.g T.d_new_program.kp b_new_program .nil pass0 (pa_cons (pv 0) (pa_cons (pv 7) (pa_cons (pv 8) pa_nil)))))))
      pss_nil)
      (pss_cons (ps_if (pt_cmpR op_eq (pv 2) pe_str (nomark _))
      (pss_cons (ps_asg (pv 3) (pg_lst rfl (pgs_cons (pg_name (i := 9) sc_done.nd rfl (Or.inl rfl)) (pgs_cons (pg_name (i := 10) sc_done.nd rfl (Or.inl rfl)) (pgs_cons (pg_name (i := 11) sc_done.nd rfl (Or.inl rfl)) pgs_nil)))))
        (pss_one (ps_ret (pe_call G_call (hr.mono (by decide)) rfl T.d_call.g T.d_call.kp b_call .nil pass0 (pa_cons (pv 0) (pa_cons (pv 9) (pa_cons (pv 10) (pa_cons (pv 11) pa_nil))))))))
      pss_nil)
      (pss_one (ps_ret pe_non)))))), ?_⟩
    walk_at "rs"
    refine ⟨c, .str x.ki, x.ps, rfl, SqT.of hc, by omega, fun l hl => ?_⟩
    dsimp only
    have s1 := same_new (o := .lst x.ps) hl
    have h1 : upd H l (.lst x.ps) l = some (.lst x.ps) := upd_same
    generalize upd H l (.lst x.ps) = H1 at s1 h1 ⊢
    cases x with
    | p x y z =>
      change gCons _ _ [V.str ("p" : Str), V.ref l] _ _ _
      refine ⟨_, _, rfl, _, _, rfl, rfl, ?_⟩
      walk_at "rs"
      refine ⟨l, _, rfl, SqL.of h1, rfl, _, _, rfl, _, _, rfl, _, _, rfl, rfl, ?_⟩
      walk_at "rs"
      exact ⟨p, A1, x, y, z, rfl, hp.same s1, few, fx.1, fx.2.1, fx.2.2, fun e H' s' => k1 e H' (s1.trans s'), fun r H' B e s' => k2 r H' B e (s1.trans s')⟩
    | d x z =>
      change gCons _ _ [V.str ("d" : Str), V.ref l] _ _ _
      refine ⟨_, _, rfl, _, _, rfl, rfl, ?_⟩
      walk_at "rs"
      refine ⟨l, _, rfl, SqL.of h1, rfl, _, _, rfl, _, _, rfl, rfl, ?_⟩
      walk_at "rs"
      exact ⟨p, A1, n, m, x, z, rfl, hp.same s1, ga, fx.1, fun e H' s' => k1 e H' (s1.trans s'), fun r H' B e s' => k2 r H' B e (s1.trans s')⟩
    | k x y z =>
      change gCons _ _ [V.str ("k" : Str), V.ref l] _ _ _
      refine ⟨_, _, rfl, _, _, rfl, rfl, ?_⟩
      walk_at "rs"
      refine ⟨l, _, rfl, SqL.of h1, rfl, _, _, rfl, _, _, rfl, _, _, rfl, rfl, ?_⟩
      walk_at "rs"
      exact ⟨p, A1, n, m, x, y, z, rfl, hp.same s1, ga, hm, fx.1, fx.2.1, fx.2.2, fun e H' s' => k1 e H' (s1.trans s'), fun r H' B e s' => k2 r H' B e (s1.trans s')⟩
    | w x y =>
      change gCons _ _ [V.str ("w" : Str), V.ref l] _ _ _
      refine ⟨_, _, rfl, _, _, rfl, rfl, ?_⟩
      walk_at "rs"
      refine ite2 (fun c => absurd c (by decide +kernel)) (fun _ => ?_)
      walk_at "rs"
      exact k1 rfl H1 s1

def spAfter (C : Addr) : Sp := fun vs H Q _ => ∃ (p c : Addr) (A : Ac) (x : Cm) (n k : Nat), vs = [.ref p, .ref c] ∧ LgAt C H p A ∧ CmAt H c x ∧ x.fine ∧ GoodA n k A ∧ k ≤ 30000 ∧
  (afterA A x = none → ∀ q H', Same H H' → H' q = some (.tup [.ref p, .bl false]) → Q (.ref q) H') ∧ ∀ q r H' B, afterA A x = some B → Same H H' → LgAt C H' r B → H' q = some (.tup [.ref r, .bl true]) → Q (.ref q) H'
theorem ok_after_command (TE : TxtE w K mg a) (T : Txt K mg a) : ∃ fd, FnOk P w K mg base CX0 8 a.d_after_command fd ["ledger", "command"] (spAfter a.C_Ledger) ∧ Binds K fd ["ledger", "command"] [] := by
  obtain ⟨fd, F, b⟩ := T.d_after_command.F
  obtain ⟨fd_done, G_done, b_done⟩ := ok_done (P := P) (w := w) (base := base) TE T
  refine ⟨fd, F.ok sc_after_command (fun vs H Q E h => ?_) (fun cdv A outer s H vs Q E hr h => ?_), b⟩
  · obtain ⟨_, _, _, _, _, _, rfl, _⟩ := h
    rfl
  · obtain ⟨p, c, A1, x, n, m, rfl, hp, hc, fx, ga, hm, k1, k2⟩ := h
    refine ⟨_, (pss_cons (ps_set (i := 2) sc_after_command.nd rfl (Or.inl rfl) (pe_call G_done (hr.mono (by decide)) rfl T.d_done.g T.d_done.kp b_done .nil pass0 (pa_cons (pv 0) (pa_cons (pv 1) pa_nil))))
      (pss_cons (ps_if (pt_cmpR op_isN (pv 2) pe_non (nomark _))
      (pss_one (ps_ret (pe_tup (pa_cons (pv 0) (pa_cons pe_bl pa_nil)))))
      pss_nil)
      (pss_one (ps_ret (pe_tup (pa_cons (pv 2) (pa_cons pe_bl pa_nil))))))), ?_⟩
    walk_at "rs"
    refine ⟨p, c, A1, x, n, m, rfl, hp, hc, fx, ga, hm, fun e H1 s1 => ?_, fun r H1 B e s1 hr1 => ?_⟩
    · walk_at "rs"
      refine ⟨(by show 2 ≤ sizeLine; decide), fun q hq => ?_⟩
      exact k1 e q _ (same_upd s1 (s1.free hq)) upd_same
    · walk_at "rs"
      refine ⟨(by show 2 ≤ sizeLine; decide), fun q hq => ?_⟩
      exact k2 q r _ B e (same_upd s1 (s1.free hq)) (hr1.same (same_new hq)) upd_same

def spWeights (K : PySem.W.Frag) : Sp := fun vs H Q _ => ∃ (cell most : Int), vs = [.int cell, .int most] ∧ 0 < most ∧ most ≤ 16 ∧ ∀ p (ws : List Int) H', Same H H' → H' p = some (.lst (ws.map V.int)) → GoodW ws → ws.length ≤ most.toNat → Q (.ref p) H'

theorem ok_law_cell (T : Txt K mg a) : ∃ fd, FnOk P w K mg base CX0 1 a.d_law_cell fd ["script", "k"] (spCell K) ∧ Binds K fd ["script", "k"] [] := by
  obtain ⟨fd, F, b⟩ := T.d_law_cell.F
  refine ⟨fd, F.ok sc_law_cell (fun vs H Q E h => ?_) (fun cdv A outer s H vs Q E hr h => ?_), b⟩
  · obtain ⟨a, ns, k, rfl, _⟩ := h
    rfl
  · obtain ⟨l, ns, k, rfl, hS, hl, hk, q⟩ := h
    refine ⟨_, (pss_cons (ps_if (pt_cmpR op_lt (pv 1) (pe_callB call_len_seq (by rfl) T.n_len PySem.boot_len (pa_cons (pv 0) pa_nil)) (nomark _))
      (pss_one (ps_ret (pe_ix ix_list (pv 0) (pv 1) (fun _ _ => rfl))))
      pss_nil)
      (pss_one (ps_ret pe_int))), ?_⟩
    refine ⟨_, rfl, _, rfl, l, _, rfl, .inl hS, _, _, rfl, rfl, _, rfl, ?_⟩
    refine ite2 (fun hlt => ?_) (fun hge => ?_)
    · have hlt : k < ((ns.map V.int).length : Int) := of_decide_eq_true hlt
      rw [List.length_map] at hlt
      have hj : k.toNat < ns.length := by omega
      have e : ns.getD k.toNat 0 = ns[k.toNat] := by rw [List.getD_eq_getElem?_getD, List.getElem?_eq_getElem hj]; rfl
      rw [e] at q
      refine ⟨_, rfl, _, rfl, l, _, k, .int ns[k.toNat], rfl, rfl, hS, at_of (j := k.toNat) (by omega) (by rw [List.getElem?_map, List.getElem?_eq_getElem hj]; rfl), q⟩
    · have hge : ¬ k < ((ns.map V.int).length : Int) := fun e => hge (decide_eq_true e)
      rw [List.length_map] at hge
      have e : ns.getD k.toNat 0 = 0 := by rw [List.getD_eq_getElem?_getD, List.getElem?_eq_none (by omega)]; rfl
      rw [e] at q
      exact q

theorem ok_law_row (T : Txt K mg a) : ∃ fd, FnOk P w K mg base CX0 1 a.d_law_row fd ["cell", "count", "size"] (spRow K) ∧ Binds K fd ["cell", "count", "size"] [] := by
  obtain ⟨fd, F, b⟩ := T.d_law_row.F
  refine ⟨fd, F.ok sc_law_row (fun vs H Q E h => ?_) (fun cdv A outer s H vs Q E hr h => ?_), b⟩
  · obtain ⟨_, _, _, rfl, _⟩ := h
    rfl
  · obtain ⟨cell, count, size, rfl, c0, c1, z0, z1, k⟩ := h
    refine ⟨_, (pss_cons (ps_set (i := 3) sc_law_row.nd rfl (Or.inl rfl) (pv 0))
      (pss_cons (ps_set (i := 4) sc_law_row.nd rfl (Or.inl rfl) (pe_lst pa_nil))
      (pss_cons (ps_for PassesOwn.never rfl (pi_range1 rfl T.n_range (pa_cons (pv 1) pa_nil)) (pg_name (i := 5) sc_law_row.nd rfl (Or.inl rfl))
      (pss_one (ps_if (pt_cmpR op_ge (pv 0) (pe_op op_pow pe_int pe_int) (nomark _))
        (pss_cons (ps_expr (pe_bm PySem.F.plainAttrs_list PySem.F.slot_list_append PySem.F.type_list_append mt_append (pv 4) (pa_cons (pe_op op_mod (pe_callTy call_int1 (by rfl) T.n_int (by decide +kernel) (pa_cons (pv 3) pa_nil)) (pv 2)) pa_nil)))
          (pss_one (ps_set (i := 3) sc_law_row.nd rfl (Or.inl rfl) (pe_op op_fdivN (pv 3) (pv 2)))))
        (pss_cons (ps_set (i := 3) sc_law_row.nd rfl (Or.inl rfl) (pe_op op_mod (pe_callTy call_int1 (by rfl) T.n_int (by decide +kernel) (pa_cons (pe_op op_add (pe_op op_mul (pv 3) pe_int) pe_int) pa_nil)) pe_int))
          (pss_one (ps_expr (pe_bm PySem.F.plainAttrs_list PySem.F.slot_list_append PySem.F.type_list_append mt_append (pv 4) (pa_cons (pe_op op_mod (pe_op op_mod (pe_callTy call_int1 (by rfl) T.n_int (by decide +kernel) (pa_cons (pe_op op_add (pe_op op_mul (pv 3) pe_int) (pe_op op_mul (pv 5) pe_int)) pa_nil)) pe_int) (pv 2)) pa_nil))))))))
      (pss_one (ps_ret (pv 4)))))), ?_⟩
    walk_at "rs"
    refine ⟨(by show 0 ≤ sizeLine; decide), fun p hp => ?_⟩
    walk_at "rs"
    refine ⟨(by show -(2 ^ 62 : Int) ≤ _; omega), (by show _ < (2 ^ 62 : Int); omega), ?_⟩
    refine for_range (lo := 0) (n := count.toNat) (fun i σ H2 => ∃ (st : Int) (row : List Int) (v5 : Option V), σ = [some (.int cell), some (.int count), some (.int size), some (.int st), some (.ref p), v5] ∧ Same H H2 ∧
      H2 p = some (.lst (row.map V.int)) ∧ row.length = i ∧ ∀ x ∈ row, 0 ≤ x ∧ x < size) ⟨_, [], _, rfl, same_new hp, upd_same, rfl, fun x hx => nomatch hx⟩ ?_ ?_
    · rintro i σ H2 hi ⟨st, row, v5, rfl, s2, hrow, hlen, hb⟩
      have fit : (row.map V.int).length < sizeLine := by
        rw [List.length_map]
        exact small1000 (by omega)
      have grow : ∀ z : Int, 0 ≤ z → z < size → ∀ x ∈ row ++ [z], 0 ≤ x ∧ x < size := fun z h0 h1 x hx => by
        rcases List.mem_append.mp hx with hx | hx
        · exact hb x hx
        · rw [List.mem_singleton.mp hx]
          exact ⟨h0, h1⟩
      walk_at "rs"
      refine ite2 (fun c1 => ?_) (fun c1 => ?_)
      · walk_at "rs"
        refine ⟨.inl ⟨rfl, _, SqL.of hrow⟩, ?_⟩
        walk_at "rs"
        refine ⟨p, _, _, rfl, rfl, hrow, fit, ?_⟩
        walk_at "rs"
        refine ⟨(show CDivN _ _ from ⟨by omega, by omega⟩), ?_⟩
        exact ⟨_, row ++ [st % size], _, rfl, same_upd s2 hp, by rw [upd_same]; simp, by simp [hlen], grow _ (Int.emod_nonneg _ (by omega)) (Int.emod_lt_of_pos _ z0)⟩
      · walk_at "rs"
        refine ⟨.inl ⟨rfl, _, SqL.of hrow⟩, ?_⟩
        walk_at "rs"
        refine ⟨p, _, _, rfl, rfl, hrow, fit, ?_⟩
        exact ⟨_, row ++ [((st * 48271 + 12345) % 2147483647 * 69621 + (i : Int) * 7919) % 2147483647 % size], _, rfl, same_upd s2 hp, by rw [upd_same]; simp, by simp [hlen], grow _ (Int.emod_nonneg _ (by omega)) (Int.emod_lt_of_pos _ z0)⟩
    · rintro σ H2 ⟨st, row, v5, rfl, s2, hrow, hlen, hb⟩
      walk_at "rs"
      exact k p row H2 s2 hrow hlen hb hp

theorem ok_law_weights (T : Txt K mg a) : ∃ fd, FnOk P w K mg base CX0 2 a.d_law_weights fd ["cell", "most"] (spWeights K) ∧ Binds K fd ["cell", "most"] [] := by
  obtain ⟨fd, F, b⟩ := T.d_law_weights.F
  obtain ⟨fd_law_row, G_law_row, b_law_row⟩ := ok_law_row (P := P) (w := w) (base := base) T
  refine ⟨fd, F.ok sc_law_weights (fun vs H Q E h => ?_) (fun cdv A outer s H vs Q E hr h => ?_), b⟩
  · obtain ⟨_, _, rfl, _⟩ := h
    rfl
  · obtain ⟨cell, most, rfl, m0, m1, k⟩ := h
    refine ⟨_, (pss_cons (ps_set (i := 2) sc_law_weights.nd rfl (Or.inl rfl) (pe_op op_add pe_int (pe_op op_mod (pe_callTy call_int1 (by rfl) T.n_int (by decide +kernel) (pa_cons (pv 0) pa_nil)) (pv 1))))
      (pss_cons (ps_if (pt_cmpR op_eq (pe_op op_mod (pe_op op_fdiv (pv 0) pe_int) pe_int) pe_int (nomark _))
      (pss_one (ps_ret (pe_op op_rep (pe_lst (pa_cons pe_int pa_nil)) (pv 2))))
      pss_nil)
      (pss_one (ps_ret (pe_lc (own := [("value", 3)]) (g := (gName 3)) (tt := tYes) rfl sc_law_weights.nd (pi_list (pe_call G_law_row (hr.mono (by decide)) rfl T.d_law_row.g T.d_law_row.kp b_law_row .nil pass0 (pa_cons (pe_op op_fdiv (pv 0) pe_int) (pa_cons (pv 2) (pa_cons pe_int pa_nil))))) (blkOk_by (own := [("value", 3)]) (N := sc_law_weights_N) (sc := defScope s_law_weights) (by decide +kernel)) (fun _ _ _ _ _ => (pg_name (i := 3) sc_law_weights.nd rfl (Or.inl rfl))) (fun _ _ _ _ _ => pts_nil) (fun _ _ _ _ _ => (pe_op op_add pe_int (pv 3)))))))), ?_⟩
    have c0 : 0 ≤ cell % most := Int.emod_nonneg _ (by omega)
    have c1 : cell % most < most := Int.emod_lt_of_pos _ (by omega)
    walk_at "rs"
    refine ite2 (fun c2 => ?_) (fun c2 => ?_)
    · walk_at "rs"
      refine ⟨(by show 1 ≤ sizeLine; decide), fun p hp => ?_⟩
      walk_at "rs"
      refine ⟨p, _, _, rfl, rfl, upd_same, (by show -(2 ^ 63 : Int) ≤ 1 + cell % most; omega), (by show 1 + cell % most < (2 ^ 63 : Int); omega), (by rw [sizeLine_eq]; show 1 * (1 + cell % most).toNat ≤ _; omega), fun q hq => ?_⟩
      refine k q (List.replicate (1 + cell % most).toNat 1) _ (same_upd (same_new hp) (Same.free (same_new hp) hq)) (by rw [upd_same]; simp) ⟨by rw [List.length_replicate]; omega, by rw [List.length_replicate]; omega, fun x hx => ?_⟩ (by rw [List.length_replicate]; omega)
      rw [(List.mem_replicate.mp hx).2]
      decide
    · walk_at "rs"
      refine ⟨_, _, _, rfl, by omega, by omega, by decide, by decide, fun p row H1 s1 hrow hlen hb hp => ?_⟩
      refine ⟨p, rfl, ⟨_, SqL.of hrow⟩, fun D hD => ?_⟩
      have nDp : D ≠ p := (ne_of_none hrow hD).symm
      refine lc_list (K := K) (a := p) (xs := row.map V.int) (fun i H2 => Same H1 H2 ∧ H2 D = some (.lst (((row.take i).map (1 + ·)).map V.int))) ⟨same_new hD, upd_same⟩ (fun i H2 _ ⟨s2, _⟩ => SqL.of (s2 _ _ hrow)) ?_ ?_
      · rintro i x H2 hx ⟨s2, hd⟩
        have hi : i < row.length := by
          have e := (List.getElem?_eq_some_iff.mp hx).1
          rwa [List.length_map] at e
        rw [at_ints hi] at hx
        cases hx
        refine ⟨rfl, ?_⟩
        walk_at "rs"
        refine ⟨_, hd, by simp only [List.length_map, List.length_take]; exact small1000 (by omega), same_upd s2 hD, ?_⟩
        rw [upd_same, List.take_add_one, List.getElem?_eq_getElem hi, List.getD_eq_getElem?_getD, List.getElem?_eq_getElem hi]
        simp only [Option.toList_some, Option.getD_some, List.map_append, List.map_cons, List.map_nil]
      · rintro H2 ⟨s2, hd⟩
        have e : row.take (row.map V.int).length = row := by rw [List.length_map, List.take_length]
        rw [e] at hd
        refine k D _ H2 (fun b o z => s2 _ _ (s1 _ _ z)) hd ⟨by rw [List.length_map]; omega, by rw [List.length_map]; omega, fun x hx => ?_⟩ (by rw [List.length_map]; omega)
        obtain ⟨y, hy, rfl⟩ := List.mem_map.mp hx
        have := hb y hy
        omega

theorem ok_law_is_integer (T : Txt K mg a) : ∃ fd, FnOk P w K mg base CX0 1 a.d_law_is_integer fd ["actual"] (spIsInt K) ∧ Binds K fd ["actual"] [] := by
  obtain ⟨fd, F, b⟩ := T.d_law_is_integer.F
  refine ⟨fd, F.ok sc_law_is_integer (fun vs H Q E h => ?_) (fun cdv A outer s H vs Q E hr h => ?_), b⟩
  · obtain ⟨_, rfl, _⟩ := h
    rfl
  · obtain ⟨i, rfl, k⟩ := h
    refine ⟨_, (pss_one (ps_ret (pe_and (pe_callB call_isi (by rfl) T.n_isinstance (by decide +kernel) (pa_cons (pv 0) (pa_cons (pe_bltn (v := .ty "int") (u := .type "int") (by rfl) T.n_int (by decide +kernel) rfl) pa_nil))) (pe_one (pe_not (pe_callB call_isi (by rfl) T.n_isinstance (by decide +kernel) (pa_cons (pv 0) (pa_cons (pe_bltn (v := .ty "bool") (u := .type "bool") (by rfl) T.n_bool (by decide +kernel) rfl) pa_nil)))))))), ?_⟩
    walk_at "rs"
    refine ⟨_, _, .type "int", .type "int", true, rfl, .ty _, .base (.int _), kit_ty (by decide +kernel), ?_⟩
    walk_at "rs"
    refine ⟨_, _, .type "int", .type "bool", false, rfl, .ty _, .base (.int _), kit_ty (by decide +kernel), ?_⟩
    walk_at "rs"
    exact k

theorem nu_tl {i : Int} (h : NOk i) : TL.tl (nu i) = TL.numL i.toNat := by
  unfold nu
  rw [← TL.tl_num, Int.toNat_of_nonneg h.1]
theorem nu_neg {n : Nat} : TL.tl (nu (Int.negSucc n)) = 45 :: TL.numL (n + 1) := by
  unfold nu
  rw [TL.tl_ofString]
  show (("-" ++ (n + 1).repr).toList.map Char.toNat) = _
  rw [String.toList_append, List.map_append]
  unfold TL.numL Nat.repr
  simp
theorem nu_len {i : Int} (h : WOk i) : (nu i).length ≤ 7 := by
  obtain ⟨h0, h1⟩ := id h
  rw [TL.len_tl]
  cases i with
  | ofNat n =>
    show (TL.tl (Str.ofString (toString ((n : Nat) : Int)))).length ≤ 7
    rw [TL.tl_num]
    exact TL.numL_len (k := 7) (by decide) (by have : ((n : Nat) : Int) ≤ 2000000 := h1; omega)
  | negSucc n =>
    rw [nu_neg, List.length_cons]
    have : n + 1 ≤ 1000 := by omega
    have := TL.numL_len (n := n + 1) (k := 4) (by decide) (by omega)
    omega
theorem nu_log {i : Int} (h : WOk i) : i.natAbs.log2 < 1920 := by
  obtain ⟨h0, h1⟩ := h
  rcases Nat.eq_zero_or_pos i.natAbs with z | z
  · rw [z]
    decide
  · have : i.natAbs.log2 < 30 := (Nat.log2_lt (Nat.ne_of_gt z)).mpr (by omega)
    omega
theorem bits_len {c : Cm} (ok : c.ok) : (c.bits.map fun x => x.length).sum ≤ 270 := by
  cases c with
  | p a b d =>
    obtain ⟨o1, o2, o3⟩ := ok
    have := nu_len o1
    have := nu_len o2
    have := nu_len o3
    simp only [Cm.bits, List.map, List.sum_cons, List.sum_nil, PySem.Str.length_append]
    have l1 : ("p" : Str).length = 1 := rfl
    have l2 : ("q" : Str).length = 1 := rfl
    have l3 : ("r" : Str).length = 1 := rfl
    omega
  | w a b =>
    obtain ⟨o1, o2⟩ := ok
    have := nu_len o1
    have := nu_len o2
    simp only [Cm.bits, List.map, List.sum_cons, List.sum_nil, PySem.Str.length_append]
    have l1 : ("w" : Str).length = 1 := rfl
    have l2 : ("x" : Str).length = 1 := rfl
    omega
  | k a b d =>
    obtain ⟨o1, o2, o3⟩ := ok
    have := nu_len o1
    have := nu_len o2
    have := nu_len o3
    simp only [Cm.bits, List.map, List.sum_cons, List.sum_nil, PySem.Str.length_append]
    have l1 : ("k" : Str).length = 1 := rfl
    have l2 : ("b" : Str).length = 1 := rfl
    have l3 : ("v" : Str).length = 1 := rfl
    omega
  | d a s =>
    obtain ⟨o1, o2, o3⟩ := ok
    have := nu_len o1
    simp only [Cm.bits, List.map, List.sum_cons, List.sum_nil, PySem.Str.length_append]
    have l1 : ("d" : Str).length = 1 := rfl
    have l2 : ("z" : Str).length = 1 := rfl
    omega
theorem join_nil_len : ∀ l : List Str, (Str.join "" l).length = (l.map fun x => x.length).sum
  | [] => rfl
  | [x] => by simp [Str.join]
  | x :: y :: r => by
    have ih := join_nil_len (y :: r)
    show ((x ++ "") ++ Str.join "" (y :: r)).length = _
    rw [PySem.Str.length_append, PySem.Str.length_append, ih]
    rfl

theorem ok_law_number (T : Txt K mg a) : ∃ fd, FnOk P w K mg base CX0 1 a.d_law_number fd ["cell"] spNumber ∧ Binds K fd ["cell"] [] := by
  obtain ⟨fd, F, b⟩ := T.d_law_number.F
  refine ⟨fd, F.ok sc_law_number (fun vs H Q E h => ?_) (fun cdv A outer s H vs Q E hr h => ?_), b⟩
  · obtain ⟨_, rfl, _⟩ := h
    rfl
  · obtain ⟨c, rfl, k⟩ := h
    refine ⟨_, (pss_cons (ps_if (pt_cmpR op_eq (pe_op op_mod (pe_callTy call_int1 (by rfl) T.n_int (by decide +kernel) (pa_cons (pv 0) pa_nil)) pe_int) pe_int (nomark _))
      (pss_one (ps_ret (pe_op op_mod (pe_op op_fdiv (pv 0) pe_int) pe_int)))
      pss_nil)
      (pss_cons (ps_if (pt_cmpR op_eq (pe_op op_mod (pe_callTy call_int1 (by rfl) T.n_int (by decide +kernel) (pa_cons (pv 0) pa_nil)) pe_int) pe_int (nomark _))
      (pss_one (ps_ret (pe_op op_mod (pe_op op_fdiv (pv 0) pe_int) pe_int)))
      pss_nil)
      (pss_one (ps_ret (pe_op op_mod (pe_op op_fdiv (pv 0) pe_int) pe_int))))), ?_⟩
    have b1 := Int.emod_nonneg (c / 3) (show (6 : Int) ≠ 0 by decide)
    have b2 := Int.emod_lt_of_pos (c / 3) (show (0 : Int) < 6 by decide)
    have b3 := Int.emod_nonneg (c / 3) (show (1000 : Int) ≠ 0 by decide)
    have b4 := Int.emod_lt_of_pos (c / 3) (show (0 : Int) < 1000 by decide)
    have b5 := Int.emod_nonneg (c / 3) (show (1000000 : Int) ≠ 0 by decide)
    have b6 := Int.emod_lt_of_pos (c / 3) (show (0 : Int) < 1000000 by decide)
    walk_at "rs"
    refine ite2 (fun c1 => ?_) (fun c1 => ?_)
    · walk_at "rs"
      exact k _ ⟨b1, by omega⟩
    · walk_at "rs"
      refine ite2 (fun c1 => ?_) (fun c1 => ?_)
      · walk_at "rs"
        exact k _ ⟨b3, by omega⟩
      · walk_at "rs"
        exact k _ ⟨b5, by omega⟩
theorem ok_law_place (T : Txt K mg a) : ∃ fd, FnOk P w K mg base CX0 1 a.d_law_place fd ["cell"] spPlace ∧ Binds K fd ["cell"] [] := by
  obtain ⟨fd, F, b⟩ := T.d_law_place.F
  refine ⟨fd, F.ok sc_law_place (fun vs H Q E h => ?_) (fun cdv A outer s H vs Q E hr h => ?_), b⟩
  · obtain ⟨_, rfl, _⟩ := h
    rfl
  · obtain ⟨c, rfl, k⟩ := h
    refine ⟨_, (pss_cons (ps_if (pt_cmpR op_eq (pe_op op_mod (pe_op op_fdiv (pe_callTy call_int1 (by rfl) T.n_int (by decide +kernel) (pa_cons (pv 0) pa_nil)) pe_int) pe_int) pe_int (nomark _))
      (pss_one (ps_ret (pe_op op_add pe_int (pe_op op_mod (pe_op op_fdiv (pe_callTy call_int1 (by rfl) T.n_int (by decide +kernel) (pa_cons (pv 0) pa_nil)) pe_int) pe_int))))
      pss_nil)
      (pss_one (ps_ret (pe_op op_mod (pe_callTy call_int1 (by rfl) T.n_int (by decide +kernel) (pa_cons (pv 0) pa_nil)) pe_int)))), ?_⟩
    have b1 := Int.emod_nonneg c (show (6 : Int) ≠ 0 by decide)
    have b2 := Int.emod_lt_of_pos c (show (0 : Int) < 6 by decide)
    have b3 := Int.emod_nonneg (c / 30) (show (994 : Int) ≠ 0 by decide)
    have b4 := Int.emod_lt_of_pos (c / 30) (show (0 : Int) < 994 by decide)
    walk_at "rs"
    refine ite2 (fun c1 => ?_) (fun c1 => ?_)
    · walk_at "rs"
      exact k _ ⟨by omega, by omega⟩
    · walk_at "rs"
      exact k _ ⟨b1, by omega⟩
theorem sgn_ok : ∀ i : Fin 27, (TL.tl "0123456789gginasmtcehlujfyo").getD i.val 0 ∈ TL.tl "0123456789ginasmtcehlujfyo" := by decide +kernel
theorem sgn_len : (TL.tl "0123456789gginasmtcehlujfyo").length = 27 := by decide +kernel
theorem at_sign {l : List Nat} {i : Int} (h0 : 0 ≤ i) (h1 : i < l.length) : atI l i = some (l.getD i.toNat 0) := by
  have e : i = (i.toNat : Int) := by omega
  rw [e]
  refine atI_nat ?_
  rw [Int.toNat_natCast, List.getD_eq_getElem?_getD, List.getElem?_eq_getElem (by omega)]
  rfl
theorem ones_sum : ∀ {ys : List Str}, (∀ y ∈ ys, y.length = 1) → (ys.map fun x => x.length).sum = ys.length
  | [], _ => rfl
  | y :: ys, h => by
    rw [List.map_cons, List.sum_cons, ones_sum fun z hz => h z (List.mem_cons_of_mem _ hz), h y List.mem_cons_self, List.length_cons]
    omega
theorem join_sgn : ∀ {ys : List Str}, (∀ y ∈ ys, Sgn y) → ∀ n ∈ TL.joinL (TL.tl "") (ys.map TL.tl), n ∈ TL.tl "0123456789ginasmtcehlujfyo"
  | [], _, n, hn => by cases hn
  | [y], h, n, hn => h y List.mem_cons_self n hn
  | y :: z :: r, h, n, hn => by
    have hn : n ∈ TL.tl y ++ ([] ++ TL.joinL (TL.tl "") ((z :: r).map TL.tl)) := hn
    rw [List.nil_append] at hn
    rcases List.mem_append.mp hn with hn | hn
    · exact h y List.mem_cons_self n hn
    · exact join_sgn (fun u hu => h u (List.mem_cons_of_mem _ hu)) n hn
theorem ok_law_code (T : Txt K mg a) : ∃ fd, FnOk P w K mg base CX0 2 a.d_law_code fd ["cell"] spCode ∧ Binds K fd ["cell"] [] := by
  obtain ⟨fd, F, b⟩ := T.d_law_code.F
  obtain ⟨fd_law_row, G_law_row, b_law_row⟩ := ok_law_row (P := P) (w := w) (base := base) T
  refine ⟨fd, F.ok sc_law_code (fun vs H Q E h => ?_) (fun cdv A outer s H vs Q E hr h => ?_), b⟩
  · obtain ⟨_, rfl, _⟩ := h
    rfl
  · obtain ⟨c, rfl, k⟩ := h
    refine ⟨_, (pss_cons (ps_set (i := 1) sc_law_code.nd rfl (Or.inr rfl) pe_str)
      (pss_cons (ps_set (i := 2) sc_law_code.nd rfl (Or.inl rfl) (pe_call G_law_row (hr.mono (by decide)) rfl T.d_law_row.g T.d_law_row.kp b_law_row .nil pass0 (pa_cons (pe_op op_fdiv (pv 0) pe_int) (pa_cons (pe_op op_mod (pe_callTy call_int1 (by rfl) T.n_int (by decide +kernel) (pa_cons (pv 0) pa_nil)) pe_int) (pa_cons pe_int pa_nil)))))
      (pss_one (ps_ret (pe_join pe_str (pe_lc (own := [("digit", 3)]) (g := (gName 3)) (tt := tYes) rfl sc_law_code.nd (pi_list (pv 2)) (blkOk_by (own := [("digit", 3)]) (N := sc_law_code_N) (sc := defScope s_law_code) (by decide +kernel)) (fun _ _ _ _ _ => (pg_name (i := 3) sc_law_code.nd rfl (Or.inl rfl))) (fun _ _ _ _ _ => pts_nil) (fun _ _ _ _ _ => (pe_ix ix_str (pv 1) (pv 3) (fun _ _ => rfl))))))))), ?_⟩
    have b1 := Int.emod_nonneg c (show (13 : Int) ≠ 0 by decide)
    have b2 := Int.emod_lt_of_pos c (show (0 : Int) < 13 by decide)
    walk_at "rs"
    refine ⟨_, _, _, rfl, b1, by omega, by decide, by decide, fun D row H1 s1 hD lrow hrow _ => ?_⟩
    refine ⟨⟨_, rfl⟩, ?_⟩
    walk_at "rs"
    refine ⟨⟨_, SqL.of hD⟩, fun D2 hD2 => ?_⟩
    have lr : row.length ≤ 12 := by rw [lrow]; omega
    refine lc_list (K := K) (a := D) (xs := row.map V.int) (fun i H2 => Same H1 H2 ∧ ∃ ys : List Str, H2 D2 = some (.lst (ys.map V.str)) ∧ ys.length = i ∧ (∀ y ∈ ys, y.length = 1) ∧ ∀ y ∈ ys, Sgn y) ⟨same_new hD2, [], upd_same, rfl, fun y hy => absurd hy List.not_mem_nil, fun y hy => absurd hy List.not_mem_nil⟩ (fun i H2 _ ⟨s2, _⟩ => SqL.of (s2 _ _ hD)) ?_ ?_
    · rintro i y H2 hy ⟨s2, ys, hd, ly, l1, sg⟩
      have hi : i < row.length := by
        have e := (List.getElem?_eq_some_iff.mp hy).1
        rwa [List.length_map] at e
      rw [at_ints hi] at hy
      cases hy
      have hz := hrow _ (getD_mem hi)
      refine ⟨rfl, ?_⟩
      walk_at "rs"
      refine ⟨_, _, _, rfl, rfl, (by rw [sizeLine_eq]; decide +kernel), at_sign (l := TL.tl "0123456789gginasmtcehlujfyo") hz.1 (by rw [sgn_len]; omega), ?_⟩
      have hs := sgn_ok ⟨(row.getD i 0).toNat, by omega⟩
      refine ⟨_, hd, by rw [List.length_map]; exact small1000 (by omega), same_upd s2 hD2, ys ++ [⟨#[(TL.tl "0123456789gginasmtcehlujfyo").getD (row.getD i 0).toNat 0]⟩], by rw [upd_same, List.map_append]; rfl, by rw [List.length_append, ly]; rfl, fun y hy => ?_, fun y hy => ?_⟩
      · rcases List.mem_append.mp hy with hy | hy
        · exact l1 y hy
        · rw [List.mem_singleton.mp hy]
          rfl
      · rcases List.mem_append.mp hy with hy | hy
        · exact sg y hy
        · rw [List.mem_singleton.mp hy]
          intro n hn
          rw [TL.tl_mk, List.mem_singleton] at hn
          rw [hn]
          exact hs
    · rintro H2 ⟨s2, ys, hd, ly, l1, sg⟩
      walk_at "rs"
      refine ⟨_, _, ys, rfl, rfl, .inl (SqL.of hd), ?_, ?_⟩
      · have e : (ys.map fun x => x.length).sum = ys.length := ones_sum l1
        rw [List.length_map] at ly
        have l0 : ("" : Str).length = 0 := rfl
        rw [e, l0]
        omega
      · have e : (ys.map fun x => x.length).sum = ys.length := ones_sum l1
        rw [List.length_map] at ly
        refine k _ H2 (s1.trans s2) ?_ ?_
        · rw [TL.join_eq, join_nil_len, e]
          omega
        · intro n hn
          rw [TL.join_eq, TL.tl_join] at hn
          exact join_sgn sg n hn
theorem ok_law_command (T : Txt K mg a) : ∃ fd, FnOk P w K mg base CX0 3 a.d_law_command fd ["cell", "more"] spMake ∧ Binds K fd ["cell", "more"] [] := by
  obtain ⟨fd, F, b⟩ := T.d_law_command.F
  obtain ⟨fd_law_place, G_law_place, b_law_place⟩ := ok_law_place (P := P) (w := w) (base := base) T
  obtain ⟨fd_law_number, G_law_number, b_law_number⟩ := ok_law_number (P := P) (w := w) (base := base) T
  obtain ⟨fd_law_code, G_law_code, b_law_code⟩ := ok_law_code (P := P) (w := w) (base := base) T
  refine ⟨fd, F.ok sc_law_command (fun vs H Q E h => ?_) (fun cdv A outer s H vs Q E hr h => ?_), b⟩
  · obtain ⟨_, _, rfl, _⟩ := h
    rfl
  · obtain ⟨c, m, rfl, k⟩ := h
    refine ⟨_, (pss_cons (ps_set (i := 2) sc_law_command.nd rfl (Or.inl rfl) (pe_call G_law_place (hr.mono (by decide)) rfl T.d_law_place.g T.d_law_place.kp b_law_place .nil pass0 (pa_cons (pe_op op_fdiv (pv 0) pe_int) pa_nil)))
      (pss_cons (ps_if (pt_cmpR op_eq (pe_op op_mod (pe_callTy call_int1 (by rfl) T.n_int (by decide +kernel) (pa_cons (pv 0) pa_nil)) pe_int) pe_int (nomark _))
      (pss_one (ps_ret (pe_tup (pa_cons pe_str (pa_cons (pv 2) (pa_cons (pe_op op_mod (pe_callTy call_int1 (by rfl) T.n_int (by decide +kernel) (pa_cons (pv 1) pa_nil)) pe_int) pa_nil))))))
      pss_nil)
      (pss_cons (ps_if (pt_cmpR op_eq (pe_op op_mod (pe_callTy call_int1 (by rfl) T.n_int (by decide +kernel) (pa_cons (pv 0) pa_nil)) pe_int) pe_int (nomark _))
      (pss_one (ps_ret (pe_tup (pa_cons pe_str (pa_cons (pv 2) (pa_cons (pe_call G_law_code (hr.mono (by decide)) rfl T.d_law_code.g T.d_law_code.kp b_law_code .nil pass0 (pa_cons (pv 1) pa_nil)) pa_nil))))))
      pss_nil)
      (pss_cons (ps_if (pt_cmpR op_eq (pe_op op_mod (pe_callTy call_int1 (by rfl) T.n_int (by decide +kernel) (pa_cons (pv 0) pa_nil)) pe_int) pe_int (nomark _))
      (pss_one (ps_ret (pe_tup (pa_cons pe_str (pa_cons (pv 2) (pa_cons (pe_call G_law_place (hr.mono (by decide)) rfl T.d_law_place.g T.d_law_place.kp b_law_place .nil pass0 (pa_cons (pe_op op_fdiv (pv 0) pe_int) pa_nil)) (pa_cons (pe_call G_law_number (hr.mono (by decide)) rfl T.d_law_number.g T.d_law_number.kp b_law_number .nil pass0 (pa_cons (pv 1) pa_nil)) pa_nil)))))))
      pss_nil)
      (pss_one (ps_ret (pe_tup (pa_cons pe_str (pa_cons (pv 2) (pa_cons (pe_call G_law_place (hr.mono (by decide)) rfl T.d_law_place.g T.d_law_place.kp b_law_place .nil pass0 (pa_cons (pe_op op_fdiv (pv 0) pe_int) pa_nil)) (pa_cons (pe_call G_law_number (hr.mono (by decide)) rfl T.d_law_number.g T.d_law_number.kp b_law_number .nil pass0 (pa_cons (pv 1) pa_nil)) pa_nil))))))))))), ?_⟩
    have b1 := Int.emod_nonneg m (show (10 : Int) ≠ 0 by decide)
    have b2 := Int.emod_lt_of_pos m (show (0 : Int) < 10 by decide)
    walk_at "rs"
    intro one ho
    walk_at "rs"
    refine ite2 (fun c1 => ?_) (fun c1 => ?_)
    · walk_at "rs"
      refine ⟨(by show 3 ≤ sizeLine; decide), fun p hp => ?_⟩
      exact k p (.w one (m % 10)) _ (same_new hp) hp upd_same ⟨ho, b1, by omega⟩
    · walk_at "rs"
      refine ite2 (fun c2 => ?_) (fun c2 => ?_)
      · walk_at "rs"
        intro z H1 s1 lz sz
        walk_at "rs"
        refine ⟨(by show 3 ≤ sizeLine; decide), fun p hp => ?_⟩
        have hpH : H p = none := by
          cases e : H p with
          | none => rfl
          | some o => rw [s1 _ _ e] at hp; cases hp
        exact k p (.d one z) _ (same_upd s1 hpH) hpH upd_same ⟨ho, lz, sz⟩
      · walk_at "rs"
        refine ite2 (fun c3 => ?_) (fun c3 => ?_)
        · walk_at "rs"
          intro two ht
          walk_at "rs"
          intro n hn
          walk_at "rs"
          refine ⟨(by show 4 ≤ sizeLine; decide), fun p hp => ?_⟩
          exact k p (.k one two n) _ (same_new hp) hp upd_same ⟨ho, ht, hn⟩
        · walk_at "rs"
          intro two ht
          walk_at "rs"
          intro n hn
          walk_at "rs"
          refine ⟨(by show 4 ≤ sizeLine; decide), fun p hp => ?_⟩
          exact k p (.p one two n) _ (same_new hp) hp upd_same ⟨ho, ht, hn⟩
theorem ok_law_text (T : Txt K mg a) : ∃ fd, FnOk P w K mg base CX0 1 a.d_law_text fd ["command"] (spText K) ∧ Binds K fd ["command"] [] := by
  obtain ⟨fd, F, b⟩ := T.d_law_text.F
  refine ⟨fd, F.ok sc_law_text (fun vs H Q E h => ?_) (fun cdv A outer s H vs Q E hr h => ?_), b⟩
  · obtain ⟨_, _, rfl, _⟩ := h
    rfl
  · obtain ⟨p, c, rfl, hp, ok, k⟩ := h
    refine ⟨_, (pss_cons (ps_if (pt_cmpR op_eq (pe_ix ix_tup (pv 0) pe_int (fun _ _ => rfl)) pe_str (nomark _))
      (pss_one (ps_ret (pe_op op_add_str (pe_op op_add_str (pe_op op_add_str (pe_op op_add_str (pe_op op_add_str pe_str (pe_callTy call_str_int (by rfl) T.n_str (by decide +kernel) (pa_cons (pe_ix ix_tup (pv 0) pe_int (fun _ _ => rfl)) pa_nil))) pe_str) (pe_callTy call_str_int (by rfl) T.n_str (by decide +kernel) (pa_cons (pe_ix ix_tup (pv 0) pe_int (fun _ _ => rfl)) pa_nil))) pe_str) (pe_callTy call_str_int (by rfl) T.n_str (by decide +kernel) (pa_cons (pe_ix ix_tup (pv 0) pe_int (fun _ _ => rfl)) pa_nil)))))
      pss_nil)
      (pss_cons (ps_if (pt_cmpR op_eq (pe_ix ix_tup (pv 0) pe_int (fun _ _ => rfl)) pe_str (nomark _))
      (pss_one (ps_ret (pe_op op_add_str (pe_op op_add_str (pe_op op_add_str pe_str (pe_callTy call_str_int (by rfl) T.n_str (by decide +kernel) (pa_cons (pe_ix ix_tup (pv 0) pe_int (fun _ _ => rfl)) pa_nil))) pe_str) (pe_callTy call_str_int (by rfl) T.n_str (by decide +kernel) (pa_cons (pe_ix ix_tup (pv 0) pe_int (fun _ _ => rfl)) pa_nil)))))
      pss_nil)
      (pss_cons (ps_if (pt_cmpR op_eq (pe_ix ix_tup (pv 0) pe_int (fun _ _ => rfl)) pe_str (nomark _))
      (pss_one (ps_ret (pe_op op_add_str (pe_op op_add_str (pe_op op_add_str (pe_op op_add_str (pe_op op_add_str pe_str (pe_callTy call_str_int (by rfl) T.n_str (by decide +kernel) (pa_cons (pe_ix ix_tup (pv 0) pe_int (fun _ _ => rfl)) pa_nil))) pe_str) (pe_callTy call_str_int (by rfl) T.n_str (by decide +kernel) (pa_cons (pe_ix ix_tup (pv 0) pe_int (fun _ _ => rfl)) pa_nil))) pe_str) (pe_callTy call_str_int (by rfl) T.n_str (by decide +kernel) (pa_cons (pe_ix ix_tup (pv 0) pe_int (fun _ _ => rfl)) pa_nil)))))
      pss_nil)
      (pss_one (ps_ret (pe_op op_add_str (pe_op op_add_str (pe_op op_add_str (pe_op op_add_str pe_str (pe_callTy call_str_int (by rfl) T.n_str (by decide +kernel) (pa_cons (pe_ix ix_tup (pv 0) pe_int (fun _ _ => rfl)) pa_nil))) pe_str) (pe_ix ix_tup (pv 0) pe_int (fun _ _ => rfl))) pe_str)))))), ?_⟩
    cases c with
    | p x y z =>
      obtain ⟨o1, o2, o3⟩ := ok
      have hp' : H p = some (.tup [.str "p", .int x, .int y, .int z]) := hp
      have l0 : ("p" : Str).length = 1 := rfl
      have l1 : ("q" : Str).length = 1 := rfl
      have l2 : ("r" : Str).length = 1 := rfl
      have n0 : (Str.ofString (toString x)).length ≤ 7 := nu_len o1
      have n1 : (Str.ofString (toString y)).length ≤ 7 := nu_len o2
      have n2 : (Str.ofString (toString z)).length ≤ 7 := nu_len o3
      walk_at "rs"
      refine ⟨p, _, _, _, rfl, rfl, SqT.of hp', rfl, ?_⟩
      walk_at "rs"
      refine ⟨p, _, _, _, rfl, rfl, SqT.of hp', rfl, ?_⟩
      walk_at "rs"
      refine ⟨nu_log o1, ?_⟩
      walk_at "rs"
      refine ⟨(by rw [sizeLine_eq]; (try simp only [PySem.Str.length_append]); omega), ?_⟩
      walk_at "rs"
      refine ⟨(by rw [sizeLine_eq]; (try simp only [PySem.Str.length_append]); omega), ?_⟩
      walk_at "rs"
      refine ⟨p, _, _, _, rfl, rfl, SqT.of hp', rfl, ?_⟩
      walk_at "rs"
      refine ⟨nu_log o2, ?_⟩
      walk_at "rs"
      refine ⟨(by rw [sizeLine_eq]; (try simp only [PySem.Str.length_append]); omega), ?_⟩
      walk_at "rs"
      refine ⟨(by rw [sizeLine_eq]; (try simp only [PySem.Str.length_append]); omega), ?_⟩
      walk_at "rs"
      refine ⟨p, _, _, _, rfl, rfl, SqT.of hp', rfl, ?_⟩
      walk_at "rs"
      refine ⟨nu_log o3, ?_⟩
      walk_at "rs"
      refine ⟨(by rw [sizeLine_eq]; (try simp only [PySem.Str.length_append]); omega), ?_⟩
      walk_at "rs"
      exact k H (Same.refl H)
    | w x y =>
      obtain ⟨o1, o2⟩ := ok
      have hp' : H p = some (.tup [.str "w", .int x, .int y]) := hp
      have l0 : ("w" : Str).length = 1 := rfl
      have l1 : ("x" : Str).length = 1 := rfl
      have n0 : (Str.ofString (toString x)).length ≤ 7 := nu_len o1
      have n1 : (Str.ofString (toString y)).length ≤ 7 := nu_len o2
      walk_at "rs"
      refine ⟨p, _, _, _, rfl, rfl, SqT.of hp', rfl, ?_⟩
      walk_at "rs"
      refine ⟨p, _, _, _, rfl, rfl, SqT.of hp', rfl, ?_⟩
      walk_at "rs"
      refine ⟨p, _, _, _, rfl, rfl, SqT.of hp', rfl, ?_⟩
      walk_at "rs"
      refine ⟨nu_log o1, ?_⟩
      walk_at "rs"
      refine ⟨(by rw [sizeLine_eq]; (try simp only [PySem.Str.length_append]); omega), ?_⟩
      walk_at "rs"
      refine ⟨(by rw [sizeLine_eq]; (try simp only [PySem.Str.length_append]); omega), ?_⟩
      walk_at "rs"
      refine ⟨p, _, _, _, rfl, rfl, SqT.of hp', rfl, ?_⟩
      walk_at "rs"
      refine ⟨nu_log o2, ?_⟩
      walk_at "rs"
      refine ⟨(by rw [sizeLine_eq]; (try simp only [PySem.Str.length_append]); omega), ?_⟩
      walk_at "rs"
      exact k H (Same.refl H)
    | k x y z =>
      obtain ⟨o1, o2, o3⟩ := ok
      have hp' : H p = some (.tup [.str "k", .int x, .int y, .int z]) := hp
      have l0 : ("k" : Str).length = 1 := rfl
      have l1 : ("b" : Str).length = 1 := rfl
      have l2 : ("v" : Str).length = 1 := rfl
      have n0 : (Str.ofString (toString x)).length ≤ 7 := nu_len o1
      have n1 : (Str.ofString (toString y)).length ≤ 7 := nu_len o2
      have n2 : (Str.ofString (toString z)).length ≤ 7 := nu_len o3
      walk_at "rs"
      refine ⟨p, _, _, _, rfl, rfl, SqT.of hp', rfl, ?_⟩
      walk_at "rs"
      refine ⟨p, _, _, _, rfl, rfl, SqT.of hp', rfl, ?_⟩
      walk_at "rs"
      refine ⟨p, _, _, _, rfl, rfl, SqT.of hp', rfl, ?_⟩
      walk_at "rs"
      refine ⟨p, _, _, _, rfl, rfl, SqT.of hp', rfl, ?_⟩
      walk_at "rs"
      refine ⟨nu_log o1, ?_⟩
      walk_at "rs"
      refine ⟨(by rw [sizeLine_eq]; (try simp only [PySem.Str.length_append]); omega), ?_⟩
      walk_at "rs"
      refine ⟨(by rw [sizeLine_eq]; (try simp only [PySem.Str.length_append]); omega), ?_⟩
      walk_at "rs"
      refine ⟨p, _, _, _, rfl, rfl, SqT.of hp', rfl, ?_⟩
      walk_at "rs"
      refine ⟨nu_log o2, ?_⟩
      walk_at "rs"
      refine ⟨(by rw [sizeLine_eq]; (try simp only [PySem.Str.length_append]); omega), ?_⟩
      walk_at "rs"
      refine ⟨(by rw [sizeLine_eq]; (try simp only [PySem.Str.length_append]); omega), ?_⟩
      walk_at "rs"
      refine ⟨p, _, _, _, rfl, rfl, SqT.of hp', rfl, ?_⟩
      walk_at "rs"
      refine ⟨nu_log o3, ?_⟩
      walk_at "rs"
      refine ⟨(by rw [sizeLine_eq]; (try simp only [PySem.Str.length_append]); omega), ?_⟩
      walk_at "rs"
      exact k H (Same.refl H)
    | d x z =>
      obtain ⟨o1, o2, o3⟩ := ok
      have hp' : H p = some (.tup [.str "d", .int x, .str z]) := hp
      have l0 : ("d" : Str).length = 1 := rfl
      have l1 : ("z" : Str).length = 1 := rfl
      have n0 : (Str.ofString (toString x)).length ≤ 7 := nu_len o1
      walk_at "rs"
      refine ⟨p, _, _, _, rfl, rfl, SqT.of hp', rfl, ?_⟩
      walk_at "rs"
      refine ⟨p, _, _, _, rfl, rfl, SqT.of hp', rfl, ?_⟩
      walk_at "rs"
      refine ⟨p, _, _, _, rfl, rfl, SqT.of hp', rfl, ?_⟩
      walk_at "rs"
      refine ⟨p, _, _, _, rfl, rfl, SqT.of hp', rfl, ?_⟩
      walk_at "rs"
      refine ⟨nu_log o1, ?_⟩
      walk_at "rs"
      refine ⟨(by rw [sizeLine_eq]; (try simp only [PySem.Str.length_append]); omega), ?_⟩
      walk_at "rs"
      refine ⟨(by rw [sizeLine_eq]; (try simp only [PySem.Str.length_append]); omega), ?_⟩
      walk_at "rs"
      refine ⟨p, _, _, _, rfl, rfl, SqT.of hp', rfl, ?_⟩
      walk_at "rs"
      refine ⟨(by rw [sizeLine_eq]; (try simp only [PySem.Str.length_append]); omega), ?_⟩
      walk_at "rs"
      refine ⟨(by rw [sizeLine_eq]; (try simp only [PySem.Str.length_append]); omega), ?_⟩
      walk_at "rs"
      exact k H (Same.refl H)

theorem ok_Reader_init (T : Txt K mg a) : ∃ fd, FnOk P w K mg base CX0 1 a.d_Reader_init fd ["self", "text"] (spRInit a.C_Reader) ∧ Binds K fd ["self", "text"] [] := by
  obtain ⟨fd, F, b⟩ := T.d_Reader_init.F
  refine ⟨fd, F.ok sc_Reader_init (fun vs H Q E h => ?_) (fun cdv A outer s H vs Q E hr h => ?_), b⟩
  · obtain ⟨_, _, _, rfl, _⟩ := h
    rfl
  · obtain ⟨p, dx, z, rfl, hp, k⟩ := h
    refine ⟨_, (pss_cons (ps_fld (pv 0) (pv 1) rfl)
      (pss_one (ps_fld (pv 0) pe_int rfl))), ?_⟩
    walk_at "rs"
    refine ⟨p, _, dx, [], rfl, hp, T.cl_Reader, T.a_Reader_text, (by show 0 < 1000; decide), ?_⟩
    walk_at "rs"
    refine ⟨p, _, dx, _, rfl, upd_same, T.cl_Reader, T.a_Reader_at, (by show 1 < 1000; decide), ?_⟩
    rw [upd_upd]
    walk_at "rs"
    refine k _ ⟨dx, ?_⟩ (fun b o n e => by rw [upd_ne n]; exact e)
    rw [upd_same]
    rfl
theorem ok_Reader_read_signs (T : Txt K mg a) : ∃ fd, FnOk P w K mg base CX0 1 a.d_Reader_read_signs fd ["self", "allowed"] (spSigns a.C_Reader) ∧ Binds K fd ["self", "allowed"] [] := by
  obtain ⟨fd, F, b⟩ := T.d_Reader_read_signs.F
  refine ⟨fd, F.ok sc_Reader_read_signs (fun vs H Q E h => ?_) (fun cdv A outer s H vs Q E hr h => ?_), b⟩
  · obtain ⟨_, _, _, _, rfl, _⟩ := h
    rfl
  · obtain ⟨p, z, al, i, rfl, ⟨dx, hp⟩, lz, li, k⟩ := h
    refine ⟨_, (pss_cons (ps_set (i := 2) sc_Reader_read_signs.nd rfl (Or.inl rfl) (pe_fld (pv 0) rfl))
      (pss_cons (ps_while PassesOwn.never (PW.pt (pw_and (pt_cmpR op_lt (pe_fld (pv 0) rfl) (pe_callB call_len_str (by rfl) T.n_len PySem.boot_len (pa_cons (pe_fld (pv 0) rfl) pa_nil)) (nomark _)) (pw_and1 (pt_cmpR op_in_sign (pe_ix ix_str (pe_fld (pv 0) rfl) (pe_fld (pv 0) rfl) (fun _ _ => rfl)) (pv 1) (by rfl)))))
      (pss_one (ps_fldaug (pv 0) pe_int in_add)))
      (pss_one (ps_ret (pe_slice sl_str (pe_fld (pv 0) rfl) (po_some (pv 2)) (po_some (pe_fld (pv 0) rfl))))))), ?_⟩
    walk_at "rs"
    refine ⟨p, _, dx, _, .int (i : Int), rfl, hp, T.cl_Reader, T.a_Reader_at, rfl, ?_⟩
    walk_at "rs"
    refine ⟨fun m σ H2 => ∃ j : Nat, m = z.length - j ∧ σ = [some (.ref p), some (.str al), some (.int (i : Int))] ∧ H2 p = some (.ins a.C_Reader dx [("text", .str z), ("at", .int (j : Int))]) ∧ (∀ b o, b ≠ p → H b = some o → H2 b = some o) ∧ i ≤ j ∧ j ≤ z.length ∧ i + runL (TL.tl al) ((TL.tl z).drop i) = j + runL (TL.tl al) ((TL.tl z).drop j),
      ⟨_, i, rfl, rfl, hp, fun b o _ e => e, Nat.le_refl _, li, rfl⟩, ?_⟩
    rintro m σ H2 ⟨j, rfl, rfl, h2, k2, ij, jz, ej⟩
    walk_at "rs"
    refine ⟨p, _, dx, _, .int (j : Int), rfl, h2, T.cl_Reader, T.a_Reader_at, rfl, ?_⟩
    walk_at "rs"
    refine ⟨p, _, dx, _, .str z, rfl, h2, T.cl_Reader, T.a_Reader_text, rfl, ?_⟩
    walk_at "rs"
    refine ⟨(by rw [sizeLine_eq]; omega), ?_⟩
    walk_at "rs"
    have fin : runL (TL.tl al) ((TL.tl z).drop j) = 0 → Q (V.str (cutS z (some (i : Int)) (some (j : Int)))) H2 := fun e0 => by
      have ejj : j = i + runL (TL.tl al) ((TL.tl z).drop i) := by omega
      have ec : cutS z (some (i : Int)) (some (j : Int)) = ⟨(((TL.tl z).drop i).take (runL (TL.tl al) ((TL.tl z).drop i))).toArray⟩ := by
        unfold cutS
        rw [HT.sIx_nat, HT.sIx_nat, Nat.min_eq_left li, Nat.min_eq_left jz, show j - i = runL (TL.tl al) ((TL.tl z).drop i) by omega]
      rw [ec]
      refine k H2 ⟨dx, ?_⟩ k2
      rw [← ejj]
      exact h2
    refine ite2 (fun c1 => ?_) (fun c1 => ?_)
    · have c1 : j < z.length := by
        have := of_decide_eq_true c1
        omega
      have c1' : j < (TL.tl z).length := by rw [← TL.len_tl]; exact c1
      walk_at "rs"
      refine ⟨p, _, dx, _, .str z, rfl, h2, T.cl_Reader, T.a_Reader_text, rfl, ?_⟩
      walk_at "rs"
      refine ⟨p, _, dx, _, .int (j : Int), rfl, h2, T.cl_Reader, T.a_Reader_at, rfl, ?_⟩
      walk_at "rs"
      obtain ⟨c, rest, ed⟩ : ∃ c rest, (TL.tl z).drop j = c :: rest := by
        cases e : (TL.tl z).drop j with
        | nil =>
          have := congrArg List.length e
          rw [List.length_drop, List.length_nil] at this
          omega
        | cons c rest => exact ⟨c, rest, rfl⟩
      have eg : (TL.tl z)[j]? = some c := by
        have : ((TL.tl z).drop j)[0]? = some c := by rw [ed]; rfl
        rw [List.getElem?_drop] at this
        simpa using this
      have er : (TL.tl z).drop (j + 1) = rest := by
        rw [← List.drop_drop, ed]
        rfl
      refine ⟨z, j, c, rfl, rfl, (by rw [sizeLine_eq]; omega), atI_nat eg, ?_⟩
      walk_at "rs"
      refine ite2 (fun c2 => ?_) (fun c2 => ?_)
      · have c2 : c ∈ TL.tl al := of_decide_eq_true c2
        have e1 : runL (TL.tl al) ((TL.tl z).drop j) = runL (TL.tl al) ((TL.tl z).drop (j + 1)) + 1 := by
          rw [ed, er, runL, if_pos c2]
        refine ⟨fun σ' H' => σ' = [some (.ref p), some (.str al), some (.int (i : Int))] ∧ H' = upd H2 p (.ins a.C_Reader dx [("text", .str z), ("at", .int ((j + 1 : Nat) : Int))]), fun σ' H' w => ?_, ?_⟩
        · obtain ⟨rfl, rfl⟩ := w
          exact ⟨z.length - (j + 1), by omega, j + 1, rfl, rfl, upd_same, fun b o n e => by rw [upd_ne n]; exact k2 b o n e, by omega, by omega, by omega⟩
        walk_at "rs"
        refine ⟨p, _, dx, _, .int (j : Int), rfl, h2, T.cl_Reader, T.a_Reader_at, rfl, ?_⟩
        walk_at "rs"
        exact ⟨dx, _, h2, (by show 2 < 1000; decide), rfl, rfl⟩
      · have c2 : ¬ c ∈ TL.tl al := fun h => c2 (decide_eq_true h)
        have e0 : runL (TL.tl al) ((TL.tl z).drop j) = 0 := by
          rw [ed, runL, if_neg c2]
        walk_at "rs"
        refine ⟨p, _, dx, _, .str z, rfl, h2, T.cl_Reader, T.a_Reader_text, rfl, ?_⟩
        walk_at "rs"
        refine ⟨p, _, dx, _, .int (j : Int), rfl, h2, T.cl_Reader, T.a_Reader_at, rfl, ?_⟩
        walk_at "rs"
        exact ⟨(by rw [sizeLine_eq]; omega), fin e0⟩
    · have c1 : ¬ j < z.length := fun h => c1 (decide_eq_true (by omega))
      have e0 : runL (TL.tl al) ((TL.tl z).drop j) = 0 := by
        rw [List.drop_eq_nil_of_le (by rw [← TL.len_tl]; omega)]
        rfl
      walk_at "rs"
      refine ⟨p, _, dx, _, .str z, rfl, h2, T.cl_Reader, T.a_Reader_text, rfl, ?_⟩
      walk_at "rs"
      refine ⟨p, _, dx, _, .int (j : Int), rfl, h2, T.cl_Reader, T.a_Reader_at, rfl, ?_⟩
      walk_at "rs"
      exact ⟨(by rw [sizeLine_eq]; omega), fin e0⟩

theorem starts_one {z : Str} {c i : Nat} (li : i ≤ z.length) : Txt.startswith3 z ⟨#[c]⟩ (i : Int) = decide ((TL.tl z)[i]? = some c) := by
  have ef : PySem.fromIndex z.length (i : Int) = i := by
    unfold PySem.fromIndex
    rw [if_neg (by omega)]
    omega
  unfold Txt.startswith3
  rw [ef]
  have h := PySem.StrLaws.subAt_one z c i
  rw [Bool.eq_iff_iff, Bool.and_eq_true, decide_eq_true_iff, decide_eq_true_iff]
  exact h
theorem ok_Reader_skip (TE : TxtE w K mg a) (T : Txt K mg a) : ∃ fd, FnOk P w K mg base (L2.CX P w) 1 a.d_Reader_skip fd ["self", "mark"] (spSkip a.C_Reader a.C_BadCommand) ∧ Binds K fd ["self", "mark"] [] := by
  obtain ⟨fd, F, b⟩ := T.d_Reader_skip.F
  refine ⟨fd, F.okX sc_Reader_skip (fun vs H Q E h => ?_) (fun cdv A outer s H vs Q E hr h => ?_), b⟩
  · obtain ⟨_, _, _, _, rfl, _⟩ := h
    rfl
  · obtain ⟨p, z, c, i, rfl, ⟨dx, hp⟩, lz, li, k1, k2⟩ := h
    refine ⟨_, (pss_cons (ps_if (pt_not (pt_val (pe_bm PySem.F.plainAttrs_str PySem.F.slot_str_startswith PySem.F.type_str_startswith mt_startswith3 (pe_fld (pv 0) rfl) (pa_cons (pv 1) (pa_cons (pe_fld (pv 0) rfl) pa_nil)))))
      (pss_one (ps_raise rfl (takes_of rfl rfl rfl rfl) (pmk_own PySem.F.excBase_ValueError TE.x_BadCommand TE.g_BadCommand TE.kc_BadCommand (raises_own TE.b_BadCommand TE.t_BadCommand) rfl)))
      pss_nil)
      (pss_one (ps_fldaug (pv 0) pe_int in_add))), ?_⟩
    walk_at "rs"
    refine ⟨p, _, dx, _, .str z, rfl, hp, T.cl_Reader, T.a_Reader_text, rfl, ?_⟩
    walk_at "rs"
    refine ⟨p, _, dx, _, .int (i : Int), rfl, hp, T.cl_Reader, T.a_Reader_at, rfl, ?_⟩
    walk_at "rs"
    refine ⟨z, _, _, rfl, rfl, ?_⟩
    rw [starts_one li]
    by_cases c0 : (TL.tl z)[i]? = some c
    · rw [decide_eq_true c0]
      walk_at "rs"
      refine ⟨p, _, dx, _, .int (i : Int), rfl, hp, T.cl_Reader, T.a_Reader_at, rfl, ?_⟩
      walk_at "rs"
      refine ⟨dx, _, hp, (by show 2 < 1000; decide), ?_⟩
      exact k1 c0 _ ⟨dx, upd_same⟩ fun b o n e => by rw [upd_ne n]; exact e
    · rw [decide_eq_false c0]
      walk_at "rs"
      exact k2 c0

theorem run_le (al : List Nat) : ∀ l : List Nat, runL al l ≤ l.length
  | [] => Nat.le_refl _
  | c :: r => by
    have := run_le al r
    rw [runL]
    split
    · rw [List.length_cons]
      omega
    · exact Nat.zero_le _
theorem run_mem (al : List Nat) : ∀ (l : List Nat), ∀ n ∈ l.take (runL al l), n ∈ al
  | [], n, h => by cases h
  | c :: r, n, h => by
    rw [runL] at h
    split at h
    · rename_i hc
      rw [List.take_succ_cons] at h
      rcases List.mem_cons.mp h with rfl | h
      · exact hc
      · exact run_mem al r n h
    · rw [List.take_zero] at h
      cases h
theorem digs_len (z : Str) (i : Nat) : (digsAt z i).length = runL (TL.tl "0123456789") ((TL.tl z).drop i) := by
  unfold digsAt
  rw [List.length_take]
  exact Nat.min_eq_left (run_le _ _)
theorem digs_all (z : Str) (i : Nat) : NumText.AllDigits (digsAt z i) := fun n hn => by
  have h := run_mem _ _ n hn
  have e : TL.tl "0123456789" = [48, 49, 50, 51, 52, 53, 54, 55, 56, 57] := by decide +kernel
  rw [e] at h
  simp only [List.mem_cons, List.not_mem_nil, or_false] at h
  omega
theorem ok_Reader_read_number (TE : TxtE w K mg a) (T : Txt K mg a) : ∃ fd, FnOk P w K mg base (L2.CX P w) 2 a.d_Reader_read_number fd ["self"] (spNumR a.C_Reader a.C_BadCommand) ∧ Binds K fd ["self"] [] := by
  obtain ⟨fd, F, b⟩ := T.d_Reader_read_number.F
  obtain ⟨fd_Reader_read_signs, G_Reader_read_signs, b_Reader_read_signs⟩ := ok_Reader_read_signs (P := P) (w := w) (base := base) T
  refine ⟨fd, F.okX sc_Reader_read_number (fun vs H Q E h => ?_) (fun cdv A outer s H vs Q E hr h => ?_), b⟩
  · obtain ⟨_, _, _, rfl, _⟩ := h
    rfl
  · obtain ⟨p, z, i, rfl, ⟨dx, hp⟩, lz, li, k1, k2⟩ := h
    refine ⟨_, (pss_cons (ps_set (i := 1) sc_Reader_read_number.nd rfl (Or.inl rfl) (pe_meth (pv 0) T.cl_Reader T.me_Reader_read_signs G_Reader_read_signs (hr.mono (by decide)) b_Reader_read_signs .nil pass0 (pa_cons (pe_glob (v := (.str "0123456789")) rfl T.c_DIGITS.choose_spec ⟨_, rfl⟩) pa_nil)))
      (pss_cons (ps_if (PW.pt (pw_or (pt_cmpR op_lt (pe_callB call_len_str (by rfl) T.n_len PySem.boot_len (pa_cons (pv 1) pa_nil)) pe_int (nomark _)) (pw_or (pt_cmpR op_gt (pe_callB call_len_str (by rfl) T.n_len PySem.boot_len (pa_cons (pv 1) pa_nil)) (pe_glob (v := (.int 6)) rfl T.c_MOST_DIGITS.choose_spec ⟨_, rfl⟩) (nomark _)) (pw_or1 (PW.pt (pw_and (pt_cmpR op_eq (pe_ix ix_str (pv 1) pe_int (fun _ _ => rfl)) pe_str (nomark _)) (pw_and1 (pt_cmpR op_ne (pv 1) pe_str (nomark _)))))))))
      (pss_one (ps_raise rfl (takes_of rfl rfl rfl rfl) (pmk_own PySem.F.excBase_ValueError TE.x_BadCommand TE.g_BadCommand TE.kc_BadCommand (raises_own TE.b_BadCommand TE.t_BadCommand) rfl)))
      pss_nil)
      (pss_one (ps_ret (pe_callTy call_int_str (by rfl) T.n_int (by decide +kernel) (pa_cons (pv 1) pa_nil)))))), ?_⟩
    walk_at "rs"
    refine ⟨p, dx, _, rfl, hp, rfl, ?_⟩
    walk_at "rs"
    refine ⟨p, z, _, i, rfl, ⟨dx, hp⟩, lz, li, fun H1 h1 kp => ?_⟩
    rw [show (⟨(((TL.tl z).drop i).take (runL (TL.tl "0123456789") ((TL.tl z).drop i))).toArray⟩ : Str) = ⟨(digsAt z i).toArray⟩ from rfl]
    rw [← digs_len] at h1
    have hall := digs_all z i
    have lw : (digsAt z i).length ≤ 1000 := by
      rw [digs_len]
      have := run_le (TL.tl "0123456789") ((TL.tl z).drop i)
      rw [List.length_drop, ← TL.len_tl] at this
      omega
    have k1 := fun g => k1 g H1 h1 kp
    have k2 := fun g => k2 g H1 kp
    generalize digsAt z i = dg at hall lw k1 k2 ⊢
    have el : (⟨dg.toArray⟩ : Str).length = dg.length := by
      rw [TL.len_tl, TL.tl_mk]
    walk_at "rs"
    refine ⟨(by rw [el, sizeLine_eq]; omega), ?_⟩
    walk_at "rs"
    refine ite2 (fun c1 => ?_) (fun c1 => ?_)
    · have c1 := of_decide_eq_true c1
      refine k2 fun g => ?_
      have := g.1
      rw [el] at c1
      omega
    · have c1 : ¬ dg.length < 1 := fun h => c1 (decide_eq_true (by rw [el]; omega))
      walk_at "rs"
      refine ⟨(by rw [el, sizeLine_eq]; omega), ?_⟩
      walk_at "rs"
      refine ite2 (fun c2 => ?_) (fun c2 => ?_)
      · have c2 := of_decide_eq_true c2
        refine k2 fun g => ?_
        have := g.2.1
        rw [el] at c2
        omega
      · have c2 : ¬ 6 < dg.length := fun h => c2 (decide_eq_true (by rw [el]; omega))
        cases dg with
        | nil => exact absurd (by decide) c1
        | cons d r =>
          walk_at "rs"
          refine ⟨_, 0, d, rfl, rfl, (by rw [el, sizeLine_eq]; omega), atI_nat (j := 0) rfl, ?_⟩
          walk_at "rs"
          have z48 : (Str.ofString "0") = ⟨#[48]⟩ := rfl
          have fin : NumW (d :: r) → (∃ (x : Str) (n : Int), [V.str ⟨(d :: r).toArray⟩] = [V.str x] ∧ PySem.intText? x = some n ∧ x.length ≤ 640 ∧ Q (.int n) H1) := fun g =>
            ⟨_, _, rfl, PySem.intText_digits (x := ⟨(d :: r).toArray⟩) hall (fun e => nomatch e) (by rw [el]; have := g.2.1; omega), by rw [el]; have := g.2.1; omega, k1 g⟩
          refine ite2 (fun c3 => ?_) (fun c3 => ?_)
          · have c3 : d = 48 := by
              have := of_decide_eq_true c3
              rw [z48] at this
              simpa using this
            walk_at "rs"
            refine ite2 (fun c4 => ?_) (fun c4 => ?_)
            · refine k2 fun g => g.2.2 ⟨by rw [c3]; rfl, fun e => ?_⟩
              rw [e, z48] at c4
              simp at c4
            · have e : d :: r = [48] := by
                rw [z48] at c4
                simp at c4
                rw [c4.1, c4.2]
              walk_at "rs"
              exact fin ⟨by rw [e]; decide, by rw [e]; decide, fun g => g.2 e⟩
          · have c3 : d ≠ 48 := fun e => c3 (by rw [e, z48]; simp)
            walk_at "rs"
            exact fin ⟨by simp, by omega, fun g => c3 (by simpa using g.1)⟩

/-- the signs of a program that stand at i -/
def codeAt (z : Str) (i : Nat) : List Nat := ((TL.tl z).drop i).take (runL (TL.tl "0123456789ginasmtcehlujfyo") ((TL.tl z).drop i))
def spCodeR (C CE : Addr) : Sp := fun vs H Q E => ∃ (p : Addr) (z : Str) (i : Nat), vs = [.ref p] ∧ RdAt C H p z i ∧ z.length ≤ 1000 ∧ i ≤ z.length ∧
  ((TL.tl z)[i + (codeAt z i).length]? = some 122 → ∀ H', RdAt C H' p z (i + (codeAt z i).length + 1) → (∀ b o, b ≠ p → H b = some o → H' b = some o) → Q (.str ⟨(codeAt z i).toArray⟩) H') ∧
  ((TL.tl z)[i + (codeAt z i).length]? ≠ some 122 → ∀ H', (∀ b o, b ≠ p → H b = some o → H' b = some o) → E (.ref CE) none H')
theorem code_len (z : Str) (i : Nat) : (codeAt z i).length = runL (TL.tl "0123456789ginasmtcehlujfyo") ((TL.tl z).drop i) := by
  unfold codeAt
  rw [List.length_take]
  exact Nat.min_eq_left (run_le _ _)
theorem ok_Reader_read_code (TE : TxtE w K mg a) (T : Txt K mg a) : ∃ fd, FnOk P w K mg base (L2.CX P w) 2 a.d_Reader_read_code fd ["self"] (spCodeR a.C_Reader a.C_BadCommand) ∧ Binds K fd ["self"] [] := by
  obtain ⟨fd, F, b⟩ := T.d_Reader_read_code.F
  obtain ⟨fd_Reader_read_signs, G_Reader_read_signs, b_Reader_read_signs⟩ := ok_Reader_read_signs (P := P) (w := w) (base := base) T
  obtain ⟨fd_Reader_skip, G_Reader_skip, b_Reader_skip⟩ := ok_Reader_skip (P := P) (w := w) (base := base) TE T
  refine ⟨fd, F.okX sc_Reader_read_code (fun vs H Q E h => ?_) (fun cdv A outer s H vs Q E hr h => ?_), b⟩
  · obtain ⟨_, _, _, rfl, _⟩ := h
    rfl
  · obtain ⟨p, z, i, rfl, ⟨dx, hp⟩, lz, li, k1, k2⟩ := h
    refine ⟨_, (pss_cons (ps_set (i := 1) sc_Reader_read_code.nd rfl (Or.inl rfl) (pe_meth (pv 0) T.cl_Reader T.me_Reader_read_signs G_Reader_read_signs (hr.mono (by decide)) b_Reader_read_signs .nil pass0 (pa_cons (pe_glob (v := (.str "0123456789ginasmtcehlujfyo")) rfl T.c_SIGNS.choose_spec ⟨_, rfl⟩) pa_nil)))
      (pss_cons (ps_expr (pe_meth (pv 0) T.cl_Reader T.me_Reader_skip G_Reader_skip (hr.mono (by decide)) b_Reader_skip .nil (L2.passes_call (W := fun c d _ H => E c d H) (E := E) (L2.takes_of rfl rfl rfl rfl) (fun _ _ _ _ h => h)) (pa_cons (pe_glob (v := (.str "z")) rfl T.c_CODE_END.choose_spec ⟨_, rfl⟩) pa_nil)))
      (pss_one (ps_ret (pv 1))))), ?_⟩
    walk_at "rs"
    refine ⟨p, dx, _, rfl, hp, rfl, ?_⟩
    walk_at "rs"
    refine ⟨p, z, _, i, rfl, ⟨dx, hp⟩, lz, li, fun H1 h1 kp => ?_⟩
    rw [show (⟨(((TL.tl z).drop i).take (runL (TL.tl "0123456789ginasmtcehlujfyo") ((TL.tl z).drop i))).toArray⟩ : Str) = ⟨(codeAt z i).toArray⟩ from rfl]
    rw [← code_len] at h1
    have lc : i + (codeAt z i).length ≤ z.length := by
      rw [code_len]
      have := run_le (TL.tl "0123456789ginasmtcehlujfyo") ((TL.tl z).drop i)
      rw [List.length_drop, ← TL.len_tl] at this
      omega
    obtain ⟨dx1, hp1⟩ := id h1
    walk_at "rs"
    refine ⟨p, dx1, _, rfl, hp1, rfl, ?_⟩
    walk_at "rs"
    refine ⟨p, z, 122, _, rfl, h1, lz, lc, fun e H2 h2 kp2 => ?_, fun e => k2 e H1 kp⟩
    walk_at "rs"
    exact k1 e H2 h2 fun b o n q => kp2 b o n (kp b o n q)

/-! ### the reader's model -/
theorem dig10 : TL.tl "0123456789" = [48, 49, 50, 51, 52, 53, 54, 55, 56, 57] := by decide +kernel
theorem run_app {al : List Nat} : ∀ {v : List Nat} {r : List Nat}, (∀ n ∈ v, n ∈ al) → runL al (v ++ r) = v.length + runL al r
  | [], r, _ => by simp
  | c :: v, r, h => by
    rw [List.cons_append, runL, if_pos (h c List.mem_cons_self), run_app fun n hn => h n (List.mem_cons_of_mem _ hn), List.length_cons]
    omega
theorem run_stop {al : List Nat} : ∀ {r : List Nat}, (∀ c, r.head? = some c → c ∉ al) → runL al r = 0
  | [], _ => rfl
  | c :: r, h => by rw [runL, if_neg (h c rfl)]
theorem run_cut {al v r : List Nat} (h : ∀ n ∈ v, n ∈ al) (hr : ∀ c, r.head? = some c → c ∉ al) : runL al (v ++ r) = v.length := by
  rw [run_app h, run_stop hr]
  rfl
instance decNumW (v : List Nat) : Decidable (NumW v) := by unfold NumW; infer_instance
def numP (l : List Nat) : Option (V × List Nat) :=
  if NumW (l.take (runL (TL.tl "0123456789") l)) then some (.int (NumText.digitsVal (l.take (runL (TL.tl "0123456789") l)) : Nat), l.drop (runL (TL.tl "0123456789") l)) else none
def codeP (l : List Nat) : Option (V × List Nat) :=
  if l[runL (TL.tl "0123456789ginasmtcehlujfyo") l]? = some 122 then some (.str ⟨(l.take (runL (TL.tl "0123456789ginasmtcehlujfyo") l)).toArray⟩, l.drop (runL (TL.tl "0123456789ginasmtcehlujfyo") l + 1)) else none
def partP (m : Nat) : List Nat → Option (V × List Nat)
  | [] => none
  | c :: r => if c = m then (if m = 122 then codeP r else numP r) else none
def partsP : List Nat → List Nat → Option (List V × List Nat)
  | [], l => some ([], l)
  | m :: ms, l => match partP m l with
    | none => none
    | some (v, r) => match partsP ms r with
      | none => none
      | some (vs, q) => some (v :: vs, q)
theorem numL_head2 : ∀ (n : Nat), 0 < n → (TL.numL n).head? ≠ some 48
  | n, h => by
    rcases Nat.lt_or_ge n 10 with z | z
    · rw [TL.numL_lt z]
      simp
      omega
    · rw [TL.numL_step z]
      have ih := numL_head2 (n / 10) (by omega)
      have ne := TL.numL_ne (n / 10)
      cases e : TL.numL (n / 10) with
      | nil => exact absurd e ne
      | cons c l =>
        rw [e] at ih
        exact ih
theorem numL_long : ∀ (k n : Nat), 10 ^ k ≤ n → k < (TL.numL n).length
  | 0, n, _ => List.length_pos_iff.mpr (TL.numL_ne n)
  | k + 1, n, h => by
    have p : 0 < 10 ^ k := Nat.pow_pos (by decide)
    rw [Nat.pow_succ] at h
    have := numL_long k (n / 10) (by omega)
    rw [TL.numL_step (by omega), List.length_append, List.length_singleton]
    omega
theorem digs_toNat : ∀ {v : List Nat}, NumText.AllDigits v → (v.map Char.ofNat).map Char.toNat = v
  | [], _ => rfl
  | c :: v, h => by
    have hc := h c List.mem_cons_self
    have ih := digs_toNat (v := v) fun n hn => h n (List.mem_cons_of_mem _ hn)
    rw [List.map_cons, List.map_cons, ih]
    congr 1
    have : ∀ i : Fin 58, (Char.ofNat i.val).toNat = i.val := by decide +kernel
    exact this ⟨c, by omega⟩
theorem num_back {v : List Nat} (h : NumW v) (d : NumText.AllDigits v) : NOk (NumText.digitsVal v : Nat) ∧ TL.tl (nu (NumText.digitsVal v : Nat)) = v := by
  obtain ⟨h1, h2, h3⟩ := h
  have e : TL.numL (NumText.digitsVal v) = v := by
    unfold TL.numL
    rw [NumText.toDigits_digitsVal (v.length - 1) v (by omega) d, digs_toNat d]
    rcases Nat.lt_or_ge 1 v.length with z | z
    · right
      cases v with
      | nil => simp at h1
      | cons c r =>
        refine ⟨c, r, rfl, ?_⟩
        have hc := d c List.mem_cons_self
        rcases Nat.lt_or_ge c 49 with y | y
        · exfalso
          refine h3 ⟨?_, fun q => ?_⟩
          · have : c = 48 := by omega
            rw [this]
            rfl
          · rw [q] at z
            simp at z
        · exact y
    · left
      omega
  refine ⟨⟨Int.natCast_nonneg _, ?_⟩, ?_⟩
  · rcases Nat.lt_or_ge (NumText.digitsVal v) (10 ^ 6) with z | z
    · have : (10 : Nat) ^ 6 = 1000000 := by decide
      omega
    · have := numL_long 6 _ z
      rw [e] at this
      omega
  · show TL.tl (Str.ofString (toString ((NumText.digitsVal v : Nat) : Int))) = v
    rw [TL.tl_num, e]
theorem take_run_digits (l : List Nat) : NumText.AllDigits (l.take (runL (TL.tl "0123456789") l)) := fun n hn => by
  have h := run_mem _ _ n hn
  rw [dig10] at h
  simp only [List.mem_cons, List.not_mem_nil, or_false] at h
  omega
theorem numP_ok {l : List Nat} {v : V} {r : List Nat} (h : numP l = some (v, r)) : ∃ i, v = .int i ∧ NOk i ∧ TL.tl (nu i) ++ r = l := by
  unfold numP at h
  split at h
  · rename_i c
    cases h
    obtain ⟨h1, h2⟩ := num_back c (take_run_digits l)
    refine ⟨_, rfl, h1, ?_⟩
    rw [h2]
    exact List.take_append_drop _ _
  · cases h
theorem codeP_ok {l : List Nat} {v : V} {r : List Nat} (h : codeP l = some (v, r)) : ∃ s : Str, v = .str s ∧ Sgn s ∧ TL.tl s ++ 122 :: r = l := by
  unfold codeP at h
  split at h
  · rename_i c
    cases h
    refine ⟨_, rfl, fun n hn => run_mem _ _ n hn, ?_⟩
    rw [TL.tl_mk]
    have hlt := (List.getElem?_eq_some_iff.mp c).1
    have e : l.drop (runL (TL.tl "0123456789ginasmtcehlujfyo") l) = 122 :: l.drop (runL (TL.tl "0123456789ginasmtcehlujfyo") l + 1) := by
      rw [List.drop_eq_getElem_cons hlt, (List.getElem?_eq_some_iff.mp c).2]
    rw [← e]
    exact List.take_append_drop _ _
  · cases h
theorem partP_ok {m : Nat} {l : List Nat} {v : V} {r : List Nat} (h : partP m l = some (v, r)) : (m ≠ 122 ∧ ∃ i, v = .int i ∧ NOk i ∧ m :: (TL.tl (nu i) ++ r) = l) ∨ (m = 122 ∧ ∃ s : Str, v = .str s ∧ Sgn s ∧ 122 :: (TL.tl s ++ 122 :: r) = l) := by
  cases l with
  | nil => cases h
  | cons c q =>
    rw [partP] at h
    split at h
    · rename_i e
      subst e
      split at h
      · rename_i e
        obtain ⟨s, h1, h2, h3⟩ := codeP_ok h
        exact .inr ⟨e, s, h1, h2, by rw [h3, e]⟩
      · rename_i e
        obtain ⟨i, h1, h2, h3⟩ := numP_ok h
        exact .inl ⟨e, i, h1, h2, by rw [h3]⟩
    · cases h
theorem partP_int {m : Nat} {l : List Nat} {v : V} {r : List Nat} (hm : m ≠ 122) (h : partP m l = some (v, r)) : ∃ i, v = .int i ∧ NOk i ∧ m :: (TL.tl (nu i) ++ r) = l := by
  rcases partP_ok h with ⟨_, h⟩ | ⟨h, _⟩
  · exact h
  · exact absurd h hm
theorem partP_code {l : List Nat} {v : V} {r : List Nat} (h : partP 122 l = some (v, r)) : ∃ s : Str, v = .str s ∧ Sgn s ∧ 122 :: (TL.tl s ++ 122 :: r) = l := by
  rcases partP_ok h with ⟨h, _⟩ | ⟨_, h⟩
  · exact absurd rfl h
  · exact h
theorem partsP_cons {m : Nat} {ms l : List Nat} {vs : List V} {q : List Nat} (h : partsP (m :: ms) l = some (vs, q)) : ∃ v r us, partP m l = some (v, r) ∧ partsP ms r = some (us, q) ∧ vs = v :: us := by
  rw [partsP] at h
  split at h
  · cases h
  · rename_i v r e
    split at h
    · cases h
    · rename_i us q' e2
      cases h
      exact ⟨v, r, us, e, e2, rfl⟩
theorem partsP_nil {l : List Nat} {vs : List V} {q : List Nat} (h : partsP [] l = some (vs, q)) : vs = [] ∧ q = l := by
  cases h
  exact ⟨rfl, rfl⟩
def kdOf (c : Nat) : Option (List Nat) := if c = 112 then some [112, 113, 114] else if c = 119 then some [119, 120] else if c = 100 then some [100, 122] else if c = 107 then some [107, 98, 118] else none
def mkC (c : Nat) : List V → Cm
  | [.int a, .int b, .int d] => if c = 112 then .p a b d else .k a b d
  | [.int a, .int b] => .w a b
  | [.int a, .str s] => .d a s
  | _ => default
def cmdP : List Nat → Option (Cm × List Nat)
  | [] => none
  | c :: r => match kdOf c with
    | none => none
    | some ms => match partsP ms (c :: r) with
      | none => none
      | some (vs, q) => some (mkC c vs, q)
theorem tl1 {c : Nat} : TL.tl ⟨#[c]⟩ = [c] := rfl
theorem mk_ok {c : Nat} {ms r : List Nat} {vs : List V} {q : List Nat} (hk : kdOf c = some ms) (h : partsP ms (c :: r) = some (vs, q)) :
    (mkC c vs).ki = ⟨#[c]⟩ ∧ (mkC c vs).ps = vs ∧ TL.tl (mkC c vs).txt ++ q = c :: r ∧ (mkC c vs).right := by
  unfold kdOf at hk
  split at hk
  · rename_i e
    cases hk
    subst e
    obtain ⟨v1, r1, u1, a1, b1, rfl⟩ := partsP_cons h
    obtain ⟨v2, r2, u2, a2, b2, rfl⟩ := partsP_cons b1
    obtain ⟨v3, r3, u3, a3, b3, rfl⟩ := partsP_cons b2
    obtain ⟨rfl, rfl⟩ := partsP_nil b3
    obtain ⟨i1, rfl, o1, e1⟩ := partP_int (by decide) a1
    obtain ⟨i2, rfl, o2, e2⟩ := partP_int (by decide) a2
    obtain ⟨i3, rfl, o3, e3⟩ := partP_int (by decide) a3
    refine ⟨rfl, rfl, ?_, o1, o2, o3⟩
    rw [← e1, ← e2, ← e3]
    show TL.tl ("p" ++ nu i1 ++ "q" ++ nu i2 ++ "r" ++ nu i3) ++ q = _
    simp only [TL.tl_append, List.append_assoc]
    rfl
  · split at hk
    · rename_i e
      cases hk
      subst e
      obtain ⟨v1, r1, u1, a1, b1, rfl⟩ := partsP_cons h
      obtain ⟨v2, r2, u2, a2, b2, rfl⟩ := partsP_cons b1
      obtain ⟨rfl, rfl⟩ := partsP_nil b2
      obtain ⟨i1, rfl, o1, e1⟩ := partP_int (by decide) a1
      obtain ⟨i2, rfl, o2, e2⟩ := partP_int (by decide) a2
      refine ⟨rfl, rfl, ?_, o1, o2⟩
      rw [← e1, ← e2]
      show TL.tl ("w" ++ nu i1 ++ "x" ++ nu i2) ++ q = _
      simp only [TL.tl_append, List.append_assoc]
      rfl
    · split at hk
      · rename_i e
        cases hk
        subst e
        obtain ⟨v1, r1, u1, a1, b1, rfl⟩ := partsP_cons h
        obtain ⟨v2, r2, u2, a2, b2, rfl⟩ := partsP_cons b1
        obtain ⟨rfl, rfl⟩ := partsP_nil b2
        obtain ⟨i1, rfl, o1, e1⟩ := partP_int (by decide) a1
        obtain ⟨i2, rfl, o2, e2⟩ := partP_code a2
        refine ⟨rfl, rfl, ?_, o1, o2⟩
        rw [← e1, ← e2]
        show TL.tl ("d" ++ nu i1 ++ "z" ++ i2 ++ "z") ++ q = _
        simp only [TL.tl_append, List.append_assoc]
        rfl
      · split at hk
        · rename_i e
          cases hk
          subst e
          obtain ⟨v1, r1, u1, a1, b1, rfl⟩ := partsP_cons h
          obtain ⟨v2, r2, u2, a2, b2, rfl⟩ := partsP_cons b1
          obtain ⟨v3, r3, u3, a3, b3, rfl⟩ := partsP_cons b2
          obtain ⟨rfl, rfl⟩ := partsP_nil b3
          obtain ⟨i1, rfl, o1, e1⟩ := partP_int (by decide) a1
          obtain ⟨i2, rfl, o2, e2⟩ := partP_int (by decide) a2
          obtain ⟨i3, rfl, o3, e3⟩ := partP_int (by decide) a3
          refine ⟨rfl, rfl, ?_, o1, o2, o3⟩
          rw [← e1, ← e2, ← e3]
          show TL.tl ("k" ++ nu i1 ++ "b" ++ nu i2 ++ "v" ++ nu i3) ++ q = _
          simp only [TL.tl_append, List.append_assoc]
          rfl
        · cases hk
theorem cmdP_ok {l : List Nat} {x : Cm} {q : List Nat} (h : cmdP l = some (x, q)) : TL.tl x.txt ++ q = l ∧ x.right := by
  cases l with
  | nil => cases h
  | cons c r =>
    rw [cmdP] at h
    split at h
    · cases h
    · rename_i ms hk
      split at h
      · cases h
      · rename_i vs q' hp
        cases h
        exact (mk_ok hk hp).2.2
def NoDig (r : List Nat) : Prop := ∀ c, r.head? = some c → c ∉ TL.tl "0123456789"
theorem num_w {i : Int} (h : NOk i) : NumW (TL.tl (nu i)) := by
  obtain ⟨h0, h1⟩ := id h
  rw [nu_tl h]
  refine ⟨List.length_pos_iff.mpr (TL.numL_ne _), TL.numL_len (by decide) (by omega), fun ⟨g1, g2⟩ => ?_⟩
  rcases Nat.eq_zero_or_pos i.toNat with z | z
  · rw [z] at g2
    exact g2 (by decide +kernel)
  · exact numL_head2 _ z g1
theorem numP_nu {i : Int} (h : NOk i) {r : List Nat} (hr : NoDig r) : numP (TL.tl (nu i) ++ r) = some (.int i, r) := by
  have hd : ∀ n ∈ TL.tl (nu i), n ∈ TL.tl "0123456789" := fun n hn => by
    rw [nu_tl h] at hn
    have := TL.numL_digits _ n hn
    rw [dig10]
    simp only [List.mem_cons, List.not_mem_nil, or_false]
    omega
  have er : runL (TL.tl "0123456789") (TL.tl (nu i) ++ r) = (TL.tl (nu i)).length := run_cut hd hr
  unfold numP
  rw [er, List.take_left', List.drop_left', if_pos (num_w h)]
  · rw [nu_tl h, TL.numL_val, Int.toNat_of_nonneg h.1]
  · rfl
  · rfl
theorem codeP_s {s : Str} (h : Sgn s) {r : List Nat} : codeP (TL.tl s ++ 122 :: r) = some (.str s, r) := by
  have er : runL (TL.tl "0123456789ginasmtcehlujfyo") (TL.tl s ++ 122 :: r) = (TL.tl s).length := run_cut h fun c hc => by
    cases hc
    decide +kernel
  unfold codeP
  have e1 : (TL.tl s ++ 122 :: r).drop ((TL.tl s).length + 1) = r := by
    rw [← List.drop_drop, List.drop_left' rfl]
    rfl
  have e2 : (TL.tl s ++ 122 :: r)[(TL.tl s).length]? = some 122 := by
    rw [List.getElem?_append_right (Nat.le_refl _), Nat.sub_self]
    rfl
  rw [er, if_pos e2, List.take_left' rfl, e1]
theorem partP_nu {m : Nat} (hm : m ≠ 122) {i : Int} (h : NOk i) {r : List Nat} (hr : NoDig r) : partP m (m :: (TL.tl (nu i) ++ r)) = some (.int i, r) := by
  rw [partP, if_pos rfl, if_neg hm]
  exact numP_nu h hr
theorem partP_s {s : Str} (h : Sgn s) {r : List Nat} : partP 122 (122 :: (TL.tl s ++ 122 :: r)) = some (.str s, r) := by
  rw [partP, if_pos rfl, if_pos rfl]
  exact codeP_s h
theorem noDig_cons {c : Nat} {r : List Nat} (h : c ∉ TL.tl "0123456789") : NoDig (c :: r) := fun d hd => by
  cases hd
  exact h
theorem partsP_step {m : Nat} {ms l : List Nat} {v : V} {r : List Nat} {us : List V} {q : List Nat} (h1 : partP m l = some (v, r)) (h2 : partsP ms r = some (us, q)) : partsP (m :: ms) l = some (v :: us, q) := by
  rw [partsP, h1]
  dsimp only
  rw [h2]
theorem partsP_end (r : List Nat) : partsP [] r = some ([], r) := rfl
theorem cmdP_txt {x : Cm} (h : x.right) {r : List Nat} (hr : NoDig r) : cmdP (TL.tl x.txt ++ r) = some (x, r) := by
  cases x with
  | p a b c =>
    obtain ⟨o1, o2, o3⟩ := h
    have e : TL.tl (Cm.p a b c).txt ++ r = 112 :: (TL.tl (nu a) ++ 113 :: (TL.tl (nu b) ++ 114 :: (TL.tl (nu c) ++ r))) := by
      show TL.tl ("p" ++ nu a ++ "q" ++ nu b ++ "r" ++ nu c) ++ r = _
      simp only [TL.tl_append, List.append_assoc]
      rfl
    have hp := partsP_step (partP_nu (m := 112) (by decide) o1 (noDig_cons (by decide +kernel))) (partsP_step (partP_nu (m := 113) (by decide) o2 (noDig_cons (by decide +kernel))) (partsP_step (partP_nu (m := 114) (by decide) o3 hr) (partsP_end r)))
    have hk : kdOf 112 = some [112, 113, 114] := rfl
    rw [e, cmdP, hk]
    dsimp only
    rw [hp]
    rfl
  | w a b =>
    obtain ⟨o1, o2⟩ := h
    have e : TL.tl (Cm.w a b).txt ++ r = 119 :: (TL.tl (nu a) ++ 120 :: (TL.tl (nu b) ++ r)) := by
      show TL.tl ("w" ++ nu a ++ "x" ++ nu b) ++ r = _
      simp only [TL.tl_append, List.append_assoc]
      rfl
    have hp := partsP_step (partP_nu (m := 119) (by decide) o1 (noDig_cons (by decide +kernel))) (partsP_step (partP_nu (m := 120) (by decide) o2 hr) (partsP_end r))
    have hk : kdOf 119 = some [119, 120] := rfl
    rw [e, cmdP, hk]
    dsimp only
    rw [hp]
    rfl
  | k a b c =>
    obtain ⟨o1, o2, o3⟩ := h
    have e : TL.tl (Cm.k a b c).txt ++ r = 107 :: (TL.tl (nu a) ++ 98 :: (TL.tl (nu b) ++ 118 :: (TL.tl (nu c) ++ r))) := by
      show TL.tl ("k" ++ nu a ++ "b" ++ nu b ++ "v" ++ nu c) ++ r = _
      simp only [TL.tl_append, List.append_assoc]
      rfl
    have hp := partsP_step (partP_nu (m := 107) (by decide) o1 (noDig_cons (by decide +kernel))) (partsP_step (partP_nu (m := 98) (by decide) o2 (noDig_cons (by decide +kernel))) (partsP_step (partP_nu (m := 118) (by decide) o3 hr) (partsP_end r)))
    have hk : kdOf 107 = some [107, 98, 118] := rfl
    rw [e, cmdP, hk]
    dsimp only
    rw [hp]
    rfl
  | d a s =>
    obtain ⟨o1, o2⟩ := h
    have e : TL.tl (Cm.d a s).txt ++ r = 100 :: (TL.tl (nu a) ++ 122 :: (TL.tl s ++ 122 :: r)) := by
      show TL.tl ("d" ++ nu a ++ "z" ++ s ++ "z") ++ r = _
      simp only [TL.tl_append, List.append_assoc]
      rfl
    have hp := partsP_step (partP_nu (m := 100) (by decide) o1 (noDig_cons (by decide +kernel))) (partsP_step (partP_s o2 (r := r)) (partsP_end r))
    have hk : kdOf 100 = some [100, 122] := rfl
    rw [e, cmdP, hk]
    dsimp only
    rw [hp]
    rfl
def cmdsP : Nat → List Nat → Option (List Cm)
  | _, [] => some []
  | 0, _ :: _ => none
  | n + 1, c :: r => match cmdP (c :: r) with
    | none => none
    | some (x, q) => match cmdsP n q with
      | none => none
      | some xs => some (x :: xs)
def cmdsOf (z : Str) : List Cm := (cmdsP z.length (TL.tl z)).getD []
def catL (xs : List Cm) : List Nat := (xs.map fun c => TL.tl c.txt).flatten
theorem tl_cat : ∀ xs : List Cm, TL.tl (cat xs) = catL xs := fun xs => by
  have h : ∀ (xs : List Cm) (z : Str), TL.tl (xs.foldl (fun z c => z ++ c.txt) z) = TL.tl z ++ catL xs := fun xs => by
    induction xs with
    | nil => intro z; simp [catL]
    | cons c xs ih =>
      intro z
      rw [List.foldl_cons, ih, TL.tl_append]
      simp [catL, List.append_assoc]
  have := h xs Str.empty
  have e : TL.tl Str.empty = [] := rfl
  rw [e, List.nil_append] at this
  exact this
theorem cmdsP_ok : ∀ (n : Nat) (l : List Nat) (xs : List Cm), cmdsP n l = some xs → catL xs = l ∧ ∀ x ∈ xs, x.right
  | n, [], xs, h => by
    have : xs = [] := by cases n <;> (cases h; rfl)
    subst this
    exact ⟨rfl, fun x hx => absurd hx List.not_mem_nil⟩
  | 0, c :: r, xs, h => by cases h
  | n + 1, c :: r, xs, h => by
    rw [cmdsP] at h
    split at h
    · cases h
    · rename_i x q hx
      split at h
      · cases h
      · rename_i ys hy
        cases h
        obtain ⟨e1, g1⟩ := cmdP_ok hx
        obtain ⟨e2, g2⟩ := cmdsP_ok n q ys hy
        refine ⟨?_, fun y hy => ?_⟩
        · rw [← e1, ← e2]
          simp [catL]
        · rcases List.mem_cons.mp hy with rfl | hy
          · exact g1
          · exact g2 y hy
theorem txt_first (x : Cm) : ∃ c r, TL.tl x.txt = c :: r ∧ c ∉ TL.tl "0123456789" := by
  cases x with
  | p a b c => exact ⟨112, _, by show TL.tl ("p" ++ nu a ++ "q" ++ nu b ++ "r" ++ nu c) = _; simp only [TL.tl_append, List.append_assoc]; rfl, by decide +kernel⟩
  | w a b => exact ⟨119, _, by show TL.tl ("w" ++ nu a ++ "x" ++ nu b) = _; simp only [TL.tl_append, List.append_assoc]; rfl, by decide +kernel⟩
  | k a b c => exact ⟨107, _, by show TL.tl ("k" ++ nu a ++ "b" ++ nu b ++ "v" ++ nu c) = _; simp only [TL.tl_append, List.append_assoc]; rfl, by decide +kernel⟩
  | d a s => exact ⟨100, _, by show TL.tl ("d" ++ nu a ++ "z" ++ s ++ "z") = _; simp only [TL.tl_append, List.append_assoc]; rfl, by decide +kernel⟩
theorem catL_cons (x : Cm) (xs : List Cm) : catL (x :: xs) = TL.tl x.txt ++ catL xs := by simp [catL]
theorem catL_noDig : ∀ xs : List Cm, NoDig (catL xs)
  | [] => fun c h => by cases h
  | x :: xs => by
    obtain ⟨c, r, e, h⟩ := txt_first x
    rw [catL_cons, e]
    exact noDig_cons h
theorem cmdsP_cat : ∀ (xs : List Cm) (n : Nat), (∀ x ∈ xs, x.right) → xs.length ≤ n → cmdsP n (catL xs) = some xs
  | [], n, _, _ => by cases n <;> rfl
  | x :: xs, 0, _, h => by simp at h
  | x :: xs, n + 1, g, h => by
    have ih := cmdsP_cat xs n (fun y hy => g y (List.mem_cons_of_mem _ hy)) (by simpa using h)
    have hx := cmdP_txt (g x List.mem_cons_self) (catL_noDig xs)
    obtain ⟨c, r, e, _⟩ := txt_first x
    rw [catL_cons]
    rw [e, List.cons_append] at hx ⊢
    rw [cmdsP, hx]
    dsimp only
    rw [ih]
theorem cat_long : ∀ xs : List Cm, xs.length ≤ (catL xs).length
  | [] => Nat.le_refl _
  | x :: xs => by
    have := cat_long xs
    obtain ⟨c, r, e, _⟩ := txt_first x
    rw [catL_cons, List.length_append, e, List.length_cons, List.length_cons]
    omega
theorem cmdsOf_cat {xs : List Cm} (g : ∀ x ∈ xs, x.right) : cmdsOf (cat xs) = xs := by
  unfold cmdsOf
  rw [TL.len_tl, tl_cat, cmdsP_cat xs _ g (cat_long xs)]
  rfl
theorem cat_one (x : Cm) : cat [x] = x.txt := by
  refine TL.ext_tl ?_
  rw [tl_cat]
  simp [catL]
theorem cmdsOf_one {x : Cm} (g : x.right) : cmdsOf x.txt = [x] := by
  have := cmdsOf_cat (xs := [x]) fun y hy => by rw [List.mem_singleton.mp hy]; exact g
  rwa [cat_one] at this
theorem cmdsOf_right {z : Str} : ∀ x ∈ cmdsOf z, x.right := by
  unfold cmdsOf
  cases e : cmdsP z.length (TL.tl z) with
  | none => intro x hx; cases hx
  | some xs => exact (cmdsP_ok _ _ _ e).2
theorem cmdsOf_text {z : Str} : cmdsOf z = [] ∨ cat (cmdsOf z) = z := by
  unfold cmdsOf
  cases e : cmdsP z.length (TL.tl z) with
  | none => exact .inl rfl
  | some xs =>
    refine .inr (TL.ext_tl ?_)
    rw [tl_cat]
    exact (cmdsP_ok _ _ _ e).1
theorem cmdsOf_iff {x : Cm} : cmdsOf x.txt = [x] ↔ x.right := ⟨fun h => cmdsOf_right x (by rw [h]; exact List.mem_singleton.mpr rfl), cmdsOf_one⟩
theorem cmdsOf_long (z : Str) : (cmdsOf z).length ≤ z.length := by
  rcases cmdsOf_text (z := z) with h | h
  · rw [h]
    exact Nat.zero_le _
  · have := cat_long (cmdsOf z)
    rw [← tl_cat, h, ← TL.len_tl] at this
    exact this

def spReadC (C CE : Addr) : Sp := fun vs H Q E => ∃ (p : Addr) (z : Str) (i : Nat), vs = [.ref p] ∧ RdAt C H p z i ∧ z.length ≤ 1000 ∧ i < z.length ∧
  (∀ c q, cmdP ((TL.tl z).drop i) = some (c, q) → q = (TL.tl z).drop (i + c.txt.length) → i + c.txt.length ≤ z.length → ∀ t H', RdAt C H' p z (i + c.txt.length) → (∀ b o, b ≠ p → H b = some o → H' b = some o) → H t = none → CmAt H' t c → Q (.ref t) H') ∧
  (cmdP ((TL.tl z).drop i) = none → ∀ H', (∀ b o, b ≠ p → H b = some o → H' b = some o) → E (.ref CE) none H')
/-- what stands before each part, by its sign -/
def mksV (ms : List Nat) : List V := ms.map fun m => V.str ⟨#[m]⟩
theorem sign_ne {c d : Nat} (h : c ≠ d) : ((⟨#[c]⟩ : Str) == ⟨#[d]⟩) = false := beq_eq_false_iff_ne.mpr fun e => h (by simpa using e)
theorem marks_get (TE : TxtE w K mg a) (c : Nat) : (kdOf c = none ∧ [(("p" : Str), a.M_MARKS_p), ("w", a.M_MARKS_w), ("d", a.M_MARKS_d), ("k", a.M_MARKS_k)].lookup ⟨#[c]⟩ = none) ∨
    ∃ ms M, kdOf c = some ms ∧ [(("p" : Str), a.M_MARKS_p), ("w", a.M_MARKS_w), ("d", a.M_MARKS_d), ("k", a.M_MARKS_k)].lookup ⟨#[c]⟩ = some M ∧ (∀ H, SqT K H M (mksV ms)) ∧ ms.length ≤ 3 := by
  by_cases h1 : c = 112
  · subst h1
    exact .inr ⟨_, _, rfl, rfl, fun H => TE.s_MARKS_p H, by decide⟩
  by_cases h2 : c = 119
  · subst h2
    exact .inr ⟨_, _, rfl, rfl, fun H => TE.s_MARKS_w H, by decide⟩
  by_cases h3 : c = 100
  · subst h3
    exact .inr ⟨_, _, rfl, rfl, fun H => TE.s_MARKS_d H, by decide⟩
  by_cases h4 : c = 107
  · subst h4
    exact .inr ⟨_, _, rfl, rfl, fun H => TE.s_MARKS_k H, by decide⟩
  refine .inl ⟨by rw [kdOf, if_neg h1, if_neg h2, if_neg h3, if_neg h4], ?_⟩
  show [((⟨#[112]⟩ : Str), a.M_MARKS_p), (⟨#[119]⟩, a.M_MARKS_w), (⟨#[100]⟩, a.M_MARKS_d), (⟨#[107]⟩, a.M_MARKS_k)].lookup ⟨#[c]⟩ = none
  simp only [List.lookup, sign_ne h1, sign_ne h2, sign_ne h3, sign_ne h4]
/-- what is to come, behind the parts read so far -/
def contP (us : List V) (o : Option (List V × List Nat)) : Option (List V × List Nat) := o.map fun x => (us ++ x.1, x.2)
theorem contP_step {us : List V} {m : Nat} {ms l : List Nat} {v : V} {r : List Nat} (h : partP m l = some (v, r)) : contP us (partsP (m :: ms) l) = contP (us ++ [v]) (partsP ms r) := by
  rw [partsP, h]
  dsimp only
  cases partsP ms r with
  | none => rfl
  | some x => simp [contP]
theorem ok_Reader_read_command (TE : TxtE w K mg a) (T : Txt K mg a) : ∃ fd, FnOk P w K mg base (L2.CX P w) 3 a.d_Reader_read_command fd ["self"] (spReadC a.C_Reader a.C_BadCommand) ∧ Binds K fd ["self"] [] := by
  obtain ⟨fd, F, b⟩ := T.d_Reader_read_command.F
  obtain ⟨fd_Reader_skip, G_Reader_skip, b_Reader_skip⟩ := ok_Reader_skip (P := P) (w := w) (base := base) TE T
  obtain ⟨fd_Reader_read_code, G_Reader_read_code, b_Reader_read_code⟩ := ok_Reader_read_code (P := P) (w := w) (base := base) TE T
  obtain ⟨fd_Reader_read_number, G_Reader_read_number, b_Reader_read_number⟩ := ok_Reader_read_number (P := P) (w := w) (base := base) TE T
  refine ⟨fd, F.okX sc_Reader_read_command (fun vs H Q E h => ?_) (fun cdv A outer s H vs Q E hr h => ?_), b⟩
  · obtain ⟨_, _, _, rfl, _⟩ := h
    rfl
  · obtain ⟨p, z, i, rfl, ⟨dx, hp⟩, lz, li, k1, k2⟩ := h
    refine ⟨_, (pss_cons (ps_set (i := 1) sc_Reader_read_command.nd rfl (Or.inl rfl) (pe_ix ix_str (pe_fld (pv 0) rfl) (pe_fld (pv 0) rfl) (fun _ _ => rfl)))
      (pss_cons (ps_if (pt_cmpR op_notInKd (pv 1) (pe_glob (v := .ref a.P_MARKS) rfl TE.g_MARKS rfl) (by rfl))
      (pss_one (ps_raise rfl (takes_of rfl rfl rfl rfl) (pmk_own PySem.F.excBase_ValueError TE.x_BadCommand TE.g_BadCommand TE.kc_BadCommand (raises_own TE.b_BadCommand TE.t_BadCommand) rfl)))
      pss_nil)
      (pss_cons (ps_set (i := 2) sc_Reader_read_command.nd rfl (Or.inl rfl) (pe_lst pa_nil))
      (pss_cons (ps_for (passes_of rfl) rfl (pi_tup (pe_ix ix_kdict (pe_glob (v := .ref a.P_MARKS) rfl TE.g_MARKS rfl) (pv 1) (fun _ _ => rfl))) (pg_name (i := 3) sc_Reader_read_command.nd rfl (Or.inl rfl))
      (pss_cons (ps_expr (pe_meth (pv 0) T.cl_Reader T.me_Reader_skip G_Reader_skip (hr.mono (by decide)) b_Reader_skip .nil (L2.passes_call (W := fun c d _ H => E c d H) (E := E) (L2.takes_of rfl rfl rfl rfl) (fun _ _ _ _ h => h)) (pa_cons (pv 3) pa_nil)))
        (pss_cons (ps_set (i := 4) sc_Reader_read_command.nd rfl (Or.inl rfl) (pe_ifExp (pt_cmpR op_eq (pv 3) (pe_glob (v := (.str "z")) rfl T.c_CODE_END.choose_spec ⟨_, rfl⟩) (nomark _)) (pe_meth0 (pv 0) T.cl_Reader T.me_Reader_read_code G_Reader_read_code (hr.mono (by decide)) b_Reader_read_code .nil (L2.passes_call (W := fun c d _ H => E c d H) (E := E) (L2.takes_of rfl rfl rfl rfl) (fun _ _ _ _ h => h))) (pe_meth0 (pv 0) T.cl_Reader T.me_Reader_read_number G_Reader_read_number (hr.mono (by decide)) b_Reader_read_number .nil (L2.passes_call (W := fun c d _ H => E c d H) (E := E) (L2.takes_of rfl rfl rfl rfl) (fun _ _ _ _ h => h)))))
        (pss_one (ps_expr (pe_bm PySem.F.plainAttrs_list PySem.F.slot_list_append PySem.F.type_list_append mt_append (pv 2) (pa_cons (pv 4) pa_nil)))))))
      (pss_one (ps_ret (pe_tup (pa_cons (pv 1) (StX.pa_star (pv 2) pa_nil))))))))), ?_⟩
    walk_at "rs"
    refine ⟨p, _, dx, _, .str z, rfl, hp, T.cl_Reader, T.a_Reader_text, rfl, ?_⟩
    walk_at "rs"
    refine ⟨p, _, dx, _, .int (i : Int), rfl, hp, T.cl_Reader, T.a_Reader_at, rfl, ?_⟩
    walk_at "rs"
    obtain ⟨c, rest, ed⟩ : ∃ c rest, (TL.tl z).drop i = c :: rest := by
      cases e : (TL.tl z).drop i with
      | nil =>
        have := congrArg List.length e
        rw [List.length_drop, List.length_nil, ← TL.len_tl] at this
        omega
      | cons c rest => exact ⟨c, rest, rfl⟩
    have eg : (TL.tl z)[i]? = some c := by
      have : ((TL.tl z).drop i)[0]? = some c := by rw [ed]; rfl
      rw [List.getElem?_drop] at this
      simpa using this
    refine ⟨z, i, c, rfl, rfl, (by rw [sizeLine_eq]; omega), atI_nat eg, ?_⟩
    walk_at "rs"
    refine ⟨_, _, _, rfl, rfl, TE.tab_MARKS.has _, ?_⟩
    rcases marks_get TE c with ⟨hk, hm⟩ | ⟨ms, M, hk, hm, hM, lm⟩
    · have ex : cmdP ((TL.tl z).drop i) = none := by rw [ed, cmdP, hk]
      rw [hm]
      walk_at "rs"
      exact k2 ex H fun b o _ e => e
    have ex : ∀ vs q, partsP ms ((TL.tl z).drop i) = some (vs, q) → cmdP ((TL.tl z).drop i) = some (mkC c vs, q) := fun vs q e => by
      rw [ed] at e ⊢
      rw [cmdP, hk]
      dsimp only
      rw [e]
    have ex0 : partsP ms ((TL.tl z).drop i) = none → cmdP ((TL.tl z).drop i) = none := fun e => by
      rw [ed] at e ⊢
      rw [cmdP, hk]
      dsimp only
      rw [e]
    rw [hm]
    walk_at "rs"
    refine iteF ?_
    walk_at "rs"
    refine ⟨(by show 0 ≤ sizeLine; decide), fun L hL => ?_⟩
    have pL : p ≠ L := fun e => by rw [← e, hp] at hL; cases hL
    walk_at "rs"
    refine ⟨_, _, _, rfl, rfl, TE.tab_MARKS.get hm, ?_⟩
    refine ⟨_, rfl, ⟨_, hM _⟩, for_tup (K := K) (a := M) (xs := mksV ms) (fun n σ H2 => ∃ (v3 v4 : Option V) (j : Nat) (us : List V), σ = [some (.ref p), some (.str ⟨#[c]⟩), some (.ref L), v3, v4] ∧ RdAt a.C_Reader H2 p z j ∧ j ≤ z.length ∧ H2 L = some (.lst us) ∧ us.length = n ∧
        (∀ b o, b ≠ p → H b = some o → H2 b = some o) ∧ partsP ms ((TL.tl z).drop i) = contP us (partsP (ms.drop n) ((TL.tl z).drop j)))
      ⟨none, none, i, [], rfl, ⟨dx, by rw [upd_ne pL]; exact hp⟩, Nat.le_of_lt li, upd_same, rfl, fun b o _ e => by rw [upd_ne (fun q => by rw [q, hL] at e; cases e)]; exact e, by
        rw [List.drop_zero]
        cases partsP ms ((TL.tl z).drop i) <;> rfl⟩ (fun _ _ _ _ _ => hM _) ?_ ?_⟩
    · rintro n y σ H2 hy ⟨v3, v4, j, us, rfl, ⟨dx2, hp2⟩, lj, hL2, lu, kp, er⟩
      obtain ⟨m, hm2, rfl⟩ : ∃ m, ms[n]? = some m ∧ y = V.str ⟨#[m]⟩ := by
        unfold mksV at hy
        rw [List.getElem?_map] at hy
        cases e : ms[n]? with
        | none => rw [e] at hy; cases hy
        | some m => rw [e] at hy; cases hy; exact ⟨m, rfl, rfl⟩
      have hn := (List.getElem?_eq_some_iff.mp hm2).1
      have em : ms.drop n = m :: ms.drop (n + 1) := by
        rw [List.drop_eq_getElem_cons hn, (List.getElem?_eq_some_iff.mp hm2).2]
      rw [em] at er
      have bad : partP m ((TL.tl z).drop j) = none → cmdP ((TL.tl z).drop i) = none := fun e => ex0 (by
        rw [er, partsP, e]
        rfl)
      walk_at "rs"
      refine ⟨p, dx2, _, rfl, hp2, rfl, ?_⟩
      walk_at "rs"
      refine ⟨p, z, m, j, rfl, ⟨dx2, hp2⟩, lz, lj, fun e H3 h3 kp3 => ?_, fun e => ?_⟩
      · have lj1 : j < z.length := by
          rw [TL.len_tl]
          exact (List.getElem?_eq_some_iff.mp e).1
        have ej : (TL.tl z).drop j = m :: (TL.tl z).drop (j + 1) := by
          rw [List.drop_eq_getElem_cons (by rw [← TL.len_tl]; exact lj1), (List.getElem?_eq_some_iff.mp e).2]
        rw [ej, partP, if_pos rfl] at bad
        obtain ⟨dx3, hp3⟩ := id h3
        have kp23 : ∀ b o, b ≠ p → H b = some o → H3 b = some o := fun b o q e => kp3 b o q (kp b o q e)
        walk_at "rs"
        have hL3 := kp3 _ _ (fun q => pL q.symm) hL2
        have partP_mk : ∀ {v : V} {r : List Nat}, (if m = 122 then codeP ((TL.tl z).drop (j + 1)) else numP ((TL.tl z).drop (j + 1))) = some (v, r) → partP m ((TL.tl z).drop j) = some (v, r) := fun q => by
          rw [ej, partP, if_pos rfl]
          exact q
        refine ite2 (fun c1 => ?_) (fun c1 => ?_)
        · have c1 : m = 122 := by
            have := of_decide_eq_true c1
            have z122 : (Str.ofString "z") = ⟨#[122]⟩ := rfl
            rw [z122] at this
            simpa using this
          rw [if_pos c1] at bad partP_mk
          have ec : codeP ((TL.tl z).drop (j + 1)) = if (TL.tl z)[j + 1 + (codeAt z (j + 1)).length]? = some 122 then some (.str ⟨(codeAt z (j + 1)).toArray⟩, (TL.tl z).drop (j + 1 + (codeAt z (j + 1)).length + 1)) else none := by
            unfold codeP
            rw [code_len, List.getElem?_drop, List.drop_drop]
            rfl
          walk_at "rs"
          refine ⟨p, dx3, _, rfl, hp3, rfl, ?_⟩
          walk_at "rs"
          refine ⟨p, z, j + 1, rfl, h3, lz, lj1, fun e H4 ⟨dx4, hp4⟩ kp4 => ?_, fun e H4 kp4 => ?_⟩
          · rw [if_pos e] at ec
            have hL4 := kp4 _ _ (fun q => pL q.symm) hL3
            have lj4 : j + 1 + (codeAt z (j + 1)).length + 1 ≤ z.length := by
              rw [TL.len_tl]
              exact (List.getElem?_eq_some_iff.mp e).1
            walk_at "rs"
            refine ⟨.inl ⟨rfl, _, SqL.of hL4⟩, ?_⟩
            walk_at "rs"
            refine ⟨L, _, _, rfl, rfl, hL4, small1000 (by omega), ?_⟩
            refine ⟨_, _, j + 1 + (codeAt z (j + 1)).length + 1, us ++ [V.str ⟨(codeAt z (j + 1)).toArray⟩], rfl, ⟨dx4, by rw [upd_ne pL]; exact hp4⟩, lj4, upd_same, by rw [List.length_append, lu]; rfl, fun b o q e => ?_, ?_⟩
            · rw [upd_ne (fun q => by rw [q, hL] at e; cases e)]
              exact kp4 b o q (kp23 b o q e)
            · rw [er, contP_step (partP_mk (ec))]
          · rw [if_neg e] at ec
            exact k2 (bad ec) H4 fun b o q e => kp4 b o q (kp23 b o q e)
        · have c1 : ¬ m = 122 := fun q => c1 (decide_eq_true (by rw [q]; rfl))
          rw [if_neg c1] at bad partP_mk
          have ec : numP ((TL.tl z).drop (j + 1)) = if NumW (digsAt z (j + 1)) then some (.int (NumText.digitsVal (digsAt z (j + 1)) : Nat), (TL.tl z).drop (j + 1 + (digsAt z (j + 1)).length)) else none := by
            unfold numP
            rw [digs_len, List.drop_drop]
            rfl
          walk_at "rs"
          refine ⟨p, dx3, _, rfl, hp3, rfl, ?_⟩
          walk_at "rs"
          refine ⟨p, z, j + 1, rfl, h3, lz, lj1, fun e H4 ⟨dx4, hp4⟩ kp4 => ?_, fun e H4 kp4 => ?_⟩
          · rw [if_pos e] at ec
            have hL4 := kp4 _ _ (fun q => pL q.symm) hL3
            have lj4 : j + 1 + (digsAt z (j + 1)).length ≤ z.length := by
              rw [digs_len]
              have := run_le (TL.tl "0123456789") ((TL.tl z).drop (j + 1))
              rw [List.length_drop, ← TL.len_tl] at this
              omega
            walk_at "rs"
            refine ⟨.inl ⟨rfl, _, SqL.of hL4⟩, ?_⟩
            walk_at "rs"
            refine ⟨L, _, _, rfl, rfl, hL4, small1000 (by omega), ?_⟩
            refine ⟨_, _, j + 1 + (digsAt z (j + 1)).length, us ++ [V.int (NumText.digitsVal (digsAt z (j + 1)) : Nat)], rfl, ⟨dx4, by rw [upd_ne pL]; exact hp4⟩, lj4, upd_same, by rw [List.length_append, lu]; rfl, fun b o q e => ?_, ?_⟩
            · rw [upd_ne (fun q => by rw [q, hL] at e; cases e)]
              exact kp4 b o q (kp23 b o q e)
            · rw [er, contP_step (partP_mk (ec))]
          · rw [if_neg e] at ec
            exact k2 (bad ec) H4 fun b o q e => kp4 b o q (kp23 b o q e)
      · refine k2 (bad ?_) H2 kp
        cases ed2 : (TL.tl z).drop j with
        | nil => rfl
        | cons d r =>
          rw [partP, if_neg]
          intro q
          refine e ?_
          have : ((TL.tl z).drop j)[0]? = some d := by rw [ed2]; rfl
          rw [List.getElem?_drop] at this
          rw [← q]
          simpa using this
    · rintro σ H2 ⟨v3, v4, j, us, rfl, ⟨dx2, hp2⟩, lj, hL2, lu, kp, er⟩
      have ln : (mksV ms).length = ms.length := List.length_map _
      rw [ln, List.drop_length] at er
      have er : partsP ms ((TL.tl z).drop i) = some (us ++ [], (TL.tl z).drop j) := er
      rw [List.append_nil] at er
      have em := ex _ _ er
      have hmk := mk_ok hk (by rw [← ed]; exact er)
      have et := hmk.2.2.1
      rw [← ed] at et
      have ej : j = i + (mkC c us).txt.length := by
        have := congrArg List.length et
        rw [List.length_append, List.length_drop, List.length_drop, ← TL.len_tl, ← TL.len_tl] at this
        omega
      walk_at "rs"
      refine ⟨L, us, rfl, .inr (SqL.of hL2), ?_⟩
      walk_at "rs"
      refine ⟨by rw [sizeLine_eq]; simp; omega, fun t ht => ?_⟩
      refine k1 _ _ em (by rw [ej]) (by omega) t _ ⟨dx2, ?_⟩ ?_ ?_ ?_
      · rw [upd_ne (fun q => by rw [← q, hp2] at ht; cases ht), ← ej]
        exact hp2
      · intro b o q e
        rw [upd_ne (fun q => by rw [← q, kp b o ‹_› e] at ht; cases ht)]
        exact kp b o q e
      · cases e : H t with
        | none => rfl
        | some o =>
          by_cases q : t = p
          · rw [q, hp2] at ht
            cases ht
          · rw [kp t o q e] at ht
            cases ht
      · show upd H2 t _ t = _
        rw [upd_same, hmk.1, hmk.2.1]
        simp


def spCof (K : PySem.W.Frag) : Sp := fun vs H Q _ => ∃ z : Str, vs = [.str z] ∧ z.length ≤ 1000 ∧ ∀ (q : Addr) (ps : List Addr) H', Same H H' → H q = none → H' q = some (.lst (ps.map V.ref)) → CmsAt H' ps (cmdsOf z) → Q (.ref q) H'
theorem CmsAt.snoc {H : Hp} {ps : List Addr} {cs : List Cm} {p : Addr} {c : Cm} (h : CmsAt H ps cs) (e : CmAt H p c) : CmsAt H (ps ++ [p]) (cs ++ [c]) := by
  refine ⟨by rw [List.length_append, List.length_append, h.1]; rfl, fun i hi => ?_⟩
  rw [List.length_append, List.length_singleton] at hi
  rw [List.getD_eq_getElem?_getD, List.getD_eq_getElem?_getD]
  rcases Nat.lt_or_ge i cs.length with z | z
  · rw [List.getElem?_append_left (by rw [h.1]; exact z), List.getElem?_append_left z, ← List.getD_eq_getElem?_getD, ← List.getD_eq_getElem?_getD]
    exact h.2 i z
  · have ei : i = cs.length := by omega
    rw [ei, List.getElem?_append_right (Nat.le_of_eq h.1), List.getElem?_append_right (Nat.le_refl _), h.1, Nat.sub_self]
    exact e
theorem ok_commands_of (TE : TxtE w K mg a) (T : Txt K mg a) : ∃ fd, FnOk P w K mg base CX0 4 a.d_commands_of fd ["block"] (spCof K) ∧ Binds K fd ["block"] [] := by
  obtain ⟨fd, F, b⟩ := T.d_commands_of.F
  obtain ⟨fd_Reader_init, G_Reader_init, b_Reader_init⟩ := ok_Reader_init (P := P) (w := w) (base := base) T
  obtain ⟨fd_Reader_read_command, G_Reader_read_command, b_Reader_read_command⟩ := ok_Reader_read_command (P := P) (w := w) (base := base) TE T
  refine ⟨fd, F.ok sc_commands_of (fun vs H Q E h => ?_) (fun cdv A outer s H vs Q E hr h => ?_), b⟩
  · obtain ⟨_, rfl, _⟩ := h
    rfl
  · obtain ⟨z, rfl, lz, k⟩ := h
    refine ⟨_, (pss_cons (ps_set (i := 1) sc_commands_of.nd rfl (Or.inl rfl) (pe_make T.m_Reader G_Reader_init (hr.mono (by decide)) (by rfl) T.g_Reader b_Reader_init .nil pass0 (pa_cons (pv 0) pa_nil)))
      (pss_cons (ps_set (i := 2) sc_commands_of.nd rfl (Or.inl rfl) (pe_lst pa_nil))
      (pss_cons (ps_try_only rfl rfl ⟨rfl, by decide, .inl TE.g_BadCommand⟩ takes0 (fun W pn xe tk po => (pss_one (ps_while po (pt_cmpR op_lt (pe_fldK (K := K) rfl (pv 1) rfl) (pe_callB call_len_str (by rfl) T.n_len PySem.boot_len (pa_cons (pv 0) pa_nil)) (nomark _)) (pss_one (ps_expr (pe_bmK (K := K) rfl PySem.F.plainAttrs_list PySem.F.slot_list_append PySem.F.type_list_append mt_append (pv 2) (pa_cons (pe_methT0 (pv 1) T.cl_Reader T.me_Reader_read_command G_Reader_read_command (hr.mono (by decide)) b_Reader_read_command (E := fun σ cls d H => W cls d σ H) (fun σ => passAt tk σ)) pa_nil))))))) (fun ae oe cls d pn hz hf => (pss_one (ps_ret (pe_lst pa_nil)))))
      (pss_one (ps_ret (pv 2)))))), ?_⟩
    walk_at "rs"
    intro rd dx hrd hdx ndx
    refine ⟨rd, dx, z, rfl, upd_same, fun H1 h1 keep => ?_⟩
    have s1 : Same H H1 := fun b o e => keep b o (fun q => by rw [q, hrd] at e; cases e) (by rw [upd_ne (fun q => by rw [q, hrd] at e; cases e), upd_ne (fun q => by rw [q, hdx] at e; cases e)]; exact e)
    refine ⟨rfl, ?_⟩
    clear keep
    walk_at "rs"
    refine ⟨(by show 0 ≤ sizeLine; decide), fun L hL => ?_⟩
    have hL0 := s1.free hL
    have rL : rd ≠ L := fun e => by
      obtain ⟨d, h⟩ := h1
      rw [e, hL] at h
      cases h
    have s2 := same_new (o := .lst []) hL
    walk_at "rs"
    refine ⟨fun m σ H2 => ∃ (j n : Nat) (ps : List Addr) (cs : List Cm), m = z.length - j ∧ σ = [some (.str z), some (.ref rd), some (.ref L)] ∧ RdAt a.C_Reader H2 rd z j ∧ j ≤ z.length ∧ H2 L = some (.lst (ps.map V.ref)) ∧ CmsAt H2 ps cs ∧ Same H H2 ∧ z.length - j ≤ n ∧ cs.length ≤ j ∧
        cmdsP z.length (TL.tl z) = (cmdsP n ((TL.tl z).drop j)).map (cs ++ ·),
      ⟨_, 0, z.length, [], [], rfl, rfl, h1.elim fun d h => ⟨d, by rw [upd_ne rL]; exact h⟩, Nat.zero_le _, upd_same, ⟨rfl, fun i hi => absurd hi (Nat.not_lt_zero i)⟩, s1.trans s2, Nat.le_of_eq (Nat.sub_zero _), Nat.le_refl _, by
        rw [List.drop_zero]
        cases cmdsP z.length (TL.tl z) <;> rfl⟩, ?_⟩
    clear s2 h1
    rintro m σ H2 ⟨j, n, ps, cs, rfl, rfl, ⟨dx2, h2⟩, lj, hL2, hc, s2, ln, lcs, er⟩
    walk_at "rs"
    refine ⟨rd, _, dx2, _, .int (j : Int), rfl, h2, T.cl_Reader, T.a_Reader_at, rfl, ?_⟩
    walk_at "rs"
    refine ⟨(by rw [sizeLine_eq]; omega), ?_⟩
    walk_at "rs"
    refine ite2 (fun c1 => ?_) (fun c1 => ?_)
    · have c1 : j < z.length := by
        have := of_decide_eq_true c1
        omega
      obtain ⟨n, rfl⟩ : ∃ k, n = k + 1 := ⟨n - 1, by omega⟩
      obtain ⟨d, rest, ed⟩ : ∃ c rest, (TL.tl z).drop j = c :: rest := by
        cases e : (TL.tl z).drop j with
        | nil =>
          have := congrArg List.length e
          rw [List.length_drop, List.length_nil, ← TL.len_tl] at this
          omega
        | cons c rest => exact ⟨c, rest, rfl⟩
      refine ⟨fun σ' H' => ∃ (t : Addr) (x : Cm) (q : List Nat), cmdP ((TL.tl z).drop j) = some (x, q) ∧ q = (TL.tl z).drop (j + x.txt.length) ∧ j + x.txt.length ≤ z.length ∧ σ' = [some (.str z), some (.ref rd), some (.ref L)] ∧ RdAt a.C_Reader H' rd z (j + x.txt.length) ∧ H' L = some (.lst ((ps ++ [t]).map V.ref)) ∧ CmsAt H' (ps ++ [t]) (cs ++ [x]) ∧ Same H H', ?_, ?_⟩
      · rintro σ' H' ⟨t, x, q, e1, e2, e3, rfl, h4, hL4, hc4, s4⟩
        have lx : 0 < x.txt.length := by
          obtain ⟨c, r, e, _⟩ := txt_first x
          rw [TL.len_tl, e]
          exact Nat.succ_pos _
        refine ⟨z.length - (j + x.txt.length), by omega, j + x.txt.length, n, ps ++ [t], cs ++ [x], rfl, rfl, h4, e3, hL4, hc4, s4, by omega, by rw [List.length_append]; show cs.length + 1 ≤ _; omega, ?_⟩
        rw [er, ← e2]
        rw [ed] at e1 ⊢
        rw [cmdsP, e1]
        dsimp only
        cases cmdsP n q with
        | none => rfl
        | some xs => simp
      walk_at "rs"
      refine ⟨.inl ⟨rfl, _, SqL.of hL2⟩, ?_⟩
      walk_at "rs"
      refine ⟨rd, dx2, _, rfl, h2, rfl, ?_⟩
      have Lr : L ≠ rd := fun e => rL e.symm
      refine ⟨rd, z, j, rfl, ⟨dx2, h2⟩, lz, c1, fun x q e1 e2 e3 t H4 h4 kp ht ct => ?_, fun e H4 kp => ?_⟩
      · have s4 : Same H H4 := fun b o e => kp b o (fun q => by rw [q, hrd] at e; cases e) (s2 b o e)
        have tL : t ≠ L := fun e => by rw [e, hL2] at ht; cases ht
        walk_at "rs"
        refine ⟨L, _, _, rfl, rfl, kp _ _ Lr hL2, by rw [List.length_map, hc.1]; exact small1000 (by omega), ?_⟩
        refine ⟨t, x, q, e1, e2, e3, rfl, ?_, by rw [upd_same, List.map_append]; rfl, ?_, same_upd s4 hL0⟩
        · obtain ⟨d4, h4⟩ := h4
          exact ⟨d4, by rw [upd_ne rL]; exact h4⟩
        · have hne : ∀ {b : Addr} {y : Cm}, CmAt H2 b y → b ≠ rd ∧ b ≠ L := fun {b y} h => by
            have h : H2 b = some (.tup _) := h
            constructor
            · intro e
              rw [e, h2] at h
              cases h
            · intro e
              rw [e, hL2] at h
              cases h
          refine CmsAt.snoc ⟨hc.1, fun i hi => ?_⟩ ?_
          · have h := hc.2 i hi
            obtain ⟨n1, n2⟩ := hne h
            show upd H4 L _ _ = _
            rw [upd_ne n2]
            exact kp _ _ n1 h
          · show upd H4 L _ _ = _
            rw [upd_ne tL]
            exact ct
      · have s4 : Same H H4 := fun b o e => kp b o (fun q => by rw [q, hrd] at e; cases e) (s2 b o e)
        have eall : cmdsOf z = [] := by
          unfold cmdsOf
          rw [er]
          rw [ed] at e ⊢
          rw [cmdsP, e]
          rfl
        refine ⟨true, TE.exm_BadCommand_BadCommand, fun _ ex hex => ?_, fun z => nomatch z⟩
        walk_at "rs"
        refine ⟨(by show 0 ≤ sizeLine; decide), fun R hR => ?_⟩
        refine k R [] _ (s4.trans (same_new hR)) (s4.free hR) upd_same ?_
        rw [eall]
        exact ⟨rfl, fun i hi => absurd hi (Nat.not_lt_zero i)⟩
    · have c1 : j = z.length := by
        have : ¬ j < z.length := fun h => c1 (decide_eq_true (by omega))
        omega
      have eall : cmdsOf z = cs := by
        unfold cmdsOf
        rw [er, List.drop_of_length_le (by rw [← TL.len_tl]; omega)]
        cases n <;> simp [cmdsP]
      walk_at "rs"
      exact k L ps H2 s2 hL0 hL2 (by rw [eall]; exact hc)

theorem getD_mem3 {α : Type} {d : α} {xs : List α} {i : Nat} (h : i < xs.length) : xs.getD i d ∈ xs := by
  rw [List.getD_eq_getElem?_getD, List.getElem?_eq_getElem h]
  exact List.getElem_mem h
theorem take_snoc {α : Type} {d : α} {xs : List α} {i : Nat} (h : i < xs.length) : xs.take (i + 1) = xs.take i ++ [xs.getD i d] := by
  rw [List.take_add_one, List.getElem?_eq_getElem h, List.getD_eq_getElem?_getD, List.getElem?_eq_getElem h]
  rfl
theorem at_refs2 {ps : List Addr} {i : Nat} (h : i < ps.length) : (ps.map V.ref)[i]? = some (.ref (ps.getD i 0)) := by
  rw [List.getElem?_map, List.getD_eq_getElem?_getD, List.getElem?_eq_getElem h]
  rfl
theorem txt_len {c : Cm} (ok : c.ok) : c.txt.length ≤ 271 := by
  have h := bits_len ok
  cases c with
  | d a s =>
    have l1 : ("z" : Str).length = 1 := rfl
    simp only [Cm.bits, Cm.txt, List.map, List.sum_cons, List.sum_nil, PySem.Str.length_append] at h ⊢
    omega
  | _ =>
    simp only [Cm.bits, Cm.txt, List.map, List.sum_cons, List.sum_nil, PySem.Str.length_append] at h ⊢
    omega
theorem ok_law_fitting (T : Txt K mg a) : ∃ fd, FnOk P w K mg base CX0 2 a.d_law_fitting fd ["commands"] (spFitting K) ∧ Binds K fd ["commands"] [] := by
  obtain ⟨fd, F, b⟩ := T.d_law_fitting.F
  obtain ⟨fd_law_text, G_law_text, b_law_text⟩ := ok_law_text (P := P) (w := w) (base := base) T
  refine ⟨fd, F.ok sc_law_fitting (fun vs H Q E h => ?_) (fun cdv A outer s H vs Q E hr h => ?_), b⟩
  · obtain ⟨_, _, _, rfl, _⟩ := h
    rfl
  · obtain ⟨l, ps, cs, rfl, hl, hc, few, okc, k⟩ := h
    have np := hc.1
    refine ⟨_, (pss_cons (ps_set (i := 1) sc_law_fitting.nd rfl (Or.inl rfl) pe_str)
      (pss_cons (ps_set (i := 2) sc_law_fitting.nd rfl (Or.inl rfl) (pe_lst pa_nil))
      (pss_cons (ps_for PassesOwn.never rfl (pi_list (pv 0)) (pg_name (i := 3) sc_law_fitting.nd rfl (Or.inl rfl))
      (pss_cons (ps_if (pt_cmpR op_gt (pe_callB call_len_str (by rfl) T.n_len PySem.boot_len (pa_cons (pe_op op_add_str (pv 1) (pe_call G_law_text (hr.mono (by decide)) rfl T.d_law_text.g T.d_law_text.kp b_law_text .nil pass0 (pa_cons (pv 3) pa_nil))) pa_nil)) pe_int (nomark _))
        (pss_one (ps_ret (pe_tup (pa_cons (pv 1) (pa_cons (pv 2) pa_nil)))))
        pss_nil)
        (pss_cons (ps_set (i := 1) sc_law_fitting.nd rfl (Or.inl rfl) (pe_op op_add_str (pv 1) (pe_call G_law_text (hr.mono (by decide)) rfl T.d_law_text.g T.d_law_text.kp b_law_text .nil pass0 (pa_cons (pv 3) pa_nil))))
        (pss_one (ps_expr (pe_bm PySem.F.plainAttrs_list PySem.F.slot_list_append PySem.F.type_list_append mt_append (pv 2) (pa_cons (pv 3) pa_nil)))))))
      (pss_one (ps_ret (pe_tup (pa_cons (pv 1) (pa_cons (pv 2) pa_nil)))))))), ?_⟩
    walk_at "rs"
    refine ⟨(by show 0 ≤ sizeLine; decide), fun tk htk => ?_⟩
    have s1 : Same H (upd H tk (.lst [])) := same_new htk
    have h1 : (upd H tk (.lst [])) tk = some (.lst (([] : List Addr).map V.ref)) := upd_same
    walk_at "rs"
    refine ⟨⟨_, SqL.of (s1 _ _ hl)⟩, for_list (K := K) (a := l) (xs := ps.map V.ref) (fun i σ H2 => ∃ v3 : Option V, σ = [some (.ref l), some (.str (cat (cs.take i))), some (.ref tk), v3] ∧ Same H H2 ∧ H2 tk = some (.lst ((ps.take i).map V.ref)) ∧ ∀ j, j ≤ i → (cat (cs.take j)).length ≤ 60)
      ⟨none, rfl, s1, h1, fun j hj => by rw [Nat.le_zero.mp hj]; exact Nat.zero_le _⟩ (fun i σ H2 _ ⟨_, _, s2, _⟩ => SqL.of (s2 _ _ hl)) ?_ ?_⟩
    · rintro i y σ H2 hy ⟨v3, rfl, s2, h2, le⟩
      have hi : i < ps.length := by
        have e := (List.getElem?_eq_some_iff.mp hy).1
        rwa [List.length_map] at e
      rw [at_refs2 hi] at hy
      cases hy
      have hi' : i < cs.length := by omega
      have hcm := s2 _ _ (hc.2 i hi')
      have ok := okc _ (getD_mem3 (d := default) hi')
      have et := take_snoc (d := default) hi'
      have etp := take_snoc (d := 0) hi
      have tl := txt_len ok
      have li := le i (Nat.le_refl i)
      generalize cs.getD i default = c at hcm ok et tl
      generalize ps.getD i 0 = p at hcm etp
      walk_at "rs"
      refine ⟨p, c, rfl, hcm, ok, fun H3 s3 => ?_⟩
      walk_at "rs"
      refine ⟨(by rw [sizeLine_eq]; omega), ?_⟩
      walk_at "rs"
      have s23 := s2.trans s3
      refine ⟨(by rw [PySem.Str.length_append, sizeLine_eq]; omega), ?_⟩
      walk_at "rs"
      refine ite2 (fun c1 => ?_) (fun c1 => ?_)
      · have c1 : (60 : Int) < (((cat (cs.take i) ++ c.txt).length : Nat) : Int) := by simpa using c1
        walk_at "rs"
        refine ⟨(by show 2 ≤ sizeLine; decide), fun q hq => ?_⟩
        have s4 := same_new (o := .tup [V.str (cat (cs.take i)), V.ref tk]) hq
        refine k q tk i _ (s23.trans s4) upd_same (s4 _ _ (s3 _ _ h2)) htk ⟨by omega, le, fun _ => ?_⟩
        rw [et, cat_snoc]
        omega
      · have c1 : ¬ (60 : Int) < (((cat (cs.take i) ++ c.txt).length : Nat) : Int) := by simpa using c1
        walk_at "rs"
        refine ⟨p, c, rfl, s3 _ _ hcm, ok, fun H4 s4 => ?_⟩
        walk_at "rs"
        refine ⟨(by rw [sizeLine_eq]; omega), ?_⟩
        walk_at "rs"
        refine ⟨.inl ⟨rfl, _, SqL.of (s4 _ _ (s3 _ _ h2))⟩, ?_⟩
        walk_at "rs"
        refine ⟨tk, _, _, rfl, rfl, s4 _ _ (s3 _ _ h2), by rw [List.length_map, List.length_take]; exact small1000 (by omega), ?_⟩
        refine ⟨some (.ref p), ?_, same_upd (s23.trans s4) htk, ?_, fun j hj => ?_⟩
        · rw [et, cat_snoc]
          rfl
        · rw [upd_same, etp]
          simp
        · rcases Nat.lt_or_ge i j with h | h
          · have : j = i + 1 := by omega
            rw [this, et, cat_snoc]
            omega
          · exact le j h
    · rintro σ H2 ⟨v3, rfl, s2, h2, le⟩
      rw [List.length_map] at h2 le
      have ep : ps.take ps.length = ps.take cs.length := by rw [np]
      have e2 : (ps.map V.ref).length = cs.length := by rw [List.length_map, np]
      rw [e2]
      rw [ep] at h2
      walk_at "rs"
      refine ⟨(by show 2 ≤ sizeLine; decide), fun q hq => ?_⟩
      have s4 := same_new (o := .tup [V.str (cat (cs.take cs.length)), V.ref tk]) hq
      exact k q tk cs.length _ (s2.trans s4) upd_same (s4 _ _ h2) htk ⟨Nat.le_refl _, fun j hj => le j (by omega), fun h => absurd h (Nat.lt_irrefl _)⟩

theorem LgAt.ins {C : Addr} {H : Hp} {p : Addr} {A : Ac} (h : LgAt C H p A) : ∃ dx fs, H p = some (.ins C dx fs) := by
  obtain ⟨dx, b, c, s, ts, h1, _⟩ := h
  exact ⟨dx, _, h1⟩
theorem first_good {bal : List Int} (h : bal.length ≤ 100) (nn : ∀ b ∈ bal, 0 ≤ b) (k : Nat) : GoodA bal.length k (firstA bal) :=
  ⟨rfl, List.length_replicate .., List.length_replicate .., h, nn, fun z hz => by
    rw [List.eq_of_mem_replicate hz]
    exact ⟨Nat.zero_le _, fun n hn => absurd hn List.not_mem_nil⟩, fun kv hkv => by
    rw [List.eq_of_mem_replicate hkv]
    exact ⟨.nil, fun x hx => absurd hx List.not_mem_nil, Nat.zero_le _⟩⟩

/-! ### chains -/
/-- what stands where in a chain -/
structure CnP where
  B : Addr
  R : Addr
  D : Addr
  L : Addr
/-- blocks, receipts (where and what), committees (where, their weights), ledgers (where and what) -/
structure CnV where
  zs : List Str
  rs : List Addr
  bs : List (List Bool)
  ps : List Addr
  ws : List (List Int)
  ls : List Addr
  az : List Ac
instance : Inhabited Ac := ⟨⟨[], [], []⟩⟩
structure CnAt (C1 C2 C3 : Addr) (n k : Nat) (H : Hp) (p : Addr) (q : CnP) (v : CnV) : Prop where
  ins : ∃ dx, H p = some (.ins C1 dx [("blocks", .ref q.B), ("receipts", .ref q.R), ("committees", .ref q.D), ("ledgers", .ref q.L)])
  hB : H q.B = some (.lst (v.zs.map V.str))
  hR : H q.R = some (.lst (v.rs.map V.ref))
  hD : H q.D = some (.lst (v.ps.map V.ref))
  hL : H q.L = some (.lst (v.ls.map V.ref))
  nr : v.rs.length = v.zs.length
  nb : v.bs.length = v.zs.length
  np : v.ps.length = v.zs.length + 1
  nw : v.ws.length = v.zs.length + 1
  nl : v.ls.length = v.zs.length + 1
  na : v.az.length = v.zs.length + 1
  ne1 : q.B ≠ q.R
  ne2 : q.B ≠ q.D
  ne3 : q.B ≠ q.L
  ne4 : q.R ≠ q.D
  ne5 : q.R ≠ q.L
  ne6 : q.D ≠ q.L
  cm : ∀ i, i < v.ws.length → CommAt C2 H (v.ps.getD i 0) (v.ws.getD i []) ∧ GoodW (v.ws.getD i [])
  ld : ∀ i, i < v.az.length → LgAt C3 H (v.ls.getD i 0) (v.az.getD i default) ∧ GoodA n k (v.az.getD i default)
  rc : ∀ i, i < v.bs.length → H (v.rs.getD i 0) = some (.tup ((v.bs.getD i []).map V.bl))
theorem CnAt.same {C1 C2 C3 : Addr} {n k : Nat} {H H' : Hp} {p : Addr} {q : CnP} {v : CnV} (c : CnAt C1 C2 C3 n k H p q v) (s : Same H H') : CnAt C1 C2 C3 n k H' p q v :=
  { c with
    ins := c.ins.elim fun d h => ⟨d, s _ _ h⟩
    hB := s _ _ c.hB
    hR := s _ _ c.hR
    hD := s _ _ c.hD
    hL := s _ _ c.hL
    cm := fun i hi => ⟨(c.cm i hi).1.same s, (c.cm i hi).2⟩
    ld := fun i hi => ⟨(c.ld i hi).1.same s, (c.ld i hi).2⟩
    rc := fun i hi => s _ _ (c.rc i hi) }
theorem CnAt.mono {C1 C2 C3 : Addr} {n k l : Nat} {H : Hp} {p : Addr} {q : CnP} {v : CnV} (c : CnAt C1 C2 C3 n k H p q v) (h : k ≤ l) : CnAt C1 C2 C3 n l H p q v :=
  { c with ld := fun i hi => ⟨(c.ld i hi).1, (c.ld i hi).2.mono h⟩ }
def But1 (p : Addr) (H H' : Hp) : Prop := ∀ b o, b ≠ p → H b = some o → H' b = some o
theorem But1.trans {p : Addr} {H H' H'' : Hp} (h : But1 p H H') (g : But1 p H' H'') : But1 p H H'' := fun b o n e => g b o n (h b o n e)
theorem But1.seq {p : Addr} {H H' : Hp} {C dx : Addr} {fs : List (Str × V)} {l : Addr} {xs : List V} (h : But1 p H H') (hp : H p = some (.ins C dx fs)) (s : SqL K H l xs) : SqL K H' l xs := by
  rcases s with (s | ⟨o, s⟩) | s
  · exact .inl (.inl (h _ _ (fun e => by rw [e, hp] at s; cases s) s))
  · exact .inl (.inr ⟨o, h _ _ (fun e => by rw [e, hp] at s; cases s) s⟩)
  · exact .inr s
theorem CommAt.but {C : Addr} {p : Addr} {H H' : Hp} {C1 dx : Addr} {fs : List (Str × V)} {c : Addr} {ws : List Int} (h : CommAt C H c ws) (k : But1 p H H') (n : c ≠ p) (hp : H p = some (.ins C1 dx fs)) : CommAt C H' c ws := by
  obtain ⟨d, t, h1, h2⟩ := h
  exact ⟨d, t, k _ _ n h1, k _ _ (fun e => by rw [e, hp] at h2; cases h2) h2⟩
def spCInit (K : PySem.W.Frag) (C1 C2 C3 : Addr) : Sp := fun vs H Q _ => ∃ (p dx l g : Addr) (ws bal : List Int), vs = [.ref p, .ref l, .ref g] ∧ H p = some (.ins C1 dx []) ∧ SqL K H l (ws.map V.int) ∧ GoodW ws ∧ SqL K H g (bal.map V.int) ∧ bal.length ≤ 100 ∧ (∀ b ∈ bal, 0 ≤ b) ∧
  ∀ q c d H', CnAt C1 C2 C3 bal.length 0 H' p q ⟨[], [], [], [c], [ws], [d], [firstA bal]⟩ → H q.B = none → H q.R = none → H q.D = none → H q.L = none → (∀ b o, b ≠ p → H b = some o → H' b = some o) → Q .non H'
theorem ok_Chain_init (T : Txt K mg a) : ∃ fd, FnOk P w K mg base CX0 4 a.d_Chain_init fd ["self", "weights", "grants"] (spCInit K a.C_Chain a.C_Committee a.C_Ledger) ∧ Binds K fd ["self", "weights", "grants"] [] := by
  obtain ⟨fd, F, b⟩ := T.d_Chain_init.F
  obtain ⟨fd_Committee_init, G_Committee_init, b_Committee_init⟩ := ok_Committee_init (P := P) (w := w) (base := base) T
  obtain ⟨fd_first_ledger, G_first_ledger, b_first_ledger⟩ := ok_first_ledger (P := P) (w := w) (base := base) T
  refine ⟨fd, F.ok sc_Chain_init (fun vs H Q E h => ?_) (fun cdv A outer s H vs Q E hr h => ?_), b⟩
  · obtain ⟨_, _, _, _, _, _, rfl, _⟩ := h
    rfl
  · obtain ⟨p, dx, l, g, ws, bal, rfl, hp, hl, gw, hg, few, nn, k⟩ := h
    refine ⟨_, (pss_cons (ps_fld (pv 0) (pe_lst pa_nil) rfl)
      (pss_cons (ps_fld (pv 0) (pe_lst pa_nil) rfl)
      (pss_cons (ps_fld (pv 0) (pe_lst (pa_cons (pe_make T.m_Committee G_Committee_init (hr.mono (by decide)) (by rfl) T.g_Committee b_Committee_init .nil pass0 (pa_cons (pv 1) pa_nil)) pa_nil)) rfl)
      (pss_one (ps_fld (pv 0) (pe_lst (pa_cons (pe_call G_first_ledger (hr.mono (by decide)) rfl T.d_first_ledger.g T.d_first_ledger.kp b_first_ledger .nil pass0 (pa_cons (pv 2) pa_nil)) pa_nil)) rfl))))), ?_⟩
    walk_at "rs"
    refine ⟨(by show 0 ≤ sizeLine; decide), fun B hB => ?_⟩
    have pB : p ≠ B := fun e => by rw [e, hB] at hp; cases hp
    walk_at "rs"
    refine ⟨p, _, dx, [], rfl, (by rw [upd_ne pB]; exact hp), T.cl_Chain, T.a_Chain_blocks, (by show 0 < 1000; decide), ?_⟩
    have k1 : But1 p H (upd (upd H B (.lst [])) p (.ins a.C_Chain dx (putF "blocks" (.ref B) []))) := fun b o n e => by
      rw [upd_ne n, upd_ne (fun q => by rw [q, hB] at e; cases e)]
      exact e
    have hB1 : (upd (upd H B (.lst [])) p (.ins a.C_Chain dx (putF "blocks" (.ref B) []))) B = some (.lst []) := by rw [upd_ne pB.symm, upd_same]
    have hp1 : (upd (upd H B (.lst [])) p (.ins a.C_Chain dx (putF "blocks" (.ref B) []))) p = some (.ins a.C_Chain dx [("blocks", .ref B)]) := by rw [upd_same]; rfl
    generalize (upd (upd H B (.lst [])) p (.ins a.C_Chain dx (putF "blocks" (.ref B) []))) = H1 at k1 hB1 hp1 ⊢
    walk_at "rs"
    refine ⟨(by show 0 ≤ sizeLine; decide), fun R hR => ?_⟩
    have pR : p ≠ R := fun e => by rw [e, hR] at hp1; cases hp1
    have BR : B ≠ R := fun e => by rw [e, hR] at hB1; cases hB1
    walk_at "rs"
    refine ⟨p, _, dx, _, rfl, (by rw [upd_ne pR]; exact hp1), T.cl_Chain, T.a_Chain_receipts, (by show 1 < 1000; decide), ?_⟩
    have k2 : But1 p H1 (upd (upd H1 R (.lst [])) p (.ins a.C_Chain dx (putF "receipts" (.ref R) [("blocks", .ref B)]))) := fun b o n e => by
      rw [upd_ne n, upd_ne (fun q => by rw [q, hR] at e; cases e)]
      exact e
    have hR2 : (upd (upd H1 R (.lst [])) p (.ins a.C_Chain dx (putF "receipts" (.ref R) [("blocks", .ref B)]))) R = some (.lst []) := by rw [upd_ne pR.symm, upd_same]
    have hp2 : (upd (upd H1 R (.lst [])) p (.ins a.C_Chain dx (putF "receipts" (.ref R) [("blocks", .ref B)]))) p = some (.ins a.C_Chain dx [("blocks", .ref B), ("receipts", .ref R)]) := by rw [upd_same]; rfl
    generalize (upd (upd H1 R (.lst [])) p (.ins a.C_Chain dx (putF "receipts" (.ref R) [("blocks", .ref B)]))) = H2 at k2 hR2 hp2 ⊢
    have k12 := k1.trans k2
    have hB2 := k2 _ _ pB.symm hB1
    walk_at "rs"
    intro c dc hc hdc ndc
    have sM : Same H2 (upd (upd H2 dc (.own c)) c (.ins a.C_Committee dc [])) := same_upd (same_new hdc) hc
    refine ⟨c, dc, l, ws, rfl, upd_same, sM.seq (k12.seq hp hl), gw, fun H3 hcm keep => ⟨rfl, ?_⟩⟩
    have s3 : Same H2 H3 := fun b o e => keep b o (sM _ _ e) (fun q => by rw [q, hc] at e; cases e)
    walk_at "rs"
    refine ⟨(by show 1 ≤ sizeLine; decide), fun D hD => ?_⟩
    have hp3 := s3 _ _ hp2
    have pD : p ≠ D := fun e => by rw [e, hD] at hp3; cases hp3
    have BD : B ≠ D := fun e => by rw [← e, s3 _ _ hB2] at hD; cases hD
    have RD : R ≠ D := fun e => by rw [← e, s3 _ _ hR2] at hD; cases hD
    walk_at "rs"
    refine ⟨p, _, dx, _, rfl, (by rw [upd_ne pD]; exact hp3), T.cl_Chain, T.a_Chain_committees, (by show 2 < 1000; decide), ?_⟩
    have k4 : But1 p H3 (upd (upd H3 D (.lst [V.ref c])) p (.ins a.C_Chain dx (putF "committees" (.ref D) [("blocks", .ref B), ("receipts", .ref R)]))) := fun b o n e => by
      rw [upd_ne n, upd_ne (fun q => by rw [q, hD] at e; cases e)]
      exact e
    have hD4 : (upd (upd H3 D (.lst [V.ref c])) p (.ins a.C_Chain dx (putF "committees" (.ref D) [("blocks", .ref B), ("receipts", .ref R)]))) D = some (.lst [V.ref c]) := by rw [upd_ne pD.symm, upd_same]
    have hp4 : (upd (upd H3 D (.lst [V.ref c])) p (.ins a.C_Chain dx (putF "committees" (.ref D) [("blocks", .ref B), ("receipts", .ref R)]))) p = some (.ins a.C_Chain dx [("blocks", .ref B), ("receipts", .ref R), ("committees", .ref D)]) := by rw [upd_same]; rfl
    have pc : c ≠ p := fun e => by rw [e, hp2] at hc; cases hc
    have hcm4 := hcm.but k4 pc hp3
    generalize (upd (upd H3 D (.lst [V.ref c])) p (.ins a.C_Chain dx (putF "committees" (.ref D) [("blocks", .ref B), ("receipts", .ref R)]))) = H4 at k4 hD4 hp4 hcm4 ⊢
    have k3 : But1 p H2 H3 := fun b o _ e => s3 _ _ e
    have k14 := (k12.trans k3).trans k4
    have hB4 := k4 _ _ pB.symm (s3 _ _ hB2)
    have hR4 := k4 _ _ pR.symm (s3 _ _ hR2)
    walk_at "rs"
    refine ⟨g, bal, rfl, .inl (k14.seq hp hg), few, fun d H5 s5 hd0 hld => ?_⟩
    walk_at "rs"
    refine ⟨(by show 1 ≤ sizeLine; decide), fun L hL => ?_⟩
    have hp5 := s5 _ _ hp4
    have pL : p ≠ L := fun e => by rw [e, hL] at hp5; cases hp5
    have BL : B ≠ L := fun e => by rw [← e, s5 _ _ hB4] at hL; cases hL
    have RL : R ≠ L := fun e => by rw [← e, s5 _ _ hR4] at hL; cases hL
    have DL : D ≠ L := fun e => by rw [← e, s5 _ _ hD4] at hL; cases hL
    walk_at "rs"
    refine ⟨p, _, dx, _, rfl, (by rw [upd_ne pL]; exact hp5), T.cl_Chain, T.a_Chain_ledgers, (by show 3 < 1000; decide), ?_⟩
    have k6 : But1 p H5 (upd (upd H5 L (.lst [V.ref d])) p (.ins a.C_Chain dx (putF "ledgers" (.ref L) [("blocks", .ref B), ("receipts", .ref R), ("committees", .ref D)]))) := fun b o n e => by
      rw [upd_ne n, upd_ne (fun q => by rw [q, hL] at e; cases e)]
      exact e
    have hL6 : (upd (upd H5 L (.lst [V.ref d])) p (.ins a.C_Chain dx (putF "ledgers" (.ref L) [("blocks", .ref B), ("receipts", .ref R), ("committees", .ref D)]))) L = some (.lst [V.ref d]) := by rw [upd_ne pL.symm, upd_same]
    have hp6 : (upd (upd H5 L (.lst [V.ref d])) p (.ins a.C_Chain dx (putF "ledgers" (.ref L) [("blocks", .ref B), ("receipts", .ref R), ("committees", .ref D)]))) p = some (.ins a.C_Chain dx [("blocks", .ref B), ("receipts", .ref R), ("committees", .ref D), ("ledgers", .ref L)]) := by rw [upd_same]; rfl
    generalize (upd (upd H5 L (.lst [V.ref d])) p (.ins a.C_Chain dx (putF "ledgers" (.ref L) [("blocks", .ref B), ("receipts", .ref R), ("committees", .ref D)]))) = H6 at k6 hL6 hp6 ⊢
    have k5 : But1 p H4 H5 := fun b o _ e => s5 _ _ e
    have kAll := (k14.trans k5).trans k6
    have hcm6 := (hcm4.same s5).but k6 pc hp5
    have dp : d ≠ p := fun e => by rw [e, hp4] at hd0; cases hd0
    have fr : ∀ {b : Addr} {Hx : Hp}, But1 p H Hx → b ≠ p → Hx b = none → H b = none := fun {b Hx} kx n e => by
      cases q : H b with
      | none => rfl
      | some o => rw [kx _ _ n q] at e; cases e
    refine k ⟨B, R, D, L⟩ c d H6 ⟨⟨dx, hp6⟩, k6 _ _ pB.symm (s5 _ _ hB4), k6 _ _ pR.symm (s5 _ _ hR4), k6 _ _ pD.symm (s5 _ _ hD4), hL6, rfl, rfl, rfl, rfl, rfl, rfl, BR, BD, BL, RD, RL, DL, fun i hi => ?_, fun i hi => ?_, fun i hi => absurd hi (Nat.not_lt_zero _)⟩ hB (fr k1 pR.symm hR) (fr (k12.trans k3) pD.symm hD) (fr (k14.trans k5) pL.symm hL) kAll
    · have : i = 0 := Nat.lt_one_iff.mp hi
      rw [this]
      exact ⟨hcm6, gw⟩
    · have : i = 0 := Nat.lt_one_iff.mp hi
      rw [this]
      refine ⟨?_, first_good few nn 0⟩
      obtain ⟨dd, b1, c1, s1, ts, e1, e2, e3, e4, e5⟩ := hld
      have o6 : ∀ {b : Addr} {o : HO}, b ≠ p → H5 b = some o → H6 b = some o := fun n e => k6 _ _ n e
      have ot : ∀ {b : Addr} {xs : List V}, H5 b = some (.tup xs) → H6 b = some (.tup xs) := fun e => o6 (fun q => by rw [q, hp5] at e; cases e) e
      refine ⟨dd, b1, c1, s1, ts, o6 dp e1, ot e2, ot e3, ot e4, imp_paired e5 fun a b z => ?_⟩
      obtain ⟨o, us, z1, z2, z3⟩ := z
      exact ⟨o, us, o6 (fun q => by rw [q, hp5] at z1; cases z1) z1, z2, imp_paired z3 fun _ _ e => ot e⟩
def spCHeight (C1 C2 C3 : Addr) : Sp := fun vs H Q _ => ∃ (p : Addr) (n k : Nat) (q : CnP) (v : CnV), vs = [.ref p] ∧ CnAt C1 C2 C3 n k H p q v ∧ Q (.int v.zs.length) H
theorem ok_Chain_height (T : Txt K mg a) : ∃ fd, FnOk P w K mg base CX0 1 a.d_Chain_height fd ["self"] (spCHeight a.C_Chain a.C_Committee a.C_Ledger) ∧ Binds K fd ["self"] [] := by
  obtain ⟨fd, F, b⟩ := T.d_Chain_height.F
  refine ⟨fd, F.ok sc_Chain_height (fun vs H Q E h => ?_) (fun cdv A outer s H vs Q E hr h => ?_), b⟩
  · obtain ⟨_, _, _, _, _, rfl, _⟩ := h
    rfl
  · obtain ⟨p, n, m, q, v, rfl, c, k⟩ := h
    obtain ⟨dx, hp⟩ := c.ins
    refine ⟨_, (pss_one (ps_ret (pe_callB call_len_seq (by rfl) T.n_len PySem.boot_len (pa_cons (pe_fld (pv 0) rfl) pa_nil)))), ?_⟩
    walk_at "rs"
    refine ⟨p, _, dx, _, .ref q.B, rfl, hp, T.cl_Chain, T.a_Chain_blocks, rfl, ?_⟩
    walk_at "rs"
    refine ⟨q.B, _, rfl, .inl (SqL.of c.hB), ?_⟩
    rw [List.length_map]
    exact k
def spCComm (C1 C2 C3 : Addr) : Sp := fun vs H Q _ => ∃ (p : Addr) (n k : Nat) (q : CnP) (v : CnV), vs = [.ref p] ∧ CnAt C1 C2 C3 n k H p q v ∧ Q (.ref (v.ps.getD v.zs.length 0)) H
theorem at_last {α : Type} {xs : List α} {d : α} {n : Nat} (h : xs.length = n + 1) : atI xs (-1) = some (xs.getD n d) := by
  have ne : xs ≠ [] := fun e => by rw [e] at h; cases h
  have e := List.dropLast_concat_getLast ne
  rw [← e, atI_last]
  congr 1
  have l : xs.dropLast.length = n := by rw [List.length_dropLast]; omega
  rw [List.getD_eq_getElem?_getD, List.getElem?_append_right (Nat.le_of_eq l), l, Nat.sub_self]
  rfl
theorem map_getD {ps : List Addr} {n : Nat} (h : n < ps.length) : (ps.map V.ref).getD n .non = .ref (ps.getD n 0) := by
  rw [List.getD_eq_getElem?_getD, List.getD_eq_getElem?_getD, List.getElem?_map, List.getElem?_eq_getElem h]
  rfl
theorem ok_Chain_committee (T : Txt K mg a) : ∃ fd, FnOk P w K mg base CX0 1 a.d_Chain_committee fd ["self"] (spCComm a.C_Chain a.C_Committee a.C_Ledger) ∧ Binds K fd ["self"] [] := by
  obtain ⟨fd, F, b⟩ := T.d_Chain_committee.F
  refine ⟨fd, F.ok sc_Chain_committee (fun vs H Q E h => ?_) (fun cdv A outer s H vs Q E hr h => ?_), b⟩
  · obtain ⟨_, _, _, _, _, rfl, _⟩ := h
    rfl
  · obtain ⟨p, n, m, q, v, rfl, c, k⟩ := h
    obtain ⟨dx, hp⟩ := c.ins
    refine ⟨_, (pss_one (ps_ret (pe_ix ix_list (pe_fld (pv 0) rfl) (pe_un un_neg pe_int) (fun _ _ => rfl)))), ?_⟩
    walk_at "rs"
    refine ⟨p, _, dx, _, .ref q.D, rfl, hp, T.cl_Chain, T.a_Chain_committees, rfl, ?_⟩
    walk_at "rs"
    have e : atI (v.ps.map V.ref) (-1) = some (.ref (v.ps.getD v.zs.length 0)) := by
      rw [at_last (d := .non) (n := v.zs.length) (by rw [List.length_map]; exact c.np), map_getD (by have := c.np; omega)]
    refine ⟨q.D, _, _, _, rfl, rfl, SqL.of c.hD, e, ?_⟩
    exact k


def afterW (ws : List Int) (m v : Int) : List Int := if (ws.length : Int) ≤ m ∨ v < 1 then ws else ws.set m.toNat v
theorem afterW_len (ws : List Int) (m v : Int) : (afterW ws m v).length = ws.length := by
  unfold afterW
  split
  · rfl
  · rw [List.length_set]
theorem afterW_good {ws : List Int} {m v : Int} (g : GoodW ws) (hv : NOk v) : GoodW (afterW ws m v) := by
  unfold afterW
  split
  · exact g
  · rename_i c
    refine ⟨by rw [List.length_set]; exact g.1, by rw [List.length_set]; exact g.2.1, fun x hx => ?_⟩
    rcases List.mem_or_eq_of_mem_set hx with h | h
    · exact g.2.2 x h
    · rw [h]
      have := hv.2
      omega
/-- whether a new weight is taken -/
def doneW (ws : List Int) (m v : Int) : Bool := decide (m < ws.length ∧ 1 ≤ v)
def spAW (K : PySem.W.Frag) : Sp := fun vs H Q _ => ∃ (t c : Addr) (ws : List Int) (m v : Int), vs = [.ref t, .ref c] ∧ H t = some (.tup (ws.map V.int)) ∧ GoodW ws ∧ CmAt H c (.w m v) ∧ NOk m ∧ NOk v ∧
  ∀ q t' H', Same H H' → H' q = some (.tup [.ref t', .bl (doneW ws m v)]) → H' t' = some (.tup ((afterW ws m v).map V.int)) → Q (.ref q) H'
theorem ok_after_weight (T : Txt K mg a) : ∃ fd, FnOk P w K mg base CX0 1 a.d_after_weight fd ["weights", "command"] (spAW K) ∧ Binds K fd ["weights", "command"] [] := by
  obtain ⟨fd, F, b⟩ := T.d_after_weight.F
  refine ⟨fd, F.ok sc_after_weight (fun vs H Q E h => ?_) (fun cdv A outer s H vs Q E hr h => ?_), b⟩
  · obtain ⟨_, _, _, _, _, rfl, _⟩ := h
    rfl
  · obtain ⟨t, c, ws, m, v, rfl, ht, gw, hc, om, ov, k⟩ := h
    have hc' : H c = some (.tup [.str "w", .int m, .int v]) := hc
    refine ⟨_, (pss_cons (ps_asg (pv 1) (pg_tup rfl (pgs_cons (pg_name (i := 2) sc_after_weight.nd rfl (Or.inl rfl)) (pgs_cons (pg_name (i := 3) sc_after_weight.nd rfl (Or.inl rfl)) (pgs_cons (pg_name (i := 4) sc_after_weight.nd rfl (Or.inl rfl)) pgs_nil)))))
      (pss_cons (ps_if (PW.pt (pw_or (pt_cmpR op_ge (pv 3) (pe_callB call_len_seq (by rfl) T.n_len PySem.boot_len (pa_cons (pv 0) pa_nil)) (nomark _)) (pw_or1 (pt_cmpR op_lt (pv 4) pe_int (nomark _)))))
      (pss_one (ps_ret (pe_tup (pa_cons (pv 0) (pa_cons pe_bl pa_nil)))))
      pss_nil)
      (pss_one (ps_ret (pe_tup (pa_cons (pe_op op_catB (pe_op op_catB (pe_slice sl_tup (pv 0) po_none (po_some (pv 3))) (pe_tup (pa_cons (pv 4) pa_nil))) (pe_slice sl_tup (pv 0) (po_some (pe_op op_add (pv 3) pe_int)) po_none)) (pa_cons pe_bl pa_nil))))))), ?_⟩
    walk_at "rs"
    refine ⟨c, _, rfl, SqT.of hc', rfl, ?_⟩
    refine ⟨_, _, rfl, _, _, rfl, _, _, rfl, rfl, ?_⟩
    walk_at "rs"
    refine ⟨t, _, rfl, .inr (SqT.of ht), ?_⟩
    have ln : (ws.map V.int).length = ws.length := List.length_map _
    rw [ln]
    have g2 := gw.2.1
    have no : (ws.length : Int) ≤ m ∨ v < 1 → ∀ q, H q = none → Q (.ref q) (upd H q (.tup [.ref t, .bl false])) := fun h q hq => by
      refine k q t _ (same_new hq) ?_ ?_
      · rw [upd_same, show doneW ws m v = false from decide_eq_false (by omega)]
      · unfold afterW
        rw [if_pos h]
        exact same_new hq _ _ ht
    walk_at "rs"
    refine ite2 (fun c1 => ?_) (fun c1 => ?_)
    · have c1 : (ws.length : Int) ≤ m := by simpa using c1
      walk_at "rs"
      exact ⟨(by show 2 ≤ sizeLine; decide), no (.inl c1)⟩
    have c1 : ¬ (ws.length : Int) ≤ m := by simpa using c1
    walk_at "rs"
    refine ite2 (fun c2 => ?_) (fun c2 => ?_)
    · have c2 : v < 1 := by simpa using c2
      walk_at "rs"
      exact ⟨(by show 2 ≤ sizeLine; decide), no (.inr c2)⟩
    have c2 : ¬ v < 1 := by simpa using c2
    clear no
    have ea : afterW ws m v = ws.set m.toNat v := by
      unfold afterW
      rw [if_neg (by omega)]
    have ed : doneW ws m v = true := decide_eq_true (by omega)
    rw [ea, ed] at k
    obtain ⟨j, rfl⟩ : ∃ j : Nat, m = (j : Int) := ⟨m.toNat, by have := om.1; omega⟩
    rw [Int.toNat_natCast] at k
    have hj : j < ws.length := by omega
    have nw1 : ¬ (HT.sIx (ws.map V.int).length 0 none = 0 ∧ HT.sIx (ws.map V.int).length (ws.map V.int).length (some (j : Int)) = (ws.map V.int).length) := by
      rw [HT.sIx_nat]
      omega
    have nw2 : ¬ (HT.sIx (ws.map V.int).length 0 (some ((j : Int) + 1)) = 0 ∧ HT.sIx (ws.map V.int).length (ws.map V.int).length none = (ws.map V.int).length) := by
      rw [show (j : Int) + 1 = ((j + 1 : Nat) : Int) from rfl, HT.sIx_nat]
      omega
    have hput : cutV (ws.map V.int) none (some (j : Int)) ++ [V.int v] ++ cutV (ws.map V.int) (some ((j : Int) + 1)) none = (ws.set j v).map V.int := by
      unfold cutV
      rw [show (j : Int) + 1 = ((j + 1 : Nat) : Int) from rfl, HT.sIx_nat, HT.sIx_nat, HT.sIx_none, HT.sIx_none, ln, Nat.min_eq_left (Nat.le_of_lt hj), Nat.min_eq_left hj, Nat.sub_zero, List.drop_zero, List.take_of_length_le (l := (ws.map V.int).drop (j + 1)) (by rw [List.length_drop, ln]; exact Nat.le_refl _), List.map_set, List.set_eq_take_append_cons_drop, if_pos (by rw [ln]; exact hj), List.append_assoc]
      rfl
    have lA := cutV_length (ws.map V.int) none (some (j : Int))
    have lC := cutV_length (ws.map V.int) (some ((j : Int) + 1)) none
    rw [ln] at lA lC
    walk_at "rs"
    refine ⟨t, _, rfl, SqT.of ht, nw1, fun q1 hq1 => ?_⟩
    generalize cutV (ws.map V.int) none (some (j : Int)) = A1 at hput lA
    have s1 := same_new (o := .tup A1) hq1
    have h1 : (upd H q1 (.tup A1)) q1 = some (.tup A1) := upd_same
    generalize upd H q1 (.tup A1) = H1 at s1 h1 ⊢
    walk_at "rs"
    refine ⟨(by show 1 ≤ sizeLine; decide), fun q2 hq2 => ?_⟩
    have s2 := same_new (o := .tup [V.int v]) hq2
    have h2 : (upd H1 q2 (.tup [V.int v])) q2 = some (.tup [V.int v]) := upd_same
    have h12 := s2 _ _ h1
    generalize upd H1 q2 (.tup [V.int v]) = H2 at s2 h2 h12 ⊢
    refine ⟨q1, q2, A1, [V.int v], rfl, rfl, h12, h2, by rw [sizeLine_eq]; show A1.length + 1 ≤ _; omega, fun q3 H3 s3 h3 => ?_⟩
    walk_at "rs"
    have s13 := s1.trans (s2.trans s3)
    refine ⟨t, _, rfl, SqT.of (s13 _ _ ht), nw2, fun q4 hq4 => ?_⟩
    generalize cutV (ws.map V.int) (some ((j : Int) + 1)) none = C1 at hput lC
    have s4 := same_new (o := .tup C1) hq4
    have h4 : (upd H3 q4 (.tup C1)) q4 = some (.tup C1) := upd_same
    have h34 := s4 _ _ h3
    generalize upd H3 q4 (.tup C1) = H4 at s4 h4 h34 ⊢
    refine ⟨q3, q4, A1 ++ [V.int v], C1, rfl, rfl, h34, h4, by rw [List.length_append, sizeLine_eq]; show A1.length + 1 + C1.length ≤ _; omega, fun q5 H5 s5 h5 => ?_⟩
    rw [hput] at h5
    walk_at "rs"
    refine ⟨(by show 2 ≤ sizeLine; decide), fun r hr => ?_⟩
    exact k r q5 _ (s13.trans (s4.trans (s5.trans (same_new hr)))) upd_same (same_new hr _ _ h5)
/-- what a command makes of weights, accounts, receipts -/
def stepB (st : List Int × Ac × List Bool) (c : Cm) : List Int × Ac × List Bool := match c with
  | .w m v => (afterW st.1 m v, st.2.1, st.2.2 ++ [doneW st.1 m v])
  | .p x y z => match afterA st.2.1 (.p x y z) with
    | some B => (st.1, B, st.2.2 ++ [true])
    | none => (st.1, st.2.1, st.2.2 ++ [false])
  | .k x y z => match afterA st.2.1 (.k x y z) with
    | some B => (st.1, B, st.2.2 ++ [true])
    | none => (st.1, st.2.1, st.2.2 ++ [false])
  | .d x z => match afterA st.2.1 (.d x z) with
    | some B => (st.1, B, st.2.2 ++ [true])
    | none => (st.1, st.2.1, st.2.2 ++ [false])
theorem stepB_some {st : List Int × Ac × List Bool} {c : Cm} {B : Ac} (h : afterA st.2.1 c = some B) : stepB st c = (st.1, B, st.2.2 ++ [true]) := by
  cases c with
  | w m v => cases h
  | p x y z => show (match afterA st.2.1 (.p x y z) with | some B => _ | none => _) = _; rw [h]
  | k x y z => show (match afterA st.2.1 (.k x y z) with | some B => _ | none => _) = _; rw [h]
  | d x z => show (match afterA st.2.1 (.d x z) with | some B => _ | none => _) = _; rw [h]
theorem stepB_none {st : List Int × Ac × List Bool} {c : Cm} (h : afterA st.2.1 c = none) (nw : ∀ m v, c ≠ .w m v) : stepB st c = (st.1, st.2.1, st.2.2 ++ [false]) := by
  cases c with
  | w m v => exact absurd rfl (nw m v)
  | p x y z => show (match afterA st.2.1 (.p x y z) with | some B => _ | none => _) = _; rw [h]
  | k x y z => show (match afterA st.2.1 (.k x y z) with | some B => _ | none => _) = _; rw [h]
  | d x z => show (match afterA st.2.1 (.d x z) with | some B => _ | none => _) = _; rw [h]
def runB (ws : List Int) (A : Ac) (cs : List Cm) : List Int × Ac × List Bool := cs.foldl stepB (ws, A, [])
theorem runB_snoc (ws : List Int) (A : Ac) (cs : List Cm) (c : Cm) : runB ws A (cs ++ [c]) = stepB (runB ws A cs) c := by
  unfold runB
  rw [List.foldl_append]
  rfl
theorem stepB_good {st : List Int × Ac × List Bool} {n k : Nat} {c : Cm} (gw : GoodW st.1) (ga : GoodA n k st.2.1) (hk : k ≤ 30000) (hc : c.fine) : GoodW (stepB st c).1 ∧ GoodA n (k + 200) (stepB st c).2.1 ∧ (stepB st c).2.2.length = st.2.2.length + 1 := by
  have other : (∀ m v, c ≠ .w m v) → GoodW (stepB st c).1 ∧ GoodA n (k + 200) (stepB st c).2.1 ∧ (stepB st c).2.2.length = st.2.2.length + 1 := fun nw => by
    cases e : afterA st.2.1 c with
    | none =>
      rw [stepB_none e nw]
      exact ⟨gw, ga.mono (by omega), List.length_append ..⟩
    | some B =>
      rw [stepB_some e]
      exact ⟨gw, afterA_good ga hk hc e, List.length_append ..⟩
  cases c with
  | w m v => exact ⟨afterW_good gw hc.2, ga.mono (by omega), List.length_append ..⟩
  | p x y z => exact other (fun _ _ e => nomatch e)
  | k x y z => exact other (fun _ _ e => nomatch e)
  | d x z => exact other (fun _ _ e => nomatch e)
theorem runB_good {ws : List Int} {A : Ac} {n k : Nat} (gw : GoodW ws) (ga : GoodA n k A) : ∀ (cs : List Cm), k + 200 * cs.length ≤ 30000 → (∀ c ∈ cs, c.fine) → GoodW (runB ws A cs).1 ∧ GoodA n (k + 200 * cs.length) (runB ws A cs).2.1 ∧ (runB ws A cs).2.2.length = cs.length := by
  intro cs
  induction h : cs.length generalizing cs with
  | zero =>
    intro _ _
    rw [List.eq_nil_of_length_eq_zero h]
    exact ⟨gw, ga, rfl⟩
  | succ i ih =>
    intro hk hf
    rcases List.eq_nil_or_concat cs with e | ⟨s, c, e⟩
    · rw [e] at h; cases h
    · rw [List.concat_eq_append] at e
      subst e
      rw [List.length_append, List.length_singleton] at h
      obtain ⟨g1, g2, g3⟩ := ih s (by omega) (by omega) fun c hc => hf c (List.mem_append_left _ hc)
      rw [runB_snoc]
      obtain ⟨e1, e2, e3⟩ := stepB_good g1 g2 (by omega) (hf c (List.mem_append_right _ (List.mem_singleton.mpr rfl)))
      exact ⟨e1, e2.mono (by omega), by rw [e3, g3]⟩
theorem runB_take {ws : List Int} {A : Ac} {cs : List Cm} {i : Nat} (h : i < cs.length) : runB ws A (cs.take (i + 1)) = stepB (runB ws A (cs.take i)) (cs.getD i default) := by
  rw [← runB_snoc]
  congr 1
  rw [List.take_add_one, List.getElem?_eq_getElem h, List.getD_eq_getElem?_getD, List.getElem?_eq_getElem h]
  rfl
/-- all but what a chain may change stays -/
def ButC (q : CnP) (H H' : Hp) : Prop := ∀ b o, b ≠ q.B → b ≠ q.R → b ≠ q.D → b ≠ q.L → H b = some o → H' b = some o
theorem getD_memC {α : Type} {d : α} {xs : List α} {i : Nat} (h : i < xs.length) : xs.getD i d ∈ xs := by
  rw [List.getD_eq_getElem?_getD, List.getElem?_eq_getElem h]
  exact List.getElem_mem h
theorem take_snocC {α : Type} {d : α} {xs : List α} {i : Nat} (h : i < xs.length) : xs.take (i + 1) = xs.take i ++ [xs.getD i d] := by
  rw [List.take_add_one, List.getElem?_eq_getElem h, List.getD_eq_getElem?_getD, List.getElem?_eq_getElem h]
  rfl
theorem getD_app {α : Type} {d : α} {xs ys : List α} {i : Nat} (h : i < xs.length) : (xs ++ ys).getD i d = xs.getD i d := by
  rw [List.getD_eq_getElem?_getD, List.getD_eq_getElem?_getD, List.getElem?_append_left h]
theorem getD_end {α : Type} {d x : α} {xs : List α} : (xs ++ [x]).getD xs.length d = x := by
  rw [List.getD_eq_getElem?_getD, List.getElem?_append_right (Nat.le_refl _), Nat.sub_self]
  rfl
def NL (o : HO) : Prop := ∀ xs, o ≠ .lst xs
theorem ButC.nl {C1 C2 C3 : Addr} {n m : Nat} {H H' : Hp} {p : Addr} {q : CnP} {v : CnV} (k : ButC q H H') (c : CnAt C1 C2 C3 n m H p q v) {b : Addr} {o : HO} (h : H b = some o) (n : NL o) : H' b = some o := by
  refine k b o (fun e => ?_) (fun e => ?_) (fun e => ?_) (fun e => ?_) h
  · rw [e, c.hB] at h; exact n _ (Option.some.inj h).symm
  · rw [e, c.hR] at h; exact n _ (Option.some.inj h).symm
  · rw [e, c.hD] at h; exact n _ (Option.some.inj h).symm
  · rw [e, c.hL] at h; exact n _ (Option.some.inj h).symm
theorem LgAt.but {C C1 C2 C3 : Addr} {n m : Nat} {H H' : Hp} {p x : Addr} {q : CnP} {v : CnV} {A : Ac} (k : ButC q H H') (c : CnAt C1 C2 C3 n m H p q v) (h : LgAt C H x A) : LgAt C H' x A := by
  obtain ⟨dd, b1, c1, s1, ts, e1, e2, e3, e4, e5⟩ := h
  have ot : ∀ {b : Addr} {xs : List V}, H b = some (.tup xs) → H' b = some (.tup xs) := fun e => k.nl c e (fun _ e => nomatch e)
  refine ⟨dd, b1, c1, s1, ts, k.nl c e1 (fun _ e => nomatch e), ot e2, ot e3, ot e4, imp_paired e5 fun a b z => ?_⟩
  obtain ⟨o, us, z1, z2, z3⟩ := z
  exact ⟨o, us, k.nl c z1 (fun _ e => nomatch e), z2, imp_paired z3 fun _ _ e => ot e⟩

def spExtend (C1 C2 C3 : Addr) : Sp := fun vs H Q _ => ∃ (p : Addr) (n m : Nat) (q : CnP) (v : CnV) (z : Str), vs = [.ref p, .str z] ∧ CnAt C1 C2 C3 n m H p q v ∧ z.length ≤ 1000 ∧ (∀ c ∈ cmdsOf z, c.fine) ∧ m + 200 * (cmdsOf z).length ≤ 30000 ∧ v.zs.length ≤ 900 ∧
  ∀ r c l H', CnAt C1 C2 C3 n (m + 200 * (cmdsOf z).length) H' p q ⟨v.zs ++ [z], v.rs ++ [r], v.bs ++ [(runB (v.ws.getD v.zs.length []) (v.az.getD v.zs.length default) (cmdsOf z)).2.2], v.ps ++ [c], v.ws ++ [(runB (v.ws.getD v.zs.length []) (v.az.getD v.zs.length default) (cmdsOf z)).1], v.ls ++ [l], v.az ++ [(runB (v.ws.getD v.zs.length []) (v.az.getD v.zs.length default) (cmdsOf z)).2.1]⟩ → ButC q H H' → Q .non H'
theorem ok_Chain_extend (TE : TxtE w K mg a) (T : Txt K mg a) : ∃ fd, FnOk P w K mg base CX0 9 a.d_Chain_extend fd ["self", "block"] (spExtend a.C_Chain a.C_Committee a.C_Ledger) ∧ Binds K fd ["self", "block"] [] := by
  obtain ⟨fd, F, b⟩ := T.d_Chain_extend.F
  obtain ⟨fd_commands_of, G_commands_of, b_commands_of⟩ := ok_commands_of (P := P) (w := w) (base := base) TE T
  obtain ⟨fd_Chain_committee, G_Chain_committee, b_Chain_committee⟩ := ok_Chain_committee (P := P) (w := w) (base := base) T
  obtain ⟨fd_Committee_init, G_Committee_init, b_Committee_init⟩ := ok_Committee_initT (P := P) (w := w) (base := base) T
  obtain ⟨fd_after_weight, G_after_weight, b_after_weight⟩ := ok_after_weight (P := P) (w := w) (base := base) T
  obtain ⟨fd_after_command, G_after_command, b_after_command⟩ := ok_after_command (P := P) (w := w) (base := base) TE T
  refine ⟨fd, F.ok sc_Chain_extend (fun vs H Q E h => ?_) (fun cdv A outer s H vs Q E hr h => ?_), b⟩
  · obtain ⟨_, _, _, _, _, _, rfl, _⟩ := h
    rfl
  · obtain ⟨p, n, m, q, v, z, rfl, c, lz, fine, hm, few, k⟩ := h
    obtain ⟨dx, hp⟩ := id c.ins
    refine ⟨_, (pss_cons (ps_set (i := 2) sc_Chain_extend.nd rfl (Or.inl rfl) (pe_fld (pe_meth0 (pv 0) T.cl_Chain T.me_Chain_committee G_Chain_committee (hr.mono (by decide)) b_Chain_committee .nil pass0) rfl))
      (pss_cons (ps_set (i := 3) sc_Chain_extend.nd rfl (Or.inl rfl) (pe_ix ix_list (pe_fld (pv 0) rfl) (pe_un un_neg pe_int) (fun _ _ => rfl)))
      (pss_cons (ps_set (i := 4) sc_Chain_extend.nd rfl (Or.inl rfl) (pe_lst pa_nil))
      (pss_cons (ps_for PassesOwn.never rfl (pi_list (pe_call G_commands_of (hr.mono (by decide)) rfl T.d_commands_of.g T.d_commands_of.kp b_commands_of .nil pass0 (pa_cons (pv 1) pa_nil))) (pg_name (i := 5) sc_Chain_extend.nd rfl (Or.inl rfl))
      (pss_cons (ps_if (pt_cmpR op_eq (pe_ix ix_tup (pv 5) pe_int (fun _ _ => rfl)) pe_str (nomark _))
        (pss_one (ps_asg (pe_call G_after_weight (hr.mono (by decide)) rfl T.d_after_weight.g T.d_after_weight.kp b_after_weight .nil pass0 (pa_cons (pv 2) (pa_cons (pv 5) pa_nil))) (pg_tup rfl (pgs_cons (pg_name (i := 2) sc_Chain_extend.nd rfl (Or.inl rfl)) (pgs_cons (pg_name (i := 6) sc_Chain_extend.nd rfl (Or.inl rfl)) pgs_nil)))))
        (pss_one (ps_asg (pe_call G_after_command (hr.mono (by decide)) rfl T.d_after_command.g T.d_after_command.kp b_after_command .nil pass0 (pa_cons (pv 3) (pa_cons (pv 5) pa_nil))) (pg_tup rfl (pgs_cons (pg_name (i := 3) sc_Chain_extend.nd rfl (Or.inl rfl)) (pgs_cons (pg_name (i := 6) sc_Chain_extend.nd rfl (Or.inl rfl)) pgs_nil))))))
        (pss_one (ps_expr (pe_bm PySem.F.plainAttrs_list PySem.F.slot_list_append PySem.F.type_list_append mt_append (pv 4) (pa_cons (pv 6) pa_nil))))))
      (pss_cons (ps_expr (pe_bm PySem.F.plainAttrs_list PySem.F.slot_list_append PySem.F.type_list_append mt_append (pe_fld (pv 0) rfl) (pa_cons (pv 1) pa_nil)))
      (pss_cons (ps_expr (pe_bm PySem.F.plainAttrs_list PySem.F.slot_list_append PySem.F.type_list_append mt_append (pe_fld (pv 0) rfl) (pa_cons (pe_callTy call_tuple_of (by rfl) T.n_tuple (by decide +kernel) (pa_cons (pv 4) pa_nil)) pa_nil)))
      (pss_cons (ps_expr (pe_bm PySem.F.plainAttrs_list PySem.F.slot_list_append PySem.F.type_list_append mt_append (pe_fld (pv 0) rfl) (pa_cons (pe_make T.m_Committee G_Committee_init (hr.mono (by decide)) (by rfl) T.g_Committee b_Committee_init .nil pass0 (pa_cons (pv 2) pa_nil)) pa_nil)))
      (pss_one (ps_expr (pe_bm PySem.F.plainAttrs_list PySem.F.slot_list_append PySem.F.type_list_append mt_append (pe_fld (pv 0) rfl) (pa_cons (pv 3) pa_nil))))))))))), ?_⟩
    walk_at "rs"
    refine ⟨p, dx, _, rfl, hp, rfl, ?_⟩
    walk_at "rs"
    refine ⟨p, n, m, q, v, rfl, c, ?_⟩
    obtain ⟨⟨dc, t, hc1, hc2⟩, gw⟩ := c.cm v.zs.length (by have := c.nw; omega)
    obtain ⟨hlg, ga⟩ := c.ld v.zs.length (by have := c.na; omega)
    walk_at "rs"
    refine ⟨_, _, dc, _, .ref t, rfl, hc1, T.cl_Committee, T.a_Committee_weights, cfs_w _ _, ?_⟩
    walk_at "rs"
    refine ⟨p, _, dx, _, .ref q.L, rfl, hp, T.cl_Chain, T.a_Chain_ledgers, rfl, ?_⟩
    walk_at "rs"
    have eL : atI (v.ls.map V.ref) (-1) = some (.ref (v.ls.getD v.zs.length 0)) := by
      rw [at_last (d := .non) (n := v.zs.length) (by rw [List.length_map]; exact c.nl), map_getD (by have := c.nl; omega)]
    refine ⟨q.L, _, _, _, rfl, rfl, SqL.of c.hL, eL, ?_⟩
    walk_at "rs"
    refine ⟨(by show 0 ≤ sizeLine; decide), fun rl hrl => ?_⟩
    have s1 := same_new (o := .lst []) hrl
    have hrl1 : (upd H rl (.lst [])) rl = some (.lst (([] : List Bool).map V.bl)) := upd_same
    generalize upd H rl (.lst []) = H1 at s1 hrl1 ⊢
    walk_at "rs"
    refine ⟨lz, fun u cps H2 s2 hu0 hu hcs => ?_⟩
    have ncs := hcs.1
    have lcs := cmdsOf_long z
    have url : u ≠ rl := fun e => by rw [e, hrl1] at hu0; cases hu0
    generalize cmdsOf z = cs at fine hm hcs ncs lcs k
    generalize hw0 : v.ws.getD v.zs.length [] = ws0 at gw hc2 k
    generalize hA0 : v.az.getD v.zs.length default = A0 at hlg ga k
    generalize hl0 : v.ls.getD v.zs.length 0 = ld0 at hlg
    refine ⟨u, rfl, ⟨_, SqL.of hu⟩, for_list (K := K) (a := u) (xs := cps.map V.ref) (fun i σ H3 => ∃ (t' l' : Addr) (v5 v6 : Option V), σ = [some (.ref p), some (.str z), some (.ref t'), some (.ref l'), some (.ref rl), v5, v6] ∧ Same H H3 ∧ H3 rl = some (.lst ((runB ws0 A0 (cs.take i)).2.2.map V.bl)) ∧
        H3 u = some (.lst (cps.map V.ref)) ∧ CmsAt H3 cps cs ∧ H3 t' = some (.tup ((runB ws0 A0 (cs.take i)).1.map V.int)) ∧ LgAt a.C_Ledger H3 l' (runB ws0 A0 (cs.take i)).2.1)
      ⟨t, ld0, _, _, by rw [← hl0]; rfl, s1.trans s2, s2 _ _ hrl1, hu, hcs, s2 _ _ (s1 _ _ hc2), (hlg.same s1).same s2⟩ (fun i σ H3 _ ⟨_, _, _, _, _, _, _, h, _⟩ => SqL.of h) ?_ ?_⟩
    · rintro i y' σ H3 hy ⟨t', l', v5, v6, rfl, s3, hr3, hu3, hc3, ht3, hl3⟩
      have hi : i < cps.length := by
        have e := (List.getElem?_eq_some_iff.mp hy).1
        rwa [List.length_map] at e
      rw [List.getElem?_map, List.getElem?_eq_getElem hi] at hy
      cases hy
      have hi' : i < cs.length := by omega
      have hcm := hc3.2 i hi'
      have et := runB_take (ws := ws0) (A := A0) hi'
      have ea : cps.getD i 0 = cps[i] := by rw [List.getD_eq_getElem?_getD, List.getElem?_eq_getElem hi]; rfl
      rw [ea] at hcm
      obtain ⟨gi, gai, lri⟩ := runB_good gw ga (cs.take i) (by have := List.length_take_le' i cs; rw [List.length_take]; omega) fun c hc => fine c (List.mem_of_mem_take hc)
      rw [List.length_take, Nat.min_eq_left (Nat.le_of_lt hi')] at gai lri
      have fx := fine _ (getD_memC (d := default) hi')
      generalize cs.getD i default = x at hcm et fx
      generalize runB ws0 A0 (cs.take i) = S at hr3 ht3 hl3 et gi gai lri
      generalize runB ws0 A0 (cs.take (i + 1)) = S' at et
      have fin : ∀ (t5 l5 q5 : Addr) (b5 : Bool) (H4 : Hp) (v5 v6 : Option V), Same H3 H4 → H4 t5 = some (.tup (S'.1.map V.int)) → LgAt a.C_Ledger H4 l5 S'.2.1 → S'.2.2 = S.2.2 ++ [b5] →
          ∃ (t' l' : Addr) (w5 w6 : Option V), [some (V.ref p), some (.str z), some (.ref t5), some (.ref l5), some (.ref rl), v5, v6] = [some (V.ref p), some (.str z), some (.ref t'), some (.ref l'), some (.ref rl), w5, w6] ∧ Same H (upd H4 rl (.lst (S.2.2.map V.bl ++ [V.bl b5]))) ∧ (upd H4 rl (.lst (S.2.2.map V.bl ++ [V.bl b5]))) rl = some (.lst (S'.2.2.map V.bl)) ∧
            (upd H4 rl (.lst (S.2.2.map V.bl ++ [V.bl b5]))) u = some (.lst (cps.map V.ref)) ∧ CmsAt (upd H4 rl (.lst (S.2.2.map V.bl ++ [V.bl b5]))) cps cs ∧ (upd H4 rl (.lst (S.2.2.map V.bl ++ [V.bl b5]))) t' = some (.tup (S'.1.map V.int)) ∧ LgAt a.C_Ledger (upd H4 rl (.lst (S.2.2.map V.bl ++ [V.bl b5]))) l' S'.2.1 := fun t5 l5 q5 b5 H4 v5 v6 s4 ht5 hl5 eb => by
        have hr4 := s4 _ _ hr3
        have nrl : ∀ {b : Addr} {xs : List V}, H4 b = some (.tup xs) → b ≠ rl := fun {b xs} h e => by
          rw [e, hr4] at h
          cases h
        have ot : ∀ {b : Addr} {xs : List V}, H4 b = some (.tup xs) → (upd H4 rl (.lst (S.2.2.map V.bl ++ [V.bl b5]))) b = some (.tup xs) := fun e => by rw [upd_ne (nrl e)]; exact e
        refine ⟨t5, l5, _, _, rfl, same_upd (s3.trans s4) hrl, by rw [upd_same, eb, List.map_append]; rfl, by rw [upd_ne url]; exact s4 _ _ hu3, ⟨hc3.1, fun i' hi2 => ?_⟩, ot ht5, ?_⟩
        · exact ot (s4 _ _ (hc3.2 i' hi2))
        · obtain ⟨dd, b1, c1, z1, ts, e1, e2, e3, e4, e5⟩ := hl5
          refine ⟨dd, b1, c1, z1, ts, by rw [upd_ne (fun e => by rw [e, hr4] at e1; cases e1)]; exact e1, ot e2, ot e3, ot e4, imp_paired e5 fun a b zz => ?_⟩
          obtain ⟨o, us, y1, y2, y3⟩ := zz
          exact ⟨o, us, by rw [upd_ne (fun e => by rw [e, hr4] at y1; cases y1)]; exact y1, y2, imp_paired y3 fun _ _ e => ot e⟩
      have lbs : S.2.2.length ≤ 1000 := by omega
      cases x with
      | w mm vv =>
        have hcm' : H3 cps[i] = some (.tup [.str "w", .int mm, .int vv]) := hcm
        walk_at "rs"
        refine ⟨_, _, _, _, rfl, rfl, SqT.of hcm', atI_nat (j := 0) rfl, ?_⟩
        walk_at "rs"
        refine ⟨t', cps[i], _, mm, vv, rfl, ht3, gi, hcm', fx.1, fx.2, fun q5 t5 H4 s4 hq5 ht5 => ?_⟩
        refine ⟨q5, _, rfl, SqT.of hq5, rfl, ?_⟩
        refine ⟨_, _, rfl, _, _, rfl, rfl, ?_⟩
        walk_at "rs"
        have hr4 := s4 _ _ hr3
        refine ⟨.inl ⟨rfl, _, SqL.of hr4⟩, ?_⟩
        walk_at "rs"
        refine ⟨rl, _, _, rfl, rfl, hr4, by rw [List.length_map]; exact small1000 (by omega), ?_⟩
        subst et
        exact fin t5 l' 0 _ H4 _ _ s4 ht5 (hl3.same s4) rfl
      | p x y zz =>
        have hcm' : H3 cps[i] = some (.tup [.str "p", .int x, .int y, .int zz]) := hcm
        walk_at "rs"
        refine ⟨_, _, _, _, rfl, rfl, SqT.of hcm', atI_nat (j := 0) rfl, ?_⟩
        walk_at "rs"
        refine ⟨l', cps[i], _, .p x y zz, n, m + 200 * i, rfl, hl3, hcm, fx, gai, by omega, fun e q5 H4 s4 hq5 => ?_, fun e q5 H4 B e2 s4 hr5 hq5 => ?_⟩
        · rw [stepB_none e (fun _ _ e => nomatch e)] at et
          subst et
          refine ⟨q5, _, rfl, SqT.of hq5, rfl, ?_⟩
          refine ⟨_, _, rfl, _, _, rfl, rfl, ?_⟩
          walk_at "rs"
          have hr4 := s4 _ _ hr3
          refine ⟨.inl ⟨rfl, _, SqL.of hr4⟩, ?_⟩
          walk_at "rs"
          refine ⟨rl, _, _, rfl, rfl, hr4, by rw [List.length_map]; exact small1000 (by omega), ?_⟩
          exact fin t' l' 0 _ H4 _ _ s4 (s4 _ _ ht3) (hl3.same s4) rfl
        · rw [stepB_some e2] at et
          subst et
          refine ⟨e, _, rfl, SqT.of hq5, rfl, ?_⟩
          refine ⟨_, _, rfl, _, _, rfl, rfl, ?_⟩
          walk_at "rs"
          have hr4 := s4 _ _ hr3
          refine ⟨.inl ⟨rfl, _, SqL.of hr4⟩, ?_⟩
          walk_at "rs"
          refine ⟨rl, _, _, rfl, rfl, hr4, by rw [List.length_map]; exact small1000 (by omega), ?_⟩
          exact fin t' q5 0 _ H4 _ _ s4 (s4 _ _ ht3) hr5 rfl
      | k x y zz =>
        have hcm' : H3 cps[i] = some (.tup [.str "k", .int x, .int y, .int zz]) := hcm
        walk_at "rs"
        refine ⟨_, _, _, _, rfl, rfl, SqT.of hcm', atI_nat (j := 0) rfl, ?_⟩
        walk_at "rs"
        refine ⟨l', cps[i], _, .k x y zz, n, m + 200 * i, rfl, hl3, hcm, fx, gai, by omega, fun e q5 H4 s4 hq5 => ?_, fun e q5 H4 B e2 s4 hr5 hq5 => ?_⟩
        · rw [stepB_none e (fun _ _ e => nomatch e)] at et
          subst et
          refine ⟨q5, _, rfl, SqT.of hq5, rfl, ?_⟩
          refine ⟨_, _, rfl, _, _, rfl, rfl, ?_⟩
          walk_at "rs"
          have hr4 := s4 _ _ hr3
          refine ⟨.inl ⟨rfl, _, SqL.of hr4⟩, ?_⟩
          walk_at "rs"
          refine ⟨rl, _, _, rfl, rfl, hr4, by rw [List.length_map]; exact small1000 (by omega), ?_⟩
          exact fin t' l' 0 _ H4 _ _ s4 (s4 _ _ ht3) (hl3.same s4) rfl
        · rw [stepB_some e2] at et
          subst et
          refine ⟨e, _, rfl, SqT.of hq5, rfl, ?_⟩
          refine ⟨_, _, rfl, _, _, rfl, rfl, ?_⟩
          walk_at "rs"
          have hr4 := s4 _ _ hr3
          refine ⟨.inl ⟨rfl, _, SqL.of hr4⟩, ?_⟩
          walk_at "rs"
          refine ⟨rl, _, _, rfl, rfl, hr4, by rw [List.length_map]; exact small1000 (by omega), ?_⟩
          exact fin t' q5 0 _ H4 _ _ s4 (s4 _ _ ht3) hr5 rfl
      | d x zz =>
        have hcm' : H3 cps[i] = some (.tup [.str "d", .int x, .str zz]) := hcm
        walk_at "rs"
        refine ⟨_, _, _, _, rfl, rfl, SqT.of hcm', atI_nat (j := 0) rfl, ?_⟩
        walk_at "rs"
        refine ⟨l', cps[i], _, .d x zz, n, m + 200 * i, rfl, hl3, hcm, fx, gai, by omega, fun e q5 H4 s4 hq5 => ?_, fun e q5 H4 B e2 s4 hr5 hq5 => ?_⟩
        · rw [stepB_none e (fun _ _ e => nomatch e)] at et
          subst et
          refine ⟨q5, _, rfl, SqT.of hq5, rfl, ?_⟩
          refine ⟨_, _, rfl, _, _, rfl, rfl, ?_⟩
          walk_at "rs"
          have hr4 := s4 _ _ hr3
          refine ⟨.inl ⟨rfl, _, SqL.of hr4⟩, ?_⟩
          walk_at "rs"
          refine ⟨rl, _, _, rfl, rfl, hr4, by rw [List.length_map]; exact small1000 (by omega), ?_⟩
          exact fin t' l' 0 _ H4 _ _ s4 (s4 _ _ ht3) (hl3.same s4) rfl
        · rw [stepB_some e2] at et
          subst et
          refine ⟨e, _, rfl, SqT.of hq5, rfl, ?_⟩
          refine ⟨_, _, rfl, _, _, rfl, rfl, ?_⟩
          walk_at "rs"
          have hr4 := s4 _ _ hr3
          refine ⟨.inl ⟨rfl, _, SqL.of hr4⟩, ?_⟩
          walk_at "rs"
          refine ⟨rl, _, _, rfl, rfl, hr4, by rw [List.length_map]; exact small1000 (by omega), ?_⟩
          exact fin t' q5 0 _ H4 _ _ s4 (s4 _ _ ht3) hr5 rfl
    · rintro σ H3 ⟨t', l', v5, v6, rfl, s3, hr3, hu3, hc3, ht3, hl3⟩
      rw [List.length_map, ncs, List.take_length] at hr3 ht3 hl3
      obtain ⟨gwn, gan, lrn⟩ := runB_good gw ga cs hm fine
      generalize hS : runB ws0 A0 cs = S at hr3 ht3 hl3 gwn gan lrn k
      obtain ⟨wn, An, bs⟩ := S
      have hr3 : H3 rl = some (.lst (bs.map V.bl)) := hr3
      have ht3 : H3 t' = some (.tup (wn.map V.int)) := ht3
      have hl3 : LgAt a.C_Ledger H3 l' An := hl3
      have c3 := c.same s3
      have lzs : v.zs.length ≤ 900 := few
      clear hcs hc3 hu3 hu hu0
      walk_at "rs"
      refine ⟨p, _, dx, _, .ref q.B, rfl, s3 _ _ hp, T.cl_Chain, T.a_Chain_blocks, rfl, ?_⟩
      refine ⟨.inl ⟨rfl, _, SqL.of c3.hB⟩, ?_⟩
      walk_at "rs"
      refine ⟨q.B, _, _, rfl, rfl, c3.hB, by rw [List.length_map]; exact small1000 (by omega), ?_⟩
      have hpB : p ≠ q.B := fun e => by rw [e, c.hB] at hp; cases hp
      have hpR : p ≠ q.R := fun e => by rw [e, c.hR] at hp; cases hp
      have hpD : p ≠ q.D := fun e => by rw [e, c.hD] at hp; cases hp
      have hpL : p ≠ q.L := fun e => by rw [e, c.hL] at hp; cases hp
      have u4 : ∀ {b : Addr} {o : HO}, b ≠ q.B → H3 b = some o → (upd H3 q.B (.lst (v.zs.map V.str ++ [V.str z]))) b = some o := fun n e => by rw [upd_ne n]; exact e
      have hB4 : (upd H3 q.B (.lst (v.zs.map V.str ++ [V.str z]))) q.B = some (.lst ((v.zs ++ [z]).map V.str)) := by rw [upd_same]; simp
      have rlB : rl ≠ q.B := fun e => by rw [e, c.hB] at hrl; cases hrl
      have rlR : rl ≠ q.R := fun e => by rw [e, c.hR] at hrl; cases hrl
      have tB : t' ≠ q.B := fun e => by rw [e, c3.hB] at ht3; cases ht3
      have tR : t' ≠ q.R := fun e => by rw [e, c3.hR] at ht3; cases ht3
      have hp4 := u4 hpB (s3 _ _ hp)
      have hr4 := u4 rlB hr3
      have ht4 := u4 tB ht3
      have hR4 := u4 c.ne1.symm c3.hR
      have hD4 := u4 c.ne2.symm c3.hD
      have hL4 := u4 c.ne3.symm c3.hL
      generalize upd H3 q.B (.lst (v.zs.map V.str ++ [V.str z])) = H4 at u4 hB4 hp4 hr4 ht4 hR4 hD4 hL4 ⊢
      walk_at "rs"
      refine ⟨p, _, dx, _, .ref q.R, rfl, hp4, T.cl_Chain, T.a_Chain_receipts, rfl, ?_⟩
      refine ⟨.inl ⟨rfl, _, SqL.of hR4⟩, ?_⟩
      walk_at "rs"
      refine ⟨rl, _, rfl, .inl ⟨SqL.of hr4, fun r hr => ?_⟩⟩
      have s5 := same_new (o := .tup (bs.map V.bl)) hr
      have hr5 : (upd H4 r (.tup (bs.map V.bl))) r = some (.tup (bs.map V.bl)) := upd_same
      generalize upd H4 r (.tup (bs.map V.bl)) = H5 at s5 hr5 ⊢
      walk_at "rs"
      refine ⟨q.R, _, _, rfl, rfl, s5 _ _ hR4, by rw [List.length_map, c.nr]; exact small1000 (by omega), ?_⟩
      have u6 : ∀ {b : Addr} {o : HO}, b ≠ q.R → H5 b = some o → (upd H5 q.R (.lst (v.rs.map V.ref ++ [V.ref r]))) b = some o := fun n e => by rw [upd_ne n]; exact e
      have hR6 : (upd H5 q.R (.lst (v.rs.map V.ref ++ [V.ref r]))) q.R = some (.lst ((v.rs ++ [r]).map V.ref)) := by rw [upd_same]; simp
      have hr6 := u6 (fun e => by rw [e, s5 _ _ hR4] at hr5; cases hr5) hr5
      have hp6 := u6 hpR (s5 _ _ hp4)
      have ht6 := u6 tR (s5 _ _ ht4)
      have hB6 := u6 c.ne1 (s5 _ _ hB4)
      have hD6 := u6 c.ne4.symm (s5 _ _ hD4)
      have hL6 := u6 c.ne5.symm (s5 _ _ hL4)
      generalize upd H5 q.R (.lst (v.rs.map V.ref ++ [V.ref r])) = H6 at u6 hr6 hR6 hp6 ht6 hB6 hD6 hL6 ⊢
      walk_at "rs"
      refine ⟨p, _, dx, _, .ref q.D, rfl, hp6, T.cl_Chain, T.a_Chain_committees, rfl, ?_⟩
      refine ⟨.inl ⟨rfl, _, SqL.of hD6⟩, ?_⟩
      walk_at "rs"
      intro cn dn hcn hdn ndn
      have sM : Same H6 (upd (upd H6 dn (.own cn)) cn (.ins a.C_Committee dn [])) := same_upd (same_new hdn) hcn
      refine ⟨cn, dn, t', wn, rfl, upd_same, sM _ _ ht6, gwn, fun H7 hcm keep => ⟨rfl, ?_⟩⟩
      have s7 : Same H6 H7 := fun b o e => keep b o (sM _ _ e) (fun q => by rw [q, hcn] at e; cases e)
      clear keep sM
      walk_at "rs"
      refine ⟨q.D, _, _, rfl, rfl, s7 _ _ hD6, by rw [List.length_map, c.np]; exact small1000 (by omega), ?_⟩
      have u8 : ∀ {b : Addr} {o : HO}, b ≠ q.D → H7 b = some o → (upd H7 q.D (.lst (v.ps.map V.ref ++ [V.ref cn]))) b = some o := fun n e => by rw [upd_ne n]; exact e
      have hD8 : (upd H7 q.D (.lst (v.ps.map V.ref ++ [V.ref cn]))) q.D = some (.lst ((v.ps ++ [cn]).map V.ref)) := by rw [upd_same]; simp
      have hr8 := u8 (fun e => by have h := s7 _ _ hr6; rw [e, s7 _ _ hD6] at h; cases h) (s7 _ _ hr6)
      have hp8 := u8 hpD (s7 _ _ hp6)
      have hB8 := u8 c.ne2 (s7 _ _ hB6)
      have hR8 := u8 c.ne4 (s7 _ _ hR6)
      have hL8 := u8 c.ne6.symm (s7 _ _ hL6)
      have hD7 := s7 _ _ hD6
      have hcm8 : CommAt a.C_Committee (upd H7 q.D (.lst (v.ps.map V.ref ++ [V.ref cn]))) cn wn := by
        obtain ⟨d1, t1, e1, e2⟩ := hcm
        exact ⟨d1, t1, u8 (fun e => by rw [e, hD7] at e1; cases e1) e1, u8 (fun e => by rw [e, hD7] at e2; cases e2) e2⟩
      generalize upd H7 q.D (.lst (v.ps.map V.ref ++ [V.ref cn])) = H8 at u8 hr8 hD8 hp8 hB8 hR8 hL8 hcm8 ⊢
      walk_at "rs"
      refine ⟨p, _, dx, _, .ref q.L, rfl, hp8, T.cl_Chain, T.a_Chain_ledgers, rfl, ?_⟩
      refine ⟨.inl ⟨rfl, _, SqL.of hL8⟩, ?_⟩
      walk_at "rs"
      refine ⟨q.L, _, _, rfl, rfl, hL8, by rw [List.length_map, c.nl]; exact small1000 (by omega), ?_⟩
      have u9 : ∀ {b : Addr} {o : HO}, b ≠ q.L → H8 b = some o → (upd H8 q.L (.lst (v.ls.map V.ref ++ [V.ref l']))) b = some o := fun n e => by rw [upd_ne n]; exact e
      have hL9 : (upd H8 q.L (.lst (v.ls.map V.ref ++ [V.ref l']))) q.L = some (.lst ((v.ls ++ [l']).map V.ref)) := by rw [upd_same]; simp
      have hcm9 : CommAt a.C_Committee (upd H8 q.L (.lst (v.ls.map V.ref ++ [V.ref l']))) cn wn := by
        obtain ⟨d1, t1, e1, e2⟩ := hcm8
        exact ⟨d1, t1, u9 (fun e => by rw [e, hL8] at e1; cases e1) e1, u9 (fun e => by rw [e, hL8] at e2; cases e2) e2⟩
      have hr9 := u9 (fun e => by rw [e, hL8] at hr8; cases hr8) hr8
      have hp9 := u9 hpL hp8
      have hB9 := u9 c.ne3 hB8
      have hR9 := u9 c.ne5 hR8
      have hD9 := u9 c.ne6 hD8
      generalize upd H8 q.L (.lst (v.ls.map V.ref ++ [V.ref l'])) = H9 at u9 hr9 hL9 hcm9 hp9 hB9 hR9 hD9 ⊢
      have kq : ButC q H H9 := fun b o n1 n2 n3 n4 e => u9 n4 (u8 n3 (s7 _ _ (u6 n2 (s5 _ _ (u4 n1 (s3 _ _ e))))))
      have kq3 : ButC q H3 H9 := fun b o n1 n2 n3 n4 e => u9 n4 (u8 n3 (s7 _ _ (u6 n2 (s5 _ _ (u4 n1 e)))))
      have hl9 := hl3.but kq3 c3
      have l1 := c.nr
      have l2 := c.np
      have l3 := c.nw
      have l4 := c.nl
      have l5 := c.nb
      have l6 := c.na
      refine k r cn l' H9 ⟨⟨dx, hp9⟩, hB9, hR9, hD9, hL9, ?_, ?_, ?_, ?_, ?_, ?_, c.ne1, c.ne2, c.ne3, c.ne4, c.ne5, c.ne6, fun i hi => ?_, fun i hi => ?_, fun i hi => ?_⟩ kq
      · show (v.rs ++ [r]).length = (v.zs ++ [z]).length
        rw [List.length_append, List.length_append, l1]
        rfl
      · show (v.bs ++ [bs]).length = (v.zs ++ [z]).length
        rw [List.length_append, List.length_append, l5]
        rfl
      · show (v.ps ++ [cn]).length = (v.zs ++ [z]).length + 1
        rw [List.length_append, List.length_append, l2]
        rfl
      · show (v.ws ++ [wn]).length = (v.zs ++ [z]).length + 1
        rw [List.length_append, List.length_append, l3]
        rfl
      · show (v.ls ++ [l']).length = (v.zs ++ [z]).length + 1
        rw [List.length_append, List.length_append, l4]
        rfl
      · show (v.az ++ [An]).length = (v.zs ++ [z]).length + 1
        rw [List.length_append, List.length_append, l6]
        rfl
      · have hi : i < (v.ws ++ [wn]).length := hi
        rw [List.length_append, List.length_singleton] at hi
        show CommAt _ _ ((v.ps ++ [cn]).getD i 0) ((v.ws ++ [wn]).getD i []) ∧ GoodW ((v.ws ++ [wn]).getD i [])
        rcases Nat.lt_or_ge i v.ws.length with z1 | z1
        · rw [getD_app (by omega), getD_app z1]
          obtain ⟨⟨d1, t1, e1, e2⟩, g1⟩ := c.cm i z1
          exact ⟨⟨d1, t1, kq.nl c e1 (fun _ e => nomatch e), kq.nl c e2 (fun _ e => nomatch e)⟩, g1⟩
        · have ei : i = v.ws.length := by omega
          rw [ei, getD_end, show v.ws.length = v.ps.length by omega, getD_end]
          exact ⟨hcm9, gwn⟩
      · have hi : i < (v.az ++ [An]).length := hi
        rw [List.length_append, List.length_singleton] at hi
        show LgAt _ _ ((v.ls ++ [l']).getD i 0) ((v.az ++ [An]).getD i default) ∧ GoodA n _ ((v.az ++ [An]).getD i default)
        rcases Nat.lt_or_ge i v.az.length with z1 | z1
        · rw [getD_app (by omega), getD_app z1]
          obtain ⟨e1, e2⟩ := c.ld i z1
          exact ⟨e1.but kq c, e2.mono (by omega)⟩
        · have ei : i = v.az.length := by omega
          rw [ei, getD_end, show v.az.length = v.ls.length by omega, getD_end]
          exact ⟨hl9, gan⟩
      · have hi : i < (v.bs ++ [bs]).length := hi
        rw [List.length_append, List.length_singleton] at hi
        show H9 ((v.rs ++ [r]).getD i 0) = some (.tup (((v.bs ++ [bs]).getD i []).map V.bl))
        rcases Nat.lt_or_ge i v.bs.length with z1 | z1
        · rw [getD_app (by omega), getD_app z1]
          exact kq.nl c (c.rc i z1) (fun _ e => nomatch e)
        · have ei : i = v.bs.length := by omega
          rw [ei, getD_end, show v.bs.length = v.rs.length by omega, getD_end]
          exact hr9

def spReckon : Sp := fun vs H Q _ => ∃ (c l r : Nat), vs = [.str ⟨#[c]⟩, .int (l : Nat), .int (r : Nat)] ∧ l < 1000000 ∧ r < 1000000 ∧ Q (.int (work c l r : Nat)) H
theorem ok_law_reckon (T : Txt K mg a) : ∃ fd, FnOk P w K mg base CX0 1 a.d_law_reckon fd ["sign", "left", "right"] spReckon ∧ Binds K fd ["sign", "left", "right"] [] := by
  obtain ⟨fd, F, b⟩ := T.d_law_reckon.F
  refine ⟨fd, F.ok sc_law_reckon (fun vs H Q E h => ?_) (fun cdv A outer s H vs Q E hr h => ?_), b⟩
  · obtain ⟨_, _, _, rfl, _⟩ := h
    rfl
  · obtain ⟨c, l, r, rfl, hl, hr', k⟩ := h
    refine ⟨_, (pss_cons (ps_if (pt_cmpR op_eq (pv 0) pe_str (nomark _))
      (pss_one (ps_ret (pe_op op_add (pv 1) (pv 2))))
      pss_nil)
      (pss_cons (ps_if (pt_cmpR op_eq (pv 0) pe_str (nomark _))
      (pss_one (ps_ret (pe_callB (call_max2 rfl) (by rfl) T.n_max (by decide +kernel) (pa_cons pe_int (pa_cons (pe_op op_sub (pv 1) (pv 2)) pa_nil)))))
      pss_nil)
      (pss_cons (ps_if (pt_cmpR op_eq (pv 0) pe_str (nomark _))
      (pss_one (ps_ret (pe_op op_mul (pv 1) (pv 2))))
      pss_nil)
      (pss_cons (ps_if (pt_cmpR op_eq (pv 0) pe_str (nomark _))
      (pss_one (ps_ret (pe_op op_add (pe_op op_mul pe_int (pv 1)) (pv 2))))
      pss_nil)
      (pss_cons (ps_if (pt_cmpR op_eq (pv 0) pe_str (nomark _))
      (pss_one (ps_ret (pe_callTy call_int1 (by rfl) T.n_int (by decide +kernel) (pa_cons (pe_cmpR op_lt (pv 1) (pv 2) (nomark _)) pa_nil))))
      pss_nil)
      (pss_one (ps_ret (pe_callTy call_int1 (by rfl) T.n_int (by decide +kernel) (pa_cons (pe_cmpR op_eq (pv 1) (pv 2) (nomark _)) pa_nil))))))))), ?_⟩
    unfold work at k
    walk_at "rs"
    refine ite2 (fun c1 => ?_) (fun c1 => ?_)
    · have c1 : c = 97 := (sg_eq c 97).mp (V.str.inj (of_decide_eq_true c1))
      rw [if_pos c1, Int.natCast_add] at k
      walk_at "rs"
      exact k
    have c1 : c ≠ 97 := fun e => c1 (decide_eq_true (congrArg V.str ((sg_eq c 97).mpr e)))
    rw [if_neg c1] at k
    walk_at "rs"
    refine ite2 (fun c2 => ?_) (fun c2 => ?_)
    · have c2 : c = 115 := (sg_eq c 115).mp (V.str.inj (of_decide_eq_true c2))
      rw [if_pos c2] at k
      walk_at "rs"
      have e : ((l - r : Nat) : Int) = if (l : Int) - (r : Int) > 0 then (l : Int) - (r : Int) else 0 := by
        split <;> omega
      rw [e] at k
      exact ⟨_, _, rfl, k⟩
    have c2 : c ≠ 115 := fun e => c2 (decide_eq_true (congrArg V.str ((sg_eq c 115).mpr e)))
    rw [if_neg c2] at k
    walk_at "rs"
    refine ite2 (fun c3 => ?_) (fun c3 => ?_)
    · have c3 : c = 109 := (sg_eq c 109).mp (V.str.inj (of_decide_eq_true c3))
      rw [if_pos c3, Int.natCast_mul] at k
      walk_at "rs"
      exact ⟨(show CMul _ _ from .inl ⟨by omega, by omega⟩), k⟩
    have c3 : c ≠ 109 := fun e => c3 (decide_eq_true (congrArg V.str ((sg_eq c 109).mpr e)))
    rw [if_neg c3] at k
    walk_at "rs"
    refine ite2 (fun c4 => ?_) (fun c4 => ?_)
    · have c4 : c = 116 := (sg_eq c 116).mp (V.str.inj (of_decide_eq_true c4))
      rw [if_pos c4, Int.natCast_add, Int.natCast_mul] at k
      walk_at "rs"
      exact k
    have c4 : c ≠ 116 := fun e => c4 (decide_eq_true (congrArg V.str ((sg_eq c 116).mpr e)))
    rw [if_neg c4] at k
    walk_at "rs"
    refine ite2 (fun c5 => ?_) (fun c5 => ?_)
    · have c5 : c = 99 := (sg_eq c 99).mp (V.str.inj (of_decide_eq_true c5))
      rw [if_pos c5] at k
      walk_at "rs"
      refine .inr ⟨_, rfl, ?_⟩
      by_cases h : l < r
      · rw [if_pos h] at k
        rw [decide_eq_true (by omega)]
        exact k
      · rw [if_neg h] at k
        rw [decide_eq_false (by omega)]
        exact k
    have c5 : c ≠ 99 := fun e => c5 (decide_eq_true (congrArg V.str ((sg_eq c 99).mpr e)))
    rw [if_neg c5] at k
    walk_at "rs"
    refine .inr ⟨_, rfl, ?_⟩
    by_cases h : l = r
    · rw [if_pos h] at k
      rw [decide_eq_true (by rw [h])]
      exact k
    · rw [if_neg h] at k
      rw [decide_eq_false (fun e => h (by have := V.int.inj e; omega))]
      exact k
def needM (c : Nat) : Nat := if c ∈ TL.tl "0123456789gin" then 0 else if c ∈ TL.tl "asmtceuf" then 2 else 1
def spNeed : Sp := fun vs H Q _ => ∃ c : Nat, vs = [.str ⟨#[c]⟩] ∧ Q (.int (needM c : Nat)) H
theorem ok_law_need (T : Txt K mg a) : ∃ fd, FnOk P w K mg base CX0 1 a.d_law_need fd ["sign"] spNeed ∧ Binds K fd ["sign"] [] := by
  obtain ⟨fd, F, b⟩ := T.d_law_need.F
  refine ⟨fd, F.ok sc_law_need (fun vs H Q E h => ?_) (fun cdv A outer s H vs Q E hr h => ?_), b⟩
  · obtain ⟨_, rfl, _⟩ := h
    rfl
  · obtain ⟨c, rfl, k⟩ := h
    refine ⟨_, (pss_cons (ps_if (pt_cmpR op_in_sign (pv 0) pe_str (by rfl))
      (pss_one (ps_ret pe_int))
      pss_nil)
      (pss_cons (ps_if (pt_cmpR op_in_sign (pv 0) pe_str (by rfl))
      (pss_one (ps_ret pe_int))
      pss_nil)
      (pss_one (ps_ret pe_int)))), ?_⟩
    unfold needM at k
    walk_at "rs"
    refine ite2 (fun c1 => ?_) (fun c1 => ?_)
    · rw [if_pos (show c ∈ TL.tl "0123456789gin" from of_decide_eq_true c1)] at k
      exact k
    rw [if_neg (show ¬ c ∈ TL.tl "0123456789gin" from fun h => c1 (decide_eq_true h))] at k
    walk_at "rs"
    refine ite2 (fun c2 => ?_) (fun c2 => ?_)
    · rw [if_pos (show c ∈ TL.tl "asmtceuf" from of_decide_eq_true c2)] at k
      exact k
    rw [if_neg (show ¬ c ∈ TL.tl "asmtceuf" from fun h => c2 (decide_eq_true h))] at k
    exact k
/-- the law's own machine in the heap -/
def LAt (H : Hp) (L D S : Addr) (m : Mc) : Prop := L ≠ S ∧ H L = some (.lst (m.stk.map fun n => V.int (n : Nat))) ∧ H D = some (.dK (kvV m.kv)) ∧ H S = some (.lst [.int (m.pl : Nat), .int (m.pd : Nat)])
theorem LAt.ne {H : Hp} {L D S : Addr} {m : Mc} (h : LAt H L D S m) : L ≠ D ∧ L ≠ S ∧ D ≠ S := by
  obtain ⟨n, h1, h2, h3⟩ := h
  exact ⟨fun e => (by rw [e, h2] at h1; cases h1), n, fun e => (by rw [e, h3] at h2; cases h2)⟩
theorem LAt.toL {H : Hp} {L D S : Addr} {m : Mc} (h : LAt H L D S m) (s : List Nat) : LAt (upd H L (.lst (s.map fun n => V.int (n : Nat)))) L D S { m with stk := s } := by
  obtain ⟨n1, n2, n3⟩ := h.ne
  obtain ⟨n, h1, h2, h3⟩ := h
  exact ⟨n, upd_same, by rw [upd_ne (fun e => n1 e.symm)]; exact h2, by rw [upd_ne (fun e => n2 e.symm)]; exact h3⟩
theorem LAt.toD {H : Hp} {L D S : Addr} {m : Mc} (h : LAt H L D S m) (kv : List (Nat × Nat)) : LAt (upd H D (.dK (kvV kv))) L D S { m with kv := kv } := by
  obtain ⟨n1, n2, n3⟩ := h.ne
  obtain ⟨n, h1, h2, h3⟩ := h
  exact ⟨n, by rw [upd_ne n1]; exact h1, upd_same, by rw [upd_ne (fun e => n3 e.symm)]; exact h3⟩
theorem LAt.toS {H : Hp} {L D S : Addr} {m : Mc} (h : LAt H L D S m) (p d : Nat) : LAt (upd H S (.lst [.int (p : Nat), .int (d : Nat)])) L D S { m with pl := p, pd := d } := by
  obtain ⟨n1, n2, n3⟩ := h.ne
  obtain ⟨n, h1, h2, h3⟩ := h
  exact ⟨n, by rw [upd_ne n2]; exact h1, by rw [upd_ne n3]; exact h2, upd_same⟩
theorem Oth.u1 {H : Hp} {p D L : Addr} {o : HO} : Oth p D L H (upd H p o) := fun b u n1 _ _ e => by rw [upd_ne n1]; exact e
theorem Oth.u2 {H : Hp} {p D L : Addr} {o : HO} : Oth p D L H (upd H D o) := fun b u _ n1 _ e => by rw [upd_ne n1]; exact e
theorem Oth.u3 {H : Hp} {p D L : Addr} {o : HO} : Oth p D L H (upd H L o) := fun b u _ _ n1 e => by rw [upd_ne n1]; exact e
theorem last_of {l : List Nat} (h : l ≠ []) : ∃ s y, l = s ++ [y] ∧ l.dropLast = s ∧ l.getLast? = some y := by
  rcases List.eq_nil_or_concat l with e | ⟨s, y, e⟩
  · exact absurd e h
  · rw [List.concat_eq_append] at e
    exact ⟨s, y, e, by rw [e]; simp, by rw [e]; simp⟩
def actM (c t : Nat) (m : Mc) : Bool × Mc :=
  if c = 104 then (true, { m with stk := m.stk ++ [t] ++ [t] })
  else if c = 108 then (true, { m with stk := m.stk ++ [getN m.kv t] })
  else if c = 117 then (true, { m with stk := m.stk.dropLast, kv := putN m.kv t (m.stk.getLast?.getD 0) })
  else if c = 106 then (true, { m with pl := t })
  else if c = 102 then (true, if m.stk.getLast?.getD 0 = 0 then { m with stk := m.stk.dropLast, pl := t } else { m with stk := m.stk.dropLast })
  else if c = 121 then (true, { m with pd := m.pd + t })
  else (decide (t ≠ 0), m)
def spAct : Sp := fun vs H Q _ => ∃ (c t : Nat) (L D S : Addr) (m : Mc), vs = [.str ⟨#[c]⟩, .int (t : Nat), .ref L, .ref D, .ref S] ∧ (c = 104 ∨ c = 108 ∨ c = 117 ∨ c = 106 ∨ c = 102 ∨ c = 121 ∨ c = 111) ∧ (c = 117 ∨ c = 102 → m.stk ≠ []) ∧ LAt H L D S m ∧ m.stk.length ≤ 16 ∧ m.kv.length ≤ 30899 ∧
  ∀ H', LAt H' L D S (actM c t m).2 → Oth L D S H H' → Q (.bl (actM c t m).1) H'
theorem ok_law_act (T : Txt K mg a) : ∃ fd, FnOk P w K mg base CX0 1 a.d_law_act fd ["sign", "top", "stack", "store", "state"] spAct ∧ Binds K fd ["sign", "top", "stack", "store", "state"] [] := by
  obtain ⟨fd, F, b⟩ := T.d_law_act.F
  refine ⟨fd, F.ok sc_law_act (fun vs H Q E h => ?_) (fun cdv A outer s H vs Q E hr h => ?_), b⟩
  · obtain ⟨_, _, _, _, _, _, rfl, _⟩ := h
    rfl
  · obtain ⟨c, t, L, D, S, m, rfl, hc, hne, hm, lm, lk, k⟩ := h
    obtain ⟨nLD, nLS, nDS⟩ := hm.ne
    obtain ⟨-, hL, hD, hS⟩ := id hm
    refine ⟨_, (pss_cons (ps_if (pt_cmpR op_eq (pv 0) pe_str (nomark _))
      (pss_cons (ps_expr (pe_bm PySem.F.plainAttrs_list PySem.F.slot_list_append PySem.F.type_list_append mt_append (pv 2) (pa_cons (pv 1) pa_nil)))
        (pss_one (ps_expr (pe_bm PySem.F.plainAttrs_list PySem.F.slot_list_append PySem.F.type_list_append mt_append (pv 2) (pa_cons (pv 1) pa_nil)))))
      pss_nil)
      (pss_cons (ps_if (pt_cmpR op_eq (pv 0) pe_str (nomark _))
      (pss_one (ps_expr (pe_bm PySem.F.plainAttrs_list PySem.F.slot_list_append PySem.F.type_list_append mt_append (pv 2) (pa_cons (pe_dget2 (hu_of hr) (pv 3) (pv 1) pe_int ⟨rfl, rfl, rfl, rfl⟩) pa_nil))))
      pss_nil)
      (pss_cons (ps_if (pt_cmpR op_eq (pv 0) pe_str (nomark _))
      (pss_one (ps_dput (hu_of hr) (pv 3) (pv 1) (pe_bm0 PySem.F.plainAttrs_list PySem.F.slot_list_pop PySem.F.type_list_pop mt_pop (pv 2)) rfl))
      pss_nil)
      (pss_cons (ps_if (pt_cmpR op_eq (pv 0) pe_str (nomark _))
      (pss_one (ps_asg (pv 1) (pg_sub (pv 4) pe_int set_list)))
      pss_nil)
      (pss_cons (ps_if (PW.pt (pw_and (pt_cmpR op_eq (pv 0) pe_str (nomark _)) (pw_and1 (pt_cmpR op_eq (pe_bm0 PySem.F.plainAttrs_list PySem.F.slot_list_pop PySem.F.type_list_pop mt_pop (pv 2)) pe_int (nomark _)))))
      (pss_one (ps_asg (pv 1) (pg_sub (pv 4) pe_int set_list)))
      pss_nil)
      (pss_cons (ps_if (pt_cmpR op_eq (pv 0) pe_str (nomark _))
      (pss_one (ps_asg (pe_op op_add (pe_ix ix_list (pv 4) pe_int (fun _ _ => rfl)) (pv 1)) (pg_sub (pv 4) pe_int set_list)))
      pss_nil)
      (pss_one (ps_ret (pe_or (pe_cmpR op_ne (pv 0) pe_str (nomark _)) (pe_one (pe_cmpR op_ne (pv 1) pe_int (nomark _)))))))))))), ?_⟩
    have hl : (m.stk.map fun n => V.int (n : Nat)).length = m.stk.length := List.length_map ..
    have cat : ∀ x : Nat, (m.stk.map fun n => V.int (n : Nat)) ++ [V.int (x : Nat)] = (m.stk ++ [x]).map fun n => V.int (n : Nat) := fun x => by simp
    rcases hc with rfl | rfl | rfl | rfl | rfl | rfl | rfl
    · walk_at "rs"
      refine ⟨.inl ⟨rfl, _, SqL.of hL⟩, ?_⟩
      walk_at "rs"
      refine ⟨L, _, _, rfl, rfl, hL, by rw [hl]; exact small8000 (by omega), ?_⟩
      rw [cat]
      walk_at "rs"
      refine ⟨.inl ⟨rfl, _, SqL.of upd_same⟩, ?_⟩
      walk_at "rs"
      refine ⟨L, _, _, rfl, rfl, upd_same, by rw [List.length_map, List.length_append]; exact small8000 (by show m.stk.length + 1 ≤ _; omega), ?_⟩
      rw [upd_upd, show (m.stk ++ [t]).map (fun n : Nat => V.int (n : Nat)) ++ [V.int (t : Nat)] = (m.stk ++ [t] ++ [t]).map fun n : Nat => V.int (n : Nat) by simp]
      walk_at "rs"
      refine ite2 (fun _ => ?_) (fun h => absurd (by decide +kernel) h)
      exact k _ (hm.toL _) .u1
    · walk_at "rs"
      refine ⟨.inl ⟨rfl, _, SqL.of hL⟩, ?_⟩
      walk_at "rs"
      refine ⟨.inl ⟨_, .of hD⟩, ?_⟩
      walk_at "rs"
      refine ⟨_, DGet.k (k := Sum.inl (t : Int)) hD, ?_⟩
      rw [get_kv]
      refine ⟨L, _, _, rfl, rfl, hL, by rw [hl]; exact small8000 (by omega), ?_⟩
      rw [cat]
      walk_at "rs"
      refine ite2 (fun _ => ?_) (fun h => absurd (by decide +kernel) h)
      exact k _ (hm.toL _) .u1
    · obtain ⟨s, y, e1, e2, e3⟩ := last_of (hne (.inl rfl))
      have ea : actM 117 t m = (true, { m with stk := s, kv := putN m.kv t y }) := by
        show (true, { m with stk := m.stk.dropLast, kv := putN m.kv t (m.stk.getLast?.getD 0) }) = _
        rw [e2, e3]
        rfl
      rw [ea] at k
      walk_at "rs"
      refine ⟨.inl ⟨rfl, _, SqL.of hL⟩, ?_⟩
      refine ⟨L, _, .int (y : Nat), rfl, rfl, hL, by rw [e1]; simp, ?_⟩
      rw [show (m.stk.map fun n : Nat => V.int (n : Nat)).dropLast = s.map fun n : Nat => V.int (n : Nat) by rw [e1]; simp]
      have h2 := hm.toL s
      walk_at "rs"
      refine ⟨D, _, rfl, DPut.k (k := Sum.inl (t : Int)) h2.2.2.1 (by rw [len_kv]; exact small8000 (by show m.kv.length ≤ _; omega)), ?_⟩
      rw [put_kv]
      walk_at "rs"
      refine ite2 (fun _ => ?_) (fun h => absurd (by decide +kernel) h)
      exact k _ (h2.toD _) (Oth.trans .u1 .u2)
    · walk_at "rs"
      refine ⟨S, _, _, 0, rfl, rfl, hS, rfl, ?_⟩
      walk_at "rs"
      refine ite2 (fun _ => ?_) (fun h => absurd (by decide +kernel) h)
      exact k _ (hm.toS t m.pd) .u3
    · obtain ⟨s, y, e1, e2, e3⟩ := last_of (hne (.inr rfl))
      have ea : actM 102 t m = (true, if y = 0 then { m with stk := s, pl := t } else { m with stk := s }) := by
        show (true, if m.stk.getLast?.getD 0 = 0 then { m with stk := m.stk.dropLast, pl := t } else { m with stk := m.stk.dropLast }) = _
        rw [e2, e3]
        rfl
      rw [ea] at k
      walk_at "rs"
      refine ⟨.inl ⟨rfl, _, SqL.of hL⟩, ?_⟩
      refine ⟨L, _, .int (y : Nat), rfl, rfl, hL, by rw [e1]; simp, ?_⟩
      rw [show (m.stk.map fun n : Nat => V.int (n : Nat)).dropLast = s.map fun n : Nat => V.int (n : Nat) by rw [e1]; simp]
      have h2 := hm.toL s
      walk_at "rs"
      refine ite2 (fun c => ?_) (fun c => ?_)
      · have c : y = 0 := by
          have := V.int.inj (of_decide_eq_true c)
          omega
        rw [if_pos c] at k
        walk_at "rs"
        refine ⟨S, _, _, 0, rfl, rfl, h2.2.2.2, rfl, ?_⟩
        walk_at "rs"
        refine ite2 (fun _ => ?_) (fun h => absurd (by decide +kernel) h)
        exact k _ (h2.toS t m.pd) (Oth.trans .u1 .u3)
      · have c : ¬ y = 0 := fun h => c (decide_eq_true (by rw [h]; rfl))
        rw [if_neg c] at k
        walk_at "rs"
        refine ite2 (fun _ => ?_) (fun h => absurd (by decide +kernel) h)
        exact k _ h2 .u1
    · walk_at "rs"
      refine ⟨S, _, 1, .int (m.pd : Nat), rfl, rfl, SqL.of hS, rfl, ?_⟩
      walk_at "rs"
      refine ⟨S, _, _, 1, rfl, rfl, hS, rfl, ?_⟩
      walk_at "rs"
      refine ite2 (fun _ => ?_) (fun h => absurd (by decide +kernel) h)
      refine k _ (hm.toS m.pl (m.pd + t)) .u3
    · have e : (!decide (V.int (t : Int) = V.int 0)) = decide (t ≠ 0) := by
        by_cases h : t = 0
        · rw [h]
          rfl
        · rw [decide_eq_false (fun e => h (by have := V.int.inj e; omega)), decide_eq_true h]
          rfl
      walk_at "rs"
      rw [e]
      exact k _ hm .rfl


def Alph (c : Nat) : Prop := c ∈ TL.tl "0123456789ginasmtcehlujfyo"
theorem alph_iff (c : Nat) : Alph c ↔ (48 ≤ c ∧ c ≤ 57) ∨ (c = 103 ∨ c = 105 ∨ c = 110) ∨ (c = 97 ∨ c = 115 ∨ c = 109 ∨ c = 116 ∨ c = 99 ∨ c = 101) ∨ (c = 104 ∨ c = 108 ∨ c = 117 ∨ c = 106 ∨ c = 102 ∨ c = 121 ∨ c = 111) := by
  unfold Alph
  rw [show TL.tl "0123456789ginasmtcehlujfyo" = [48, 49, 50, 51, 52, 53, 54, 55, 56, 57, 103, 105, 110, 97, 115, 109, 116, 99, 101, 104, 108, 117, 106, 102, 121, 111] by decide +kernel]
  simp only [List.mem_cons, List.not_mem_nil, or_false]
  omega
theorem in_dig (c : Nat) : c ∈ TL.tl "0123456789" ↔ 48 ≤ c ∧ c ≤ 57 := by
  rw [show TL.tl "0123456789" = [48, 49, 50, 51, 52, 53, 54, 55, 56, 57] by decide +kernel]
  simp only [List.mem_cons, List.not_mem_nil, or_false]
  omega
theorem in_gin (c : Nat) : c ∈ TL.tl "gin" ↔ c = 103 ∨ c = 105 ∨ c = 110 := by
  rw [show TL.tl "gin" = [103, 105, 110] by decide +kernel]
  simp only [List.mem_cons, List.not_mem_nil, or_false]
theorem in_six (c : Nat) : c ∈ TL.tl "asmtce" ↔ c = 97 ∨ c = 115 ∨ c = 109 ∨ c = 116 ∨ c = 99 ∨ c = 101 := by
  rw [show TL.tl "asmtce" = [97, 115, 109, 116, 99, 101] by decide +kernel]
  simp only [List.mem_cons, List.not_mem_nil, or_false]
theorem need_eq (c : Nat) : needM c = if (48 ≤ c ∧ c ≤ 57) ∨ c = 103 ∨ c = 105 ∨ c = 110 then 0 else if (c = 97 ∨ c = 115 ∨ c = 109 ∨ c = 116 ∨ c = 99 ∨ c = 101) ∨ c = 117 ∨ c = 102 then 2 else 1 := by
  unfold needM
  have e1 : c ∈ TL.tl "0123456789gin" ↔ (48 ≤ c ∧ c ≤ 57) ∨ c = 103 ∨ c = 105 ∨ c = 110 := by
    rw [show TL.tl "0123456789gin" = [48, 49, 50, 51, 52, 53, 54, 55, 56, 57, 103, 105, 110] by decide +kernel]
    simp only [List.mem_cons, List.not_mem_nil, or_false]
    omega
  have e2 : c ∈ TL.tl "asmtceuf" ↔ (c = 97 ∨ c = 115 ∨ c = 109 ∨ c = 116 ∨ c = 99 ∨ c = 101) ∨ c = 117 ∨ c = 102 := by
    rw [show TL.tl "asmtceuf" = [97, 115, 109, 116, 99, 101, 117, 102] by decide +kernel]
    simp only [List.mem_cons, List.not_mem_nil, or_false]
    omega
  simp only [e1, e2]
theorem perf_dig {G : Gv} {c : Nat} (m : Mc) (h : 48 ≤ c ∧ c ≤ 57) : performM G c m = pushM (c - 48) m := if_pos h
theorem perf_num {G : Gv} {c : Nat} (m : Mc) (h : c = 103 ∨ c = 105 ∨ c = 110) : performM G c m = numberM G c m := by
  unfold performM
  rw [if_neg (by omega), if_pos h]
theorem perf_six {G : Gv} {c : Nat} (m : Mc) (h : c = 97 ∨ c = 115 ∨ c = 109 ∨ c = 116 ∨ c = 99 ∨ c = 101) : performM G c m = combineM c m := by
  unfold performM
  rw [if_neg (by omega), if_neg (by omega), if_pos h]
theorem perf_move {G : Gv} {c : Nat} (m : Mc) (h : c = 104 ∨ c = 108 ∨ c = 117) : performM G c m = moveM c m := by
  unfold performM
  rw [if_neg (by omega), if_neg (by omega), if_neg (by omega), if_pos h]
theorem perf_jump {G : Gv} {c : Nat} (m : Mc) (h : c = 106 ∨ c = 102) : performM G c m = jumpM c m := by
  unfold performM
  rw [if_neg (by omega), if_neg (by omega), if_neg (by omega), if_neg (by omega), if_pos h]
theorem perf_settle {G : Gv} {c : Nat} (m : Mc) (h : c = 121 ∨ c = 111) : performM G c m = settleM c m := by
  unfold performM
  rw [if_neg (by omega), if_neg (by omega), if_neg (by omega), if_neg (by omega), if_neg (by omega)]
theorem need_none {G : Gv} {c : Nat} {m : Mc} (ha : Alph c) (h : m.stk.length < needM c) : performM G c m = none := by
  rw [need_eq] at h
  have one : ∀ {g : Nat × Mc → Option Mc}, m.stk = [] → (takeM m).bind g = none := fun e => by rw [take_nil e]; rfl
  have nil : m.stk.length < 1 → m.stk = [] := fun h => List.eq_nil_of_length_eq_zero (by omega)
  have two : ∀ {g : Nat × Mc → Option Mc}, m.stk.length < 2 → (∀ x : Nat × Mc, x.2.stk = [] → g x = none) → (takeM m).bind g = none := fun {g} h2 hg => by
    rcases List.eq_nil_or_concat m.stk with e | ⟨s, t, e⟩
    · exact one e
    · rw [List.concat_eq_append] at e
      rw [take_at e]
      refine hg _ ?_
      rw [e, List.length_append, List.length_singleton] at h2
      exact List.eq_nil_of_length_eq_zero (by show s.length = 0; omega)
  rcases (alph_iff c).mp ha with d | d | d | d
  · rw [if_pos (.inl d)] at h
    omega
  · rw [if_pos (.inr d)] at h
    omega
  · rw [if_neg (by omega), if_pos (.inl d)] at h
    rw [perf_six m d]
    exact two h fun x hx => by rw [take_nil hx]; rfl
  · rcases d with d | d | d | d | d | d | d
    · rw [if_neg (by omega), if_neg (by omega)] at h
      rw [perf_move m (by omega)]
      exact one (nil h)
    · rw [if_neg (by omega), if_neg (by omega)] at h
      rw [perf_move m (by omega)]
      exact one (nil h)
    · rw [if_neg (by omega), if_pos (by omega)] at h
      rw [perf_move m (by omega)]
      exact two h fun x hx => by rw [if_neg (by omega), if_neg (by omega), take_nil hx]; rfl
    · rw [if_neg (by omega), if_neg (by omega)] at h
      rw [perf_jump m (by omega)]
      exact one (nil h)
    · rw [if_neg (by omega), if_pos (by omega)] at h
      rw [perf_jump m (by omega)]
      exact two h fun x hx => by rw [if_neg (by omega), take_nil hx]; rfl
    · rw [if_neg (by omega), if_neg (by omega)] at h
      rw [perf_settle m (by omega)]
      exact one (nil h)
    · rw [if_neg (by omega), if_neg (by omega)] at h
      rw [perf_settle m (by omega)]
      exact one (nil h)
theorem act_perf {G : Gv} {c t : Nat} {m : Mc} {s : List Nat} (hc : c = 104 ∨ c = 108 ∨ c = 117 ∨ c = 106 ∨ c = 102 ∨ c = 121 ∨ c = 111) (e : m.stk = s ++ [t]) (hn : c = 117 ∨ c = 102 → s ≠ []) (f : FitM m) (hv : ∀ x ∈ m.kv, x.2 < 1000000) :
    performM G c m = if (actM c t { m with stk := s }).1 = true ∧ (actM c t { m with stk := s }).2.stk.length ≤ 16 then some (actM c t { m with stk := s }).2 else none := by
  have ls : s.length ≤ 15 := by
    have := f.1
    rw [e, List.length_append, List.length_singleton] at this
    omega
  have lt : t < 1000000 := f.2.2 t (by rw [e]; simp)
  have mt : t % 1000000 = t := Nat.mod_eq_of_lt lt
  rcases hc with rfl | rfl | rfl | rfl | rfl | rfl | rfl
  · rw [perf_move m (by omega)]
    unfold moveM
    rw [take_at e]
    show (pushM t { m with stk := s }).bind (pushM t) = if true = true ∧ (s ++ [t] ++ [t]).length ≤ 16 then some { m with stk := s ++ [t] ++ [t] } else none
    rw [show pushM t { m with stk := s } = some { m with stk := s ++ [t % 1000000] } from if_neg (by show ¬ 16 ≤ s.length; omega), mt]
    show (if 16 ≤ (s ++ [t]).length then none else some { m with stk := s ++ [t] ++ [t % 1000000] }) = _
    rw [mt]
    by_cases h : 16 ≤ (s ++ [t]).length
    · rw [if_pos h, if_neg (by rw [List.length_append (as := s ++ [t])]; simp only [List.length_singleton]; omega)]
    · rw [if_neg h, if_pos ⟨rfl, by rw [List.length_append (as := s ++ [t])]; simp only [List.length_singleton]; omega⟩]
  · rw [perf_move m (by omega)]
    unfold moveM
    rw [take_at e]
    show pushM (getN m.kv t) { m with stk := s } = if true = true ∧ (s ++ [getN m.kv t]).length ≤ 16 then some { m with stk := s ++ [getN m.kv t] } else none
    rw [if_pos ⟨rfl, by rw [List.length_append, List.length_singleton]; omega⟩]
    rw [show pushM (getN m.kv t) { m with stk := s } = some { m with stk := s ++ [getN m.kv t % 1000000] } from if_neg (by show ¬ 16 ≤ s.length; omega), Nat.mod_eq_of_lt (get_lt hv t)]
  · obtain ⟨s2, y, e1, e2, e3⟩ := last_of (hn (.inl rfl))
    rw [perf_move m (by omega)]
    unfold moveM
    rw [take_at e]
    show (takeM { m with stk := s }).map (fun y => { y.2 with kv := putN y.2.kv t y.1 }) = if true = true ∧ s.dropLast.length ≤ 16 then some { m with stk := s.dropLast, kv := putN m.kv t (s.getLast?.getD 0) } else none
    rw [take_at (m := { m with stk := s }) e1, e2, e3, if_pos ⟨rfl, by rw [e1, List.length_append, List.length_singleton] at ls; omega⟩]
    rfl
  · rw [perf_jump m (by omega)]
    unfold jumpM
    rw [take_at e]
    show some { m with stk := s, pl := t } = if true = true ∧ s.length ≤ 16 then some { m with stk := s, pl := t } else none
    rw [if_pos ⟨rfl, by omega⟩]
  · obtain ⟨s2, y, e1, e2, e3⟩ := last_of (hn (.inr rfl))
    rw [perf_jump m (by omega)]
    unfold jumpM
    rw [take_at e]
    show (takeM { m with stk := s }).map (fun y => if y.1 = 0 then { y.2 with pl := t } else y.2) = if true = true ∧ (if s.getLast?.getD 0 = 0 then ({ m with stk := s.dropLast, pl := t } : Mc) else { m with stk := s.dropLast }).stk.length ≤ 16 then some (if s.getLast?.getD 0 = 0 then ({ m with stk := s.dropLast, pl := t } : Mc) else { m with stk := s.dropLast }) else none
    rw [take_at (m := { m with stk := s }) e1, e2, e3]
    have l2 : s2.length ≤ 16 := by rw [e1, List.length_append, List.length_singleton] at ls; omega
    show some (if y = 0 then ({ m with stk := s2, pl := t } : Mc) else { m with stk := s2 }) = if true = true ∧ (if y = 0 then ({ m with stk := s2, pl := t } : Mc) else { m with stk := s2 }).stk.length ≤ 16 then some (if y = 0 then ({ m with stk := s2, pl := t } : Mc) else { m with stk := s2 }) else none
    by_cases h : y = 0
    · rw [if_pos h, if_pos ⟨rfl, l2⟩]
    · rw [if_neg h, if_pos ⟨rfl, l2⟩]
  · rw [perf_settle m (by omega)]
    unfold settleM
    rw [take_at e]
    show some { m with stk := s, pd := m.pd + t } = if true = true ∧ s.length ≤ 16 then some { m with stk := s, pd := m.pd + t } else none
    rw [if_pos ⟨rfl, by omega⟩]
  · rw [perf_settle m (by omega)]
    unfold settleM
    rw [take_at e]
    show (if t = 0 then none else some { m with stk := s }) = if decide (t ≠ 0) = true ∧ s.length ≤ 16 then some { m with stk := s } else none
    by_cases h : t = 0
    · rw [if_pos h, if_neg (by rw [decide_eq_true_iff]; exact fun z => z.1 h)]
    · rw [if_neg h, if_pos ⟨decide_eq_true h, by omega⟩]
def spLSign : Sp := fun vs H Q _ => ∃ (c : Nat) (G : Gv) (L D S : Addr) (m : Mc), vs = [.str ⟨#[c]⟩, .int (G.given : Nat), .int (G.amount : Nat), .ref L, .ref D, .ref S] ∧ Alph c ∧ LAt H L D S m ∧ FitM m ∧ m.kv.length ≤ 30899 ∧ (∀ x ∈ m.kv, x.2 < 1000000) ∧ G.given < 1000000 ∧ G.amount < 1000000 ∧
  (∀ m' H', performM G c m = some m' → LAt H' L D S m' → Oth L D S H H' → Q (.bl true) H') ∧ (performM G c m = none → ∀ H', Oth L D S H H' → Q (.bl false) H')


theorem ok_law_sign (T : Txt K mg a) : ∃ fd, FnOk P w K mg base CX0 2 a.d_law_sign fd ["sign", "given", "amount", "stack", "store", "state"] spLSign ∧ Binds K fd ["sign", "given", "amount", "stack", "store", "state"] [] := by
  obtain ⟨fd, F, b⟩ := T.d_law_sign.F
  obtain ⟨fd_law_need, G_law_need, b_law_need⟩ := ok_law_need (P := P) (w := w) (base := base) T
  obtain ⟨fd_law_act, G_law_act, b_law_act⟩ := ok_law_act (P := P) (w := w) (base := base) T
  obtain ⟨fd_law_reckon, G_law_reckon, b_law_reckon⟩ := ok_law_reckon (P := P) (w := w) (base := base) T
  refine ⟨fd, F.ok sc_law_sign (fun vs H Q E h => ?_) (fun cdv A outer s H vs Q E hr h => ?_), b⟩
  · obtain ⟨_, _, _, _, _, _, rfl, _⟩ := h
    rfl
  · obtain ⟨c, G, L, D, S, m, rfl, hc, hm, hf, few, hv, g1, g2, k1, k2⟩ := h
    obtain ⟨nLD, nLS, nDS⟩ := hm.ne
    obtain ⟨-, hL, hD, hS⟩ := id hm
    have hl : (m.stk.map fun n => V.int (n : Nat)).length = m.stk.length := List.length_map ..
    have cat : ∀ x : Nat, (m.stk.map fun n => V.int (n : Nat)) ++ [V.int (x : Nat)] = (m.stk ++ [x]).map fun n => V.int (n : Nat) := fun x => by simp
    refine ⟨_, (pss_cons (ps_if (pt_cmpR op_lt (pe_callB call_len_seq (by rfl) T.n_len PySem.boot_len (pa_cons (pv 3) pa_nil)) (pe_call G_law_need (hr.mono (by decide)) rfl T.d_law_need.g T.d_law_need.kp b_law_need .nil pass0 (pa_cons (pv 0) pa_nil)) (nomark _))
      (pss_one (ps_ret pe_bl))
      pss_nil)
      (pss_cons (ps_if (pt_cmpR op_in_sign (pv 0) pe_str (by rfl))
      (pss_cons (ps_expr (pe_bm PySem.F.plainAttrs_list PySem.F.slot_list_append PySem.F.type_list_append mt_append (pv 3) (pa_cons (pe_callTy call_int_str (by rfl) T.n_int (by decide +kernel) (pa_cons (pv 0) pa_nil)) pa_nil)))
        (pss_one (ps_ret (pe_cmpR op_le (pe_callB call_len_seq (by rfl) T.n_len PySem.boot_len (pa_cons (pv 3) pa_nil)) pe_int (nomark _)))))
      pss_nil)
      (pss_cons (ps_if (pt_cmpR op_in_sign (pv 0) pe_str (by rfl))
      (pss_cons (ps_expr (pe_bm PySem.F.plainAttrs_list PySem.F.slot_list_append PySem.F.type_list_append mt_append (pv 3) (pa_cons (pe_op op_mod (pe_callTy call_int1 (by rfl) T.n_int (by decide +kernel) (pa_cons (pe_ix ix_tup (pe_tup (pa_cons (pv 1) (pa_cons (pv 2) (pa_cons (pe_callB call_len_seq (by rfl) T.n_len PySem.boot_len (pa_cons (pv 3) pa_nil)) pa_nil)))) (pe_bm PySem.F.plainAttrs_str PySem.F.slot_str_index PySem.F.type_str_index mt_sindex pe_str (pa_cons (pv 0) pa_nil)) (fun _ _ => rfl)) pa_nil)) pe_int) pa_nil)))
        (pss_one (ps_ret (pe_cmpR op_le (pe_callB call_len_seq (by rfl) T.n_len PySem.boot_len (pa_cons (pv 3) pa_nil)) pe_int (nomark _)))))
      pss_nil)
      (pss_cons (ps_set (i := 6) sc_law_sign.nd rfl (Or.inl rfl) (pe_bm0 PySem.F.plainAttrs_list PySem.F.slot_list_pop PySem.F.type_list_pop mt_pop (pv 3)))
      (pss_cons (ps_if (pt_cmpR op_in_sign (pv 0) pe_str (by rfl))
      (pss_cons (ps_set (i := 7) sc_law_sign.nd rfl (Or.inl rfl) (pe_bm0 PySem.F.plainAttrs_list PySem.F.slot_list_pop PySem.F.type_list_pop mt_pop (pv 3)))
        (pss_cons (ps_expr (pe_bm PySem.F.plainAttrs_list PySem.F.slot_list_append PySem.F.type_list_append mt_append (pv 3) (pa_cons (pe_op op_mod (pe_callTy call_int1 (by rfl) T.n_int (by decide +kernel) (pa_cons (pe_call G_law_reckon (hr.mono (by decide)) rfl T.d_law_reckon.g T.d_law_reckon.kp b_law_reckon .nil pass0 (pa_cons (pv 0) (pa_cons (pv 7) (pa_cons (pv 6) pa_nil)))) pa_nil)) pe_int) pa_nil)))
        (pss_one (ps_ret pe_bl))))
      pss_nil)
      (pss_one (ps_ret (pe_and (pe_call G_law_act (hr.mono (by decide)) rfl T.d_law_act.g T.d_law_act.kp b_law_act .nil pass0 (pa_cons (pv 0) (pa_cons (pv 6) (pa_cons (pv 3) (pa_cons (pv 4) (pa_cons (pv 5) pa_nil)))))) (pe_one (pe_cmpR op_le (pe_callB call_len_seq (by rfl) T.n_len PySem.boot_len (pa_cons (pv 3) pa_nil)) pe_int (nomark _))))))))))), ?_⟩
    walk_at "rs"
    refine ⟨L, _, rfl, .inl (SqL.of hL), ?_⟩
    walk_at "rs"
    rw [hl]
    refine ite2 (fun c1 => ?_) (fun c1 => ?_)
    · have c1 := of_decide_eq_true c1
      exact k2 (need_none hc (by omega)) H .rfl
    have c1 : needM c ≤ m.stk.length := by
      have : ¬ m.stk.length < needM c := fun h => c1 (decide_eq_true (by omega))
      omega
    rw [need_eq] at c1
    walk_at "rs"
    have full : ∀ (v : Nat) (H1 : Hp), LAt H1 L D S m → Oth L D S H H1 → performM G c m = pushM v m → v < 1000000 → Q (.bl (decide ((((m.stk.map fun n => V.int (n : Nat)).length + 1 : Nat) : Int) ≤ 16))) (upd H1 L (.lst ((m.stk.map fun n => V.int (n : Nat)) ++ [V.int (v : Nat)]))) := fun v H1 h1 o1 e lv => by
      rw [cat, hl]
      unfold pushM at e
      by_cases h : 16 ≤ m.stk.length
      · rw [if_pos h] at e
        rw [decide_eq_false (by omega)]
        exact k2 e _ (o1.trans .u1)
      · rw [if_neg h, Nat.mod_eq_of_lt lv] at e
        rw [decide_eq_true (by omega)]
        exact k1 _ _ e (h1.toL _) (o1.trans .u1)
    refine ite2 (fun c2 => ?_) (fun c2 => ?_)
    · have c2 := (in_dig c).mp (of_decide_eq_true c2)
      walk_at "rs"
      refine ⟨.inl ⟨rfl, _, SqL.of hL⟩, ?_⟩
      walk_at "rs"
      have hall : NumText.AllDigits [c] := fun n hn => by
        rw [List.mem_singleton.mp hn]
        exact c2
      refine ⟨_, _, rfl, PySem.intText_digits (x := ⟨#[c]⟩) hall (fun e => nomatch e) (by show 1 ≤ _; decide), (by show 1 ≤ 640; decide), ?_⟩
      refine ⟨L, _, _, rfl, rfl, hL, by rw [hl]; exact small1000 (by have := hf.1; omega), ?_⟩
      walk_at "rs"
      refine ⟨L, _, rfl, .inl (SqL.of upd_same), ?_⟩
      rw [show NumText.digitsVal (Array.toList (Str.cps ⟨#[c]⟩)) = c - 48 by simp [NumText.digitsVal], List.length_append]
      walk_at "rs"
      exact full (c - 48) H hm .rfl (perf_dig m c2) (by omega)
    have c2 : ¬ (48 ≤ c ∧ c ≤ 57) := fun h => c2 (decide_eq_true ((in_dig c).mpr h))
    walk_at "rs"
    refine ite2 (fun c3 => ?_) (fun c3 => ?_)
    · have c3 := (in_gin c).mp (of_decide_eq_true c3)
      walk_at "rs"
      refine ⟨.inl ⟨rfl, _, SqL.of hL⟩, ?_⟩
      walk_at "rs"
      refine ⟨L, _, rfl, .inl (SqL.of hL), ?_⟩
      walk_at "rs"
      refine ⟨(by show 3 ≤ sizeLine; decide), fun p np => ?_⟩
      have hm2 : LAt (upd H p (.tup [.int (G.given : Nat), .int (G.amount : Nat), .int (m.stk.length : Nat)])) L D S m := by
        obtain ⟨n, h1, h2, h3⟩ := hm
        exact ⟨n, by rw [upd_ne (ne_of_none h1 np)]; exact h1, by rw [upd_ne (ne_of_none h2 np)]; exact h2, by rw [upd_ne (ne_of_none h3 np)]; exact h3⟩
      have o2 : Oth L D S H (upd H p (.tup [.int (G.given : Nat), .int (G.amount : Nat), .int (m.stk.length : Nat)])) := fun b u _ _ _ e => by
        rw [upd_ne (ne_of_none e np)]
        exact e
      have tu : SqT K (upd H p (.tup [.int (G.given : Nat), .int (G.amount : Nat), .int (m.stk.length : Nat)])) p [.int (G.given : Nat), .int (G.amount : Nat), .int (m.stk.length : Nat)] := SqT.of upd_same
      have lm : m.stk.length ≤ 16 := hf.1
      rw [hl]
      generalize upd H p (.tup [.int (G.given : Nat), .int (G.amount : Nat), .int (m.stk.length : Nat)]) = H2 at hm2 o2 tu ⊢
      rcases c3 with rfl | rfl | rfl
      · walk_at "rs"
        refine ⟨_, _, 0, [], rfl, rfl, by decide +kernel, ?_⟩
        refine ⟨p, _, 0, .int (G.given : Nat), rfl, rfl, tu, rfl, ?_⟩
        walk_at "rs"
        refine ⟨L, _, _, rfl, rfl, hm2.2.1, by rw [hl]; exact small1000 (by omega), ?_⟩
        walk_at "rs"
        refine ⟨L, _, rfl, .inl (SqL.of upd_same), ?_⟩
        dsimp only
        rw [show ((G.given : Nat) : Int) % 1000000 = ((G.given : Nat) : Int) by omega, List.length_append]
        walk_at "rs"
        exact full (G.given) H2 hm2 o2 (perf_num m (by omega)) (by omega)
      · walk_at "rs"
        refine ⟨_, _, 1, [], rfl, rfl, by decide +kernel, ?_⟩
        refine ⟨p, _, 1, .int (G.amount : Nat), rfl, rfl, tu, rfl, ?_⟩
        walk_at "rs"
        refine ⟨L, _, _, rfl, rfl, hm2.2.1, by rw [hl]; exact small1000 (by omega), ?_⟩
        walk_at "rs"
        refine ⟨L, _, rfl, .inl (SqL.of upd_same), ?_⟩
        dsimp only
        rw [show ((G.amount : Nat) : Int) % 1000000 = ((G.amount : Nat) : Int) by omega, List.length_append]
        walk_at "rs"
        exact full (G.amount) H2 hm2 o2 (perf_num m (by omega)) (by omega)
      · walk_at "rs"
        refine ⟨_, _, 2, [], rfl, rfl, by decide +kernel, ?_⟩
        refine ⟨p, _, 2, .int (m.stk.length : Nat), rfl, rfl, tu, rfl, ?_⟩
        walk_at "rs"
        refine ⟨L, _, _, rfl, rfl, hm2.2.1, by rw [hl]; exact small1000 (by omega), ?_⟩
        walk_at "rs"
        refine ⟨L, _, rfl, .inl (SqL.of upd_same), ?_⟩
        dsimp only
        rw [show ((m.stk.length : Nat) : Int) % 1000000 = ((m.stk.length : Nat) : Int) by omega, List.length_append]
        walk_at "rs"
        exact full (m.stk.length) H2 hm2 o2 (perf_num m (by omega)) (by omega)
    have c3 : ¬ (c = 103 ∨ c = 105 ∨ c = 110) := fun h => c3 (decide_eq_true ((in_gin c).mpr h))
    obtain ⟨s, t, es⟩ : ∃ s t, m.stk = s ++ [t] := by
      rcases List.eq_nil_or_concat m.stk with e | ⟨s, t, e⟩
      · rw [e, if_neg (by omega)] at c1
        split at c1 <;> exact absurd c1 (by simp)
      · exact ⟨s, t, by rw [e, List.concat_eq_append]⟩
    have lt : t < 1000000 := hf.2.2 t (by rw [es]; simp)
    have ls : s.length ≤ 15 := by
      have := hf.1
      rw [es, List.length_append, List.length_singleton] at this
      omega
    have hm1 := hm.toL s
    have top : (m.stk.map fun n : Nat => V.int (n : Nat)).dropLast = s.map fun n : Nat => V.int (n : Nat) := by rw [es]; simp
    walk_at "rs"
    refine ⟨.inl ⟨rfl, _, SqL.of hL⟩, ?_⟩
    refine ⟨L, _, .int (t : Nat), rfl, rfl, hL, by rw [es]; simp, ?_⟩
    rw [top]
    walk_at "rs"
    refine ite2 (fun c4 => ?_) (fun c4 => ?_)
    · have c4 := (in_six c).mp (of_decide_eq_true c4)
      walk_at "rs"
      obtain ⟨s2, l, e2⟩ : ∃ s2 l, s = s2 ++ [l] := by
        rcases List.eq_nil_or_concat s with e | ⟨s2, l, e⟩
        · rw [if_neg (by omega), if_pos (.inl c4), es, e] at c1
          simp at c1
        · exact ⟨s2, l, by rw [e, List.concat_eq_append]⟩
      have ll : l < 1000000 := hf.2.2 l (by rw [es, e2]; simp)
      have l2 : s2.length ≤ 14 := by
        rw [e2, List.length_append, List.length_singleton] at ls
        omega
      have ep : performM G c m = some { m with stk := s2 ++ [work c l t % 1000000] } := by
        rw [perf_six m c4]
        unfold combineM
        rw [take_at es]
        show (takeM { m with stk := s }).bind (fun y => pushM (work c y.1 t) y.2) = _
        rw [take_at (m := { m with stk := s }) e2]
        exact if_neg (by show ¬ 16 ≤ s2.length; omega)
      refine ⟨.inl ⟨rfl, _, SqL.of upd_same⟩, ?_⟩
      refine ⟨L, _, .int (l : Nat), rfl, rfl, upd_same, by rw [e2]; simp, ?_⟩
      rw [upd_upd, show (s.map fun n : Nat => V.int (n : Nat)).dropLast = s2.map fun n : Nat => V.int (n : Nat) by rw [e2]; simp]
      walk_at "rs"
      refine ⟨.inl ⟨rfl, _, SqL.of upd_same⟩, ?_⟩
      walk_at "rs"
      refine ⟨c, l, t, rfl, ll, lt, ?_⟩
      walk_at "rs"
      refine ⟨L, _, _, rfl, rfl, upd_same, by rw [List.length_map]; exact small1000 (by omega), ?_⟩
      rw [upd_upd, show (s2.map fun n : Nat => V.int (n : Nat)) ++ [V.int ((work c l t : Nat) % 1000000 : Int)] = (s2 ++ [work c l t % 1000000]).map fun n : Nat => V.int (n : Nat) by simp]
      exact k1 _ _ ep (hm.toL _) .u1
    have c4 : ¬ (c = 97 ∨ c = 115 ∨ c = 109 ∨ c = 116 ∨ c = 99 ∨ c = 101) := fun h => c4 (decide_eq_true ((in_six c).mpr h))
    have c5 : c = 104 ∨ c = 108 ∨ c = 117 ∨ c = 106 ∨ c = 102 ∨ c = 121 ∨ c = 111 := by
      rcases (alph_iff c).mp hc with d | d | d | d
      · exact absurd d c2
      · exact absurd d c3
      · exact absurd d c4
      · exact d
    have hn : c = 117 ∨ c = 102 → s ≠ [] := fun z e => by
      rw [if_neg (by omega), if_pos (by omega), es, e] at c1
      simp at c1
    have hp := act_perf (G := G) c5 es hn hf hv
    walk_at "rs"
    refine ⟨c, t, L, D, S, { m with stk := s }, rfl, c5, hn, hm1, by show s.length ≤ 16; omega, few, fun H' h' o' => ?_⟩
    have o2 : Oth L D S H H' := Oth.trans .u1 o'
    obtain ⟨-, hL2, -, -⟩ := id h'
    walk_at "rs"
    cases hb : (actM c t { m with stk := s }).1 with
    | false =>
      rw [hb, if_neg (fun z => nomatch z.1)] at hp
      exact k2 hp H' o2
    | true =>
      walk_at "rs"
      refine ⟨L, _, rfl, .inl (SqL.of hL2), ?_⟩
      walk_at "rs"
      rw [List.length_map]
      by_cases h : (actM c t { m with stk := s }).2.stk.length ≤ 16
      · rw [if_pos ⟨hb, h⟩] at hp
        have z := k1 _ H' hp h' o2
        rw [← decide_eq_true (p := ((actM c t { m with stk := s }).2.stk.length : Int) ≤ 16) (by omega)] at z
        exact z
      · rw [if_neg (fun z => h z.2)] at hp
        have z := k2 hp H' o2
        rw [← decide_eq_false (p := ((actM c t { m with stk := s }).2.stk.length : Int) ≤ 16) (by omega)] at z
        exact z

def spLRun : Sp := fun vs H Q _ => ∃ (d : Addr) (G : Gv) (kv : List (Nat × Nat)), vs = [.str G.code, .int (G.given : Nat), .int (G.amount : Nat), .ref d] ∧ H d = some (.dK (kvV kv)) ∧ kv.length ≤ 30000 ∧ (kv.map (·.1)).Nodup ∧ (∀ x ∈ kv, x.2 < 1000000) ∧ G.code.length ≤ 5000 ∧ (∀ c ∈ TL.tl G.code, Alph c) ∧ G.given < 1000000 ∧ G.amount < 1000000 ∧
  (∀ m' n, finM G 201 ⟨[], kv, 0, 0, 0⟩ = (some m', n) → ∀ (q S : Addr) (ys : List Nat) H', ys.Perm (m'.kv.map (·.1)) → ys.Pairwise (· ≤ ·) → Same H H' → H q = none → H S = none → H' S = some (.dK (kvV (pickM ys m'.kv))) →
    H' q = some (.tup [.bl true, .ref S, .int (m'.pd : Nat), .int (m'.st : Nat)]) → Q (.ref q) H') ∧
  (∀ n, finM G 201 ⟨[], kv, 0, 0, 0⟩ = (none, n) → ∀ (q S : Addr) H', Same H H' → H q = none → H S = none → H' S = some (.dK (kvV kv)) → H' q = some (.tup [.bl false, .ref S, .int 0, .int (n : Nat)]) → Q (.ref q) H')
theorem ok_law_run (T : Txt K mg a) : ∃ fd, FnOk P w K mg base CX0 3 a.d_law_run fd ["code", "given", "amount", "store"] spLRun ∧ Binds K fd ["code", "given", "amount", "store"] [] := by
  obtain ⟨fd, F, b⟩ := T.d_law_run.F
  obtain ⟨fd_law_sign, G_law_sign, b_law_sign⟩ := ok_law_sign (P := P) (w := w) (base := base) T
  refine ⟨fd, F.ok sc_law_run (fun vs H Q E h => ?_) (fun cdv A outer s H vs Q E hr h => ?_), b⟩
  · obtain ⟨_, _, _, rfl, _⟩ := h
    rfl
  · obtain ⟨d, G, kv, rfl, hd, few, nd, hv, lc, al, g1, g2, k1, k2⟩ := h
    have ks := Keep.start nd few (by decide) hv
    obtain ⟨r, er⟩ : ∃ r, r = finM G 201 ⟨[], kv, 0, 0, 0⟩ := ⟨_, rfl⟩
    rw [← er] at k1 k2
    refine ⟨_, (pss_cons (ps_set (i := 4) sc_law_run.nd rfl (Or.inl rfl) (pe_lst pa_nil))
      (pss_cons (ps_set (i := 5) sc_law_run.nd rfl (Or.inl rfl) (pe_callTy call_dictD (by rfl) T.n_dict (by decide +kernel) (pa_cons (pv 3) pa_nil)))
      (pss_cons (ps_set (i := 6) sc_law_run.nd rfl (Or.inl rfl) (pe_lst (pa_cons pe_int (pa_cons pe_int pa_nil))))
      (pss_cons (ps_set (i := 7) sc_law_run.nd rfl (Or.inl rfl) pe_int)
      (pss_cons (ps_for PassesOwn.never rfl (pi_range1 rfl T.n_range (pa_cons pe_int pa_nil)) (pg_name (i := 8) sc_law_run.nd rfl (Or.inl rfl))
      (pss_cons (ps_if (pt_cmpR op_ge (pe_ix ix_list (pv 6) pe_int (fun _ _ => rfl)) (pe_callB call_len_str (by rfl) T.n_len PySem.boot_len (pa_cons (pv 0) pa_nil)) (nomark _))
        (pss_cons (ps_set (i := 9) sc_law_run.nd rfl (Or.inl rfl) pe_dnewK)
          (pss_cons (ps_for PassesOwn.never rfl (pi_list (pe_callB (cr_sortIs) (by rfl) T.n_sorted (by decide +kernel) (pa_cons (pe_lock (pe_lc (own := [("key", 10)]) (g := (gName 10)) (tt := tYes) rfl sc_law_run.nd (pi_keys (pv 5)) (blkOk_by (own := [("key", 10)]) (N := sc_law_run_N) (sc := defScope s_law_run) (by decide +kernel)) (fun _ _ _ _ _ => (pg_name (i := 10) sc_law_run.nd rfl (Or.inl rfl))) (fun _ _ _ _ _ => pts_nil) (fun _ _ _ _ _ => (pv 10)))) pa_nil))) (pg_name (i := 10) sc_law_run.nd rfl (Or.inl rfl))
          (pss_one (ps_if (pt_cmpR op_ne (pe_dget (hu_of hr) (pv 5) (pv 10) (fun _ _ => rfl)) pe_int (nomark _))
            (pss_one (ps_dput (hu_of hr) (pv 9) (pv 10) (pe_dget (hu_of hr) (pv 5) (pv 10) (fun _ _ => rfl)) rfl))
            pss_nil)))
          (pss_one (ps_ret (pe_tup (pa_cons pe_bl (pa_cons (pv 9) (pa_cons (pe_ix ix_list (pv 6) pe_int (fun _ _ => rfl)) (pa_cons (pv 7) pa_nil)))))))))
        pss_nil)
        (pss_cons (ps_if (pt_cmpR op_eq (pv 7) pe_int (nomark _))
        (pss_one (ps_ret (pe_tup (pa_cons pe_bl (pa_cons (pe_callTy call_dictD (by rfl) T.n_dict (by decide +kernel) (pa_cons (pv 3) pa_nil)) (pa_cons pe_int (pa_cons (pv 7) pa_nil)))))))
        pss_nil)
        (pss_cons (ps_set (i := 11) sc_law_run.nd rfl (Or.inl rfl) (pe_ix ix_str (pv 0) (pe_ix ix_list (pv 6) pe_int (fun _ _ => rfl)) (fun _ _ => rfl)))
        (pss_cons (ps_asg (pe_op op_add (pe_ix ix_list (pv 6) pe_int (fun _ _ => rfl)) pe_int) (pg_sub (pv 6) pe_int set_list))
        (pss_cons (ps_set (i := 7) sc_law_run.nd rfl (Or.inl rfl) (pe_op op_add (pv 7) pe_int))
        (pss_one (ps_if (pt_not (pt_truth (pe_call G_law_sign (hr.mono (by decide)) rfl T.d_law_sign.g T.d_law_sign.kp b_law_sign .nil pass0 (pa_cons (pv 11) (pa_cons (pv 1) (pa_cons (pv 2) (pa_cons (pv 4) (pa_cons (pv 5) (pa_cons (pv 6) pa_nil))))))) (by intro _; rfl)))
        (pss_one (ps_ret (pe_tup (pa_cons pe_bl (pa_cons (pe_callTy call_dictD (by rfl) T.n_dict (by decide +kernel) (pa_cons (pv 3) pa_nil)) (pa_cons pe_int (pa_cons (pv 7) pa_nil)))))))
        pss_nil))))))))
      (pss_one (ps_ret (pe_tup (pa_cons pe_bl (pa_cons (pe_callTy call_dictD (by rfl) T.n_dict (by decide +kernel) (pa_cons (pv 3) pa_nil)) (pa_cons pe_int (pa_cons (pv 7) pa_nil)))))))))))), ?_⟩
    walk_at "rs"
    refine ⟨(by show 0 ≤ sizeLine; decide), fun L hL => ?_⟩
    have s1 := same_new (o := .lst []) hL
    walk_at "rs"
    refine ⟨d, _, rfl, .of (s1 _ _ hd), fun D hD => ?_⟩
    have nD := s1.free hD
    have s2 := same_upd (o := .dK (kvV kv)) s1 nD
    have LD : L ≠ D := fun e => by rw [← e, upd_same] at hD; cases hD
    walk_at "rs"
    refine ⟨(by show 2 ≤ sizeLine; decide), fun S hS => ?_⟩
    have nS := s2.free hS
    have s3 := same_upd (o := .lst [.int 0, .int 0]) s2 nS
    have LS : L ≠ S := fun e => by rw [← e, upd_ne LD, upd_same] at hS; cases hS
    have DS : D ≠ S := fun e => by rw [← e, upd_same] at hS; cases hS
    have hm0 : LAt (upd (upd (upd H L (.lst [])) D (.dK (kvV kv))) S (.lst [.int 0, .int 0])) L D S ⟨[], kv, 0, 0, 0⟩ :=
      ⟨LS, by rw [upd_ne LS, upd_ne LD]; exact upd_same, by rw [upd_ne DS]; exact upd_same, upd_same⟩
    walk_at "rs"
    generalize upd (upd (upd H L (.lst [])) D (.dK (kvV kv))) S (.lst [.int 0, .int 0]) = H0 at hm0 s3 ⊢
    have on : ∀ {H1 H2 : Hp}, Same H H1 → Oth L D S H1 H2 → Same H H2 := fun {H1 H2} s1 o b u e => o b u (ne_of_none e hL) (ne_of_none e nD) (ne_of_none e nS) (s1 b u e)
    refine ⟨(by decide), (by decide), ?_⟩
    refine for_range (lo := 0) (n := 201) (fun i σ H2 => ∃ (m : Mc) (v8 v9 v10 v11 : Option V), σ = [some (.str G.code), some (.int (G.given : Nat)), some (.int (G.amount : Nat)), some (.ref d), some (.ref L), some (.ref D), some (.ref S), some (.int (m.st : Nat)), v8, v9, v10, v11] ∧
        m.st = i ∧ i ≤ 200 ∧ LAt H2 L D S m ∧ Keep 30000 m ∧ Same H H2 ∧ r = finM G (201 - i) m) ⟨_, _, _, _, _, rfl, rfl, Nat.zero_le _, hm0, ks, s3, er⟩ ?_ ?_
    · rintro i σ H2 hi ⟨m, v8, v9, v10, v11, rfl, rfl, i2, hm, hk, sm, e2⟩
      obtain ⟨nLD, nLS, nDS⟩ := hm.ne
      obtain ⟨-, hL2, hD2, hS2⟩ := id hm
      obtain ⟨f, ef⟩ : ∃ f, 201 - m.st = f + 1 := ⟨200 - m.st, by omega⟩
      rw [ef, finM] at e2
      have hd2 := sm _ _ hd
      have failed : ∀ {H3 : Hp} {q t : Addr} (n : Nat), Same H H3 → r = (none, n) → H3 q = none → upd H3 q (.dK (kvV kv)) t = none → Q (.ref t) (upd (upd H3 q (.dK (kvV kv))) t (.tup [.bl false, .ref q, .int 0, .int (n : Nat)])) := fun {H3 q t} n s e hq ht => by
        have s4 := same_upd (o := .dK (kvV kv)) s (s.free hq)
        have qt : q ≠ t := fun e => by rw [← e, upd_same] at ht; cases ht
        exact k2 n e t q _ (same_upd s4 (s4.free ht)) (s4.free ht) (s.free hq) (by rw [upd_ne qt]; exact upd_same) upd_same
      walk_at "rs"
      refine ⟨S, _, 0, .int (m.pl : Nat), rfl, rfl, SqL.of hS2, rfl, ?_⟩
      walk_at "rs"
      refine ⟨(by rw [sizeLine_eq]; omega), ?_⟩
      walk_at "rs"
      refine ite2 (fun c1 => ?_) (fun c1 => ?_)
      · have c1 : ¬ m.pl < G.code.length := by
          have := of_decide_eq_true c1
          omega
        rw [List.getElem?_eq_none (by rw [← TL.len_tl]; omega)] at e2
        replace e2 : r = (some m, m.st) := e2
        have small := hk.small (by decide) (by omega)
        have ndk := hk.2.1
        walk_at "rs"
        intro B hB
        have nB := sm.free hB
        have BD : D ≠ B := ne_of_none hD2 hB
        walk_at "rs"
        refine ⟨D, .dK (kvV m.kv), by rw [upd_ne BD]; exact hD2, trivial, fun od => ?_⟩
        walk_at "rs"
        refine ⟨D, od, rfl, .inl ⟨kvV m.kv, upd_same, fun R hR => ?_⟩⟩
        have RD : R ≠ D := fun e => by rw [e, upd_same] at hR; cases hR
        have nRb : upd H2 B (.dK []) R = none := by rw [upd_ne RD] at hR; exact hR
        have RB : R ≠ B := fun e => by rw [e, upd_same] at nRb; cases nRb
        have sB := same_upd (o := .dK []) sm nB
        have hDb : upd H2 B (.dK []) D = some (.dK (kvV m.kv)) := by rw [upd_ne BD]; exact hD2
        have hSb : upd H2 B (.dK []) S = some (.lst [.int (m.pl : Nat), .int (m.pd : Nat)]) := by rw [upd_ne (ne_of_none hS2 hB)]; exact hS2
        have hBb : upd H2 B (.dK []) B = some (.dK []) := upd_same
        generalize upd H2 B (.dK []) = Hb at nRb sB hDb hSb hBb ⊢
        refine lc_it walk_keys (fun i H3 => H3 D = some (.frz od (.dK (kvV m.kv))) ∧ H3 R = some (.lst ((m.kv.take i).map fun x => V.int (x.1 : Int))) ∧ ∀ b o, b ≠ D → Hb b = some o → H3 b = some o) ⟨by rw [upd_ne (fun e => RD e.symm)]; exact upd_same, upd_same, fun b o n e => by rw [upd_ne (ne_of_none e nRb), upd_ne n]; exact e⟩ (fun i H _ p => p.1) ?_ ?_
        · rintro i x H3 H3' hi ⟨a1, a2, a3⟩ ⟨rfl, k, v, hk, rfl⟩
          rw [len_kv] at hi
          obtain ⟨x, hx, rfl⟩ : ∃ x, m.kv[i]? = some x ∧ k = Sum.inl (x.1 : Int) := by
            unfold kvV at hk
            rw [List.getElem?_map] at hk
            cases h : m.kv[i]? with
            | none => rw [h] at hk; cases hk
            | some x =>
              rw [h] at hk
              have := Option.some.inj hk
              exact ⟨x, rfl, (Prod.mk.inj this).1.symm⟩
          refine ⟨rfl, ?_⟩
          walk_at "rs"
          refine ⟨_, a2, by rw [List.length_map]; exact small8000 (by have := List.length_take_le' i m.kv; omega), by rw [upd_ne (fun e => RD e.symm)]; exact a1, ?_, fun b o n e => ?_⟩
          · rw [upd_same, List.take_add_one, hx]
            simp [kV]
          · rw [upd_ne (ne_of_none e nRb)]
            exact a3 b o n e
        · rintro H3 ⟨a1, a2, a3⟩
          rw [len_kv, List.take_length] at a2
          refine ⟨a1, ?_⟩
          have sH4 : Same Hb (upd H3 D (.dK (kvV m.kv))) := fun b o e => by
            by_cases n : b = D
            · rw [n, upd_same]
              rw [n, hDb] at e
              exact e
            · rw [upd_ne n]
              exact a3 b o n e
          have hR4 : upd H3 D (.dK (kvV m.kv)) R = some (.lst ((m.kv.map fun x => (x.1 : Int)).map V.int)) := by
            rw [upd_ne RD, a2, List.map_map]
            rfl
          generalize upd H3 D (.dK (kvV m.kv)) = H4 at sH4 hR4 ⊢
          have lk : (m.kv.map fun x => (x.1 : Int)).length = m.kv.length := List.length_map ..
          walk_at "rs"
          refine ⟨R, m.kv.map fun x => (x.1 : Int), rfl, SqL.of hR4, fun zs q hperm hpw hq => ?_⟩
          obtain ⟨ys, rfl, yp, yw⟩ : ∃ ys : List Nat, zs = ys.map (fun n : Nat => (n : Int)) ∧ ys.Perm (m.kv.map (·.1)) ∧ ys.Pairwise (· ≤ ·) := by
            refine ⟨zs.map Int.toNat, ?_, ?_, ?_⟩
            · rw [List.map_map]
              conv => lhs; rw [← List.map_id zs]
              refine List.map_congr_left fun z hz => ?_
              obtain ⟨x, _, rfl⟩ := List.mem_map.mp (hperm.mem_iff.mp hz)
              rfl
            · have := hperm.map Int.toNat
              rw [List.map_map] at this
              exact this
            · rw [List.pairwise_map]
              exact hpw.imp fun h => Int.toNat_le_toNat h
          have nodys : ys.Nodup := yp.nodup_iff.mpr ndk
          have ly : ys.length = m.kv.length := by rw [yp.length_eq, List.length_map]
          have s5 := same_upd (o := .lst ((ys.map fun n : Nat => (n : Int)).map V.int)) sH4 (sH4.free hq)
          have hq5 : upd H4 q (.lst ((ys.map fun n : Nat => (n : Int)).map V.int)) q = some (.lst ((ys.map fun n : Nat => (n : Int)).map V.int)) := upd_same
          have hB5 := s5 _ _ hBb
          have hD5 := s5 _ _ hDb
          have hS5 := s5 _ _ hSb
          have nqB : q ≠ B := fun e => by rw [e, sH4 _ _ hBb] at hq; cases hq
          walk_at "rs"
          generalize upd H4 q (.lst ((ys.map fun n : Nat => (n : Int)).map V.int)) = H5 at s5 hq5 hB5 hD5 hS5 ⊢
          refine ⟨⟨_, SqL.of hq5⟩, ?_⟩
          refine for_list (K := K) (a := q) (xs := (ys.map fun n : Nat => (n : Int)).map V.int) (fun i σ H6 => ∃ v10 : Option V, σ = [some (.str G.code), some (.int (G.given : Nat)), some (.int (G.amount : Nat)), some (.ref d), some (.ref L), some (.ref D), some (.ref S), some (.int (m.st : Nat)), some (.int (0 + (m.st : Nat))), some (.ref B), v10, v11] ∧
              (∀ b o, b ≠ B → H5 b = some o → H6 b = some o) ∧ H6 B = some (.dK (kvV (pickM (ys.take i) m.kv)))) ⟨_, rfl, fun b o _ e => e, hB5⟩ (fun i σ H6 _ ⟨_, _, fr, _⟩ => SqL.of (fr _ _ nqB hq5)) ?_ ?_
          · rintro i y σ H6 hy ⟨v10, rfl, fr, hB6⟩
            obtain ⟨k, hk, rfl⟩ : ∃ k, ys[i]? = some k ∧ y = V.int (k : Int) := by
              rw [List.getElem?_map, List.getElem?_map] at hy
              cases h : ys[i]? with
              | none => rw [h] at hy; cases hy
              | some k =>
                rw [h] at hy
                exact ⟨k, rfl, (Option.some.inj hy).symm⟩
            have hmem : k ∈ m.kv.map (·.1) := yp.mem_iff.mp (List.mem_of_getElem? hk)
            have hg6 : DGet H6 D (V.int (k : Int)) (some (V.int (getN m.kv k : Nat))) := by
              have := DGet.k (k := Sum.inl (k : Int)) (fr _ _ BD hD5)
              rw [val_mem hmem] at this
              exact this
            have pt := pick_take (kv := m.kv) hk
            walk_at "rs"
            refine ⟨D, _, rfl, hg6, ?_⟩
            walk_at "rs"
            refine ite2 (fun c => ?_) (fun c => ?_)
            · have c : getN m.kv k ≠ 0 := fun e => by
                rw [e] at c
                simp at c
              rw [if_pos c] at pt
              walk_at "rs"
              refine ⟨D, _, rfl, hg6, ?_⟩
              walk_at "rs"
              have lp : (pickM (ys.take i) m.kv).length ≤ 30200 := by
                unfold pickM
                rw [List.length_map]
                have h1 := List.length_filter_le (fun k => decide (getN m.kv k ≠ 0)) (ys.take i)
                have h2 := List.length_take_le' i ys
                omega
              refine ⟨B, _, rfl, DPut.k (k := Sum.inl (k : Int)) hB6 (by rw [len_kv]; exact small8000 (by omega)), ?_⟩
              refine ⟨_, rfl, fun b o n e => by rw [upd_ne n]; exact fr b o n e, ?_⟩
              rw [upd_same, put_kv, put_new (k := k) (fun x hx e => nodup_take nodys hk (by rw [← e]; exact pick_keys hx)), pt]
            · have c : ¬ getN m.kv k ≠ 0 := fun h => c (by simpa using h)
              rw [if_neg c] at pt
              refine ⟨_, rfl, fr, ?_⟩
              rw [pt]
              exact hB6
          · rintro σ H6 ⟨v10, rfl, fr, hB6⟩
            rw [List.take_of_length_le (by simp)] at hB6
            have s6 : Same H H6 := fun b o e => fr b o (ne_of_none e nB) (s5 b o (sB b o e))
            walk_at "rs"
            refine ⟨S, _, 1, .int (m.pd : Nat), rfl, rfl, SqL.of (fr _ _ (ne_of_none hS2 hB) hS5), rfl, ?_⟩
            walk_at "rs"
            refine ⟨(by show 4 ≤ sizeLine; decide), fun t ht => ?_⟩
            exact k1 m m.st e2 t B ys _ yp yw (same_upd s6 (s6.free ht)) (s6.free ht) nB (by rw [upd_ne (ne_of_none hB6 ht)]; exact hB6) upd_same
      have c1 : m.pl < G.code.length := by
        have : ¬ G.code.length ≤ m.pl := fun h => c1 (decide_eq_true (by omega))
        omega
      obtain ⟨c, eg⟩ : ∃ c, (TL.tl G.code)[m.pl]? = some c := ⟨_, List.getElem?_eq_getElem (by rw [← TL.len_tl]; exact c1)⟩
      rw [eg] at e2
      replace e2 : r = if m.st = 200 then (none, 200) else match performM G c { m with st := m.st + 1, pl := m.pl + 1 } with
        | none => (none, m.st + 1)
        | some m' => finM G f m' := e2
      have hc := al c (List.mem_of_getElem? eg)
      walk_at "rs"
      refine ite2 (fun c2 => ?_) (fun c2 => ?_)
      · have c2 : m.st = 200 := by
          have := V.int.inj (of_decide_eq_true c2)
          omega
        rw [if_pos c2] at e2
        walk_at "rs"
        rw [← c2] at e2
        refine ⟨d, kvV kv, rfl, .of hd2, fun q hq => ?_⟩
        walk_at "rs"
        exact ⟨(by show 4 ≤ sizeLine; decide), fun t ht => failed m.st sm e2 hq ht⟩
      have c2 : ¬ m.st = 200 := fun h => c2 (decide_eq_true (by rw [h]; rfl))
      rw [if_neg c2] at e2
      walk_at "rs"
      refine ⟨S, _, 0, .int (m.pl : Nat), rfl, rfl, SqL.of hS2, rfl, ?_⟩
      walk_at "rs"
      refine ⟨G.code, m.pl, c, rfl, rfl, (by rw [sizeLine_eq]; omega), atI_nat eg, ?_⟩
      walk_at "rs"
      refine ⟨S, _, 0, .int (m.pl : Nat), rfl, rfl, SqL.of hS2, rfl, ?_⟩
      walk_at "rs"
      refine ⟨S, _, _, 0, rfl, rfl, hS2, rfl, ?_⟩
      have hm3 : LAt (upd H2 S (.lst [.int ((m.pl + 1 : Nat) : Int), .int (m.pd : Nat)])) L D S { m with st := m.st + 1, pl := m.pl + 1 } := hm.toS (m.pl + 1) m.pd
      walk_at "rs"
      refine ⟨c, G, L, D, S, { m with st := m.st + 1, pl := m.pl + 1 }, rfl, hc, hm3, hk.1, ?_, hk.2.2.1, g1, g2, fun m' H' e' h' o' => ?_, fun e' H' o' => ?_⟩
      · have := hk.small (by decide) (by omega)
        show m.kv.length ≤ 30899
        omega
      · rw [e'] at e2
        obtain ⟨k', s'⟩ := hk.step (by decide) (by omega) e'
        walk_at "rs"
        refine ite2 (fun h => absurd h (by decide)) (fun _ => ?_)
        refine ⟨m', some (.int (0 + (m.st : Nat))), v9, v10, some (.str ⟨#[c]⟩), by rw [s']; rfl, s', by omega, h', k', on sm (Oth.trans .u3 o'), ?_⟩
        rw [show 201 - (m.st + 1) = f by omega]
        exact e2
      · rw [e'] at e2
        have s' := on sm (Oth.trans .u3 o')
        walk_at "rs"
        refine ⟨d, kvV kv, rfl, .of (s' _ _ hd), fun q hq => ?_⟩
        walk_at "rs"
        exact ⟨(by show 4 ≤ sizeLine; decide), fun t ht => failed (m.st + 1) s' e2 hq ht⟩
    · rintro σ H2 ⟨m, v8, v9, v10, v11, rfl, i1, i2, -⟩
      omega

def DkAt (H : Hp) (d : Addr) (kv : List (Nat × Nat)) : Prop := H d = some (.dK (kvV kv))
/-- the law's own accounts -/
def StF (F : Addr → Prop) (H : Hp) (p : Addr) (A : Ac) : Prop := ∃ (b c s : Addr) (ds : List Addr), H p = some (.tup [.ref b, .ref c, .ref s]) ∧ H b = some (.lst (A.bal.map V.int)) ∧ H c = some (.lst (A.cds.map V.str)) ∧ H s = some (.lst (ds.map V.ref)) ∧
  Paired (DkAt H) ds A.sts ∧ ¬ F b ∧ ¬ F c ∧ ¬ F s
theorem StF.same {F : Addr → Prop} {H H' : Hp} {p : Addr} {A : Ac} (h : StF F H p A) (s : Same H H') : StF F H' p A := by
  obtain ⟨b, c, t, ds, h1, h2, h3, h4, h5, h6⟩ := h
  exact ⟨b, c, t, ds, s _ _ h1, s _ _ h2, s _ _ h3, s _ _ h4, imp_paired h5 fun _ _ => s _ _, h6⟩
abbrev StA (H : Hp) (p : Addr) (A : Ac) : Prop := StF (fun _ => False) H p A
def spLAfter : Sp := fun vs H Q _ => ∃ (F : Addr → Prop) (p c : Addr) (A : Ac) (x : Cm) (n k : Nat), vs = [.ref p, .ref c] ∧ (∀ y, F y → H y ≠ none) ∧ StF F H p A ∧ CmAt H c x ∧ x.fine ∧ GoodA n k A ∧ k ≤ 30000 ∧
  (afterA A x = none → ∀ q H', Same H H' → H' q = some (.tup [.ref p, .bl false]) → Q (.ref q) H') ∧ ∀ q r H' B, afterA A x = some B → Same H H' → StF F H' r B → H' q = some (.tup [.ref r, .bl true]) → Q (.ref q) H'
theorem ok_law_after (T : Txt K mg a) : ∃ fd, FnOk P w K mg base CX0 4 a.d_law_after fd ["state", "command"] spLAfter ∧ Binds K fd ["state", "command"] [] := by
  obtain ⟨fd, F, b⟩ := T.d_law_after.F
  obtain ⟨fd_law_run, G_law_run, b_law_run⟩ := ok_law_run (P := P) (w := w) (base := base) T
  refine ⟨fd, F.ok sc_law_after (fun vs H Q E h => ?_) (fun cdv A outer s H vs Q E hr h => ?_), b⟩
  · obtain ⟨_, _, _, _, _, _, _, rfl, _⟩ := h
    rfl
  · obtain ⟨FF, p, c, A1, x, n, m, rfl, hF, hp, hc, fx, ga, hm, k1, k2⟩ := h
    obtain ⟨b1, cd, s1, ds, h1, h2, h3, h4, h5, hN⟩ := id hp
    have lds := paired_len h5
    have e1 := ga.lb
    have e2 := ga.lc
    have e3 := ga.ls
    have few := ga.few
    refine ⟨_, (pss_cons (ps_set (i := 2) sc_law_after.nd rfl (Or.inl rfl) (pe_callTy call_list_of (by rfl) T.n_list (by decide +kernel) (pa_cons (pe_ix ix_tup (pv 0) pe_int (fun _ _ => rfl)) pa_nil)))
      (pss_cons (ps_set (i := 3) sc_law_after.nd rfl (Or.inl rfl) (pe_callTy call_list_of (by rfl) T.n_list (by decide +kernel) (pa_cons (pe_ix ix_tup (pv 0) pe_int (fun _ _ => rfl)) pa_nil)))
      (pss_cons (ps_set (i := 4) sc_law_after.nd rfl (Or.inl rfl) (pe_callTy call_list_of (by rfl) T.n_list (by decide +kernel) (pa_cons (pe_ix ix_tup (pv 0) pe_int (fun _ _ => rfl)) pa_nil)))
      (pss_cons (ps_set (i := 5) sc_law_after.nd rfl (Or.inl rfl) (pe_callB call_len_seq (by rfl) T.n_len PySem.boot_len (pa_cons (pv 2) pa_nil)))
      (pss_cons (ps_if (PW.pt (pw_or (pt_cmpR op_eq (pe_ix ix_tup (pv 1) pe_int (fun _ _ => rfl)) pe_str (nomark _)) (pw_or1 (pt_cmpR op_ge (pe_ix ix_tup (pv 1) pe_int (fun _ _ => rfl)) (pv 5) (nomark _)))))
      (pss_one (ps_ret (pe_tup (pa_cons (pv 0) (pa_cons pe_bl pa_nil)))))
      pss_nil)
      (pss_cons (ps_if (pt_cmpR op_eq (pe_ix ix_tup (pv 1) pe_int (fun _ _ => rfl)) pe_str (nomark _))
      (pss_cons (ps_asg (pe_ix ix_tup (pv 1) pe_int (fun _ _ => rfl)) (pg_sub (pv 3) (pe_ix ix_tup (pv 1) pe_int (fun _ _ => rfl)) set_list))
        (pss_cons (ps_asg pe_dnewK (pg_sub (pv 4) (pe_ix ix_tup (pv 1) pe_int (fun _ _ => rfl)) set_list))
        (pss_one (ps_ret (pe_tup (pa_cons (pe_tup (pa_cons (pv 2) (pa_cons (pv 3) (pa_cons (pv 4) pa_nil)))) (pa_cons pe_bl pa_nil)))))))
      pss_nil)
      (pss_cons (ps_if (pt_cmpR op_ge (pe_ix ix_tup (pv 1) pe_int (fun _ _ => rfl)) (pv 5) (nomark _))
      (pss_one (ps_ret (pe_tup (pa_cons (pv 0) (pa_cons pe_bl pa_nil)))))
      pss_nil)
      (pss_cons (ps_if (pt_cmpR op_eq (pe_ix ix_tup (pv 1) pe_int (fun _ _ => rfl)) pe_str (nomark _))
      (pss_cons (ps_if (pt_cmpR op_lt (pe_ix ix_list (pv 2) (pe_ix ix_tup (pv 1) pe_int (fun _ _ => rfl)) (fun _ _ => rfl)) (pe_ix ix_tup (pv 1) pe_int (fun _ _ => rfl)) (nomark _))
        (pss_one (ps_ret (pe_tup (pa_cons (pv 0) (pa_cons pe_bl pa_nil)))))
        pss_nil)
        (pss_cons (ps_asg (pe_op op_sub (pe_ix ix_list (pv 2) (pe_ix ix_tup (pv 1) pe_int (fun _ _ => rfl)) (fun _ _ => rfl)) (pe_ix ix_tup (pv 1) pe_int (fun _ _ => rfl))) (pg_sub (pv 2) (pe_ix ix_tup (pv 1) pe_int (fun _ _ => rfl)) set_list))
        (pss_cons (ps_asg (pe_op op_add (pe_ix ix_list (pv 2) (pe_ix ix_tup (pv 1) pe_int (fun _ _ => rfl)) (fun _ _ => rfl)) (pe_ix ix_tup (pv 1) pe_int (fun _ _ => rfl))) (pg_sub (pv 2) (pe_ix ix_tup (pv 1) pe_int (fun _ _ => rfl)) set_list))
        (pss_one (ps_ret (pe_tup (pa_cons (pe_tup (pa_cons (pv 2) (pa_cons (pv 3) (pa_cons (pv 4) pa_nil)))) (pa_cons pe_bl pa_nil))))))))
      pss_nil)
      (pss_cons (ps_set (i := 6) sc_law_after.nd rfl (Or.inl rfl) (pe_ix ix_tup (pv 1) pe_int (fun _ _ => rfl)))
      (pss_cons (ps_if (pt_cmpR op_eq (pe_ix ix_list (pv 3) (pv 6) (fun _ _ => rfl)) pe_str (nomark _))
      (pss_one (ps_ret (pe_tup (pa_cons (pv 0) (pa_cons pe_bl pa_nil)))))
      pss_nil)
      (pss_cons (ps_set (i := 7) sc_law_after.nd rfl (Or.inl rfl) (pe_call G_law_run (hr.mono (by decide)) rfl T.d_law_run.g T.d_law_run.kp b_law_run .nil pass0 (pa_cons (pe_ix ix_list (pv 3) (pv 6) (fun _ _ => rfl)) (pa_cons (pe_ix ix_tup (pv 1) pe_int (fun _ _ => rfl)) (pa_cons (pe_op op_mod (pe_callTy call_int1 (by rfl) T.n_int (by decide +kernel) (pa_cons (pe_ix ix_list (pv 2) (pv 6) (fun _ _ => rfl)) pa_nil)) pe_int) (pa_cons (pe_ix ix_list (pv 4) (pv 6) (fun _ _ => rfl)) pa_nil))))))
      (pss_cons (ps_if (PW.pt (pw_or (pt_not (pt_val (pe_ix ix_tup (pv 7) pe_int (fun _ _ => rfl)))) (pw_or1 (pt_cmpR op_lt (pe_ix ix_list (pv 2) (pv 6) (fun _ _ => rfl)) (pe_ix ix_tup (pv 7) pe_int (fun _ _ => rfl)) (nomark _)))))
      (pss_one (ps_ret (pe_tup (pa_cons (pv 0) (pa_cons pe_bl pa_nil)))))
      pss_nil)
      (pss_cons (ps_asg (pe_ix ix_tup (pv 7) pe_int (fun _ _ => rfl)) (pg_sub (pv 4) (pv 6) set_list))
      (pss_cons (ps_asg (pe_op op_sub (pe_ix ix_list (pv 2) (pv 6) (fun _ _ => rfl)) (pe_ix ix_tup (pv 7) pe_int (fun _ _ => rfl))) (pg_sub (pv 2) (pv 6) set_list))
      (pss_cons (ps_asg (pe_op op_add (pe_ix ix_list (pv 2) (pe_ix ix_tup (pv 1) pe_int (fun _ _ => rfl)) (fun _ _ => rfl)) (pe_ix ix_tup (pv 7) pe_int (fun _ _ => rfl))) (pg_sub (pv 2) (pe_ix ix_tup (pv 1) pe_int (fun _ _ => rfl)) set_list))
      (pss_one (ps_ret (pe_tup (pa_cons (pe_tup (pa_cons (pv 2) (pa_cons (pv 3) (pa_cons (pv 4) pa_nil)))) (pa_cons pe_bl pa_nil)))))))))))))))))))), ?_⟩
    walk_at "rs"
    refine ⟨p, _, _, _, rfl, rfl, SqT.of h1, rfl, ?_⟩
    refine ⟨b1, _, rfl, .inl (SqL.of h2), fun l1 hl1 => ?_⟩
    have t1 := same_new (o := .lst (A1.bal.map V.int)) hl1
    have g1 : upd H l1 (.lst (A1.bal.map V.int)) l1 = some (.lst (A1.bal.map V.int)) := upd_same
    generalize upd H l1 (.lst (A1.bal.map V.int)) = H1 at t1 g1 ⊢
    walk_at "rs"
    refine ⟨p, _, _, _, rfl, rfl, SqT.of (t1 _ _ h1), rfl, ?_⟩
    refine ⟨cd, _, rfl, .inl (SqL.of (t1 _ _ h3)), fun l2 hl2 => ?_⟩
    have t2' := same_new (o := .lst (A1.cds.map V.str)) hl2
    have g2 : upd H1 l2 (.lst (A1.cds.map V.str)) l2 = some (.lst (A1.cds.map V.str)) := upd_same
    have n12 : l1 ≠ l2 := fun e => by rw [e, hl2] at g1; cases g1
    generalize upd H1 l2 (.lst (A1.cds.map V.str)) = H2 at t2' g2 ⊢
    have t2 := t1.trans t2'
    walk_at "rs"
    refine ⟨p, _, _, _, rfl, rfl, SqT.of (t2 _ _ h1), rfl, ?_⟩
    refine ⟨s1, _, rfl, .inl (SqL.of (t2 _ _ h4)), fun l3 hl3 => ?_⟩
    have t3' := same_new (o := .lst (ds.map V.ref)) hl3
    have g3 : upd H2 l3 (.lst (ds.map V.ref)) l3 = some (.lst (ds.map V.ref)) := upd_same
    have n13 : l1 ≠ l3 := fun e => by rw [e] at g1; rw [t2' _ _ g1] at hl3; cases hl3
    have n23 : l2 ≠ l3 := fun e => by rw [e, hl3] at g2; cases g2
    have g1 := t3' _ _ (t2' _ _ g1)
    have g2 := t3' _ _ g2
    have nl2 : H l2 = none := t1.free hl2
    have nl3 : H l3 = none := t2.free hl3
    have nF : ¬ FF l1 ∧ ¬ FF l2 ∧ ¬ FF l3 := ⟨fun h => hF _ h hl1, fun h => hF _ h nl2, fun h => hF _ h nl3⟩
    generalize upd H2 l3 (.lst (ds.map V.ref)) = H3 at t3' g1 g2 g3 ⊢
    have t3 := t2.trans t3'
    clear t1 t2 t2' t3' hl2 hl3
    walk_at "rs"
    refine ⟨l1, _, rfl, .inl (SqL.of g1), ?_⟩
    rw [List.length_map]
    have hc3 := t3 _ _ hc
    have no : afterA A1 x = none → ∀ H', Same H H' → ∀ q, H' q = none → Q (.ref q) (upd H' q (.tup [.ref p, .bl false])) := fun e H' s q hq => k1 e q _ (same_upd s (s.free hq)) upd_same
    cases x with
    | w x y =>
      have hc4 : H3 c = some (.tup [.str "w", .int x, .int y]) := hc3
      walk_at "rs"
      refine ⟨c, _, _, _, rfl, rfl, SqT.of hc4, rfl, ?_⟩
      walk_at "rs"
      exact ⟨(by show 2 ≤ sizeLine; decide), no rfl _ t3⟩
    | d x z =>
      have hc4 : H3 c = some (.tup [.str "d", .int x, .str z]) := hc3
      walk_at "rs"
      obtain ⟨i, rfl⟩ : ∃ i : Nat, x = (i : Int) := ⟨x.toNat, by have := fx.1.1; omega⟩
      rw [afterA] at no k2
      refine ⟨c, _, _, _, rfl, rfl, SqT.of hc4, rfl, ?_⟩
      walk_at "rs"
      refine ⟨c, _, _, _, rfl, rfl, SqT.of hc4, rfl, ?_⟩
      walk_at "rs"
      refine ite2 (fun c1 => ?_) (fun c1 => ?_)
      · have c1 := of_decide_eq_true c1
        walk_at "rs"
        exact ⟨(by show 2 ≤ sizeLine; decide), no (if_neg (by omega)) _ t3⟩
      have c1 : (i : Int) < A1.bal.length := by
        have : ¬ (i : Int) ≥ A1.bal.length := fun h => c1 (decide_eq_true h)
        omega
      rw [if_pos c1, Int.toNat_natCast] at k2
      walk_at "rs"
      refine ⟨c, _, _, _, rfl, rfl, SqT.of hc4, rfl, ?_⟩
      walk_at "rs"
      refine ⟨c, _, _, _, rfl, rfl, SqT.of hc4, rfl, ?_⟩
      walk_at "rs"
      refine ⟨c, _, _, _, rfl, rfl, SqT.of hc4, rfl, ?_⟩
      walk_at "rs"
      refine ⟨l2, _, _, i, rfl, rfl, g2, ixN_at (by rw [List.length_map]; omega), ?_⟩
      rw [set_map]
      have s4 := same_upd (o := .lst ((A1.cds.set i z).map V.str)) t3 nl2
      have g1 := (upd_ne (H := H3) (o := .lst ((A1.cds.set i z).map V.str)) n12).trans g1
      have g3 := (upd_ne (H := H3) (o := .lst ((A1.cds.set i z).map V.str)) n23.symm).trans g3
      have g2 : upd H3 l2 (.lst ((A1.cds.set i z).map V.str)) l2 = some (.lst ((A1.cds.set i z).map V.str)) := upd_same
      have hc5 := s4 _ _ hc
      have hc5 : upd H3 l2 (.lst ((A1.cds.set i z).map V.str)) c = some (.tup [.str "d", .int (i : Int), .str z]) := hc5
      generalize upd H3 l2 (.lst ((A1.cds.set i z).map V.str)) = H4 at s4 g1 g2 g3 hc5 ⊢
      walk_at "rs"
      intro D hD
      have s5' := same_new (o := .dK []) hD
      have gD : upd H4 D (.dK []) D = some (.dK (kvV [])) := upd_same
      have g1 := s5' _ _ g1
      have g2 := s5' _ _ g2
      have g3 := s5' _ _ g3
      have hc5 := s5' _ _ hc5
      have s5 := s4.trans s5'
      generalize upd H4 D (.dK []) = H5 at s5 gD g1 g2 g3 hc5 ⊢
      walk_at "rs"
      refine ⟨c, _, _, _, rfl, rfl, SqT.of hc5, rfl, ?_⟩
      refine ⟨l3, _, _, i, rfl, rfl, g3, ixN_at (by rw [List.length_map]; omega), ?_⟩
      rw [set_map]
      have s6 := same_upd (o := .lst ((ds.set i D).map V.ref)) s5 nl3
      have off : ∀ {b : Addr} {o : HO}, b ≠ l3 → H5 b = some o → upd H5 l3 (.lst ((ds.set i D).map V.ref)) b = some o := fun n e => by rw [upd_ne n]; exact e
      have g1 := off n13 g1
      have g2 := off n23 g2
      have gD := off (fun e => by rw [e, g3] at gD; cases gD) gD
      have g3 : upd H5 l3 (.lst ((ds.set i D).map V.ref)) l3 = some (.lst ((ds.set i D).map V.ref)) := upd_same
      clear off
      generalize upd H5 l3 (.lst ((ds.set i D).map V.ref)) = H6 at s6 gD g1 g2 g3 ⊢
      walk_at "rs"
      refine ⟨(by show 3 ≤ sizeLine; decide), fun t ht => ?_⟩
      have s7' := same_new (o := .tup [.ref l1, .ref l2, .ref l3]) ht
      have gt : upd H6 t (.tup [.ref l1, .ref l2, .ref l3]) t = some (.tup [.ref l1, .ref l2, .ref l3]) := upd_same
      generalize upd H6 t (.tup [.ref l1, .ref l2, .ref l3]) = H7 at s7' gt ⊢
      have s7 := s6.trans s7'
      walk_at "rs"
      refine ⟨(by show 2 ≤ sizeLine; decide), fun q hq => ?_⟩
      have s8' := same_new (o := .tup [.ref t, .bl true]) hq
      have s78 := s7'.trans s8'
      exact k2 q t _ _ rfl (s7.trans s8') ⟨l1, l2, l3, ds.set i D, s8' _ _ gt, s78 _ _ g1, s78 _ _ g2, s78 _ _ g3, paired_set (F := DkAt _) (s78 _ _ gD) i (imp_paired h5 fun _ _ e => s78 _ _ (s6 _ _ e)), nF⟩ upd_same
    | p x y z =>
      have hc4 : H3 c = some (.tup [.str "p", .int x, .int y, .int z]) := hc3
      walk_at "rs"
      obtain ⟨i, rfl⟩ : ∃ i : Nat, x = (i : Int) := ⟨x.toNat, by have := fx.1.1; omega⟩
      obtain ⟨j, rfl⟩ : ∃ j : Nat, y = (j : Int) := ⟨y.toNat, by have := fx.2.1.1; omega⟩
      rw [afterA] at no k2
      refine ⟨c, _, _, _, rfl, rfl, SqT.of hc4, rfl, ?_⟩
      walk_at "rs"
      refine ⟨c, _, _, _, rfl, rfl, SqT.of hc4, rfl, ?_⟩
      walk_at "rs"
      refine ite2 (fun c1 => ?_) (fun c1 => ?_)
      · have c1 := of_decide_eq_true c1
        walk_at "rs"
        exact ⟨(by show 2 ≤ sizeLine; decide), no (if_neg (by omega)) _ t3⟩
      have c1 : (i : Int) < A1.bal.length := by
        have : ¬ (i : Int) ≥ A1.bal.length := fun h => c1 (decide_eq_true h)
        omega
      walk_at "rs"
      refine ⟨c, _, _, _, rfl, rfl, SqT.of hc4, rfl, ?_⟩
      walk_at "rs"
      refine ⟨c, _, _, _, rfl, rfl, SqT.of hc4, rfl, ?_⟩
      walk_at "rs"
      refine ite2 (fun c2 => ?_) (fun c2 => ?_)
      · have c2 := of_decide_eq_true c2
        walk_at "rs"
        exact ⟨(by show 2 ≤ sizeLine; decide), no (if_neg (by omega)) _ t3⟩
      have c2 : (j : Int) < A1.bal.length := by
        have : ¬ (j : Int) ≥ A1.bal.length := fun h => c2 (decide_eq_true h)
        omega
      walk_at "rs"
      refine ⟨c, _, _, _, rfl, rfl, SqT.of hc4, rfl, ?_⟩
      walk_at "rs"
      refine ⟨c, _, _, _, rfl, rfl, SqT.of hc4, rfl, ?_⟩
      refine ⟨l1, _, _, _, rfl, rfl, SqL.of g1, at_tup (by omega), ?_⟩
      walk_at "rs"
      refine ⟨c, _, _, _, rfl, rfl, SqT.of hc4, rfl, ?_⟩
      walk_at "rs"
      refine ite2 (fun c3 => ?_) (fun c3 => ?_)
      · have c3 := of_decide_eq_true c3
        walk_at "rs"
        exact ⟨(by show 2 ≤ sizeLine; decide), no (if_neg fun h => by have := h.2; rw [Int.toNat_natCast] at this; omega) _ t3⟩
      have c3 : z ≤ A1.bal.getD i 0 := by
        have : ¬ A1.bal.getD i 0 < z := fun h => c3 (decide_eq_true h)
        omega
      rw [if_pos ⟨⟨c1, c2⟩, by rw [Int.toNat_natCast]; exact c3⟩, Int.toNat_natCast, Int.toNat_natCast] at k2
      walk_at "rs"
      refine ⟨c, _, _, _, rfl, rfl, SqT.of hc4, rfl, ?_⟩
      refine ⟨l1, _, _, _, rfl, rfl, SqL.of g1, at_tup (by omega), ?_⟩
      walk_at "rs"
      refine ⟨c, _, _, _, rfl, rfl, SqT.of hc4, rfl, ?_⟩
      walk_at "rs"
      refine ⟨c, _, _, _, rfl, rfl, SqT.of hc4, rfl, ?_⟩
      refine ⟨l1, _, _, i, rfl, rfl, g1, ixN_at (by rw [List.length_map]; omega), ?_⟩
      have hset : (A1.bal.map V.int).set i (V.int (A1.bal.getD i 0 - z)) = (A1.bal.set i (A1.bal.getD i 0 - z)).map V.int := set_map V.int _ _ _
      dsimp only
      rw [hset]
      have s4 := same_upd (o := .lst ((A1.bal.set i (A1.bal.getD i 0 - z)).map V.int)) t3 hl1
      have off : ∀ {b : Addr} {o : HO}, b ≠ l1 → H3 b = some o → upd H3 l1 (.lst ((A1.bal.set i (A1.bal.getD i 0 - z)).map V.int)) b = some o := fun n e => by rw [upd_ne n]; exact e
      have g2 := off n12.symm g2
      have g3 := off n13.symm g3
      have hc5 := off (fun e => by rw [e, g1] at hc4; cases hc4) hc4
      have g1 : upd H3 l1 (.lst ((A1.bal.set i (A1.bal.getD i 0 - z)).map V.int)) l1 = some (.lst ((A1.bal.set i (A1.bal.getD i 0 - z)).map V.int)) := upd_same
      clear off
      generalize upd H3 l1 (.lst ((A1.bal.set i (A1.bal.getD i 0 - z)).map V.int)) = H4 at s4 g1 g2 g3 hc5 ⊢
      have lset : (A1.bal.set i (A1.bal.getD i 0 - z)).length = A1.bal.length := List.length_set ..
      generalize hb2 : A1.bal.set i (A1.bal.getD i 0 - z) = bal2 at g1 lset
      walk_at "rs"
      refine ⟨c, _, _, _, rfl, rfl, SqT.of hc5, rfl, ?_⟩
      refine ⟨l1, _, _, _, rfl, rfl, SqL.of g1, at_tup (by omega), ?_⟩
      walk_at "rs"
      refine ⟨c, _, _, _, rfl, rfl, SqT.of hc5, rfl, ?_⟩
      walk_at "rs"
      refine ⟨c, _, _, _, rfl, rfl, SqT.of hc5, rfl, ?_⟩
      refine ⟨l1, _, _, j, rfl, rfl, g1, ixN_at (by rw [List.length_map]; omega), ?_⟩
      have hset2 : (bal2.map V.int).set j (V.int (bal2.getD j 0 + z)) = (moveA A1.bal i j z).map V.int := by
        rw [set_map V.int]
        unfold moveA
        rw [hb2]
      dsimp only
      rw [hset2]
      have s6 := same_upd (o := .lst ((moveA A1.bal i j z).map V.int)) s4 hl1
      have off : ∀ {b : Addr} {o : HO}, b ≠ l1 → H4 b = some o → upd H4 l1 (.lst ((moveA A1.bal i j z).map V.int)) b = some o := fun n e => by rw [upd_ne n]; exact e
      have g2 := off n12.symm g2
      have g3 := off n13.symm g3
      have g1 : upd H4 l1 (.lst ((moveA A1.bal i j z).map V.int)) l1 = some (.lst ((moveA A1.bal i j z).map V.int)) := upd_same
      clear off
      generalize upd H4 l1 (.lst ((moveA A1.bal i j z).map V.int)) = H6 at s6 g1 g2 g3 ⊢
      walk_at "rs"
      refine ⟨(by show 3 ≤ sizeLine; decide), fun t ht => ?_⟩
      have s7' := same_new (o := .tup [.ref l1, .ref l2, .ref l3]) ht
      have gt : upd H6 t (.tup [.ref l1, .ref l2, .ref l3]) t = some (.tup [.ref l1, .ref l2, .ref l3]) := upd_same
      generalize upd H6 t (.tup [.ref l1, .ref l2, .ref l3]) = H7 at s7' gt ⊢
      have s7 := s6.trans s7'
      walk_at "rs"
      refine ⟨(by show 2 ≤ sizeLine; decide), fun q hq => ?_⟩
      have s8' := same_new (o := .tup [.ref t, .bl true]) hq
      have s78 := s7'.trans s8'
      exact k2 q t _ _ rfl (s7.trans s8') ⟨l1, l2, l3, ds, s8' _ _ gt, s78 _ _ g1, s78 _ _ g2, s78 _ _ g3, imp_paired h5 fun _ _ e => s78 _ _ (s6 _ _ e), nF⟩ upd_same
    | k x y z =>
      have hc4 : H3 c = some (.tup [.str "k", .int x, .int y, .int z]) := hc3
      walk_at "rs"
      obtain ⟨i, rfl⟩ : ∃ i : Nat, x = (i : Int) := ⟨x.toNat, by have := fx.1.1; omega⟩
      obtain ⟨j, rfl⟩ : ∃ j : Nat, y = (j : Int) := ⟨y.toNat, by have := fx.2.1.1; omega⟩
      rw [afterA] at no k2
      refine ⟨c, _, _, _, rfl, rfl, SqT.of hc4, rfl, ?_⟩
      walk_at "rs"
      refine ⟨c, _, _, _, rfl, rfl, SqT.of hc4, rfl, ?_⟩
      walk_at "rs"
      refine ite2 (fun c1 => ?_) (fun c1 => ?_)
      · have c1 := of_decide_eq_true c1
        walk_at "rs"
        exact ⟨(by show 2 ≤ sizeLine; decide), no (if_neg (by omega)) _ t3⟩
      have c1 : (i : Int) < A1.bal.length := by
        have : ¬ (i : Int) ≥ A1.bal.length := fun h => c1 (decide_eq_true h)
        omega
      walk_at "rs"
      refine ⟨c, _, _, _, rfl, rfl, SqT.of hc4, rfl, ?_⟩
      walk_at "rs"
      refine ⟨c, _, _, _, rfl, rfl, SqT.of hc4, rfl, ?_⟩
      walk_at "rs"
      refine ite2 (fun c2 => ?_) (fun c2 => ?_)
      · have c2 := of_decide_eq_true c2
        walk_at "rs"
        exact ⟨(by show 2 ≤ sizeLine; decide), no (if_neg (by omega)) _ t3⟩
      have c2 : (j : Int) < A1.bal.length := by
        have : ¬ (j : Int) ≥ A1.bal.length := fun h => c2 (decide_eq_true h)
        omega
      walk_at "rs"
      refine ⟨c, _, _, _, rfl, rfl, SqT.of hc4, rfl, ?_⟩
      walk_at "rs"
      refine ⟨c, _, _, _, rfl, rfl, SqT.of hc4, rfl, ?_⟩
      walk_at "rs"
      refine ⟨l2, _, _, _, rfl, rfl, SqL.of g2, at_strs (by omega), ?_⟩
      walk_at "rs"
      refine ite2 (fun c3 => ?_) (fun c3 => ?_)
      · have c3 : A1.cds.getD j "" = "" := V.str.inj (of_decide_eq_true c3)
        walk_at "rs"
        exact ⟨(by show 2 ≤ sizeLine; decide), no (if_neg fun h => h.2 (by rw [Int.toNat_natCast]; exact c3)) _ t3⟩
      have c3 : A1.cds.getD j "" ≠ "" := fun h => c3 (decide_eq_true (congrArg V.str h))
      rw [if_pos ⟨⟨c1, c2⟩, by rw [Int.toNat_natCast]; exact c3⟩, Int.toNat_natCast] at no
      rw [if_pos ⟨⟨c1, c2⟩, by rw [Int.toNat_natCast]; exact c3⟩, Int.toNat_natCast, Int.toNat_natCast] at k2
      have hj : j < A1.bal.length := by omega
      have gs := ga.st _ (getD_memS (xs := A1.sts) (d := []) (i := j) (by omega))
      have bn : 0 ≤ A1.bal.getD j 0 := ga.nn _ (getD_mem hj)
      have hco := ga.co _ (getD_memS (xs := A1.cds) (d := "") (i := j) (by omega))
      have gD : DkAt H (ds.getD j 0) (A1.sts.getD j []) := paired_at (d := 0) (e := []) (i := j) h5 (by omega)
      obtain ⟨gn, rfl⟩ : ∃ g : Nat, z = (g : Int) := ⟨z.toNat, by have := fx.2.2.1; omega⟩
      have gle := fx.2.2.2
      have vsE : ∀ d : Addr, [V.str (A1.cds.getD j ""), V.int (gn : Int), V.int (A1.bal.getD j 0 % 1000000), V.ref d] = [V.str (cutG (callG A1 j gn)).code, V.int ((cutG (callG A1 j gn)).given : Nat), V.int ((cutG (callG A1 j gn)).amount : Nat), V.ref d] := fun d => by
        show _ = [V.str (A1.cds.getD j ""), V.int (((gn : Int).toNat : Nat) : Int), V.int (((A1.bal.getD j 0).toNat % 1000000 : Nat) : Int), V.ref d]
        rw [Int.toNat_natCast, Int.natCast_emod, Int.toNat_of_nonneg bn]
        rfl
      have lcode : (cutG (callG A1 j gn)).code.length ≤ 5000 := Nat.le_trans hco.1 (by decide)
      have alph : ∀ c ∈ TL.tl (cutG (callG A1 j gn)).code, Alph c := hco.2
      have lg : (cutG (callG A1 j gn)).given < 1000000 := by
        show (gn : Int).toNat < 1000000
        omega
      have la : (cutG (callG A1 j gn)).amount < 1000000 := Nat.mod_lt _ (by decide)
      have hcut := fin_cut (callG A1 j gn) 201 ⟨[], A1.sts.getD j [], 0, 0, 0⟩
      have hat := at_tup hj
      generalize callG A1 j gn = G at no k2 vsE lcode alph lg la hcut
      generalize A1.sts.getD j [] = kv at no k2 gs gD hcut
      generalize hbv : A1.bal.getD j 0 = bv at no k2 vsE bn hat
      walk_at "rs"
      refine ⟨l2, _, _, _, rfl, rfl, SqL.of g2, at_strs (by omega), ?_⟩
      walk_at "rs"
      refine ⟨c, _, _, _, rfl, rfl, SqT.of hc4, rfl, ?_⟩
      walk_at "rs"
      refine ⟨l1, _, _, _, rfl, rfl, SqL.of g1, hat, ?_⟩
      walk_at "rs"
      refine ⟨l3, _, _, _, rfl, rfl, SqL.of g3, at_refs (by omega), ?_⟩
      refine ⟨ds.getD j 0, cutG G, kv, vsE _, t3 _ _ gD, gs.mono hm |>.2.2, gs.nd, gs.2.1, lcode, alph, lg, la, fun m' n' ef q S ys H4 yp yw s4' nq nS hS hq => ?_, fun n' ef q S H4 s4' nq nS hS hq => ?_⟩
      · rw [hcut] at ef
        rw [ef] at no k2
        replace no : (if (m'.pd : Int) ≤ bv then some (⟨moveA A1.bal j i (m'.pd : Int), A1.cds, A1.sts.set j (leftM m')⟩ : Ac) else none) = none → ∀ H', Same H H' → ∀ q, H' q = none → Q (.ref q) (upd H' q (.tup [.ref p, .bl false])) := no
        replace k2 : ∀ q r H' B, (if (m'.pd : Int) ≤ bv then some (⟨moveA A1.bal j i (m'.pd : Int), A1.cds, A1.sts.set j (leftM m')⟩ : Ac) else none) = some B → Same H H' → StF FF H' r B → H' q = some (.tup [.ref r, .bl true]) → Q (.ref q) H' := k2
        have hS : H4 S = some (.dK (kvV (leftM m'))) := by unfold leftM; rw [← ord_is yp yw]; exact hS
        have s4 := t3.trans s4'
        have g1 := s4' _ _ g1
        have g3 := s4' _ _ g3
        have g2 := s4' _ _ g2
        have hc5 := s4' _ _ hc4
        walk_at "rs"
        refine ⟨q, _, _, _, rfl, rfl, SqT.of hq, rfl, ?_⟩
        walk_at "rs"
        refine ⟨l1, _, _, _, rfl, rfl, SqL.of g1, hat, ?_⟩
        walk_at "rs"
        refine ⟨q, _, _, _, rfl, rfl, SqT.of hq, rfl, ?_⟩
        walk_at "rs"
        refine ite2 (fun c4 => ?_) (fun c4 => ?_)
        · have c4 := of_decide_eq_true c4
          walk_at "rs"
          exact ⟨(by show 2 ≤ sizeLine; decide), no (if_neg (by omega)) H4 s4⟩
        have c4 : (m'.pd : Int) ≤ bv := by
          have : ¬ bv < (m'.pd : Int) := fun h => c4 (decide_eq_true h)
          omega
        walk_at "rs"
        refine ⟨q, _, _, _, rfl, rfl, SqT.of hq, rfl, ?_⟩
        walk_at "rs"
        refine ⟨l3, _, _, j, rfl, rfl, g3, ixN_at (by rw [List.length_map]; omega), ?_⟩
        rw [set_map]
        have s5 := same_upd (o := .lst ((ds.set j S).map V.ref)) s4 nl3
        have off : ∀ {b : Addr} {o : HO}, b ≠ l3 → H4 b = some o → upd H4 l3 (.lst ((ds.set j S).map V.ref)) b = some o := fun n e => by rw [upd_ne n]; exact e
        have g1 := off n13 g1
        have g2 := off n23 g2
        have hS := off (fun e => by rw [e, g3] at hS; cases hS) hS
        have hq := off (fun e => by rw [e, g3] at hq; cases hq) hq
        have hc5 := off (fun e => by rw [e, g3] at hc5; cases hc5) hc5
        have g3 : upd H4 l3 (.lst ((ds.set j S).map V.ref)) l3 = some (.lst ((ds.set j S).map V.ref)) := upd_same
        clear off
        generalize upd H4 l3 (.lst ((ds.set j S).map V.ref)) = H5 at s5 hS hq hc5 g1 g2 g3 ⊢
        walk_at "rs"
        refine ⟨l1, _, _, _, rfl, rfl, SqL.of g1, hat, ?_⟩
        walk_at "rs"
        refine ⟨q, _, _, _, rfl, rfl, SqT.of hq, rfl, ?_⟩
        walk_at "rs"
        refine ⟨l1, _, _, j, rfl, rfl, g1, ixN_at (by rw [List.length_map]; omega), ?_⟩
        have hset : (A1.bal.map V.int).set j (V.int (bv - (m'.pd : Int))) = (A1.bal.set j (bv - (m'.pd : Int))).map V.int := set_map V.int _ _ _
        dsimp only
        rw [hset]
        have s6 := same_upd (o := .lst ((A1.bal.set j (bv - (m'.pd : Int))).map V.int)) s5 hl1
        have off : ∀ {b : Addr} {o : HO}, b ≠ l1 → H5 b = some o → upd H5 l1 (.lst ((A1.bal.set j (bv - (m'.pd : Int))).map V.int)) b = some o := fun n e => by rw [upd_ne n]; exact e
        have g2 := off n12.symm g2
        have g3 := off n13.symm g3
        have hS := off (fun e => by rw [e, g1] at hS; cases hS) hS
        have hq := off (fun e => by rw [e, g1] at hq; cases hq) hq
        have hc5 := off (fun e => by rw [e, g1] at hc5; cases hc5) hc5
        have g1 : upd H5 l1 (.lst ((A1.bal.set j (bv - (m'.pd : Int))).map V.int)) l1 = some (.lst ((A1.bal.set j (bv - (m'.pd : Int))).map V.int)) := upd_same
        clear off
        generalize upd H5 l1 (.lst ((A1.bal.set j (bv - (m'.pd : Int))).map V.int)) = H6 at s6 hS hq hc5 g1 g2 g3 ⊢
        have lset : (A1.bal.set j (bv - (m'.pd : Int))).length = A1.bal.length := List.length_set ..
        generalize hb2 : A1.bal.set j (bv - (m'.pd : Int)) = bal2 at g1 lset
        walk_at "rs"
        refine ⟨c, _, _, _, rfl, rfl, SqT.of hc5, rfl, ?_⟩
        refine ⟨l1, _, _, _, rfl, rfl, SqL.of g1, at_tup (by omega), ?_⟩
        walk_at "rs"
        refine ⟨q, _, _, _, rfl, rfl, SqT.of hq, rfl, ?_⟩
        walk_at "rs"
        refine ⟨c, _, _, _, rfl, rfl, SqT.of hc5, rfl, ?_⟩
        refine ⟨l1, _, _, i, rfl, rfl, g1, ixN_at (by rw [List.length_map]; omega), ?_⟩
        have hset2 : (bal2.map V.int).set i (V.int (bal2.getD i 0 + (m'.pd : Int))) = (moveA A1.bal j i (m'.pd : Int)).map V.int := by
          rw [set_map V.int]
          unfold moveA
          rw [hbv, hb2]
        dsimp only
        rw [hset2]
        have s7 := same_upd (o := .lst ((moveA A1.bal j i (m'.pd : Int)).map V.int)) s6 hl1
        have off : ∀ {b : Addr} {o : HO}, b ≠ l1 → H6 b = some o → upd H6 l1 (.lst ((moveA A1.bal j i (m'.pd : Int)).map V.int)) b = some o := fun n e => by rw [upd_ne n]; exact e
        have g2 := off n12.symm g2
        have g3 := off n13.symm g3
        have hS := off (fun e => by rw [e, g1] at hS; cases hS) hS
        have g1 : upd H6 l1 (.lst ((moveA A1.bal j i (m'.pd : Int)).map V.int)) l1 = some (.lst ((moveA A1.bal j i (m'.pd : Int)).map V.int)) := upd_same
        clear off
        generalize upd H6 l1 (.lst ((moveA A1.bal j i (m'.pd : Int)).map V.int)) = H7 at s7 hS g1 g2 g3 ⊢
        walk_at "rs"
        refine ⟨(by show 3 ≤ sizeLine; decide), fun t ht => ?_⟩
        have s8' := same_new (o := .tup [.ref l1, .ref l2, .ref l3]) ht
        have gt : upd H7 t (.tup [.ref l1, .ref l2, .ref l3]) t = some (.tup [.ref l1, .ref l2, .ref l3]) := upd_same
        generalize upd H7 t (.tup [.ref l1, .ref l2, .ref l3]) = H8 at s8' gt ⊢
        have s8 := s7.trans s8'
        walk_at "rs"
        refine ⟨(by show 2 ≤ sizeLine; decide), fun q2 hq2 => ?_⟩
        have s9' := same_new (o := .tup [.ref t, .bl true]) hq2
        have s89 := s8'.trans s9'
        exact k2 q2 t _ _ (if_pos c4) (s8.trans s9') ⟨l1, l2, l3, ds.set j S, s9' _ _ gt, s89 _ _ g1, s89 _ _ g2, s89 _ _ g3, paired_set (F := DkAt _) (s89 _ _ hS) j (imp_paired h5 fun _ _ e => s89 _ _ (s7 _ _ e)), nF⟩ upd_same
      · rw [hcut] at ef
        rw [ef] at no
        have s4 := t3.trans s4'
        walk_at "rs"
        refine ⟨q, _, _, _, rfl, rfl, SqT.of hq, rfl, ?_⟩
        walk_at "rs"
        exact ⟨(by show 2 ≤ sizeLine; decide), no rfl H4 s4⟩

def spPairs : Sp := fun vs H Q _ => ∃ (d : Addr) (kv : List (Nat × Nat)), vs = [.ref d] ∧ H d = some (.dK (kvV kv)) ∧ GoodS 30200 kv ∧
  ∀ t ps H', Same H H' → H' t = some (.tup (ps.map V.ref)) → Paired (PrAt H') ps kv → Q (.ref t) H'
theorem paired_snoc {α β : Type} {F : α → β → Prop} {x : α} {y : β} : ∀ {xs : List α} {ys : List β}, Paired F xs ys → F x y → Paired F (xs ++ [x]) (ys ++ [y])
  | _, _, .nil, h => .cons h .nil
  | _, _, .cons g t, h => .cons g (paired_snoc t h)
theorem getN_at {kv : List (Nat × Nat)} (nd : (kv.map (·.1)).Nodup) {x : Nat × Nat} (h : x ∈ kv) : getN kv x.1 = x.2 := by
  unfold getN
  induction kv with
  | nil => cases h
  | cons y r ih =>
    rw [List.map_cons] at nd
    have nd := List.nodup_cons.mp nd
    rw [List.find?_cons]
    rcases List.mem_cons.mp h with rfl | h
    · rw [decide_eq_true rfl]
      rfl
    · have ne : y.1 ≠ x.1 := fun e => nd.1 (by rw [e]; exact List.mem_map.mpr ⟨x, h, rfl⟩)
      rw [decide_eq_false ne]
      exact ih nd.2 h
theorem ok_law_pairs (T : Txt K mg a) : ∃ fd, FnOk P w K mg base CX0 1 a.d_law_pairs fd ["store"] spPairs ∧ Binds K fd ["store"] [] := by
  obtain ⟨fd, F, b⟩ := T.d_law_pairs.F
  refine ⟨fd, F.ok sc_law_pairs (fun vs H Q E h => ?_) (fun cdv A outer s H vs Q E hr h => ?_), b⟩
  · obtain ⟨_, _, rfl, _⟩ := h
    rfl
  · obtain ⟨d, kv, rfl, hd, gs, k⟩ := h
    have ndk := gs.nd
    have small := gs.2.2
    refine ⟨_, (pss_one (ps_ret (pe_callTy call_tuple_of (by rfl) T.n_tuple (by decide +kernel) (pa_cons (pe_lc (own := [("key", 1)]) (g := (gName 1)) (tt := tYes) rfl sc_law_pairs.nd (pi_list (pe_callB (cr_sortIs) (by rfl) T.n_sorted (by decide +kernel) (pa_cons (pe_lock (pe_lc (own := [("key", 1)]) (g := (gName 1)) (tt := tYes) rfl sc_law_pairs.nd (pi_keys (pv 0)) (blkOk_by (own := [("key", 1)]) (N := sc_law_pairs_N) (sc := defScope s_law_pairs) (by decide +kernel)) (fun _ _ _ _ _ => (pg_name (i := 1) sc_law_pairs.nd rfl (Or.inl rfl))) (fun _ _ _ _ _ => pts_nil) (fun _ _ _ _ _ => (pv 1)))) pa_nil))) (blkOk_by (own := [("key", 1)]) (N := sc_law_pairs_N) (sc := defScope s_law_pairs) (by decide +kernel)) (fun _ _ _ _ _ => (pg_name (i := 1) sc_law_pairs.nd rfl (Or.inl rfl))) (fun _ _ _ _ _ => pts_nil) (fun _ _ _ _ _ => (pe_tup (pa_cons (pv 1) (pa_cons (pe_dget (hu_of hr) (pv 0) (pv 1) (fun _ _ => rfl)) pa_nil))))) pa_nil)))), ?_⟩
    walk_at "rs"
    refine ⟨d, .dK (kvV kv), hd, trivial, fun od => ?_⟩
    walk_at "rs"
    refine ⟨d, od, rfl, .inl ⟨kvV kv, upd_same, fun R hR => ?_⟩⟩
    have RD : R ≠ d := fun e => by rw [e, upd_same] at hR; cases hR
    have nR : H R = none := by rw [upd_ne RD] at hR; exact hR
    refine lc_it walk_keys (fun i H3 => H3 d = some (.frz od (.dK (kvV kv))) ∧ H3 R = some (.lst ((kv.take i).map fun x => V.int (x.1 : Int))) ∧ ∀ b o, b ≠ d → H b = some o → H3 b = some o) ⟨by rw [upd_ne (fun e => RD e.symm)]; exact upd_same, upd_same, fun b o n e => by rw [upd_ne (ne_of_none e nR), upd_ne n]; exact e⟩ (fun i H _ p => p.1) ?_ ?_
    · rintro i x H3 H3' hi ⟨a1, a2, a3⟩ ⟨rfl, k, v, hk, rfl⟩
      rw [len_kv] at hi
      obtain ⟨x, hx, rfl⟩ : ∃ x, kv[i]? = some x ∧ k = Sum.inl (x.1 : Int) := by
        unfold kvV at hk
        rw [List.getElem?_map] at hk
        cases h : kv[i]? with
        | none => rw [h] at hk; cases hk
        | some x =>
          rw [h] at hk
          have := Option.some.inj hk
          exact ⟨x, rfl, (Prod.mk.inj this).1.symm⟩
      refine ⟨rfl, ?_⟩
      walk_at "rs"
      refine ⟨_, a2, by rw [List.length_map]; exact small8000 (by have := List.length_take_le' i kv; omega), by rw [upd_ne (fun e => RD e.symm)]; exact a1, ?_, fun b o n e => ?_⟩
      · rw [upd_same, List.take_add_one, hx]
        simp [kV]
      · rw [upd_ne (ne_of_none e nR)]
        exact a3 b o n e
    · rintro H3 ⟨a1, a2, a3⟩
      rw [len_kv, List.take_length] at a2
      refine ⟨a1, ?_⟩
      have s4 : Same H (upd H3 d (.dK (kvV kv))) := fun b o e => by
        by_cases n : b = d
        · rw [n, upd_same]
          rw [n, hd] at e
          exact e
        · rw [upd_ne n]
          exact a3 b o n e
      have hR4 : upd H3 d (.dK (kvV kv)) R = some (.lst ((kv.map fun x => (x.1 : Int)).map V.int)) := by
        rw [upd_ne RD, a2, List.map_map]
        rfl
      generalize upd H3 d (.dK (kvV kv)) = H4 at s4 hR4 ⊢
      walk_at "rs"
      refine ⟨R, kv.map fun x => (x.1 : Int), rfl, SqL.of hR4, fun zs q hperm hpw hq => ?_⟩
      obtain ⟨ys, rfl, yp, yw⟩ : ∃ ys : List Nat, zs = ys.map (fun n : Nat => (n : Int)) ∧ ys.Perm (kv.map (·.1)) ∧ ys.Pairwise (· ≤ ·) := by
        refine ⟨zs.map Int.toNat, ?_, ?_, ?_⟩
        · rw [List.map_map]
          conv => lhs; rw [← List.map_id zs]
          refine List.map_congr_left fun z hz => ?_
          obtain ⟨x, _, rfl⟩ := List.mem_map.mp (hperm.mem_iff.mp hz)
          rfl
        · have := hperm.map Int.toNat
          rw [List.map_map] at this
          exact this
        · rw [List.pairwise_map]
          exact hpw.imp fun h => Int.toNat_le_toNat h
      have ey : ys = kv.map (·.1) := perm_one yp yw (gs.1.imp fun h => Nat.le_of_lt h)
      subst ey
      have s5 := same_upd (o := .lst (((kv.map (·.1)).map fun n : Nat => (n : Int)).map V.int)) s4 (s4.free hq)
      have hq5 : upd H4 q (.lst (((kv.map (·.1)).map fun n : Nat => (n : Int)).map V.int)) q = some (.lst (((kv.map (·.1)).map fun n : Nat => (n : Int)).map V.int)) := upd_same
      generalize upd H4 q (.lst (((kv.map (·.1)).map fun n : Nat => (n : Int)).map V.int)) = H5 at s5 hq5 ⊢
      walk_at "rs"
      refine ⟨⟨_, SqL.of hq5⟩, fun D hD => ?_⟩
      have hd5 := s5 _ _ hd
      refine lc_list (K := K) (a := q) (xs := ((kv.map (·.1)).map fun n : Nat => (n : Int)).map V.int) (fun i H6 => Same H5 H6 ∧ ∃ ps : List Addr, H6 D = some (.lst (ps.map V.ref)) ∧ Paired (PrAt H6) ps (kv.take i)) ⟨same_new hD, [], upd_same, .nil⟩ (fun i H6 _ ⟨s6, _⟩ => SqL.of (s6 _ _ hq5)) ?_ ?_
      · rintro i y H6 hy ⟨s6, ps, h6, p6⟩
        obtain ⟨x, hx, rfl⟩ : ∃ x, kv[i]? = some x ∧ y = V.int (x.1 : Int) := by
          rw [List.getElem?_map, List.getElem?_map, List.getElem?_map] at hy
          cases h : kv[i]? with
          | none => rw [h] at hy; cases hy
          | some x =>
            rw [h] at hy
            exact ⟨x, rfl, (Option.some.inj hy).symm⟩
        have hmem : x ∈ kv := List.mem_of_getElem? hx
        have hg : DGet H6 d (V.int (x.1 : Int)) (some (V.int (x.2 : Int))) := by
          have := DGet.k (k := Sum.inl (x.1 : Int)) (s6 _ _ hd5)
          rw [val_mem (List.mem_map.mpr ⟨x, hmem, rfl⟩), getN_at ndk hmem] at this
          exact this
        have lps := paired_len p6
        refine ⟨rfl, ?_⟩
        walk_at "rs"
        refine ⟨d, _, rfl, hg, ?_⟩
        walk_at "rs"
        refine ⟨(by show 2 ≤ sizeLine; decide), fun t ht => ?_⟩
        have s7' := same_new (o := .tup [.int (x.1 : Int), .int (x.2 : Int)]) ht
        have ht7 : PrAt (upd H6 t (.tup [.int (x.1 : Int), .int (x.2 : Int)])) t x := upd_same
        generalize upd H6 t (.tup [.int (x.1 : Int), .int (x.2 : Int)]) = H7 at s7' ht7 ⊢
        have et : kv.take (i + 1) = kv.take i ++ [x] := by
          rw [List.take_add_one, hx]
          rfl
        have h7 := s7' _ _ h6
        refine ⟨_, h7, by rw [List.length_map, lps]; exact small8000 (by have := List.length_take_le' i kv; omega), same_upd (s6.trans s7') hD, ps ++ [t], by rw [upd_same, List.map_append]; rfl, ?_⟩
        rw [et]
        have off : ∀ b y, PrAt H7 b y → PrAt (upd H7 D (.lst (ps.map V.ref ++ [V.ref t]))) b y := fun b y e => by
          show upd _ _ _ _ = _
          rw [upd_ne (fun q => by have e : H7 b = _ := e; rw [q, h7] at e; cases e)]
          exact e
        exact paired_snoc (imp_paired p6 fun b y e => off b y (s7' _ _ e)) (off _ _ ht7)
      · rintro H6 ⟨s6, ps, h6, p6⟩
        rw [List.take_of_length_le (by simp)] at p6
        have s56 := s5.trans s6
        walk_at "rs"
        refine ⟨D, _, rfl, .inl ⟨SqL.of h6, fun t ht => ?_⟩⟩
        exact k t ps _ (same_upd s56 (s56.free ht)) upd_same (imp_paired p6 fun _ _ e => same_new ht _ _ e)

def TtAt (H : Hp) (t : Addr) (kv : List (Nat × Nat)) : Prop := ∃ ps : List Addr, H t = some (.tup (ps.map V.ref)) ∧ Paired (PrAt H) ps kv
theorem TtAt.same {H H' : Hp} {t : Addr} {kv : List (Nat × Nat)} (h : TtAt H t kv) (s : Same H H') : TtAt H' t kv := by
  obtain ⟨ps, h1, h2⟩ := h
  exact ⟨ps, s _ _ h1, imp_paired h2 fun _ _ => s _ _⟩
theorem TtAt.off {H : Hp} {t D : Addr} {kv : List (Nat × Nat)} {xs : List V} {o : HO} (h : TtAt H t kv) (hD : H D = some (.lst xs)) : TtAt (upd H D o) t kv := by
  obtain ⟨ps, h1, h2⟩ := h
  refine ⟨ps, by rw [upd_ne (fun e => by rw [e, hD] at h1; cases h1)]; exact h1, imp_paired h2 fun b y e => ?_⟩
  have e : H b = _ := e
  show upd _ _ _ _ = _
  rw [upd_ne (fun q => by rw [q, hD] at e; cases e)]
  exact e
theorem TtAt.tp {K : PySem.W.Frag} {H : Hp} {t : Addr} {kv : List (Nat × Nat)} (h : TtAt H t kv) : TpAt K H t kv := by
  obtain ⟨ps, h1, h2⟩ := h
  exact ⟨ps, SqT.of h1, h2⟩
def spShows (C : Addr) : Sp := fun vs H Q _ => ∃ (F : Addr → Prop) (p st : Addr) (A : Ac) (n k : Nat), vs = [.ref p, .ref st] ∧ LgAt C H p A ∧ StF F H st A ∧ GoodA n k A ∧ k ≤ 30200 ∧ ∀ H', Same H H' → Q (.bl true) H'
theorem ok_law_shows (T : Txt K mg a) : ∃ fd, FnOk P w K mg base CX0 2 a.d_law_shows fd ["ledger", "state"] (spShows a.C_Ledger) ∧ Binds K fd ["ledger", "state"] [] := by
  obtain ⟨fd, F, b⟩ := T.d_law_shows.F
  obtain ⟨fd_law_pairs, G_law_pairs, b_law_pairs⟩ := ok_law_pairs (P := P) (w := w) (base := base) T
  refine ⟨fd, F.ok sc_law_shows (fun vs H Q E h => ?_) (fun cdv A outer s H vs Q E hr h => ?_), b⟩
  · obtain ⟨_, _, _, _, _, _, rfl, _⟩ := h
    rfl
  · obtain ⟨FF, p, st, A1, n, m, rfl, hp, hst, ga, hm, k⟩ := h
    obtain ⟨dx, b1, cd, s1, ts, h1, h2, h3, h4, h5⟩ := hp
    obtain ⟨b2, c2, s2, ds, g1, g2, g3, g4, g5, -⟩ := hst
    have o1 : ∀ z ∈ A1.cds, PyData.strOk z = true := fun z hz => (ga.co z hz).2.ok
    refine ⟨_, (pss_cons (ps_if (PW.pt (pw_or (pt_cmpR (op_neD hr.units) (pe_fld (pv 0) rfl) (pe_callTy call_tuple_of (by rfl) T.n_tuple (by decide +kernel) (pa_cons (pe_ix ix_tup (pv 1) pe_int (fun _ _ => rfl)) pa_nil)) (nomark _)) (pw_or1 (pt_cmpR (op_neD hr.units) (pe_fld (pv 0) rfl) (pe_callTy call_tuple_of (by rfl) T.n_tuple (by decide +kernel) (pa_cons (pe_ix ix_tup (pv 1) pe_int (fun _ _ => rfl)) pa_nil)) (nomark _)))))
      (pss_one (ps_ret pe_bl))
      pss_nil)
      (pss_one (ps_ret (pe_cmpR (op_eqD hr.units) (pe_fld (pv 0) rfl) (pe_callTy call_tuple_of (by rfl) T.n_tuple (by decide +kernel) (pa_cons (pe_lc (own := [("store", 2)]) (g := (gName 2)) (tt := tYes) rfl sc_law_shows.nd (pi_list (pe_ix ix_tup (pv 1) pe_int (fun _ _ => rfl))) (blkOk_by (own := [("store", 2)]) (N := sc_law_shows_N) (sc := defScope s_law_shows) (by decide +kernel)) (fun _ _ _ _ _ => (pg_name (i := 2) sc_law_shows.nd rfl (Or.inl rfl))) (fun _ _ _ _ _ => pts_nil) (fun _ _ _ _ _ => (pe_call G_law_pairs (hr.mono (by decide)) rfl T.d_law_pairs.g T.d_law_pairs.kp b_law_pairs .nil pass0 (pa_cons (pv 2) pa_nil)))) pa_nil)) (nomark _))))), ?_⟩
    walk_at "rs"
    refine ⟨p, _, dx, _, .ref b1, rfl, h1, T.cl_Ledger, T.a_Ledger_balances, rfl, ?_⟩
    walk_at "rs"
    refine ⟨st, _, _, _, rfl, rfl, SqT.of g1, rfl, ?_⟩
    refine ⟨b2, _, rfl, .inl ⟨SqL.of g2, fun t1 ht1 => ?_⟩⟩
    have u1 := same_new (o := .tup (A1.bal.map V.int)) ht1
    have e1 : upd H t1 (.tup (A1.bal.map V.int)) t1 = some (.tup (A1.bal.map V.int)) := upd_same
    generalize upd H t1 (.tup (A1.bal.map V.int)) = H1 at u1 e1 ⊢
    refine ⟨.tuple (A1.bal.map PyData.int), .tuple (A1.bal.map PyData.int), .tup (SqT.of (u1 _ _ h2)) (dp_intsA _), .tup (SqT.of e1) (dp_intsA _), shaped_intsA _, shaped_intsA _, ?_⟩
    rw [eqv_intsA, decide_eq_true rfl]
    refine ⟨_, rfl, ?_⟩
    refine ite2 (fun c => absurd c (by decide)) (fun _ => ?_)
    walk_at "rs"
    refine ⟨p, _, dx, _, .ref cd, rfl, u1 _ _ h1, T.cl_Ledger, T.a_Ledger_codes, rfl, ?_⟩
    walk_at "rs"
    refine ⟨st, _, _, _, rfl, rfl, SqT.of (u1 _ _ g1), rfl, ?_⟩
    refine ⟨c2, _, rfl, .inl ⟨SqL.of (u1 _ _ g3), fun t2 ht2 => ?_⟩⟩
    have u2' := same_new (o := .tup (A1.cds.map V.str)) ht2
    have e2 : upd H1 t2 (.tup (A1.cds.map V.str)) t2 = some (.tup (A1.cds.map V.str)) := upd_same
    generalize upd H1 t2 (.tup (A1.cds.map V.str)) = H2 at u2' e2 ⊢
    have u2 := u1.trans u2'
    refine ⟨.tuple (A1.cds.map PyData.str), .tuple (A1.cds.map PyData.str), .tup (SqT.of (u2 _ _ h3)) (dp_strsA _), .tup (SqT.of e2) (dp_strsA _), shaped_strsA o1, shaped_strsA o1, ?_⟩
    rw [eqv_strsA, decide_eq_true rfl]
    refine ⟨_, rfl, ?_⟩
    refine ite2 (fun c => absurd c (by decide)) (fun _ => ?_)
    walk_at "rs"
    refine ⟨p, _, dx, _, .ref s1, rfl, u2 _ _ h1, T.cl_Ledger, T.a_Ledger_stores, rfl, ?_⟩
    walk_at "rs"
    refine ⟨st, _, _, _, rfl, rfl, SqT.of (u2 _ _ g1), rfl, ?_⟩
    have g42 := u2 _ _ g4
    refine ⟨s2, rfl, ⟨_, SqL.of g42⟩, fun D hD => ?_⟩
    have lds := paired_len g5
    refine lc_list (K := K) (a := s2) (xs := ds.map V.ref) (fun i H3 => Same H2 H3 ∧ ∃ us : List Addr, H3 D = some (.lst (us.map V.ref)) ∧ Paired (TtAt H3) us (A1.sts.take i)) ⟨same_new hD, [], upd_same, .nil⟩ (fun i H3 _ ⟨s3, _⟩ => SqL.of (s3 _ _ g42)) ?_ ?_
    · rintro i y H3 hy ⟨s3, us, hD3, p3⟩
      have hi : i < ds.length := by
        have e := (List.getElem?_eq_some_iff.mp hy).1
        rwa [List.length_map] at e
      have hdk : DkAt H (ds.getD i 0) (A1.sts.getD i []) := paired_at (d := 0) (e := []) (i := i) g5 (by omega)
      have hy' : y = V.ref (ds.getD i 0) := by
        rw [List.getElem?_map, List.getElem?_eq_getElem hi] at hy
        rw [List.getD_eq_getElem?_getD, List.getElem?_eq_getElem hi]
        exact (Option.some.inj hy).symm
      subst hy'
      have gsi := (ga.st _ (getD_memS (xs := A1.sts) (d := []) (i := i) (by omega))).mono hm
      have et : A1.sts.take (i + 1) = A1.sts.take i ++ [A1.sts.getD i []] := by
        have hi' : i < A1.sts.length := by omega
        rw [List.take_add_one, List.getElem?_eq_getElem hi', List.getD_eq_getElem?_getD, List.getElem?_eq_getElem hi']
        rfl
      refine ⟨rfl, ?_⟩
      walk_at "rs"
      refine ⟨ds.getD i 0, A1.sts.getD i [], rfl, s3 _ _ (u2 _ _ hdk), gsi, fun t ps H4 s4 ht pp => ?_⟩
      have hD4 := s4 _ _ hD3
      have lus := paired_len p3
      refine ⟨_, hD4, by rw [List.length_map, lus]; exact small8000 (by have := List.length_take_le' i A1.sts; have := ga.ls; have := ga.few; omega), same_upd (s3.trans s4) hD, us ++ [t], by rw [upd_same, List.map_append]; rfl, ?_⟩
      rw [et]
      exact paired_snoc (imp_paired p3 fun _ _ z => (z.same s4).off hD4) (TtAt.off ⟨ps, ht, pp⟩ hD4)
    · rintro H3 ⟨s3, us, hD3, p3⟩
      rw [List.take_of_length_le (by rw [List.length_map]; omega)] at p3
      walk_at "rs"
      refine ⟨D, _, rfl, .inl ⟨SqL.of hD3, fun t ht => ?_⟩⟩
      have s4 := same_new (o := .tup (us.map V.ref)) ht
      have ht4 : upd H3 t (.tup (us.map V.ref)) t = some (.tup (us.map V.ref)) := upd_same
      generalize upd H3 t (.tup (us.map V.ref)) = H4 at s4 ht4 ⊢
      have u4 := u2.trans (s3.trans s4)
      refine ⟨stsA A1.sts, stsA A1.sts, dp_sts (SqT.of (u4 _ _ h4)) (imp_paired h5 fun _ _ z => (z.same u4).tp), dp_sts (SqT.of ht4) (imp_paired p3 fun _ _ z => (z.same s4).tp), shaped_sts _, shaped_sts _, ?_⟩
      rw [eqv_sts, decide_eq_true rfl]
      exact k _ u4

/-! ### a block, as the law reckons it -/
theorem StF.keep {F : Addr → Prop} {H H' : Hp} {p : Addr} {A : Ac} (h : StF F H p A) (k : ∀ b o, ¬ F b ∨ NL o → H b = some o → H' b = some o) : StF F H' p A := by
  obtain ⟨b, c, t, ds, h1, h2, h3, h4, h5, n1, n2, n3⟩ := h
  exact ⟨b, c, t, ds, k _ _ (.inr fun _ e => nomatch e) h1, k _ _ (.inl n1) h2, k _ _ (.inl n2) h3, k _ _ (.inl n3) h4, imp_paired h5 fun _ _ e => k _ _ (.inr fun _ e => nomatch e) e, n1, n2, n3⟩
theorem StF.weak {F G : Addr → Prop} {H : Hp} {p : Addr} {A : Ac} (h : StF F H p A) (k : ∀ b xs, H b = some (.lst xs) → G b → F b) : StF G H p A := by
  obtain ⟨b, c, t, ds, h1, h2, h3, h4, h5, n1, n2, n3⟩ := h
  exact ⟨b, c, t, ds, h1, h2, h3, h4, h5, fun e => n1 (k _ _ h2 e), fun e => n2 (k _ _ h3 e), fun e => n3 (k _ _ h4 e)⟩
def spLBlk : Sp := fun vs H Q _ => ∃ (F : Addr → Prop) (wl st cl : Addr) (ws : List Int) (A : Ac) (ps : List Addr) (cs : List Cm) (n k : Nat), vs = [.ref wl, .ref st, .ref cl] ∧ (∀ y, F y → H y ≠ none) ∧ H wl = some (.lst (ws.map V.int)) ∧ GoodW ws ∧ StF F H st A ∧ H cl = some (.lst (ps.map V.ref)) ∧ CmsAt H ps cs ∧
  (∀ c ∈ cs, c.fine) ∧ GoodA n k A ∧ k + 200 * cs.length ≤ 30000 ∧ ∀ q w2 s2 t2 H', Same H H' → H' q = some (.tup [.ref w2, .ref s2, .ref t2]) → H w2 = none → H' w2 = some (.lst ((runB ws A cs).1.map V.int)) → StF F H' s2 (runB ws A cs).2.1 → H' t2 = some (.tup ((runB ws A cs).2.2.map V.bl)) → Q (.ref q) H'
theorem ok_law_block (T : Txt K mg a) : ∃ fd, FnOk P w K mg base CX0 5 a.d_law_block fd ["weights", "state", "commands"] spLBlk ∧ Binds K fd ["weights", "state", "commands"] [] := by
  obtain ⟨fd, F, b⟩ := T.d_law_block.F
  obtain ⟨fd_law_after, G_law_after, b_law_after⟩ := ok_law_after (P := P) (w := w) (base := base) T
  refine ⟨fd, F.ok sc_law_block (fun vs H Q E h => ?_) (fun cdv A outer s H vs Q E hr h => ?_), b⟩
  · obtain ⟨_, _, _, _, _, _, _, _, _, _, rfl, _⟩ := h
    rfl
  · obtain ⟨FF, wl, st, cl, ws, A1, ps, cs, n, m, rfl, hF, hwl, gw, hst, hcl, hcs, fine, ga, hm, k⟩ := h
    have np := hcs.1
    refine ⟨_, (pss_cons (ps_set (i := 3) sc_law_block.nd rfl (Or.inl rfl) (pe_lst pa_nil))
      (pss_cons (ps_set (i := 0) sc_law_block.nd rfl (Or.inl rfl) (pe_callTy call_list_of (by rfl) T.n_list (by decide +kernel) (pa_cons (pv 0) pa_nil)))
      (pss_cons (ps_for PassesOwn.never rfl (pi_list (pv 2)) (pg_name (i := 4) sc_law_block.nd rfl (Or.inl rfl))
      (pss_cons (ps_if (pt_cmpR op_eq (pe_ix ix_tup (pv 4) pe_int (fun _ _ => rfl)) pe_str (nomark _))
        (pss_cons (ps_set (i := 5) sc_law_block.nd rfl (Or.inl rfl) (pe_and (pe_cmpR op_lt (pe_ix ix_tup (pv 4) pe_int (fun _ _ => rfl)) (pe_callB call_len_seq (by rfl) T.n_len PySem.boot_len (pa_cons (pv 0) pa_nil)) (nomark _)) (pe_one (pe_cmpR op_ge (pe_ix ix_tup (pv 4) pe_int (fun _ _ => rfl)) pe_int (nomark _)))))
          (pss_one (ps_if (pt_val (pv 5))
          (pss_one (ps_asg (pe_ix ix_tup (pv 4) pe_int (fun _ _ => rfl)) (pg_sub (pv 0) (pe_ix ix_tup (pv 4) pe_int (fun _ _ => rfl)) set_list)))
          pss_nil)))
        (pss_cons (ps_set (i := 6) sc_law_block.nd rfl (Or.inl rfl) (pe_call G_law_after (hr.mono (by decide)) rfl T.d_law_after.g T.d_law_after.kp b_law_after .nil pass0 (pa_cons (pv 1) (pa_cons (pv 4) pa_nil))))
          (pss_cons (ps_set (i := 1) sc_law_block.nd rfl (Or.inl rfl) (pe_ix ix_tup (pv 6) pe_int (fun _ _ => rfl)))
          (pss_one (ps_set (i := 5) sc_law_block.nd rfl (Or.inl rfl) (pe_ix ix_tup (pv 6) pe_int (fun _ _ => rfl)))))))
        (pss_one (ps_expr (pe_bm PySem.F.plainAttrs_list PySem.F.slot_list_append PySem.F.type_list_append mt_append (pv 3) (pa_cons (pv 5) pa_nil))))))
      (pss_one (ps_ret (pe_tup (pa_cons (pv 0) (pa_cons (pv 1) (pa_cons (pe_callTy call_tuple_of (by rfl) T.n_tuple (by decide +kernel) (pa_cons (pv 3) pa_nil)) pa_nil))))))))), ?_⟩
    walk_at "rs"
    refine ⟨(by show 0 ≤ sizeLine; decide), fun rl hrl => ?_⟩
    have s1 := same_new (o := .lst []) hrl
    have hr1 : upd H rl (.lst []) rl = some (.lst (([] : List Bool).map V.bl)) := upd_same
    generalize upd H rl (.lst []) = H1 at s1 hr1 ⊢
    walk_at "rs"
    refine ⟨wl, _, rfl, .inl (SqL.of (s1 _ _ hwl)), fun w2 hw2 => ?_⟩
    have s2' := same_new (o := .lst (ws.map V.int)) hw2
    have gw2 : upd H1 w2 (.lst (ws.map V.int)) w2 = some (.lst (ws.map V.int)) := upd_same
    have nw2 : H w2 = none := s1.free hw2
    have wr : w2 ≠ rl := fun e => by rw [e, hr1] at hw2; cases hw2
    have hr2 := s2' _ _ hr1
    have s2 := s1.trans s2'
    generalize upd H1 w2 (.lst (ws.map V.int)) = H2 at s2 gw2 hr2 ⊢
    clear s1 s2' hr1 hw2 H1
    walk_at "rs"
    have hst2 : StF (fun y => FF y ∨ y = w2 ∨ y = rl) H2 st A1 := (hst.weak (G := fun y => FF y ∨ y = w2 ∨ y = rl) fun b xs e g => by
      rcases g with g | rfl | rfl
      · exact g
      · rw [nw2] at e; cases e
      · rw [hrl] at e; cases e).same s2
    have hF2 : ∀ y, (FF y ∨ y = w2 ∨ y = rl) → H2 y ≠ none := fun y g e => by
      rcases g with g | rfl | rfl
      · cases q : H y with
        | none => exact hF y g q
        | some o => rw [s2 _ _ q] at e; cases e
      · rw [gw2] at e; cases e
      · rw [hr2] at e; cases e
    refine ⟨⟨_, SqL.of (s2 _ _ hcl)⟩, for_list (K := K) (a := cl) (xs := ps.map V.ref) (fun i σ H3 => ∃ (s' : Addr) (v4 v5 v6 : Option V), σ = [some (.ref w2), some (.ref s'), some (.ref cl), some (.ref rl), v4, v5, v6] ∧ Same H H3 ∧ (∀ y, (FF y ∨ y = w2 ∨ y = rl) → H3 y ≠ none) ∧
        H3 w2 = some (.lst ((runB ws A1 (cs.take i)).1.map V.int)) ∧ H3 rl = some (.lst ((runB ws A1 (cs.take i)).2.2.map V.bl)) ∧ StF (fun y => FF y ∨ y = w2 ∨ y = rl) H3 s' (runB ws A1 (cs.take i)).2.1)
      ⟨st, _, _, _, rfl, s2, hF2, gw2, hr2, hst2⟩ (fun i σ H3 _ ⟨_, _, _, _, _, s3, _⟩ => SqL.of (s3 _ _ hcl)) ?_ ?_⟩
    · rintro i y σ H3 hy ⟨s', v4, v5, v6, rfl, s3, hF3, hw3, hr3, hst3⟩
      have hi : i < ps.length := by
        have e := (List.getElem?_eq_some_iff.mp hy).1
        rwa [List.length_map] at e
      rw [at_refs2 hi] at hy
      cases hy
      have hi' : i < cs.length := by omega
      have hcm := s3 _ _ (hcs.2 i hi')
      have et := runB_take (ws := ws) (A := A1) hi'
      obtain ⟨gi, gai, lri⟩ := runB_good gw ga (cs.take i) (by have := List.length_take_le' i cs; rw [List.length_take]; omega) fun c hc => fine c (List.mem_of_mem_take hc)
      rw [List.length_take, Nat.min_eq_left (Nat.le_of_lt hi')] at gai lri
      have fx := fine _ (getD_memC (d := default) hi')
      generalize cs.getD i default = x at hcm et fx
      generalize ps.getD i 0 = cp at hcm
      generalize runB ws A1 (cs.take i) = S at hw3 hr3 hst3 et gi gai lri
      -- the receipt is written
      have fin : ∀ (s5 : Addr) (b5 : Bool) (H4 : Hp) (v6 : Option V), Same H H4 → (∀ y, (FF y ∨ y = w2 ∨ y = rl) → H4 y ≠ none) → H4 w2 = some (.lst ((runB ws A1 (cs.take (i + 1))).1.map V.int)) → H4 rl = some (.lst (S.2.2.map V.bl)) → StF (fun y => FF y ∨ y = w2 ∨ y = rl) H4 s5 (runB ws A1 (cs.take (i + 1))).2.1 → (runB ws A1 (cs.take (i + 1))).2.2 = S.2.2 ++ [b5] →
          ∃ (s' : Addr) (v4 v5' v6' : Option V), [some (V.ref w2), some (.ref s5), some (.ref cl), some (.ref rl), some (.ref cp), some (.bl b5), v6] = [some (V.ref w2), some (.ref s'), some (.ref cl), some (.ref rl), v4, v5', v6'] ∧ Same H (upd H4 rl (.lst (S.2.2.map V.bl ++ [V.bl b5]))) ∧ (∀ y, (FF y ∨ y = w2 ∨ y = rl) → upd H4 rl (.lst (S.2.2.map V.bl ++ [V.bl b5])) y ≠ none) ∧
            upd H4 rl (.lst (S.2.2.map V.bl ++ [V.bl b5])) w2 = some (.lst ((runB ws A1 (cs.take (i + 1))).1.map V.int)) ∧ upd H4 rl (.lst (S.2.2.map V.bl ++ [V.bl b5])) rl = some (.lst ((runB ws A1 (cs.take (i + 1))).2.2.map V.bl)) ∧ StF (fun y => FF y ∨ y = w2 ∨ y = rl) (upd H4 rl (.lst (S.2.2.map V.bl ++ [V.bl b5]))) s' (runB ws A1 (cs.take (i + 1))).2.1 := by
        intro s5 b5 H4 v6 s4 hF4 hw4 hr4 hs4 e5
        refine ⟨s5, _, _, _, rfl, same_upd s4 hrl, fun y g e => ?_, by rw [upd_ne wr]; exact hw4, by rw [upd_same, e5, List.map_append]; rfl, hs4.keep fun b o n e => ?_⟩
        · by_cases q : y = rl
          · rw [q, upd_same] at e; cases e
          · rw [upd_ne q] at e
            exact hF4 y g e
        · by_cases q : b = rl
          · rw [q] at n e
            rw [hr4] at e
            cases e
            exact n.elim (fun n => absurd (.inr (.inr rfl)) n) (fun n => absurd rfl (n _))
          · rw [upd_ne q]
            exact e
      have lr : (S.2.2.map V.bl).length < sizeLine := by rw [List.length_map]; exact small1000 (by omega)
      have hcm' : H3 cp = some (.tup (.str x.ki :: x.ps)) := hcm
      cases x with
      | w m v =>
        have hcm' : H3 cp = some (.tup [.str "w", .int m, .int v]) := hcm
        walk_at "rs"
        refine ⟨cp, _, _, _, rfl, rfl, SqT.of hcm', rfl, ?_⟩
        walk_at "rs"
        refine ⟨cp, _, _, _, rfl, rfl, SqT.of hcm', rfl, ?_⟩
        walk_at "rs"
        refine ⟨w2, _, rfl, .inl (SqL.of hw3), ?_⟩
        rw [List.length_map]
        walk_at "rs"
        obtain ⟨om, ov⟩ := fx
        have e5 : (runB ws A1 (cs.take (i + 1))) = (afterW S.1 m v, S.2.1, S.2.2 ++ [doneW S.1 m v]) := et
        have hw' : (runB ws A1 (cs.take (i + 1))).1 = afterW S.1 m v := by rw [e5]
        have hs' : (runB ws A1 (cs.take (i + 1))).2.1 = S.2.1 := by rw [e5]
        have hr' : (runB ws A1 (cs.take (i + 1))).2.2 = S.2.2 ++ [doneW S.1 m v] := by rw [e5]
        refine ite2 (fun c1 => ?_) (fun c1 => ?_)
        · have c1 : m < S.1.length := of_decide_eq_true c1
          walk_at "rs"
          refine ⟨cp, _, _, _, rfl, rfl, SqT.of hcm', rfl, ?_⟩
          walk_at "rs"
          refine ite2 (fun c2 => ?_) (fun c2 => ?_)
          · have c2 : 1 ≤ v := of_decide_eq_true c2
            walk_at "rs"
            refine ⟨cp, _, _, _, rfl, rfl, SqT.of hcm', rfl, ?_⟩
            walk_at "rs"
            refine ⟨cp, _, _, _, rfl, rfl, SqT.of hcm', rfl, ?_⟩
            walk_at "rs"
            obtain ⟨j, rfl⟩ : ∃ j : Nat, m = (j : Int) := ⟨m.toNat, by have := om.1; omega⟩
            refine ⟨w2, _, _, j, rfl, rfl, hw3, ixN_at (by rw [List.length_map]; omega), ?_⟩
            rw [set_map]
            have hr4 : upd H3 w2 (.lst ((S.1.set j v).map V.int)) rl = some (.lst (S.2.2.map V.bl)) := by rw [upd_ne wr.symm]; exact hr3
            walk_at "rs"
            rw [show doneW S.1 j v = decide (1 ≤ v) from by unfold doneW; simp [c1]] at hr'
            refine ⟨.inl ⟨rfl, _, SqL.of hr4⟩, ?_⟩
            walk_at "rs"
            have hkeep : ∀ b o, ¬ (FF b ∨ b = w2 ∨ b = rl) ∨ NL o → H3 b = some o → upd H3 w2 (.lst ((S.1.set j v).map V.int)) b = some o := fun b o n e => by
              by_cases q : b = w2
              · rw [q] at n e
                rw [hw3] at e
                cases e
                exact n.elim (fun n => absurd (.inr (.inl rfl)) n) (fun n => absurd rfl (n _))
              · rw [upd_ne q]
                exact e
            refine ⟨rl, _, _, rfl, rfl, hr4, lr, fin s' (decide (1 ≤ v)) _ _ (same_upd s3 nw2) (fun y g e => ?_) ?_ hr4 (by rw [hs']; exact hst3.keep fun b o n e => hkeep b o n e) hr'⟩
            · by_cases q : y = w2
              · rw [q, upd_same] at e; cases e
              · rw [upd_ne q] at e
                exact hF3 y g e
            · rw [upd_same, hw']
              unfold afterW
              rw [if_neg (by omega), Int.toNat_natCast]
          · have c2 : ¬ 1 ≤ v := fun e => c2 (decide_eq_true e)
            walk_at "rs"
            rw [show doneW S.1 m v = decide (1 ≤ v) from by unfold doneW; simp [c1]] at hr'
            refine ⟨.inl ⟨rfl, _, SqL.of hr3⟩, ?_⟩
            walk_at "rs"
            exact ⟨rl, _, _, rfl, rfl, hr3, lr, fin s' (decide (1 ≤ v)) _ _ s3 hF3 (by rw [hw']; unfold afterW; rw [if_pos (.inr (by omega))]; exact hw3) hr3 (by rw [hs']; exact hst3) hr'⟩
        · have c1 : ¬ m < S.1.length := fun e => c1 (decide_eq_true e)
          walk_at "rs"
          rw [show doneW S.1 m v = false from decide_eq_false fun e => c1 e.1] at hr'
          refine ⟨.inl ⟨rfl, _, SqL.of hr3⟩, ?_⟩
          walk_at "rs"
          exact ⟨rl, _, _, rfl, rfl, hr3, lr, fin s' false _ _ s3 hF3 (by rw [hw']; unfold afterW; rw [if_pos (.inl (by omega))]; exact hw3) hr3 (by rw [hs']; exact hst3) hr'⟩
      | p x y z =>
        have hcm' : H3 cp = some (.tup [.str "p", .int x, .int y, .int z]) := hcm
        have fin2 : ∀ {B : Ac} {b5 : Bool}, (runB ws A1 (cs.take (i + 1))) = (S.1, B, S.2.2 ++ [b5]) → (runB ws A1 (cs.take (i + 1))).1 = S.1 ∧ (runB ws A1 (cs.take (i + 1))).2.1 = B ∧ (runB ws A1 (cs.take (i + 1))).2.2 = S.2.2 ++ [b5] := fun e => by rw [e]; exact ⟨rfl, rfl, rfl⟩
        walk_at "rs"
        refine ⟨cp, _, _, _, rfl, rfl, SqT.of hcm', rfl, ?_⟩
        walk_at "rs"
        refine ⟨_, s', cp, S.2.1, .p x y z, n, m + 200 * i, rfl, hF3, hst3, hcm, fx, gai, by omega, fun e q H4 s4 hq => ?_, fun q r H4 B e s4 hst4 hq => ?_⟩
        · obtain ⟨a1, a2, a3⟩ := fin2 (et.trans (stepB_none e fun _ _ e => nomatch e))
          walk_at "rs"
          refine ⟨q, _, _, _, rfl, rfl, SqT.of hq, rfl, ?_⟩
          walk_at "rs"
          refine ⟨q, _, _, _, rfl, rfl, SqT.of hq, rfl, ?_⟩
          have hr4 := s4 _ _ hr3
          walk_at "rs"
          refine ⟨.inl ⟨rfl, _, SqL.of hr4⟩, ?_⟩
          walk_at "rs"
          exact ⟨rl, _, _, rfl, rfl, hr4, lr, fin s' false H4 _ (s3.trans s4) (fun y g e => by
            cases q : H3 y with
            | none => exact hF3 y g q
            | some o => rw [s4 _ _ q] at e; cases e) (by rw [a1]; exact s4 _ _ hw3) hr4 (by rw [a2]; exact hst3.same s4) a3⟩
        · obtain ⟨a1, a2, a3⟩ := fin2 (et.trans (stepB_some e))
          walk_at "rs"
          refine ⟨q, _, _, _, rfl, rfl, SqT.of hq, rfl, ?_⟩
          walk_at "rs"
          refine ⟨q, _, _, _, rfl, rfl, SqT.of hq, rfl, ?_⟩
          have hr4 := s4 _ _ hr3
          walk_at "rs"
          refine ⟨.inl ⟨rfl, _, SqL.of hr4⟩, ?_⟩
          walk_at "rs"
          exact ⟨rl, _, _, rfl, rfl, hr4, lr, fin r true H4 _ (s3.trans s4) (fun y g e => by
            cases q : H3 y with
            | none => exact hF3 y g q
            | some o => rw [s4 _ _ q] at e; cases e) (by rw [a1]; exact s4 _ _ hw3) hr4 (by rw [a2]; exact hst4) a3⟩
      | k x y z =>
        have hcm' : H3 cp = some (.tup [.str "k", .int x, .int y, .int z]) := hcm
        have fin2 : ∀ {B : Ac} {b5 : Bool}, (runB ws A1 (cs.take (i + 1))) = (S.1, B, S.2.2 ++ [b5]) → (runB ws A1 (cs.take (i + 1))).1 = S.1 ∧ (runB ws A1 (cs.take (i + 1))).2.1 = B ∧ (runB ws A1 (cs.take (i + 1))).2.2 = S.2.2 ++ [b5] := fun e => by rw [e]; exact ⟨rfl, rfl, rfl⟩
        walk_at "rs"
        refine ⟨cp, _, _, _, rfl, rfl, SqT.of hcm', rfl, ?_⟩
        walk_at "rs"
        refine ⟨_, s', cp, S.2.1, .k x y z, n, m + 200 * i, rfl, hF3, hst3, hcm, fx, gai, by omega, fun e q H4 s4 hq => ?_, fun q r H4 B e s4 hst4 hq => ?_⟩
        · obtain ⟨a1, a2, a3⟩ := fin2 (et.trans (stepB_none e fun _ _ e => nomatch e))
          walk_at "rs"
          refine ⟨q, _, _, _, rfl, rfl, SqT.of hq, rfl, ?_⟩
          walk_at "rs"
          refine ⟨q, _, _, _, rfl, rfl, SqT.of hq, rfl, ?_⟩
          have hr4 := s4 _ _ hr3
          walk_at "rs"
          refine ⟨.inl ⟨rfl, _, SqL.of hr4⟩, ?_⟩
          walk_at "rs"
          exact ⟨rl, _, _, rfl, rfl, hr4, lr, fin s' false H4 _ (s3.trans s4) (fun y g e => by
            cases q : H3 y with
            | none => exact hF3 y g q
            | some o => rw [s4 _ _ q] at e; cases e) (by rw [a1]; exact s4 _ _ hw3) hr4 (by rw [a2]; exact hst3.same s4) a3⟩
        · obtain ⟨a1, a2, a3⟩ := fin2 (et.trans (stepB_some e))
          walk_at "rs"
          refine ⟨q, _, _, _, rfl, rfl, SqT.of hq, rfl, ?_⟩
          walk_at "rs"
          refine ⟨q, _, _, _, rfl, rfl, SqT.of hq, rfl, ?_⟩
          have hr4 := s4 _ _ hr3
          walk_at "rs"
          refine ⟨.inl ⟨rfl, _, SqL.of hr4⟩, ?_⟩
          walk_at "rs"
          exact ⟨rl, _, _, rfl, rfl, hr4, lr, fin r true H4 _ (s3.trans s4) (fun y g e => by
            cases q : H3 y with
            | none => exact hF3 y g q
            | some o => rw [s4 _ _ q] at e; cases e) (by rw [a1]; exact s4 _ _ hw3) hr4 (by rw [a2]; exact hst4) a3⟩
      | d x z =>
        have hcm' : H3 cp = some (.tup [.str "d", .int x, .str z]) := hcm
        have fin2 : ∀ {B : Ac} {b5 : Bool}, (runB ws A1 (cs.take (i + 1))) = (S.1, B, S.2.2 ++ [b5]) → (runB ws A1 (cs.take (i + 1))).1 = S.1 ∧ (runB ws A1 (cs.take (i + 1))).2.1 = B ∧ (runB ws A1 (cs.take (i + 1))).2.2 = S.2.2 ++ [b5] := fun e => by rw [e]; exact ⟨rfl, rfl, rfl⟩
        walk_at "rs"
        refine ⟨cp, _, _, _, rfl, rfl, SqT.of hcm', rfl, ?_⟩
        walk_at "rs"
        refine ⟨_, s', cp, S.2.1, .d x z, n, m + 200 * i, rfl, hF3, hst3, hcm, fx, gai, by omega, fun e q H4 s4 hq => ?_, fun q r H4 B e s4 hst4 hq => ?_⟩
        · obtain ⟨a1, a2, a3⟩ := fin2 (et.trans (stepB_none e fun _ _ e => nomatch e))
          walk_at "rs"
          refine ⟨q, _, _, _, rfl, rfl, SqT.of hq, rfl, ?_⟩
          walk_at "rs"
          refine ⟨q, _, _, _, rfl, rfl, SqT.of hq, rfl, ?_⟩
          have hr4 := s4 _ _ hr3
          walk_at "rs"
          refine ⟨.inl ⟨rfl, _, SqL.of hr4⟩, ?_⟩
          walk_at "rs"
          exact ⟨rl, _, _, rfl, rfl, hr4, lr, fin s' false H4 _ (s3.trans s4) (fun y g e => by
            cases q : H3 y with
            | none => exact hF3 y g q
            | some o => rw [s4 _ _ q] at e; cases e) (by rw [a1]; exact s4 _ _ hw3) hr4 (by rw [a2]; exact hst3.same s4) a3⟩
        · obtain ⟨a1, a2, a3⟩ := fin2 (et.trans (stepB_some e))
          walk_at "rs"
          refine ⟨q, _, _, _, rfl, rfl, SqT.of hq, rfl, ?_⟩
          walk_at "rs"
          refine ⟨q, _, _, _, rfl, rfl, SqT.of hq, rfl, ?_⟩
          have hr4 := s4 _ _ hr3
          walk_at "rs"
          refine ⟨.inl ⟨rfl, _, SqL.of hr4⟩, ?_⟩
          walk_at "rs"
          exact ⟨rl, _, _, rfl, rfl, hr4, lr, fin r true H4 _ (s3.trans s4) (fun y g e => by
            cases q : H3 y with
            | none => exact hF3 y g q
            | some o => rw [s4 _ _ q] at e; cases e) (by rw [a1]; exact s4 _ _ hw3) hr4 (by rw [a2]; exact hst4) a3⟩
    · rintro σ H3 ⟨s', v4, v5, v6, rfl, s3, hF3, hw3, hr3, hst3⟩
      rw [List.take_of_length_le (by rw [List.length_map]; omega)] at hw3 hr3 hst3
      walk_at "rs"
      refine ⟨rl, _, rfl, .inl ⟨SqL.of hr3, fun t ht => ?_⟩⟩
      walk_at "rs"
      have s4 := same_new (o := .tup ((runB ws A1 cs).2.2.map V.bl)) ht
      have gt : upd H3 t (.tup ((runB ws A1 cs).2.2.map V.bl)) t = some (.tup ((runB ws A1 cs).2.2.map V.bl)) := upd_same
      generalize upd H3 t (.tup ((runB ws A1 cs).2.2.map V.bl)) = H4 at s4 gt ⊢
      refine ⟨(by show 3 ≤ sizeLine; decide), fun q hq => ?_⟩
      have s5 := same_new (o := .tup [.ref w2, .ref s', .ref t]) hq
      have s45 := s4.trans s5
      exact k q w2 s' t _ (s3.trans s45) upd_same nw2 (s45 _ _ hw3) ((hst3.weak (G := FF) fun _ _ _ g => .inl g).same s45) (s5 _ _ gt)

theorem dp_strs {K : PySem.W.Frag} {H : Hp} : ∀ xs : List Str, DpAll K H (xs.map V.str) (xs.map PyData.str)
  | [] => .nil
  | x :: xs => .cons (.str x) (dp_strs xs)
theorem lay_strs : ∀ {xs : List Str}, (∀ x ∈ xs, PyData.strOk x = true) → PyData.canLayAll0 (xs.map PyData.str) = true
  | [], _ => by simp [PyData.canLayAll0]
  | x :: xs, o => by
    simp only [List.map_cons, PyData.canLayAll0, PyData.canLay0, o x List.mem_cons_self, lay_strs fun y hy => o y (List.mem_cons_of_mem _ hy)]
    rfl
theorem depth_strs : ∀ xs : List Str, PyData.depthAll (xs.map PyData.str) = 0
  | [] => by simp [PyData.depthAll]
  | x :: xs => by
    have := depth_strs xs
    simp only [List.map_cons, PyData.depthAll, PyData.depth, this]
    rfl
theorem shaped_strs {xs : List Str} (o : ∀ x ∈ xs, PyData.strOk x = true) : SeqAt.shaped (.list (xs.map PyData.str)) = true := by
  unfold SeqAt.shaped
  have e : PyData.depth (.list (xs.map PyData.str)) = PyData.depthAll (xs.map PyData.str) + 1 := by simp only [PyData.depth]
  have l : PyData.canLay0 (.list (xs.map PyData.str)) = true := by simp only [PyData.canLay0, lay_strs o]
  rw [l, e, depth_strs]
  rfl

theorem eqv_strs {xs : List Str} (o : ∀ x ∈ xs, PyData.strOk x = true) : PyData.eqv (.list (xs.map PyData.str)) (.list (xs.map PyData.str)) = true := SeqAt.eqv_refl _ (by
  simp only [PyData.canLay0, lay_strs o])

theorem cmdsOf_b {z : Str} {c : Nat} {r : List Nat} (e : TL.tl z = c :: r) (h : c = 98) : cmdsOf z = [] := by
  unfold cmdsOf
  rw [TL.len_tl, e, List.length_cons, cmdsP, cmdP]
  have : kdOf c = none := by rw [h]; rfl
  rw [this]
  rfl
/-- where a row of the law stands -/
structure Rw where
  p : Addr
  w : Addr
  s : Addr
  t : Addr
instance : Inhabited Rw := ⟨⟨0, 0, 0, 0⟩⟩
def RwAt (F : Addr → Prop) (H : Hp) (r : Rw) (ws : List Int) (A : Ac) (bs : List Bool) : Prop := H r.p = some (.tup [.ref r.w, .ref r.s, .ref r.t]) ∧ H r.w = some (.lst (ws.map V.int)) ∧ ¬ F r.w ∧ StF F H r.s A ∧ H r.t = some (.tup (bs.map V.bl))
theorem RwAt.keep {F : Addr → Prop} {H H' : Hp} {r : Rw} {ws : List Int} {A : Ac} {bs : List Bool} (h : RwAt F H r ws A bs) (k : ∀ b o, ¬ F b ∨ NL o → H b = some o → H' b = some o) : RwAt F H' r ws A bs :=
  ⟨k _ _ (.inr fun _ e => nomatch e) h.1, k _ _ (.inl h.2.2.1) h.2.1, h.2.2.1, h.2.2.2.1.keep k, k _ _ (.inr fun _ e => nomatch e) h.2.2.2.2⟩
theorem RwAt.weak {F G : Addr → Prop} {H : Hp} {r : Rw} {ws : List Int} {A : Ac} {bs : List Bool} (h : RwAt F H r ws A bs) (k : ∀ b xs, H b = some (.lst xs) → G b → F b) : RwAt G H r ws A bs :=
  ⟨h.1, h.2.1, fun e => h.2.2.1 (k _ _ h.2.1 e), h.2.2.2.1.weak k, h.2.2.2.2⟩
theorem RwAt.same {F : Addr → Prop} {H H' : Hp} {r : Rw} {ws : List Int} {A : Ac} {bs : List Bool} (h : RwAt F H r ws A bs) (s : Same H H') : RwAt F H' r ws A bs := h.keep fun b o _ e => s b o e
theorem cp_app {x y : Str} (hx : ∀ n ∈ TL.tl x, n < 1114112) (hy : ∀ n ∈ TL.tl y, n < 1114112) : ∀ n ∈ TL.tl (x ++ y), n < 1114112 := fun n hn => by
  rw [TL.tl_append, List.mem_append] at hn
  exact hn.elim (hx n) (hy n)
theorem cp_nu {i : Int} (h : NOk i) : ∀ n ∈ TL.tl (nu i), n < 1114112 := fun c hc => by
  rw [nu_tl h] at hc
  have := TL.numL_digits _ c hc
  omega
theorem cp_txt {c : Cm} (h : c.right) : ∀ n ∈ TL.tl c.txt, n < 1114112 := by
  have l : ∀ z ∈ (["p", "q", "r", "w", "x", "k", "b", "v", "d", "z"] : List Str), ∀ n ∈ TL.tl z, n < 1114112 := by decide +kernel
  cases c with
  | p x y z => exact cp_app (cp_app (cp_app (cp_app (cp_app (l _ (by decide)) (cp_nu h.1)) (l _ (by decide))) (cp_nu h.2.1)) (l _ (by decide))) (cp_nu h.2.2)
  | w x y => exact cp_app (cp_app (cp_app (l _ (by decide)) (cp_nu h.1)) (l _ (by decide))) (cp_nu h.2)
  | k x y z => exact cp_app (cp_app (cp_app (cp_app (cp_app (l _ (by decide)) (cp_nu h.1)) (l _ (by decide))) (cp_nu h.2.1)) (l _ (by decide))) (cp_nu h.2.2)
  | d x z => exact cp_app (cp_app (cp_app (cp_app (l _ (by decide)) (cp_nu h.1)) (l _ (by decide))) fun n hn => by
      have := h.2 n hn
      have hl : ∀ m ∈ TL.tl "0123456789ginasmtcehlujfyo", m < 1114112 := by decide +kernel
      exact hl n this) (l _ (by decide))
theorem cp_cat {xs : List Cm} (h : ∀ x ∈ xs, x.right) : PyData.strOk (cat xs) = true := strOk_cps fun n hn => by
  rw [tl_cat] at hn
  obtain ⟨l, hl, hn⟩ := List.mem_flatten.mp hn
  obtain ⟨x, hx, rfl⟩ := List.mem_map.mp hl
  exact cp_txt (h x hx) n hn
theorem at_cells {cs : List Int} {i : Int} (h0 : 0 ≤ i) (h1 : i < cs.length) : atI (cs.map V.int) i = some (.int (cs.getD i.toNat 0)) := by
  obtain ⟨j, rfl⟩ : ∃ j : Nat, i = (j : Int) := ⟨i.toNat, by omega⟩
  have hj : j < cs.length := by omega
  refine atI_nat ?_
  rw [List.getElem?_map, List.getElem?_eq_getElem hj, Int.toNat_natCast, List.getD_eq_getElem?_getD, List.getElem?_eq_getElem hj]
  rfl
theorem cut_takeI (xs : List V) {n : Int} (h : 0 ≤ n) : cutV xs none (some n) = xs.take n.toNat := by
  obtain ⟨j, rfl⟩ : ∃ j : Nat, n = (j : Int) := ⟨n.toNat, by omega⟩
  unfold cutV
  rw [HT.sIx_nat, HT.sIx_none, Nat.sub_zero, List.drop_zero, Int.toNat_natCast]
  rcases Nat.le_total j xs.length with z | z
  · rw [Nat.min_eq_left z]
  · rw [Nat.min_eq_right z, List.take_of_length_le (Nat.le_refl _), List.take_of_length_le z]
theorem cms_take {H : Hp} {ps : List Addr} {cs : List Cm} (h : CmsAt H ps cs) (n : Nat) : CmsAt H (ps.take n) (cs.take n) :=
  ⟨by rw [List.length_take, List.length_take, h.1], fun i hi => by
    rw [List.length_take] at hi
    have e1 : (ps.take n).getD i 0 = ps.getD i 0 := by rw [List.getD_eq_getElem?_getD, List.getD_eq_getElem?_getD, List.getElem?_take_of_lt (by omega)]
    have e2 : (cs.take n).getD i default = cs.getD i default := by rw [List.getD_eq_getElem?_getD, List.getD_eq_getElem?_getD, List.getElem?_take_of_lt (by omega)]
    rw [e1, e2]
    exact h.2 i (by omega)⟩
theorem cms_snoc {H : Hp} {ps : List Addr} {cs : List Cm} {p : Addr} {c : Cm} (h : CmsAt H ps cs) (g : CmAt H p c) : CmsAt H (ps ++ [p]) (cs ++ [c]) :=
  ⟨by rw [List.length_append, List.length_append, h.1]; rfl, fun i hi => by
    rw [List.length_append, List.length_singleton] at hi
    rcases Nat.lt_or_ge i cs.length with z | z
    · rw [getD_app (by rw [h.1]; exact z), getD_app z]
      exact h.2 i z
    · have e : i = cs.length := by omega
      rw [e, getD_end]
      conv => enter [2]; rw [← h.1, getD_end]
      exact g⟩
theorem CmsAt.off {H : Hp} {ps : List Addr} {cs : List Cm} {D : Addr} {xs : List V} {o : HO} (h : CmsAt H ps cs) (hD : H D = some (.lst xs)) : CmsAt (upd H D o) ps cs :=
  ⟨h.1, fun i hi => by
    have e : H (ps.getD i 0) = _ := h.2 i hi
    show upd _ _ _ _ = _
    rw [upd_ne (fun q => by rw [q, hD] at e; cases e)]
    exact e⟩
/-- lists that may change: the chain's -/
def FC (q : CnP) : Addr → Prop := fun y => y = q.B ∨ y = q.R ∨ y = q.D ∨ y = q.L
theorem ButC.off {C1 C2 C3 : Addr} {n m : Nat} {H H' : Hp} {p : Addr} {q : CnP} {v : CnV} (k : ButC q H H') (c : CnAt C1 C2 C3 n m H p q v) {F : Addr → Prop} (hF : ∀ y, FC q y → F y) : ∀ b o, ¬ F b ∨ NL o → H b = some o → H' b = some o := fun b o n e => by
  rcases n with n | n
  · exact k b o (fun e => n (hF _ (.inl e))) (fun e => n (hF _ (.inr (.inl e)))) (fun e => n (hF _ (.inr (.inr (.inl e))))) (fun e => n (hF _ (.inr (.inr (.inr e))))) e
  · exact k.nl c e n
theorem CnAt.keep {C1 C2 C3 : Addr} {n k : Nat} {H H' : Hp} {p : Addr} {q : CnP} {v : CnV} (c : CnAt C1 C2 C3 n k H p q v) {G : Addr → Prop} (s : ∀ b o, ¬ G b ∨ NL o → H b = some o → H' b = some o) (ng : ∀ y, FC q y → ¬ G y) : CnAt C1 C2 C3 n k H' p q v :=
  { c with
    ins := c.ins.elim fun d h => ⟨d, s _ _ (.inr fun _ e => nomatch e) h⟩
    hB := s _ _ (.inl (ng _ (.inl rfl))) c.hB
    hR := s _ _ (.inl (ng _ (.inr (.inl rfl)))) c.hR
    hD := s _ _ (.inl (ng _ (.inr (.inr (.inl rfl))))) c.hD
    hL := s _ _ (.inl (ng _ (.inr (.inr (.inr rfl))))) c.hL
    cm := fun i hi => by
      obtain ⟨⟨d, t, h1, h2⟩, g⟩ := c.cm i hi
      exact ⟨⟨d, t, s _ _ (.inr fun _ e => nomatch e) h1, s _ _ (.inr fun _ e => nomatch e) h2⟩, g⟩
    ld := fun i hi => by
      obtain ⟨⟨dd, b1, c1, s1, ts, e1, e2, e3, e4, e5⟩, g⟩ := c.ld i hi
      have ot : ∀ {b : Addr} {xs : List V}, H b = some (.tup xs) → H' b = some (.tup xs) := fun e => s _ _ (.inr fun _ e => nomatch e) e
      refine ⟨⟨dd, b1, c1, s1, ts, s _ _ (.inr fun _ e => nomatch e) e1, ot e2, ot e3, ot e4, imp_paired e5 fun a b z => ?_⟩, g⟩
      obtain ⟨o, us, z1, z2, z3⟩ := z
      exact ⟨o, us, s _ _ (.inr fun _ e => nomatch e) z1, z2, imp_paired z3 fun _ _ e => ot e⟩
    rc := fun i hi => s _ _ (.inr fun _ e => nomatch e) (c.rc i hi) }
theorem map_lastR {rs : List Rw} {n : Nat} (h : rs.length = n + 1) : atI (rs.map fun r => V.ref r.p) (-1) = some (V.ref (rs.getD n default).p) := by
  rw [at_last (d := .non) (n := n) (by rw [List.length_map]; exact h), List.getD_eq_getElem?_getD, List.getD_eq_getElem?_getD, List.getElem?_map, List.getElem?_eq_getElem (by omega)]
  rfl
theorem at_refsG {ps : List Addr} {i : Int} (h0 : 0 ≤ i) (h1 : i < ps.length) : atI (ps.map V.ref) i = some (.ref (ps.getD i.toNat 0)) := by
  obtain ⟨j, rfl⟩ : ∃ j : Nat, i = (j : Int) := ⟨i.toNat, by omega⟩
  have hj : j < ps.length := by omega
  refine atI_nat ?_
  rw [List.getElem?_map, List.getElem?_eq_getElem hj, Int.toNat_natCast, List.getD_eq_getElem?_getD, List.getElem?_eq_getElem hj]
  rfl
theorem at_rowsG {rs : List Rw} {i : Int} (h0 : 0 ≤ i) (h1 : i < rs.length) : atI (rs.map fun r => V.ref r.p) i = some (.ref (rs.getD i.toNat default).p) := by
  obtain ⟨j, rfl⟩ : ∃ j : Nat, i = (j : Int) := ⟨i.toNat, by omega⟩
  have hj : j < rs.length := by omega
  refine atI_nat ?_
  rw [List.getElem?_map, List.getElem?_eq_getElem hj, Int.toNat_natCast, List.getD_eq_getElem?_getD, List.getElem?_eq_getElem hj]
  rfl
theorem dp_bls {K : PySem.W.Frag} {H : Hp} : ∀ xs : List Bool, DpAll K H (xs.map V.bl) (xs.map PyData.bool)
  | [] => .nil
  | x :: xs => .cons (.bl x) (dp_bls xs)
theorem shaped_bls (xs : List Bool) : SeqAt.shaped (.tuple (xs.map PyData.bool)) = true :=
  shaped_of (lay_tup fun x _ => rfl) (Nat.le_trans (deep_tup (d := 0) fun x _ => by simp [PyData.depth]) (by decide))
theorem eqv_bls (xs ys : List Bool) : PyData.eqv (.tuple (xs.map PyData.bool)) (.tuple (ys.map PyData.bool)) = decide (xs = ys) := eqv_tupA (fun x y => by
  simp only [PyData.eqv]
  exact beq_dec x y) xs ys
theorem no_false {n : Nat} : inV (V.bl false) ((List.replicate n true).map V.bl) = false := by
  unfold inV
  rw [List.any_eq_false]
  intro x hx
  obtain ⟨y, hy, rfl⟩ := List.mem_map.mp hx
  rw [List.eq_of_mem_replicate hy]
  decide
/-- the receipts behind each height -/
def Bs (v : CnV) (j : Nat) : List Bool := ([] :: v.bs).getD j []
theorem off_upd {G : Addr → Prop} {H : Hp} {D : Addr} {xs : List V} {o2 : HO} (g : G D) (hD : H D = some (.lst xs)) : ∀ b o, ¬ G b ∨ NL o → H b = some o → upd H D o2 b = some o := fun b o n e => by
  have nb : b ≠ D := fun q => by
    rw [q] at n e
    rw [hD] at e
    cases e
    exact n.elim (fun n => n g) (fun n => n _ rfl)
  rw [upd_ne nb]
  exact e
theorem ok_law {f : Addr} {fd : FuncData} (F : Fun K "law" "law" s_law f fd) (TE : TxtE w K mg a) (T : Txt K mg a) : FnOk P w K mg base CX0 10 f fd ["script"] (spLaw K) := by
  obtain ⟨fd_law_weights, G_law_weights, b_law_weights⟩ := ok_law_weights (P := P) (w := w) (base := base) T
  obtain ⟨fd_Chain_init, G_Chain_init, b_Chain_init⟩ := ok_Chain_init (P := P) (w := w) (base := base) T
  obtain ⟨fd_law_cell, G_law_cell, b_law_cell⟩ := ok_law_cell (P := P) (w := w) (base := base) T
  obtain ⟨fd_law_fitting, G_law_fitting, b_law_fitting⟩ := ok_law_fitting (P := P) (w := w) (base := base) T
  obtain ⟨fd_Chain_extend, G_Chain_extend, b_Chain_extend⟩ := ok_Chain_extend (P := P) (w := w) (base := base) TE T
  obtain ⟨fd_law_row, G_law_row, b_law_row⟩ := ok_law_row (P := P) (w := w) (base := base) T
  obtain ⟨fd_law_command, G_law_command, b_law_command⟩ := ok_law_command (P := P) (w := w) (base := base) T
  obtain ⟨fd_law_block, G_law_block, b_law_block⟩ := ok_law_block (P := P) (w := w) (base := base) T
  obtain ⟨fd_law_is_integer, G_law_is_integer, b_law_is_integer⟩ := ok_law_is_integer (P := P) (w := w) (base := base) T
  obtain ⟨fd_Chain_height, G_Chain_height, b_Chain_height⟩ := ok_Chain_height (P := P) (w := w) (base := base) T
  obtain ⟨fd_Chain_committee, G_Chain_committee, b_Chain_committee⟩ := ok_Chain_committee (P := P) (w := w) (base := base) T
  obtain ⟨fd_law_shows, G_law_shows, b_law_shows⟩ := ok_law_shows (P := P) (w := w) (base := base) T
  refine F.ok sc_law (fun vs H Q E h => ?_) (fun cdv A outer s H vs Q E hr h => ?_)
  · obtain ⟨_, _, rfl, _⟩ := h
    rfl
  · obtain ⟨l, ns, rfl, hS, hl, k⟩ := h
    have k : ∀ H', Q (.bl true) H' := k
    refine ⟨_, (pss_cons (ps_set (i := 1) sc_law.nd rfl (Or.inl rfl) (pe_call G_law_weights (hr.mono (by decide)) rfl T.d_law_weights.g T.d_law_weights.kp b_law_weights .nil pass0 (pa_cons (pe_call G_law_cell (hr.mono (by decide)) rfl T.d_law_cell.g T.d_law_cell.kp b_law_cell .nil pass0 (pa_cons (pv 0) (pa_cons pe_int pa_nil))) (pa_cons pe_int pa_nil))))
      (pss_cons (ps_setLc (i := 2) (own := [("value", 12)]) (g := (gName 12)) (tt := tYes) rfl sc_law.nd rfl rfl (sw_true rfl rfl rfl (by decide +kernel)) (pi_list (pe_call G_law_row (hr.mono (by decide)) rfl T.d_law_row.g T.d_law_row.kp b_law_row .nil pass0 (pa_cons (pe_call G_law_cell (hr.mono (by decide)) rfl T.d_law_cell.g T.d_law_cell.kp b_law_cell .nil pass0 (pa_cons (pv 0) (pa_cons pe_int pa_nil))) (pa_cons (pe_op op_mod (pe_callTy call_int1 (by rfl) T.n_int (by decide +kernel) (pa_cons (pe_call G_law_cell (hr.mono (by decide)) rfl T.d_law_cell.g T.d_law_cell.kp b_law_cell .nil pass0 (pa_cons (pv 0) (pa_cons pe_int pa_nil))) pa_nil)) pe_int) (pa_cons pe_int pa_nil))))) (blkOk_by (own := [("value", 12)]) (N := sc_law_N) (sc := defScope s_law) (by decide +kernel)) (fun _ _ _ _ _ => (pg_name (i := 12) sc_law.nd rfl (Or.inl rfl))) (fun _ _ _ _ _ => pts_nil) (fun _ _ _ _ _ => (pe_op op_mul (pv 12) (pv 12))))
      (pss_cons (ps_set (i := 3) sc_law.nd rfl (Or.inl rfl) (pe_make T.m_Chain G_Chain_init (hr.mono (by decide)) (by rfl) T.g_Chain b_Chain_init .nil pass0 (pa_cons (pe_callTy call_list_of (by rfl) T.n_list (by decide +kernel) (pa_cons (pv 1) pa_nil)) (pa_cons (pe_callTy call_list_of (by rfl) T.n_list (by decide +kernel) (pa_cons (pv 2) pa_nil)) pa_nil))))
      (pss_cons (ps_set (i := 4) sc_law.nd rfl (Or.inl rfl) (pe_lst (pa_cons (pe_tup (pa_cons (pv 1) (pa_cons (pe_tup (pa_cons (pe_callTy call_list_of (by rfl) T.n_list (by decide +kernel) (pa_cons (pv 2) pa_nil)) (pa_cons (pe_lc (own := [("grant", 13)]) (g := (gName 13)) (tt := tYes) rfl sc_law.nd (pi_list (pv 2)) (blkOk_by (own := [("grant", 13)]) (N := sc_law_N) (sc := defScope s_law) (by decide +kernel)) (fun _ _ _ _ _ => (pg_name (i := 13) sc_law.nd rfl (Or.inl rfl))) (fun _ _ _ _ _ => pts_nil) (fun _ _ _ _ _ => pe_str)) (pa_cons (pe_lc (own := [("grant", 13)]) (g := (gName 13)) (tt := tYes) rfl sc_law.nd (pi_list (pv 2)) (blkOk_by (own := [("grant", 13)]) (N := sc_law_N) (sc := defScope s_law) (by decide +kernel)) (fun _ _ _ _ _ => (pg_name (i := 13) sc_law.nd rfl (Or.inl rfl))) (fun _ _ _ _ _ => pts_nil) (fun _ _ _ _ _ => pe_dnewK)) pa_nil)))) (pa_cons (pe_tup pa_nil) pa_nil)))) pa_nil)))
      (pss_cons (ps_set (i := 5) sc_law.nd rfl (Or.inl rfl) (pe_lst pa_nil))
      (pss_cons (ps_for PassesOwn.never rfl (pi_range1 rfl T.n_range (pa_cons (pe_op op_fdiv (pe_op op_add (pe_callB call_len_seq (by rfl) T.n_len PySem.boot_len (pa_cons (pv 0) pa_nil)) pe_int) pe_int) pa_nil)) (pg_name (i := 6) sc_law.nd rfl (Or.inr rfl))
      (pss_cons (ps_set (i := 7) sc_law.nd rfl (Or.inr rfl) (pe_lc (own := [("at", 14)]) (g := (gName 14)) (tt := tYes) rfl sc_law.nd (pi_range1 rfl T.n_range (pa_cons pe_int pa_nil)) (blkOk_by (own := [("at", 14)]) (N := sc_law_N) (sc := defScope s_law) (by decide +kernel)) (fun _ _ _ _ _ => (pg_name (i := 14) sc_law.nd rfl (Or.inl rfl))) (fun _ _ _ _ _ => pts_nil) (fun _ _ _ _ _ => (pe_callB call_abs (by rfl) T.n_abs (by decide +kernel) (pa_cons (pe_call G_law_cell (hr.mono (by decide)) rfl T.d_law_cell.g T.d_law_cell.kp b_law_cell .nil pass0 (pa_cons (pv 0) (pa_cons (pe_op op_add (pe_op op_mul pe_int (pv 6)) (pv 14)) pa_nil))) pa_nil)))))
        (pss_cons (ps_setLc (i := 8) (own := [("at", 14)]) (g := (gName 14)) (tt := tYes) rfl sc_law.nd rfl rfl (sw_true rfl rfl rfl (by decide +kernel)) (pi_range1 rfl T.n_range (pa_cons pe_int pa_nil)) (blkOk_by (own := [("at", 14)]) (N := sc_law_N) (sc := defScope s_law) (by decide +kernel)) (fun _ _ _ _ _ => (pg_name (i := 14) sc_law.nd rfl (Or.inl rfl))) (fun _ _ _ _ _ => pts_nil) (fun _ _ _ _ _ => (pe_call G_law_command (hr.mono (by decide)) rfl T.d_law_command.g T.d_law_command.kp b_law_command .nil pass0 (pa_cons (pe_ix (r := rIxL K) ix_list (pv 7) (pv 14) (fun _ _ => rfl)) (pa_cons (pe_ix (r := rIxL K) ix_list (pv 7) (pe_op op_mod (pe_callTy call_int1 (by rfl) T.n_int (by decide +kernel) (pa_cons (pe_op op_add (pv 14) pe_int) pa_nil)) pe_int) (fun _ _ => rfl)) pa_nil)))))
        (pss_cons (ps_set (i := 9) sc_law.nd rfl (Or.inl rfl) (pe_call G_law_fitting (hr.mono (by decide)) rfl T.d_law_fitting.g T.d_law_fitting.kp b_law_fitting .nil pass0 (pa_cons (pe_slice sl_list (pv 8) po_none (po_some (pe_op op_mod (pe_op op_fdiv (pe_ix ix_list (pv 7) pe_int (fun _ _ => rfl)) pe_int) pe_int))) pa_nil)))
        (pss_cons (ps_set (i := 10) sc_law.nd rfl (Or.inl rfl) (pe_ix ix_tup (pv 9) pe_int (fun _ _ => rfl)))
        (pss_cons (ps_set (i := 11) sc_law.nd rfl (Or.inl rfl) (pe_ix ix_tup (pv 9) pe_int (fun _ _ => rfl)))
        (C8.pss_cut (ps_if (PW.pt (pw_or (pt_cmpR op_eq (pv 10) pe_str (nomark _)) (pw_or1 (pt_cmpR op_eq (pe_op op_mod (pe_callTy call_int1 (by rfl) T.n_int (by decide +kernel) (pa_cons (pe_ix ix_list (pv 7) pe_int (fun _ _ => rfl)) pa_nil)) pe_int) pe_int (nomark _)))))
        (pss_cons (ps_set (i := 10) sc_law.nd rfl (Or.inl rfl) (pe_op op_add_str (pe_op op_add_str (pe_op op_add_str pe_str (pe_callTy call_str_int (by rfl) T.n_str (by decide +kernel) (pa_cons (pv 6) pa_nil))) pe_str) (pe_callTy call_str_int (by rfl) T.n_str (by decide +kernel) (pa_cons (pe_op op_mod (pe_callTy call_int1 (by rfl) T.n_int (by decide +kernel) (pa_cons (pe_ix ix_list (pv 7) pe_int (fun _ _ => rfl)) pa_nil)) pe_int) pa_nil))))
          (pss_one (ps_set (i := 11) sc_law.nd rfl (Or.inl rfl) (pe_lst pa_nil))))
        pss_nil)
        (pss_cons (ps_expr (pe_meth (pv 3) T.cl_Chain T.me_Chain_extend G_Chain_extend (hr.mono (by decide)) b_Chain_extend .nil pass0 (pa_cons (pv 10) pa_nil)))
        (pss_cons (ps_expr (pe_bm PySem.F.plainAttrs_list PySem.F.slot_list_append PySem.F.type_list_append mt_append (pv 5) (pa_cons (pv 10) pa_nil)))
        (pss_one (ps_expr (pe_bm PySem.F.plainAttrs_list PySem.F.slot_list_append PySem.F.type_list_append mt_append (pv 4) (pa_cons (pe_call G_law_block (hr.mono (by decide)) rfl T.d_law_block.g T.d_law_block.kp b_law_block .nil pass0 (pa_cons (pe_ix ix_tup (pe_ix ix_list (pv 4) (pe_un un_neg pe_int) (fun _ _ => rfl)) pe_int (fun _ _ => rfl)) (pa_cons (pe_ix ix_tup (pe_ix ix_list (pv 4) (pe_un un_neg pe_int) (fun _ _ => rfl)) pe_int (fun _ _ => rfl)) (pa_cons (pv 11) pa_nil)))) pa_nil)))))))))))))
      (pss_cons (ps_if (PW.pt (pw_or (pt_cmpR (op_neD hr.units) (pe_fld (pv 3) rfl) (pv 5) (nomark _)) (pw_or (pt_not (pt_val (pe_call G_law_is_integer (hr.mono (by decide)) rfl T.d_law_is_integer.g T.d_law_is_integer.kp b_law_is_integer .nil pass0 (pa_cons (pe_meth0 (pv 3) T.cl_Chain T.me_Chain_height G_Chain_height (hr.mono (by decide)) b_Chain_height .nil pass0) pa_nil)))) (pw_or1 (pt_cmpR op_ne (pe_meth0 (pv 3) T.cl_Chain T.me_Chain_height G_Chain_height (hr.mono (by decide)) b_Chain_height .nil pass0) (pe_callB call_len_seq (by rfl) T.n_len PySem.boot_len (pa_cons (pv 5) pa_nil)) (nomark _))))))
      (pss_one (ps_ret pe_bl))
      pss_nil)
      (pss_cons (ps_if (PW.pt (pw_or (pt_cmpR op_ne (pe_callB call_len_seq (by rfl) T.n_len PySem.boot_len (pa_cons (pe_fld (pv 3) rfl) pa_nil)) (pe_callB call_len_seq (by rfl) T.n_len PySem.boot_len (pa_cons (pv 4) pa_nil)) (nomark _)) (pw_or1 (pt_cmpR op_ne (pe_callB call_len_seq (by rfl) T.n_len PySem.boot_len (pa_cons (pe_fld (pv 3) rfl) pa_nil)) (pe_callB call_len_seq (by rfl) T.n_len PySem.boot_len (pa_cons (pv 4) pa_nil)) (nomark _)))))
      (pss_one (ps_ret pe_bl))
      pss_nil)
      (pss_cons (ps_for PassesOwn.never rfl (pi_range1 rfl T.n_range (pa_cons (pe_callB call_len_seq (by rfl) T.n_len PySem.boot_len (pa_cons (pv 4) pa_nil)) pa_nil)) (pg_name (i := 6) sc_law.nd rfl (Or.inr rfl))
      (pss_cons (ps_if (PW.pt (pw_or (pt_cmpR (op_neD hr.units) (pe_fld (pe_ix ix_list (pe_fld (pv 3) rfl) (pv 6) (fun _ _ => rfl)) rfl) (pe_callTy call_tuple_of (by rfl) T.n_tuple (by decide +kernel) (pa_cons (pe_ix ix_tup (pe_ix ix_list (pv 4) (pv 6) (fun _ _ => rfl)) pe_int (fun _ _ => rfl)) pa_nil)) (nomark _)) (pw_or1 (pt_not (pt_val (pe_call G_law_shows (hr.mono (by decide)) rfl T.d_law_shows.g T.d_law_shows.kp b_law_shows .nil pass0 (pa_cons (pe_ix ix_list (pe_fld (pv 3) rfl) (pv 6) (fun _ _ => rfl)) (pa_cons (pe_ix ix_tup (pe_ix ix_list (pv 4) (pv 6) (fun _ _ => rfl)) pe_int (fun _ _ => rfl)) pa_nil))))))))
        (pss_one (ps_ret pe_bl))
        pss_nil)
        (pss_cons (ps_if (PW.pt (pw_and (pt_cmpR op_gt (pv 6) pe_int (nomark _)) (pw_and1 (pt_cmpR (op_neD hr.units) (pe_ix ix_list (pe_fld (pv 3) rfl) (pe_op op_sub (pv 6) pe_int) (fun _ _ => rfl)) (pe_ix ix_tup (pe_ix ix_list (pv 4) (pv 6) (fun _ _ => rfl)) pe_int (fun _ _ => rfl)) (nomark _)))))
        (pss_one (ps_ret pe_bl))
        pss_nil)
        (pss_one (ps_if (PW.pt (pw_and (pt_cmpR op_gt (pv 6) pe_int (nomark _)) (pw_and1 (pt_cmpR op_in_seq pe_bl (pe_lc (own := [("receipt", 15)]) (g := (gName 15)) (tt := tYes) rfl sc_law.nd (pi_tup (pe_ix ix_list (pe_fld (pv 3) rfl) (pe_op op_sub (pv 6) pe_int) (fun _ _ => rfl))) (blkOk_by (own := [("receipt", 15)]) (N := sc_law_N) (sc := defScope s_law) (by decide +kernel)) (fun _ _ _ _ _ => (pg_name (i := 15) sc_law.nd rfl (Or.inl rfl))) (fun _ _ _ _ _ => pts_nil) (fun _ _ _ _ _ => (pe_callB (id := "isinstance") (r := rIsi K) (cr_isiK rfl) (by rfl) T.n_isinstance (by decide +kernel) (pa_cons (pv 15) (pa_cons (pe_bltn (v := .ty "bool") (u := .type "bool") (by rfl) T.n_bool (by decide +kernel) rfl) pa_nil))))) (by rfl)))))
        (pss_one (ps_ret pe_bl))
        pss_nil)))))
      (pss_one (ps_ret (pe_cmpR (op_eqD hr.units) (pe_fld (pe_meth0 (pv 3) T.cl_Chain T.me_Chain_committee G_Chain_committee (hr.mono (by decide)) b_Chain_committee .nil pass0) rfl) (pe_callTy call_tuple_of (by rfl) T.n_tuple (by decide +kernel) (pa_cons (pe_ix ix_tup (pe_ix ix_list (pv 4) (pe_un un_neg pe_int) (fun _ _ => rfl)) pe_int (fun _ _ => rfl)) pa_nil)) (nomark _))))))))))))), ?_⟩
    walk_at "rs"
    refine ⟨l, ns, 0, rfl, hS, hl, by decide, ?_⟩
    walk_at "rs"
    refine ⟨_, _, rfl, by decide, by decide, fun wl ws H0 s0 hwl gw lw => ?_⟩
    have lw : ws.length ≤ 5 := lw
    walk_at "rs"
    refine ⟨l, ns, 1, rfl, s0.seq hS, hl, by decide, ?_⟩
    have r0 := Int.emod_nonneg (ns.getD 1 0) (show (6 : Int) ≠ 0 by decide)
    have r1 := Int.emod_lt_of_pos (ns.getD 1 0) (show (0 : Int) < 6 by decide)
    walk_at "rs"
    refine ⟨l, ns, 1, rfl, s0.seq hS, hl, by decide, ?_⟩
    walk_at "rs"
    refine ⟨_, _, _, rfl, r0, by show ns.getD 1 0 % 6 ≤ 1000; omega, by decide, by decide, fun q row H1 s1' hq lrow brow nq => ?_⟩
    have s1 := s0.trans s1'
    have hwl := s1' _ _ hwl
    walk_at "rs"
    refine ⟨⟨_, SqL.of hq⟩, fun D hD => ?_⟩
    refine lc_list (K := K) (a := q) (xs := row.map V.int) (fun i H2 => Same H1 H2 ∧ H2 D = some (.lst (((row.take i).map fun v => v * v).map V.int))) ⟨same_new hD, upd_same⟩ (fun i H2 _ ⟨s2, _⟩ => SqL.of (s2 _ _ hq)) ?_ ?_
    · rintro i y H2 hy ⟨s2, hd⟩
      have hi : i < row.length := by
        have e := (List.getElem?_eq_some_iff.mp hy).1
        rwa [List.length_map] at e
      have et : row.take (i + 1) = row.take i ++ [row.getD i 0] := by
        rw [List.take_add_one, List.getElem?_eq_getElem hi, List.getD_eq_getElem?_getD, List.getElem?_eq_getElem hi]
        rfl
      rw [at_ints hi] at hy
      cases hy
      have hz := brow _ (getD_mem hi)
      refine ⟨rfl, ?_⟩
      walk_at "rs"
      refine ⟨(show CMul _ _ from .inl ⟨by omega, by omega⟩), ?_⟩
      refine ⟨_, hd, by rw [List.length_map, List.length_map]; exact small1000 (by have := List.length_take_le' i row; have : row.length = (ns.getD 1 0 % 6).toNat := lrow; omega), same_upd s2 hD, ?_⟩
      rw [upd_same, et, List.map_append, List.map_append]
      rfl
    rintro H2 ⟨s2, hd⟩
    rw [List.length_map, List.take_length] at hd
    have s12 := s1.trans s2
    have hwl := s2 _ _ hwl
    have nn2 : ∀ v ∈ row.map (fun v => v * v), (0 : Int) ≤ v := fun v hv => by
      obtain ⟨x, hx, rfl⟩ := List.mem_map.mp hv
      exact Int.mul_nonneg (brow x hx).1 (brow x hx).1
    have ll : (row.map fun v => v * v).length ≤ 5 := by rw [List.length_map]; have : row.length = (ns.getD 1 0 % 6).toNat := lrow; omega
    generalize (row.map fun v => v * v) = gr at hd nn2 ll
    clear brow lrow s1 s2 s0 s1' hq nq
    walk_at "rs"
    refine ⟨wl, _, rfl, .inl (SqL.of hwl), fun w0 hw0 => ?_⟩
    have s3' := same_new (o := .lst (ws.map V.int)) hw0
    have gw0 : upd H2 w0 (.lst (ws.map V.int)) w0 = some (.lst (ws.map V.int)) := upd_same
    generalize upd H2 w0 (.lst (ws.map V.int)) = H3 at s3' gw0 ⊢
    have s3 := s12.trans s3'
    have hd := s3' _ _ hd
    have hwl := s3' _ _ hwl
    walk_at "rs"
    refine ⟨D, _, rfl, .inl (SqL.of hd), fun g0 hg0 => ?_⟩
    have s4' := same_new (o := .lst (gr.map V.int)) hg0
    have gg0 : upd H3 g0 (.lst (gr.map V.int)) g0 = some (.lst (gr.map V.int)) := upd_same
    generalize upd H3 g0 (.lst (gr.map V.int)) = H4 at s4' gg0 ⊢
    have s4 := s3.trans s4'
    have hd := s4' _ _ hd
    have gw0 := s4' _ _ gw0
    have hwl := s4' _ _ hwl
    walk_at "rs"
    intro p dx hp hdx ndx
    refine ⟨p, dx, w0, g0, ws, gr, rfl, upd_same, ?_, gw, ?_, by omega, nn2, fun q c0 d0 H5 cn nB nR nD nL keep => ⟨rfl, ?_⟩⟩
    · exact (same_upd (same_new hdx) hp).seq (SqL.of gw0)
    · exact (same_upd (same_new hdx) hp).seq (SqL.of gg0)
    have s5' := made hp hdx keep
    have s5 := s4.trans s5'
    have hd := s5' _ _ hd
    have sMade : Same H4 (upd (upd H4 dx (.own p)) p (.ins a.C_Chain dx [])) := same_upd (same_new hdx) hp
    have nB := sMade.free nB
    have nR := sMade.free nR
    have nD := sMade.free nD
    have nL := sMade.free nL
    have nFw : ¬ FC q wl := fun e => by
      rcases e with e | e | e | e
      · rw [e, nB] at hwl; cases hwl
      · rw [e, nR] at hwl; cases hwl
      · rw [e, nD] at hwl; cases hwl
      · rw [e, nL] at hwl; cases hwl
    have hwl := s5' _ _ hwl
    have nFn : ∀ {b : Addr} {Hx : Hp}, Same H5 Hx → Hx b = none → ¬ FC q b := fun s n e => by
      have n := s.free n
      rcases e with e | e | e | e
      · rw [e, cn.hB] at n; cases n
      · rw [e, cn.hR] at n; cases n
      · rw [e, cn.hD] at n; cases n
      · rw [e, cn.hL] at n; cases n
    have nFl : ∀ {b : Addr} {o : HO}, H b = some o → ¬ FC q b := fun h e => by
      have h := s4 _ _ h
      rcases e with e | e | e | e
      · rw [e, nB] at h; cases h
      · rw [e, nR] at h; cases h
      · rw [e, nD] at h; cases h
      · rw [e, nL] at h; cases h
    clear sMade nB nR nD nL gw0 gg0 s4' s3' s3 s12 s4 hg0 hw0 hp hdx ndx keep s5'
    walk_at "rs"
    refine ⟨D, _, rfl, .inl (SqL.of hd), fun b1 hb1 => ?_⟩
    have t1 := same_new (o := .lst (gr.map V.int)) hb1
    have gb1 : upd H5 b1 (.lst (gr.map V.int)) b1 = some (.lst (gr.map V.int)) := upd_same
    have nFb := nFn (Same.refl _) hb1
    generalize upd H5 b1 (.lst (gr.map V.int)) = H6 at t1 gb1 ⊢
    have hd6 := t1 _ _ hd
    walk_at "rs"
    refine ⟨⟨_, SqL.of hd6⟩, fun c1 hc1 => ?_⟩
    have nFc := nFn t1 hc1
    refine lc_list (K := K) (a := D) (xs := gr.map V.int) (fun i H7 => Same H6 H7 ∧ H7 c1 = some (.lst ((List.replicate i ("" : Str)).map V.str))) ⟨same_new hc1, upd_same⟩ (fun i H7 _ ⟨s7, _⟩ => SqL.of (s7 _ _ hd6)) ?_ ?_
    · rintro i y H7 hy ⟨s7, hd7⟩
      have hi : i < gr.length := by
        have e := (List.getElem?_eq_some_iff.mp hy).1
        rwa [List.length_map] at e
      rw [at_ints hi] at hy
      cases hy
      refine ⟨rfl, ?_⟩
      walk_at "rs"
      refine ⟨_, hd7, by rw [List.length_map, List.length_replicate]; exact small1000 (by omega), same_upd s7 hc1, ?_⟩
      rw [upd_same, List.replicate_succ', List.map_append]
      rfl
    rintro H7 ⟨t2', gc1⟩
    rw [List.length_map] at gc1
    have t2 := t1.trans t2'
    have hd7 := t2 _ _ hd
    have gb1 := t2' _ _ gb1
    walk_at "rs"
    refine ⟨⟨_, SqL.of hd7⟩, fun d1 hd1 => ?_⟩
    have nFd := nFn t2 hd1
    refine lc_list (K := K) (a := D) (xs := gr.map V.int) (fun i H8 => Same H7 H8 ∧ ∃ ds : List Addr, H8 d1 = some (.lst (ds.map V.ref)) ∧ Paired (DkAt H8) ds (List.replicate i [])) ⟨same_new hd1, [], upd_same, .nil⟩ (fun i H8 _ ⟨s8, _⟩ => SqL.of (s8 _ _ hd7)) ?_ ?_
    · rintro i y H8 hy ⟨s8, ds, hd8, pd⟩
      have hi : i < gr.length := by
        have e := (List.getElem?_eq_some_iff.mp hy).1
        rwa [List.length_map] at e
      rw [at_ints hi] at hy
      cases hy
      refine ⟨rfl, ?_⟩
      walk_at "rs"
      intro t ht
      have s9' := same_new (o := .dK []) ht
      have gt : DkAt (upd H8 t (.dK [])) t [] := upd_same
      generalize upd H8 t (.dK []) = H9 at s9' gt ⊢
      have hd9 := s9' _ _ hd8
      have ld := paired_len pd
      rw [List.length_replicate] at ld
      refine ⟨_, hd9, by rw [List.length_map, ld]; exact small1000 (by omega), same_upd (s8.trans s9') hd1, ds ++ [t], by rw [upd_same, List.map_append]; rfl, ?_⟩
      rw [List.replicate_succ']
      have off : ∀ b kv, DkAt H9 b kv → DkAt (upd H9 d1 (.lst (ds.map V.ref ++ [V.ref t]))) b kv := fun b kv e => by
        have e : H9 b = _ := e
        show upd _ _ _ _ = _
        rw [upd_ne (fun q => by rw [q, hd9] at e; cases e)]
        exact e
      exact paired_snoc (imp_paired pd fun b kv e => off b kv (s9' _ _ e)) (off _ _ gt)
    rintro H8 ⟨t3', ds, gd1, pd⟩
    rw [List.length_map] at pd
    have t3 := t2.trans t3'
    have gb1 := t3' _ _ gb1
    have gc1 := t3' _ _ gc1
    walk_at "rs"
    refine ⟨(by show 3 ≤ sizeLine; decide), fun st hst => ?_⟩
    have t4' := same_new (o := .tup [.ref b1, .ref c1, .ref d1]) hst
    have hStA : StF (FC q) (upd H8 st (.tup [.ref b1, .ref c1, .ref d1])) st (firstA gr) := ⟨b1, c1, d1, ds, upd_same, t4' _ _ gb1, t4' _ _ gc1, t4' _ _ gd1, imp_paired pd fun _ _ e => t4' _ _ e, nFb, nFc, nFd⟩
    generalize upd H8 st (.tup [.ref b1, .ref c1, .ref d1]) = H9 at t4' hStA ⊢
    have t4 := t3.trans t4'
    clear gb1 gc1 gd1 pd hd6 hd7 t4' t3' t2' hb1 hc1 hd1 hst t1 t2 t3 nFb nFc nFd
    walk_at "rs"
    refine ⟨(by show 0 ≤ sizeLine; decide), fun tt htt => ?_⟩
    have t5' := same_new (o := .tup []) htt
    have gtt : upd H9 tt (.tup []) tt = some (.tup (([] : List Bool).map V.bl)) := upd_same
    generalize upd H9 tt (.tup []) = H10 at t5' gtt ⊢
    walk_at "rs"
    refine ⟨(by show 3 ≤ sizeLine; decide), fun rp hrp => ?_⟩
    have t6' := same_new (o := .tup [.ref wl, .ref st, .ref tt]) hrp
    have hrw : RwAt (FC q) (upd H10 rp (.tup [.ref wl, .ref st, .ref tt])) ⟨rp, wl, st, tt⟩ ws (firstA gr) [] :=
      ⟨upd_same, t6' _ _ (t5' _ _ (t4 _ _ hwl)), nFw, (hStA.same t5').same t6', t6' _ _ gtt⟩
    generalize upd H10 rp (.tup [.ref wl, .ref st, .ref tt]) = H11 at t6' hrw ⊢
    have t6 := t4.trans (t5'.trans t6')
    walk_at "rs"
    refine ⟨(by show 1 ≤ sizeLine; decide), fun Rl hRl => ?_⟩
    have nFR := nFn t6 hRl
    have nRl0 : H Rl = none := (s5.trans t6).free hRl
    have t7' := same_new (o := .lst [V.ref rp]) hRl
    have gRl : upd H11 Rl (.lst [V.ref rp]) Rl = some (.lst (([⟨rp, wl, st, tt⟩] : List Rw).map fun r => V.ref r.p)) := upd_same
    have hrw := (hrw.weak (G := fun y => FC q y ∨ y = Rl) fun b xs e g => Or.elim g id fun g => (by rw [show b = Rl from g, hRl] at e; cases e)).same t7'
    generalize upd H11 Rl (.lst [V.ref rp]) = H12 at t7' hrw gRl ⊢
    have t7 := t6.trans t7'
    walk_at "rs"
    refine ⟨(by show 0 ≤ sizeLine; decide), fun Bl hBl => ?_⟩
    have nFB := nFn t7 hBl
    have nBl0 : H Bl = none := (s5.trans t7).free hBl
    have RB : Rl ≠ Bl := fun e => by rw [e, hBl] at gRl; cases gRl
    have t8' := same_new (o := .lst []) hBl
    have gBl : upd H12 Bl (.lst []) Bl = some (.lst (([] : List Str).map V.str)) := upd_same
    have hrw := (hrw.weak (G := fun y => FC q y ∨ y = Rl ∨ y = Bl) fun b xs e g => Or.elim g (fun g => .inl g) fun g => Or.elim g (fun g => .inr g) fun g => (by rw [show b = Bl from g, hBl] at e; cases e)).same t8'
    have gRl := t8' _ _ gRl
    generalize upd H12 Bl (.lst []) = H13 at t8' hrw gBl gRl ⊢
    have t8 := t7.trans t8'
    have s13 := s5.trans t8
    have cn := cn.same t8
    clear nFn t8' t7' t6' t5' t7 t6 hStA gtt hd hwl nFw htt hrp t4
    walk_at "rs"
    refine ⟨l, _, rfl, .inl (s13.seq hS), ?_⟩
    rw [List.length_map]
    walk_at "rs"
    have q0 : 0 ≤ ((ns.length : Int) + 2) / 3 ∧ ((ns.length : Int) + 2) / 3 ≤ 21 := by omega
    refine ⟨(by show -(2 ^ 62 : Int) ≤ _; omega), (by show _ < (2 ^ 62 : Int); omega), ?_⟩
    refine for_range (lo := 0) (n := (((ns.length : Int) + 2) / 3).toNat) (fun i σ H6 => ∃ (v : CnV) (rs : List Rw) (v6 v7 v8 v9 v10 v11 : Option V), σ = [some (.ref l), some (.ref wl), some (.ref D), some (.ref p), some (.ref Rl), some (.ref Bl), v6, v7, v8, v9, v10, v11, none, none, none, none] ∧ Same H H6 ∧ CnAt a.C_Chain a.C_Committee a.C_Ledger gr.length (600 * i) H6 p q v ∧
        v.zs.length = i ∧ (∀ z ∈ v.zs, PyData.strOk z = true) ∧ (∀ b ∈ v.bs, b.length ≤ 3) ∧ H6 Rl = some (.lst (rs.map fun r => V.ref r.p)) ∧ H6 Bl = some (.lst (v.zs.map V.str)) ∧ rs.length = i + 1 ∧ ∀ j, j < i + 1 → RwAt (fun y => FC q y ∨ y = Rl ∨ y = Bl) H6 (rs.getD j default) (v.ws.getD j []) (v.az.getD j default) (Bs v j))
      ⟨_, [⟨rp, wl, st, tt⟩], _, _, _, _, _, _, rfl, s13, cn, rfl, fun z hz => absurd hz List.not_mem_nil, fun z hz => absurd hz List.not_mem_nil, gRl, gBl, rfl, fun j hj => by
        have : j = 0 := Nat.lt_one_iff.mp hj
        rw [this]
        exact hrw⟩ ?_ ?_
    · rintro i σ H6 hi ⟨v, rs, v6, v7, v8, v9, v10, v11, rfl, s6, cn, lz, oz, lb3, hRl, hBl, lrs, rows⟩
      have hi : i < 21 := by omega
      walk_at "rs"
      refine ⟨by decide, by decide, fun cl hcl => ?_⟩
      refine lc_range (lo := 0) (n := (3 : Int).toNat) (fun j H7 => Same H6 H7 ∧ ∃ cs : List Int, H7 cl = some (.lst (cs.map V.int)) ∧ cs.length = j ∧ ∀ c ∈ cs, 0 ≤ c) ⟨same_new hcl, [], upd_same, rfl, fun c hc => absurd hc List.not_mem_nil⟩ ?_ ?_
      · rintro j H7 hj ⟨s7, cs, hcs, lcs, pos⟩
        have hj : j < 3 := hj
        refine ⟨rfl, ?_⟩
        walk_at "rs"
        refine ⟨l, ns, _, rfl, (s6.trans s7).seq hS, hl, by omega, ?_⟩
        refine ⟨_, rfl, ?_⟩
        refine ⟨_, hcs, by rw [List.length_map]; exact small1000 (by omega), same_upd s7 hcl, cs ++ [_], by rw [upd_same, List.map_append]; rfl, by rw [List.length_append, lcs]; rfl, fun c hc => ?_⟩
        rcases List.mem_append.mp hc with hc | hc
        · exact pos c hc
        · rw [List.mem_singleton.mp hc]
          split <;> omega
      rintro H7 ⟨s7, cs, hcs, lcs, pos⟩
      have lcs : cs.length = 3 := lcs
      have nFc : ¬ (FC q cl ∨ cl = Rl ∨ cl = Bl) := fun e => by
        rcases e with (e | e | e | e) | e | e
        · rw [e, cn.hB] at hcl; cases hcl
        · rw [e, cn.hR] at hcl; cases hcl
        · rw [e, cn.hD] at hcl; cases hcl
        · rw [e, cn.hL] at hcl; cases hcl
        · rw [e, hRl] at hcl; cases hcl
        · rw [e, hBl] at hcl; cases hcl
      walk_at "rs"
      refine ⟨by decide, by decide, fun dr hdr => ?_⟩
      refine lc_range (lo := 0) (n := (3 : Int).toNat) (fun j H8 => Same H7 H8 ∧ ∃ (ps : List Addr) (ms : List Cm), H8 dr = some (.lst (ps.map V.ref)) ∧ CmsAt H8 ps ms ∧ ms.length = j ∧ ∀ c ∈ ms, c.good) ⟨same_new hdr, [], [], upd_same, ⟨rfl, fun i hi => absurd hi (Nat.not_lt_zero _)⟩, rfl, fun c hc => absurd hc List.not_mem_nil⟩ ?_ ?_
      · rintro j H8 hj ⟨s8, ps, ms, hps, hms, lms, gms⟩
        have hj : j < 3 := hj
        refine ⟨rfl, ?_⟩
        walk_at "rs"
        refine ⟨cl, _, _, _, rfl, rfl, SqL.of (s8 _ _ hcs), at_cells (by omega) (by omega), ?_⟩
        walk_at "rs"
        have m0 := Int.emod_nonneg (0 + (j : Int) + 1) (show (3 : Int) ≠ 0 by decide)
        have m1 := Int.emod_lt_of_pos (0 + (j : Int) + 1) (show (0 : Int) < 3 by decide)
        refine ⟨cl, _, _, _, rfl, rfl, SqL.of (s8 _ _ hcs), at_cells m0 (by rw [lcs]; exact m1), ?_⟩
        refine ⟨_, _, rfl, fun x m H9 s9' nx hx gx => ?_⟩
        have hps9 := s9' _ _ hps
        have ldr := hms.1
        refine ⟨_, hps9, by rw [List.length_map]; exact small1000 (by omega), same_upd (s8.trans s9') hdr, ps ++ [x], ms ++ [m], by rw [upd_same, List.map_append]; rfl, (cms_snoc (hms.same s9') hx).off hps9, by rw [List.length_append, lms]; rfl, fun c hc => ?_⟩
        rcases List.mem_append.mp hc with hc | hc
        · exact gms c hc
        · rw [List.mem_singleton.mp hc]
          exact gx
      rintro H8 ⟨s8, ps, ms, hps, hms, lms, gms⟩
      have lms : ms.length = 3 := lms
      walk_at "rs"
      refine ⟨cl, _, _, _, rfl, rfl, SqL.of (s8 _ _ hcs), at_cells (by decide) (by omega), ?_⟩
      walk_at "rs"
      refine ⟨dr, _, rfl, SqL.of hps, fun d2 hd2 => ?_⟩
      rw [cut_takeI _ (Int.emod_nonneg _ (by decide)), ← List.map_take]
      have s9' := same_new (o := .lst ((ps.take (cs.getD (Int.toNat 0) 0 / 30 % 4).toNat).map V.ref)) hd2
      have hps9 : upd H8 d2 (.lst ((ps.take (cs.getD (Int.toNat 0) 0 / 30 % 4).toNat).map V.ref)) d2 = some (.lst ((ps.take (cs.getD (Int.toNat 0) 0 / 30 % 4).toNat).map V.ref)) := upd_same
      generalize upd H8 d2 (.lst ((ps.take (cs.getD (Int.toNat 0) 0 / 30 % 4).toNat).map V.ref)) = H9 at s9' hps9 ⊢
      have hms9 := (cms_take hms (cs.getD (Int.toNat 0) 0 / 30 % 4).toNat).same s9'
      have gms9 : ∀ c ∈ ms.take (cs.getD (Int.toNat 0) 0 / 30 % 4).toNat, c.good := fun c hc => gms c (List.mem_of_mem_take hc)
      have lm9 : (ms.take (cs.getD (Int.toNat 0) 0 / 30 % 4).toNat).length ≤ 3 := by rw [List.length_take]; omega
      generalize ps.take (cs.getD (Int.toNat 0) 0 / 30 % 4).toNat = ps2 at hps9 hms9
      generalize ms.take (cs.getD (Int.toNat 0) 0 / 30 % 4).toNat = ms2 at hms9 gms9 lm9
      have s69 := s7.trans (s8.trans s9')
      have hcs9 := s9' _ _ (s8 _ _ hcs)
      clear hps hms gms lms hcs hd2 s8 s9' s7
      walk_at "rs"
      refine ⟨d2, ps2, ms2, rfl, hps9, hms9, by omega, fun c hc => (gms9 c hc).ok, fun qf tk n H10 s10' hqf htk ntk fit => ?_⟩
      have s610 := s69.trans s10'
      have hcs10 := s10' _ _ hcs9
      have ht10 := cms_take (hms9.same s10') n
      have gt10 : ∀ c ∈ ms2.take n, c.good := fun c hc => gms9 c (List.mem_of_mem_take hc)
      have lt10 : (ms2.take n).length ≤ 3 := Nat.le_trans (List.length_take_le' _ _) lm9
      have l60 := fit.2.1 n (Nat.le_refl _)
      clear fit hcs9 hps9
      generalize ps2.take n = ps3 at htk ht10
      generalize ms2.take n = ms3 at hqf ht10 gt10 lt10 l60
      walk_at "rs"
      refine ⟨qf, _, _, _, rfl, rfl, SqT.of hqf, rfl, ?_⟩
      walk_at "rs"
      refine ⟨qf, _, _, _, rfl, rfl, SqT.of hqf, rfl, ?_⟩
      walk_at "rs"
      have nFt : ¬ (FC q tk ∨ tk = Rl ∨ tk = Bl) := fun e => by
        have ntk := s69.free ntk
        rcases e with (e | e | e | e) | e | e
        · rw [e, cn.hB] at ntk; cases ntk
        · rw [e, cn.hR] at ntk; cases ntk
        · rw [e, cn.hD] at ntk; cases ntk
        · rw [e, cn.hL] at ntk; cases ntk
        · rw [e, hRl] at ntk; cases ntk
        · rw [e, hBl] at ntk; cases ntk
      have cn := cn.same s610
      have hRl := s610 _ _ hRl
      have hBl := s610 _ _ hBl
      have rows : ∀ j, j < i + 1 → RwAt (fun y => FC q y ∨ y = Rl ∨ y = Bl) H10 (rs.getD j default) (v.ws.getD j []) (v.az.getD j default) (Bs v j) := fun j hj => (rows j hj).same s610
      have s10 := s6.trans s610
      clear s6 s610 s10' hcl s69 ntk
      refine ⟨fun σ H6 => ∃ (z : Str) (tk : Addr) (ps : List Addr) (v6 v7 v8 v9 : Option V), σ = [some (.ref l), some (.ref wl), some (.ref D), some (.ref p), some (.ref Rl), some (.ref Bl), v6, v7, v8, v9, some (.str z), some (.ref tk), none, none, none, none] ∧ Same H H6 ∧ CnAt a.C_Chain a.C_Committee a.C_Ledger gr.length (600 * i) H6 p q v ∧
        H6 Rl = some (.lst (rs.map fun r => V.ref r.p)) ∧ H6 Bl = some (.lst (v.zs.map V.str)) ∧ (∀ j, j < i + 1 → RwAt (fun y => FC q y ∨ y = Rl ∨ y = Bl) H6 (rs.getD j default) (v.ws.getD j []) (v.az.getD j default) (Bs v j)) ∧
        z.length ≤ 60 ∧ PyData.strOk z = true ∧ H6 tk = some (.lst (ps.map V.ref)) ∧ ¬ (FC q tk ∨ tk = Rl ∨ tk = Bl) ∧ CmsAt H6 ps (cmdsOf z) ∧ (∀ c ∈ cmdsOf z, c.fine) ∧ (cmdsOf z).length ≤ 3, ?_, ?_⟩
      · have oi : NOk (0 + (i : Int)) := ⟨by omega, by omega⟩
        have o2 : NOk (cs.getD (Int.toNat 2) 0 % 9) := ⟨Int.emod_nonneg _ (by decide), by have := Int.emod_lt_of_pos (cs.getD (Int.toNat 2) 0) (show (0 : Int) < 9 by decide); omega⟩
        have q1 : (Str.ofString (toString (0 + (i : Int)))).length ≤ 7 := nu_len oi.w
        have q2 : (Str.ofString (toString (cs.getD (Int.toNat 2) 0 % 9))).length ≤ 7 := nu_len o2.w
        have q3 : ("b" : Str).length = 1 := rfl
        have q4 : ("t" : Str).length = 1 := rfl
        have eb : cmdsOf ("b" ++ nu (0 + (i : Int)) ++ "t" ++ nu (cs.getD (Int.toNat 2) 0 % 9)) = [] := cmdsOf_b (c := 98) (r := TL.tl (nu (0 + (i : Int)) ++ "t" ++ nu (cs.getD (Int.toNat 2) 0 % 9))) (by simp only [TL.tl_append]; rfl) rfl
        walk_at "rs"
        refine ite2 (fun c1 => ?_) (fun c1 => ?_)
        · walk_at "rs"
          refine ⟨nu_log oi.w, ?_⟩
          walk_at "rs"
          refine ⟨by rw [sizeLine_eq]; omega, ?_⟩
          walk_at "rs"
          refine ⟨by rw [PySem.Str.length_append, sizeLine_eq]; omega, ?_⟩
          walk_at "rs"
          refine ⟨cl, _, _, _, rfl, rfl, SqL.of hcs10, at_cells (by decide) (by omega), ?_⟩
          walk_at "rs"
          refine ⟨nu_log o2.w, ?_⟩
          walk_at "rs"
          refine ⟨by simp only [PySem.Str.length_append]; rw [sizeLine_eq]; omega, ?_⟩
          walk_at "rs"
          refine ⟨(by show 0 ≤ sizeLine; decide), fun t3 ht3 => ?_⟩
          have s11' := same_new (o := .lst []) ht3
          have ht : upd H10 t3 (.lst []) t3 = some (.lst (([] : List Addr).map V.ref)) := upd_same
          generalize upd H10 t3 (.lst []) = H11 at s11' ht ⊢
          refine ⟨"b" ++ nu (0 + (i : Int)) ++ "t" ++ nu (cs.getD (Int.toNat 2) 0 % 9), t3, [], _, _, _, _, rfl, s10.trans s11', cn.same s11', s11' _ _ hRl, s11' _ _ hBl, fun j hj => (rows j hj).same s11', ?_, ?_, ht, ?_, ?_, ?_, ?_⟩
          · show (_ ++ _ : Str).length ≤ 60
            simp only [PySem.Str.length_append]
            show _ + (Str.ofString (toString (0 + (i : Int)))).length + _ + (Str.ofString (toString (cs.getD (Int.toNat 2) 0 % 9))).length ≤ 60
            omega
          · exact strOk_cps (cp_app (cp_app (cp_app (by decide +kernel) (cp_nu oi)) (by decide +kernel)) (cp_nu o2))
          · intro e
            rcases e with (e | e | e | e) | e | e
            · rw [e, cn.hB] at ht3; cases ht3
            · rw [e, cn.hR] at ht3; cases ht3
            · rw [e, cn.hD] at ht3; cases ht3
            · rw [e, cn.hL] at ht3; cases ht3
            · rw [e, hRl] at ht3; cases ht3
            · rw [e, hBl] at ht3; cases ht3
          · rw [eb]
            exact ⟨rfl, fun i hi => absurd hi (Nat.not_lt_zero _)⟩
          · rw [eb]
            exact fun c hc => absurd hc List.not_mem_nil
          · rw [eb]
            exact Nat.zero_le _
        · walk_at "rs"
          refine ⟨cl, _, _, _, rfl, rfl, SqL.of hcs10, at_cells (by decide) (by omega), ?_⟩
          walk_at "rs"
          refine ite2 (fun c2 => ?_) (fun c2 => ?_)
          · walk_at "rs"
            refine ⟨nu_log oi.w, ?_⟩
            walk_at "rs"
            refine ⟨by rw [sizeLine_eq]; omega, ?_⟩
            walk_at "rs"
            refine ⟨by rw [PySem.Str.length_append, sizeLine_eq]; omega, ?_⟩
            walk_at "rs"
            refine ⟨cl, _, _, _, rfl, rfl, SqL.of hcs10, at_cells (by decide) (by omega), ?_⟩
            walk_at "rs"
            refine ⟨nu_log o2.w, ?_⟩
            walk_at "rs"
            refine ⟨by simp only [PySem.Str.length_append]; rw [sizeLine_eq]; omega, ?_⟩
            walk_at "rs"
            refine ⟨(by show 0 ≤ sizeLine; decide), fun t3 ht3 => ?_⟩
            have s11' := same_new (o := .lst []) ht3
            have ht : upd H10 t3 (.lst []) t3 = some (.lst (([] : List Addr).map V.ref)) := upd_same
            generalize upd H10 t3 (.lst []) = H11 at s11' ht ⊢
            refine ⟨"b" ++ nu (0 + (i : Int)) ++ "t" ++ nu (cs.getD (Int.toNat 2) 0 % 9), t3, [], _, _, _, _, rfl, s10.trans s11', cn.same s11', s11' _ _ hRl, s11' _ _ hBl, fun j hj => (rows j hj).same s11', ?_, ?_, ht, ?_, ?_, ?_, ?_⟩
            · show (_ ++ _ : Str).length ≤ 60
              simp only [PySem.Str.length_append]
              show _ + (Str.ofString (toString (0 + (i : Int)))).length + _ + (Str.ofString (toString (cs.getD (Int.toNat 2) 0 % 9))).length ≤ 60
              omega
            · exact strOk_cps (cp_app (cp_app (cp_app (by decide +kernel) (cp_nu oi)) (by decide +kernel)) (cp_nu o2))
            · intro e
              rcases e with (e | e | e | e) | e | e
              · rw [e, cn.hB] at ht3; cases ht3
              · rw [e, cn.hR] at ht3; cases ht3
              · rw [e, cn.hD] at ht3; cases ht3
              · rw [e, cn.hL] at ht3; cases ht3
              · rw [e, hRl] at ht3; cases ht3
              · rw [e, hBl] at ht3; cases ht3
            · rw [eb]
              exact ⟨rfl, fun i hi => absurd hi (Nat.not_lt_zero _)⟩
            · rw [eb]
              exact fun c hc => absurd hc List.not_mem_nil
            · rw [eb]
              exact Nat.zero_le _
          · have ec : cmdsOf (cat ms3) = ms3 := cmdsOf_cat fun c hc => (gt10 c hc).right
            refine ⟨cat ms3, tk, ps3, _, _, _, _, rfl, s10, cn, hRl, hBl, rows, l60, cp_cat fun c hc => (gt10 c hc).right, htk, ?_, ?_, ?_, ?_⟩
            · exact nFt
            · rw [ec]
              exact ht10
            · rw [ec]
              exact fun c hc => (gt10 c hc).fine
            · rw [ec]
              exact lt10
      rintro σ H11 ⟨z, tk, ps, v6, v7, v8, v9, rfl, s11, cn, hRl, hBl, rows, lz60, okz, htk, nFt, hcs, fine, lcs3⟩
      walk_at "rs"
      obtain ⟨dxc, hpi⟩ := cn.ins
      refine ⟨p, dxc, _, rfl, hpi, rfl, ?_⟩
      walk_at "rs"
      refine ⟨p, gr.length, 600 * i, q, v, z, rfl, cn, by omega, fine, by omega, by omega, fun r c l2 H12 cn' kq => ?_⟩
      have cn2 := cn'.mono (show 600 * i + 200 * (cmdsOf z).length ≤ 600 * (i + 1) by omega)
      have off12 : ∀ b o, ¬ (FC q b ∨ b = Rl ∨ b = Bl) ∨ NL o → H11 b = some o → H12 b = some o := kq.off cn (F := fun y => FC q y ∨ y = Rl ∨ y = Bl) fun y h => .inl h
      have sat : ∀ b o, ¬ FC q b → H11 b = some o → H12 b = some o := fun b o n e => kq b o (fun e => n (.inl e)) (fun e => n (.inr (.inl e))) (fun e => n (.inr (.inr (.inl e)))) (fun e => n (.inr (.inr (.inr e)))) e
      have s12 : Same H H12 := fun b o e => sat b o (nFl e) (s11 _ _ e)
      have hRl := sat _ _ nFR hRl
      have hBl := sat _ _ nFB hBl
      have htk := off12 _ _ (.inl nFt) htk
      have hcs : CmsAt H12 ps (cmdsOf z) := ⟨hcs.1, fun i hi => off12 _ _ (.inr fun _ e => nomatch e) (hcs.2 i hi)⟩
      have rows := fun j hj => (rows j hj).keep off12
      have ga := (cn.ld i (by have := cn.na; omega)).2
      have gw2 := (cn.cm i (by have := cn.nw; omega)).2
      rw [lz] at cn2
      have nws := cn.nw
      have naz := cn.na
      have nbs := cn.nb
      clear cn cn' kq s11 sat off12 hpi
      walk_at "rs"
      refine ⟨.inl ⟨rfl, _, SqL.of hBl⟩, ?_⟩
      walk_at "rs"
      refine ⟨Bl, _, _, rfl, rfl, hBl, by rw [List.length_map]; exact small1000 (by omega), ?_⟩
      have off13 := off_upd (G := fun y => FC q y ∨ y = Rl ∨ y = Bl) (o2 := .lst (v.zs.map V.str ++ [V.str z])) (.inr (.inr rfl)) hBl
      have off13' := off_upd (G := fun y => y = Rl ∨ y = Bl) (o2 := .lst (v.zs.map V.str ++ [V.str z])) (.inr rfl) hBl
      have cn3 := cn2.keep off13' fun y h e => by
        rcases e with e | e
        · exact nFR (e ▸ h)
        · exact nFB (e ▸ h)
      have s13 := same_upd (o := .lst (v.zs.map V.str ++ [V.str z])) s12 nBl0
      have hRl := (upd_ne (H := H12) (o := .lst (v.zs.map V.str ++ [V.str z])) RB).trans hRl
      have htk := off13 _ _ (.inl nFt) htk
      have hcs : CmsAt (upd H12 Bl (.lst (v.zs.map V.str ++ [V.str z]))) ps (cmdsOf z) := ⟨hcs.1, fun i hi => off13 _ _ (.inr fun _ e => nomatch e) (hcs.2 i hi)⟩
      have rows := fun j hj => (rows j hj).keep off13
      have hBl : upd H12 Bl (.lst (v.zs.map V.str ++ [V.str z])) Bl = some (.lst ((v.zs ++ [z]).map V.str)) := by rw [upd_same, List.map_append]; rfl
      clear off13 off13' cn2 s12
      generalize upd H12 Bl (.lst (v.zs.map V.str ++ [V.str z])) = H13 at cn3 s13 hRl htk hcs rows hBl ⊢
      have hF : ∀ y, (FC q y ∨ y = Rl ∨ y = Bl) → H13 y ≠ none := fun y g e => by
        rcases g with (g | g | g | g) | g | g
        · rw [g, cn3.hB] at e; cases e
        · rw [g, cn3.hR] at e; cases e
        · rw [g, cn3.hD] at e; cases e
        · rw [g, cn3.hL] at e; cases e
        · rw [g, hRl] at e; cases e
        · rw [g, hBl] at e; cases e
      obtain ⟨e1, e2, e3, e4, e5⟩ := rows i (Nat.lt_succ_self i)
      walk_at "rs"
      refine ⟨.inl ⟨rfl, _, SqL.of hRl⟩, ?_⟩
      walk_at "rs"
      refine ⟨Rl, _, _, _, rfl, rfl, SqL.of hRl, map_lastR lrs, ?_⟩
      walk_at "rs"
      refine ⟨_, _, _, _, rfl, rfl, SqT.of e1, rfl, ?_⟩
      walk_at "rs"
      refine ⟨Rl, _, _, _, rfl, rfl, SqL.of hRl, map_lastR lrs, ?_⟩
      walk_at "rs"
      refine ⟨_, _, _, _, rfl, rfl, SqT.of e1, rfl, ?_⟩
      walk_at "rs"
      refine ⟨fun y => FC q y ∨ y = Rl ∨ y = Bl, _, _, tk, _, _, ps, cmdsOf z, gr.length, 600 * i, rfl, hF, e2, gw2, e4, htk, hcs, fine, ga, by omega, fun q2 w2 s2 t2 H14 s14 hq2 nw2 hw2 hs2 ht2 => ?_⟩
      have hRl14 := s14 _ _ hRl
      have off15 := off_upd (G := fun y => FC q y ∨ y = Rl ∨ y = Bl) (o2 := .lst (rs.map (fun r => V.ref r.p) ++ [V.ref q2])) (.inr (.inl rfl)) hRl14
      have off15' := off_upd (G := fun y => y = Rl ∨ y = Bl) (o2 := .lst (rs.map (fun r => V.ref r.p) ++ [V.ref q2])) (.inl rfl) hRl14
      refine ⟨Rl, _, _, rfl, rfl, hRl14, by rw [List.length_map]; exact small1000 (by omega), ?_⟩
      refine ⟨_, rs ++ [⟨q2, w2, s2, t2⟩], _, _, _, _, _, _, rfl, same_upd (s13.trans s14) nRl0, (cn3.same s14).keep off15' fun y h e => ?_, by show (v.zs ++ [z]).length = i + 1; rw [List.length_append, lz]; rfl, fun x hx => ?_, fun x hx => ?_, by rw [upd_same, List.map_append]; rfl, by rw [upd_ne RB.symm]; exact s14 _ _ hBl, by rw [List.length_append, lrs]; rfl, fun j hj => ?_⟩
      · rcases e with e | e
        · exact nFR (e ▸ h)
        · exact nFB (e ▸ h)
      · rcases List.mem_append.mp hx with hx | hx
        · exact oz x hx
        · rw [List.mem_singleton.mp hx]
          exact okz
      · rcases List.mem_append.mp hx with hx | hx
        · exact lb3 x hx
        · rw [List.mem_singleton.mp hx, (runB_good gw2 ga (cmdsOf z) (by omega) fine).2.2]
          exact lcs3
      · have lb : ([] :: v.bs).length = i + 1 := by rw [List.length_cons, nbs, lz]
        show RwAt _ _ _ ((v.ws ++ [_]).getD j []) ((v.az ++ [_]).getD j default) (([] :: v.bs ++ [_]).getD j [])
        rcases Nat.lt_or_ge j (i + 1) with hj1 | hj1
        · rw [getD_app (by omega), getD_app (by omega), getD_app (by omega), getD_app (by rw [lb]; exact hj1)]
          exact ((rows j hj1).same s14).keep off15
        · have ej : j = i + 1 := by omega
          subst ej
          have x1 : ∀ {α : Type} {d x : α} {xs : List α}, xs.length = i + 1 → (xs ++ [x]).getD (i + 1) d = x := fun h => by rw [← h]; exact getD_end
          rw [x1 lrs, x1 (by rw [nws, lz]), x1 (by rw [naz, lz]), x1 lb]
          exact RwAt.keep ⟨hq2, hw2, fun e => hF _ e nw2, hs2, ht2⟩ off15
    · rintro σ H6 ⟨v, rs, v6, v7, v8, v9, v10, v11, rfl, s6, cn, lz, oz, lb3, hRl, hBl, lrs, rows⟩
      generalize hN : (((ns.length : Int) + 2) / 3).toNat = N at cn lz lrs rows
      have N21 : N ≤ 21 := by omega
      clear hN q0 nBl0 nRl0 nFR nFB hrw gRl gBl RB s13
      obtain ⟨dxc, hpi⟩ := id cn.ins
      have nws := cn.nw
      have naz := cn.na
      have nbs := cn.nb
      walk_at "rs"
      refine ⟨p, _, dxc, _, .ref q.B, rfl, hpi, T.cl_Chain, T.a_Chain_blocks, rfl, ?_⟩
      walk_at "rs"
      refine ⟨.list (v.zs.map PyData.str), .list (v.zs.map PyData.str), .lst (SqL.of cn.hB) (dp_strs _), .lst (SqL.of hBl) (dp_strs _), shaped_strs oz, shaped_strs oz, ?_⟩
      rw [eqv_strs oz]
      refine ⟨_, rfl, ?_⟩
      refine ite2 (fun c => absurd c (by decide)) (fun _ => ?_)
      walk_at "rs"
      refine ⟨p, dxc, _, rfl, hpi, rfl, ?_⟩
      walk_at "rs"
      refine ⟨p, gr.length, _, q, v, rfl, cn, ?_⟩
      walk_at "rs"
      refine ⟨p, dxc, _, rfl, hpi, rfl, ?_⟩
      walk_at "rs"
      refine ⟨p, gr.length, _, q, v, rfl, cn, ?_⟩
      walk_at "rs"
      refine ⟨Bl, _, rfl, .inl (SqL.of hBl), ?_⟩
      rw [List.length_map]
      walk_at "rs"
      refine ite2 (fun c => absurd c (by simp)) (fun _ => ?_)
      walk_at "rs"
      refine ⟨p, _, dxc, _, .ref q.D, rfl, hpi, T.cl_Chain, T.a_Chain_committees, rfl, ?_⟩
      refine ⟨q.D, _, rfl, .inl (SqL.of cn.hD), ?_⟩
      walk_at "rs"
      refine ⟨Rl, _, rfl, .inl (SqL.of hRl), ?_⟩
      rw [List.length_map, List.length_map, cn.np, lrs, lz]
      walk_at "rs"
      refine ite2 (fun c => absurd c (by simp)) (fun _ => ?_)
      walk_at "rs"
      refine ⟨p, _, dxc, _, .ref q.L, rfl, hpi, T.cl_Chain, T.a_Chain_ledgers, rfl, ?_⟩
      refine ⟨q.L, _, rfl, .inl (SqL.of cn.hL), ?_⟩
      walk_at "rs"
      refine ⟨Rl, _, rfl, .inl (SqL.of hRl), ?_⟩
      rw [List.length_map, List.length_map, cn.nl, lrs, lz]
      walk_at "rs"
      refine ite2 (fun c => absurd c (by simp)) (fun _ => ?_)
      walk_at "rs"
      refine ⟨Rl, _, rfl, .inl (SqL.of hRl), ?_⟩
      rw [List.length_map, lrs]
      walk_at "rs"
      refine ⟨(by show -(2 ^ 62 : Int) ≤ _; omega), (by show _ < (2 ^ 62 : Int); omega), ?_⟩
      refine for_range (lo := 0) (n := ((N + 1 : Nat) : Int).toNat) (fun i σ H7 => ∃ v6 : Option V, σ = [some (.ref l), some (.ref wl), some (.ref D), some (.ref p), some (.ref Rl), some (.ref Bl), v6, v7, v8, v9, v10, v11, none, none, none, none] ∧ Same H6 H7) ⟨_, rfl, Same.refl _⟩ ?_ ?_
      · rintro i σ H7 hi ⟨v6, rfl, s7⟩
        have hi : i < N + 1 := hi
        have t0 : (0 + (i : Int)).toNat = i := by omega
        obtain ⟨e1, e2, e3, e4, e5⟩ := (rows i hi).same s7
        have cn := cn.same s7
        have hRl := s7 _ _ hRl
        obtain ⟨⟨dc, ct, hc1, hc2⟩, gw⟩ := cn.cm i (by omega)
        obtain ⟨hlg, ga⟩ := cn.ld i (by omega)
        walk_at "rs"
        refine ⟨p, _, dxc, _, .ref q.D, rfl, s7 _ _ hpi, T.cl_Chain, T.a_Chain_committees, rfl, ?_⟩
        walk_at "rs"
        refine ⟨q.D, _, _, _, rfl, rfl, SqL.of cn.hD, at_refsG (by omega) (by rw [cn.np]; omega), ?_⟩
        rw [t0]
        refine ⟨_, _, dc, _, .ref ct, rfl, hc1, T.cl_Committee, T.a_Committee_weights, cfs_w _ _, ?_⟩
        walk_at "rs"
        refine ⟨Rl, _, _, _, rfl, rfl, SqL.of hRl, at_rowsG (by omega) (by omega), ?_⟩
        rw [t0]
        walk_at "rs"
        refine ⟨_, _, _, _, rfl, rfl, SqT.of e1, rfl, ?_⟩
        walk_at "rs"
        refine ⟨_, _, rfl, .inl ⟨SqL.of e2, fun t1 ht1 => ?_⟩⟩
        have u1 := same_new (o := .tup ((v.ws.getD i []).map V.int)) ht1
        have g1 : upd H7 t1 (.tup ((v.ws.getD i []).map V.int)) t1 = some (.tup ((v.ws.getD i []).map V.int)) := upd_same
        generalize upd H7 t1 (.tup ((v.ws.getD i []).map V.int)) = H8 at u1 g1 ⊢
        refine ⟨.tuple ((v.ws.getD i []).map PyData.int), .tuple ((v.ws.getD i []).map PyData.int), .tup (SqT.of (u1 _ _ hc2)) (dp_intsA _), .tup (SqT.of g1) (dp_intsA _), shaped_intsA _, shaped_intsA _, ?_⟩
        rw [eqv_intsA, decide_eq_true rfl]
        refine ⟨_, rfl, ?_⟩
        refine ite2 (fun c => absurd c (by decide)) (fun _ => ?_)
        have cn := cn.same u1
        have hRl := u1 _ _ hRl
        have e1 := u1 _ _ e1
        have e5 := u1 _ _ e5
        have s8 := s7.trans u1
        walk_at "rs"
        refine ⟨p, _, dxc, _, .ref q.L, rfl, s8 _ _ hpi, T.cl_Chain, T.a_Chain_ledgers, rfl, ?_⟩
        walk_at "rs"
        refine ⟨q.L, _, _, _, rfl, rfl, SqL.of cn.hL, at_refsG (by omega) (by rw [cn.nl]; omega), ?_⟩
        rw [t0]
        walk_at "rs"
        refine ⟨Rl, _, _, _, rfl, rfl, SqL.of hRl, at_rowsG (by omega) (by omega), ?_⟩
        rw [t0]
        walk_at "rs"
        refine ⟨_, _, _, _, rfl, rfl, SqT.of e1, rfl, ?_⟩
        refine ⟨_, _, _, _, gr.length, _, rfl, hlg.same u1, e4.same u1, ga, by omega, fun H9 s9' => ?_⟩
        refine ⟨_, rfl, ?_⟩
        refine ite2 (fun c => absurd c (by decide)) (fun _ => ?_)
        have cn := cn.same s9'
        have hRl := s9' _ _ hRl
        have e1 := s9' _ _ e1
        have e5 := s9' _ _ e5
        have s9 := s8.trans s9'
        clear s8 s9' u1 s7
        walk_at "rs"
        refine ite2 (fun c1 => ?_) (fun c1 => ?_)
        · have c1 : 0 < i := by
            have : (0 : Int) < 0 + i := of_decide_eq_true c1
            omega
          have t1 : (0 + (i : Int) - 1).toNat = i - 1 := by omega
          have hrc := cn.rc (i - 1) (by omega)
          have eB : Bs v i = v.bs.getD (i - 1) [] := by
            obtain ⟨j, rfl⟩ : ∃ j, i = j + 1 := ⟨i - 1, by omega⟩
            rfl
          rw [eB] at e5
          have hb3 : (v.bs.getD (i - 1) []).length ≤ 3 := lb3 _ (getD_memC (by omega))
          generalize v.bs.getD (i - 1) [] = bs at hrc e5 hb3
          walk_at "rs"
          refine ⟨p, _, dxc, _, .ref q.R, rfl, s9 _ _ hpi, T.cl_Chain, T.a_Chain_receipts, rfl, ?_⟩
          walk_at "rs"
          refine ⟨q.R, _, _, _, rfl, rfl, SqL.of cn.hR, at_refsG (by omega) (by rw [cn.nr]; omega), ?_⟩
          rw [t1]
          walk_at "rs"
          refine ⟨Rl, _, _, _, rfl, rfl, SqL.of hRl, at_rowsG (by omega) (by omega), ?_⟩
          rw [t0]
          walk_at "rs"
          refine ⟨_, _, _, _, rfl, rfl, SqT.of e1, rfl, ?_⟩
          refine ⟨.tuple (bs.map PyData.bool), .tuple (bs.map PyData.bool), .tup (SqT.of hrc) (dp_bls _), .tup (SqT.of e5) (dp_bls _), shaped_bls _, shaped_bls _, ?_⟩
          rw [eqv_bls, decide_eq_true rfl]
          refine ⟨_, rfl, ?_⟩
          refine ite2 (fun c => absurd c (by decide)) (fun _ => ?_)
          walk_at "rs"
          refine ite2 (fun _ => ?_) (fun c => absurd (decide_eq_true (show (0 : Int) < 0 + i by omega)) c)
          walk_at "rs"
          refine ⟨p, _, dxc, _, .ref q.R, rfl, s9 _ _ hpi, T.cl_Chain, T.a_Chain_receipts, rfl, ?_⟩
          walk_at "rs"
          refine ⟨q.R, _, _, _, rfl, rfl, SqL.of cn.hR, at_refsG (by omega) (by rw [cn.nr]; omega), ?_⟩
          rw [t1]
          refine ⟨_, rfl, ⟨_, SqT.of hrc⟩, fun Z hZ => ?_⟩
          refine lc_tup (K := K) (a := v.rs.getD (i - 1) 0) (xs := bs.map V.bl) (fun j H10 => Same H9 H10 ∧ H10 Z = some (.lst ((List.replicate j true).map V.bl))) ⟨same_new hZ, upd_same⟩ (fun j H10 _ ⟨s10, _⟩ => SqT.of (s10 _ _ hrc)) ?_ ?_
          · rintro j y H10 hy ⟨s10, hz⟩
            obtain ⟨b5, rfl⟩ : ∃ b5, y = V.bl b5 := by
              rw [List.getElem?_map] at hy
              cases h : bs[j]? with
              | none => rw [h] at hy; cases hy
              | some x =>
                rw [h] at hy
                exact ⟨x, (Option.some.inj hy).symm⟩
            have hj : j < bs.length := by
              have e := (List.getElem?_eq_some_iff.mp hy).1
              rwa [List.length_map] at e
            refine ⟨rfl, ?_⟩
            walk_at "rs"
            refine ⟨.bl b5, .ty "bool", .type "bool", .type "bool", true, rfl, .ty _, .base (.bl _), kit_ty (by decide +kernel), ?_⟩
            refine ⟨_, hz, by rw [List.length_map, List.length_replicate]; exact small1000 (by omega), same_upd s10 hZ, ?_⟩
            rw [upd_same, List.replicate_succ', List.map_append]
            rfl
          · rintro H10 ⟨s10, hz⟩
            walk_at "rs"
            refine ⟨Z, _, rfl, .inl (SqL.of hz), rfl, ?_, ?_⟩
            · rw [List.all_eq_true]
              intro x hx
              obtain ⟨y, _, rfl⟩ := List.mem_map.mp hx
              rfl
            · rw [if_neg Bool.false_ne_true, no_false]
              refine ⟨_, rfl, ?_⟩
              refine ite2 (fun c => absurd c (by decide)) (fun _ => ?_)
              exact ⟨_, rfl, s9.trans s10⟩
        · walk_at "rs"
          refine ite2 (fun c => absurd c c1) (fun _ => ?_)
          exact ⟨_, rfl, s9⟩
      · rintro σ H7 ⟨v6, rfl, s7⟩
        walk_at "rs"
        have cn := cn.same s7
        have hpi7 := s7 _ _ hpi
        have hRl := s7 _ _ hRl
        obtain ⟨e1, e2, e3, e4, e5⟩ := (rows N (Nat.lt_succ_self N)).same s7
        obtain ⟨⟨dc, ct, hc1, hc2⟩, gw⟩ := cn.cm N (by omega)
        rw [← lz] at hc1
        refine ⟨p, dxc, _, rfl, hpi7, rfl, ?_⟩
        walk_at "rs"
        refine ⟨p, gr.length, _, q, v, rfl, cn, ?_⟩
        refine ⟨_, _, dc, _, .ref ct, rfl, hc1, T.cl_Committee, T.a_Committee_weights, cfs_w _ _, ?_⟩
        walk_at "rs"
        refine ⟨Rl, _, _, _, rfl, rfl, SqL.of hRl, map_lastR lrs, ?_⟩
        walk_at "rs"
        refine ⟨_, _, _, _, rfl, rfl, SqT.of e1, rfl, ?_⟩
        walk_at "rs"
        refine ⟨_, _, rfl, .inl ⟨SqL.of e2, fun t1 ht1 => ?_⟩⟩
        have u1 := same_new (o := .tup ((v.ws.getD N []).map V.int)) ht1
        have g1 : upd H7 t1 (.tup ((v.ws.getD N []).map V.int)) t1 = some (.tup ((v.ws.getD N []).map V.int)) := upd_same
        generalize upd H7 t1 (.tup ((v.ws.getD N []).map V.int)) = H8 at u1 g1 ⊢
        refine ⟨.tuple ((v.ws.getD N []).map PyData.int), .tuple ((v.ws.getD N []).map PyData.int), .tup (SqT.of (u1 _ _ hc2)) (dp_intsA _), .tup (SqT.of g1) (dp_intsA _), shaped_intsA _, shaped_intsA _, ?_⟩
        rw [eqv_intsA, decide_eq_true rfl]
        exact k H8

end

theorem all_mk {l : PySem.W.OpenLaw} {w : World} {K : PySem.W.Frag} {h : Heap} {mg : Str → Option Value} {fa : Addr} (X : K.In h) (G : h.Ns mainGlobals mg) (hfa : mg "law" = some (.ref fa))
    {t_SIGNS : Tok} {t_DIGITS : Tok} {t_MOST_DIGITS : Tok} {t_CODE_END : Tok} {t_MODULUS : Tok} {t_MOST_VALUES : Tok} {t_MOST_STEPS : Tok} {t_MOST_MEMBERS : Tok} {t_MOST_WEIGHT : Tok} {C_Reader : Addr} {C_Run : Addr} {C_Machine : Addr} {C_Ledger : Addr} {C_Committee : Addr} {C_Chain : Addr} {f_Reader_init : Addr} {od_Reader_init an_Reader_init : Option Addr} {sl_Reader_init : Array (Option Value)} {oc_Reader_init kV_Reader_init dc_Reader_init pm_Reader_init cd_Reader_init ct_Reader_init : Value} {f_Reader_read_signs : Addr} {od_Reader_read_signs an_Reader_read_signs : Option Addr} {sl_Reader_read_signs : Array (Option Value)} {oc_Reader_read_signs kV_Reader_read_signs dc_Reader_read_signs pm_Reader_read_signs cd_Reader_read_signs ct_Reader_read_signs : Value} {f_Reader_skip : Addr} {od_Reader_skip an_Reader_skip : Option Addr} {sl_Reader_skip : Array (Option Value)} {oc_Reader_skip kV_Reader_skip dc_Reader_skip pm_Reader_skip cd_Reader_skip ct_Reader_skip : Value} {f_Reader_read_number : Addr} {od_Reader_read_number an_Reader_read_number : Option Addr} {sl_Reader_read_number : Array (Option Value)} {oc_Reader_read_number kV_Reader_read_number dc_Reader_read_number pm_Reader_read_number cd_Reader_read_number ct_Reader_read_number : Value} {f_Reader_read_code : Addr} {od_Reader_read_code an_Reader_read_code : Option Addr} {sl_Reader_read_code : Array (Option Value)} {oc_Reader_read_code kV_Reader_read_code dc_Reader_read_code pm_Reader_read_code cd_Reader_read_code ct_Reader_read_code : Value} {f_Reader_read_command : Addr} {od_Reader_read_command an_Reader_read_command : Option Addr} {sl_Reader_read_command : Array (Option Value)} {oc_Reader_read_command kV_Reader_read_command dc_Reader_read_command pm_Reader_read_command cd_Reader_read_command ct_Reader_read_command : Value} {f_commands_of : Addr} {od_commands_of an_commands_of : Option Addr} {sl_commands_of : Array (Option Value)} {oc_commands_of kV_commands_of dc_commands_of pm_commands_of cd_commands_of ct_commands_of : Value} {f_Run_init : Addr} {od_Run_init an_Run_init : Option Addr} {sl_Run_init : Array (Option Value)} {oc_Run_init kV_Run_init dc_Run_init pm_Run_init cd_Run_init ct_Run_init : Value} {f_run : Addr} {od_run an_run : Option Addr} {sl_run : Array (Option Value)} {oc_run kV_run dc_run pm_run cd_run ct_run : Value} {f_plus : Addr} {od_plus an_plus : Option Addr} {sl_plus : Array (Option Value)} {oc_plus kV_plus dc_plus pm_plus cd_plus ct_plus : Value} {f_minus : Addr} {od_minus an_minus : Option Addr} {sl_minus : Array (Option Value)} {oc_minus kV_minus dc_minus pm_minus cd_minus ct_minus : Value} {f_times : Addr} {od_times an_times : Option Addr} {sl_times : Array (Option Value)} {oc_times kV_times dc_times pm_times cd_times ct_times : Value} {f_append_digit : Addr} {od_append_digit an_append_digit : Option Addr} {sl_append_digit : Array (Option Value)} {oc_append_digit kV_append_digit dc_append_digit pm_append_digit cd_append_digit ct_append_digit : Value} {f_is_less : Addr} {od_is_less an_is_less : Option Addr} {sl_is_less : Array (Option Value)} {oc_is_less kV_is_less dc_is_less pm_is_less cd_is_less ct_is_less : Value} {f_is_equal : Addr} {od_is_equal an_is_equal : Option Addr} {sl_is_equal : Array (Option Value)} {oc_is_equal kV_is_equal dc_is_equal pm_is_equal cd_is_equal ct_is_equal : Value} {f_Machine_init : Addr} {od_Machine_init an_Machine_init : Option Addr} {sl_Machine_init : Array (Option Value)} {oc_Machine_init kV_Machine_init dc_Machine_init pm_Machine_init cd_Machine_init ct_Machine_init : Value} {f_Machine_push : Addr} {od_Machine_push an_Machine_push : Option Addr} {sl_Machine_push : Array (Option Value)} {oc_Machine_push kV_Machine_push dc_Machine_push pm_Machine_push cd_Machine_push ct_Machine_push : Value} {f_Machine_take : Addr} {od_Machine_take an_Machine_take : Option Addr} {sl_Machine_take : Array (Option Value)} {oc_Machine_take kV_Machine_take dc_Machine_take pm_Machine_take cd_Machine_take ct_Machine_take : Value} {f_Machine_push_number : Addr} {od_Machine_push_number an_Machine_push_number : Option Addr} {sl_Machine_push_number : Array (Option Value)} {oc_Machine_push_number kV_Machine_push_number dc_Machine_push_number pm_Machine_push_number cd_Machine_push_number ct_Machine_push_number : Value} {f_Machine_combine : Addr} {od_Machine_combine an_Machine_combine : Option Addr} {sl_Machine_combine : Array (Option Value)} {oc_Machine_combine kV_Machine_combine dc_Machine_combine pm_Machine_combine cd_Machine_combine ct_Machine_combine : Value} {f_Machine_move : Addr} {od_Machine_move an_Machine_move : Option Addr} {sl_Machine_move : Array (Option Value)} {oc_Machine_move kV_Machine_move dc_Machine_move pm_Machine_move cd_Machine_move ct_Machine_move : Value} {f_Machine_jump : Addr} {od_Machine_jump an_Machine_jump : Option Addr} {sl_Machine_jump : Array (Option Value)} {oc_Machine_jump kV_Machine_jump dc_Machine_jump pm_Machine_jump cd_Machine_jump ct_Machine_jump : Value} {f_Machine_settle : Addr} {od_Machine_settle an_Machine_settle : Option Addr} {sl_Machine_settle : Array (Option Value)} {oc_Machine_settle kV_Machine_settle dc_Machine_settle pm_Machine_settle cd_Machine_settle ct_Machine_settle : Value} {f_Machine_perform : Addr} {od_Machine_perform an_Machine_perform : Option Addr} {sl_Machine_perform : Array (Option Value)} {oc_Machine_perform kV_Machine_perform dc_Machine_perform pm_Machine_perform cd_Machine_perform ct_Machine_perform : Value} {f_Machine_finish : Addr} {od_Machine_finish an_Machine_finish : Option Addr} {sl_Machine_finish : Array (Option Value)} {oc_Machine_finish kV_Machine_finish dc_Machine_finish pm_Machine_finish cd_Machine_finish ct_Machine_finish : Value} {f_Ledger_init : Addr} {od_Ledger_init an_Ledger_init : Option Addr} {sl_Ledger_init : Array (Option Value)} {oc_Ledger_init kV_Ledger_init dc_Ledger_init pm_Ledger_init cd_Ledger_init ct_Ledger_init : Value} {f_first_ledger : Addr} {od_first_ledger an_first_ledger : Option Addr} {sl_first_ledger : Array (Option Value)} {oc_first_ledger kV_first_ledger dc_first_ledger pm_first_ledger cd_first_ledger ct_first_ledger : Value} {f_after_command : Addr} {od_after_command an_after_command : Option Addr} {sl_after_command : Array (Option Value)} {oc_after_command kV_after_command dc_after_command pm_after_command cd_after_command ct_after_command : Value} {f_done : Addr} {od_done an_done : Option Addr} {sl_done : Array (Option Value)} {oc_done kV_done dc_done pm_done cd_done ct_done : Value} {f_payment : Addr} {od_payment an_payment : Option Addr} {sl_payment : Array (Option Value)} {oc_payment kV_payment dc_payment pm_payment cd_payment ct_payment : Value} {f_new_program : Addr} {od_new_program an_new_program : Option Addr} {sl_new_program : Array (Option Value)} {oc_new_program kV_new_program dc_new_program pm_new_program cd_new_program ct_new_program : Value} {f_call : Addr} {od_call an_call : Option Addr} {sl_call : Array (Option Value)} {oc_call kV_call dc_call pm_call cd_call ct_call : Value} {f_exist : Addr} {od_exist an_exist : Option Addr} {sl_exist : Array (Option Value)} {oc_exist kV_exist dc_exist pm_exist cd_exist ct_exist : Value} {f_moved : Addr} {od_moved an_moved : Option Addr} {sl_moved : Array (Option Value)} {oc_moved kV_moved dc_moved pm_moved cd_moved ct_moved : Value} {f_replaced : Addr} {od_replaced an_replaced : Option Addr} {sl_replaced : Array (Option Value)} {oc_replaced kV_replaced dc_replaced pm_replaced cd_replaced ct_replaced : Value} {f_first_wrong : Addr} {od_first_wrong an_first_wrong : Option Addr} {sl_first_wrong : Array (Option Value)} {oc_first_wrong kV_first_wrong dc_first_wrong pm_first_wrong cd_first_wrong ct_first_wrong : Value} {f_Committee_init : Addr} {od_Committee_init an_Committee_init : Option Addr} {sl_Committee_init : Array (Option Value)} {oc_Committee_init kV_Committee_init dc_Committee_init pm_Committee_init cd_Committee_init ct_Committee_init : Value} {f_Chain_init : Addr} {od_Chain_init an_Chain_init : Option Addr} {sl_Chain_init : Array (Option Value)} {oc_Chain_init kV_Chain_init dc_Chain_init pm_Chain_init cd_Chain_init ct_Chain_init : Value} {f_Chain_height : Addr} {od_Chain_height an_Chain_height : Option Addr} {sl_Chain_height : Array (Option Value)} {oc_Chain_height kV_Chain_height dc_Chain_height pm_Chain_height cd_Chain_height ct_Chain_height : Value} {f_Chain_committee : Addr} {od_Chain_committee an_Chain_committee : Option Addr} {sl_Chain_committee : Array (Option Value)} {oc_Chain_committee kV_Chain_committee dc_Chain_committee pm_Chain_committee cd_Chain_committee ct_Chain_committee : Value} {f_Chain_extend : Addr} {od_Chain_extend an_Chain_extend : Option Addr} {sl_Chain_extend : Array (Option Value)} {oc_Chain_extend kV_Chain_extend dc_Chain_extend pm_Chain_extend cd_Chain_extend ct_Chain_extend : Value} {f_after_weight : Addr} {od_after_weight an_after_weight : Option Addr} {sl_after_weight : Array (Option Value)} {oc_after_weight kV_after_weight dc_after_weight pm_after_weight cd_after_weight ct_after_weight : Value} {f_law_cell : Addr} {od_law_cell an_law_cell : Option Addr} {sl_law_cell : Array (Option Value)} {oc_law_cell kV_law_cell dc_law_cell pm_law_cell cd_law_cell ct_law_cell : Value} {f_law_is_integer : Addr} {od_law_is_integer an_law_is_integer : Option Addr} {sl_law_is_integer : Array (Option Value)} {oc_law_is_integer kV_law_is_integer dc_law_is_integer pm_law_is_integer cd_law_is_integer ct_law_is_integer : Value} {f_law_row : Addr} {od_law_row an_law_row : Option Addr} {sl_law_row : Array (Option Value)} {oc_law_row kV_law_row dc_law_row pm_law_row cd_law_row ct_law_row : Value} {f_law_weights : Addr} {od_law_weights an_law_weights : Option Addr} {sl_law_weights : Array (Option Value)} {oc_law_weights kV_law_weights dc_law_weights pm_law_weights cd_law_weights ct_law_weights : Value} {f_law_number : Addr} {od_law_number an_law_number : Option Addr} {sl_law_number : Array (Option Value)} {oc_law_number kV_law_number dc_law_number pm_law_number cd_law_number ct_law_number : Value} {f_law_code : Addr} {od_law_code an_law_code : Option Addr} {sl_law_code : Array (Option Value)} {oc_law_code kV_law_code dc_law_code pm_law_code cd_law_code ct_law_code : Value} {f_law_place : Addr} {od_law_place an_law_place : Option Addr} {sl_law_place : Array (Option Value)} {oc_law_place kV_law_place dc_law_place pm_law_place cd_law_place ct_law_place : Value} {f_law_command : Addr} {od_law_command an_law_command : Option Addr} {sl_law_command : Array (Option Value)} {oc_law_command kV_law_command dc_law_command pm_law_command cd_law_command ct_law_command : Value} {f_law_text : Addr} {od_law_text an_law_text : Option Addr} {sl_law_text : Array (Option Value)} {oc_law_text kV_law_text dc_law_text pm_law_text cd_law_text ct_law_text : Value} {f_law_fitting : Addr} {od_law_fitting an_law_fitting : Option Addr} {sl_law_fitting : Array (Option Value)} {oc_law_fitting kV_law_fitting dc_law_fitting pm_law_fitting cd_law_fitting ct_law_fitting : Value} {f_law_reckon : Addr} {od_law_reckon an_law_reckon : Option Addr} {sl_law_reckon : Array (Option Value)} {oc_law_reckon kV_law_reckon dc_law_reckon pm_law_reckon cd_law_reckon ct_law_reckon : Value} {f_law_need : Addr} {od_law_need an_law_need : Option Addr} {sl_law_need : Array (Option Value)} {oc_law_need kV_law_need dc_law_need pm_law_need cd_law_need ct_law_need : Value} {f_law_act : Addr} {od_law_act an_law_act : Option Addr} {sl_law_act : Array (Option Value)} {oc_law_act kV_law_act dc_law_act pm_law_act cd_law_act ct_law_act : Value} {f_law_sign : Addr} {od_law_sign an_law_sign : Option Addr} {sl_law_sign : Array (Option Value)} {oc_law_sign kV_law_sign dc_law_sign pm_law_sign cd_law_sign ct_law_sign : Value} {f_law_run : Addr} {od_law_run an_law_run : Option Addr} {sl_law_run : Array (Option Value)} {oc_law_run kV_law_run dc_law_run pm_law_run cd_law_run ct_law_run : Value} {f_law_after : Addr} {od_law_after an_law_after : Option Addr} {sl_law_after : Array (Option Value)} {oc_law_after kV_law_after dc_law_after pm_law_after cd_law_after ct_law_after : Value} {f_law_pairs : Addr} {od_law_pairs an_law_pairs : Option Addr} {sl_law_pairs : Array (Option Value)} {oc_law_pairs kV_law_pairs dc_law_pairs pm_law_pairs cd_law_pairs ct_law_pairs : Value} {f_law_shows : Addr} {od_law_shows an_law_shows : Option Addr} {sl_law_shows : Array (Option Value)} {oc_law_shows kV_law_shows dc_law_shows pm_law_shows cd_law_shows ct_law_shows : Value} {f_law_block : Addr} {od_law_block an_law_block : Option Addr} {sl_law_block : Array (Option Value)} {oc_law_block kV_law_block dc_law_block pm_law_block cd_law_block ct_law_block : Value} {f_law : Addr} {od_law an_law : Option Addr} {sl_law : Array (Option Value)} {oc_law kV_law dc_law pm_law cd_law ct_law : Value} {P_MARKS M_MARKS_p M_MARKS_w M_MARKS_d M_MARKS_k : Addr} {n_MARKS : Nat} {h_MARKS_p h_MARKS_w h_MARKS_d h_MARKS_k : Int} {t_MARKS_p t_MARKS_w t_MARKS_d t_MARKS_k : Tok} {od_MARKS_p : Option Addr} {sl_MARKS_p : Array (Option Value)} {n_MARKS_p : Nat} {t0_MARKS_p t1_MARKS_p t2_MARKS_p : Tok} {od_MARKS_w : Option Addr} {sl_MARKS_w : Array (Option Value)} {n_MARKS_w : Nat} {t0_MARKS_w t1_MARKS_w : Tok} {od_MARKS_d : Option Addr} {sl_MARKS_d : Array (Option Value)} {n_MARKS_d : Nat} {t0_MARKS_d t1_MARKS_d : Tok} {od_MARKS_k : Option Addr} {sl_MARKS_k : Array (Option Value)} {n_MARKS_k : Nat} {t0_MARKS_k t1_MARKS_k t2_MARKS_k : Tok} {C_BadCommand : Addr} {P_OF_TWO : Addr} {n_OF_TWO : Nat} {h_OF_TWO_a h_OF_TWO_s h_OF_TWO_m h_OF_TWO_t h_OF_TWO_c h_OF_TWO_e : Int} {t_OF_TWO_a t_OF_TWO_s t_OF_TWO_m t_OF_TWO_t t_OF_TWO_c t_OF_TWO_e : Tok} {C_Failed : Addr}
    (c_SIGNS : PySem.W.nsIn K mainGlobals "SIGNS" = some (some (.str "0123456789ginasmtcehlujfyo" t_SIGNS)))
    (c_DIGITS : PySem.W.nsIn K mainGlobals "DIGITS" = some (some (.str "0123456789" t_DIGITS)))
    (c_MOST_DIGITS : PySem.W.nsIn K mainGlobals "MOST_DIGITS" = some (some (.int 6 t_MOST_DIGITS)))
    (c_CODE_END : PySem.W.nsIn K mainGlobals "CODE_END" = some (some (.str "z" t_CODE_END)))
    (c_MODULUS : PySem.W.nsIn K mainGlobals "MODULUS" = some (some (.int 1000000 t_MODULUS)))
    (c_MOST_VALUES : PySem.W.nsIn K mainGlobals "MOST_VALUES" = some (some (.int 16 t_MOST_VALUES)))
    (c_MOST_STEPS : PySem.W.nsIn K mainGlobals "MOST_STEPS" = some (some (.int 200 t_MOST_STEPS)))
    (c_MOST_MEMBERS : PySem.W.nsIn K mainGlobals "MOST_MEMBERS" = some (some (.int 16 t_MOST_MEMBERS)))
    (c_MOST_WEIGHT : PySem.W.nsIn K mainGlobals "MOST_WEIGHT" = some (some (.int 1000000000000 t_MOST_WEIGHT)))
    (n_len : PySem.W.nsIn K mainGlobals "len" = some none)
    (n_range : PySem.W.nsIn K mainGlobals "range" = some none)
    (n_isinstance : PySem.W.nsIn K mainGlobals "isinstance" = some none)
    (n_int : PySem.W.nsIn K mainGlobals "int" = some none)
    (n_bool : PySem.W.nsIn K mainGlobals "bool" = some none)
    (n_list : PySem.W.nsIn K mainGlobals "list" = some none)
    (n_tuple : PySem.W.nsIn K mainGlobals "tuple" = some none)
    (n_str : PySem.W.nsIn K mainGlobals "str" = some none)
    (n_dict : PySem.W.nsIn K mainGlobals "dict" = some none)
    (n_sorted : PySem.W.nsIn K mainGlobals "sorted" = some none)
    (n_max : PySem.W.nsIn K mainGlobals "max" = some none)
    (n_abs : PySem.W.nsIn K mainGlobals "abs" = some none)
    (n_all : PySem.W.nsIn K mainGlobals "all" = some none)
    (n_sum : PySem.W.nsIn K mainGlobals "sum" = some none)
    (n_enumerate : PySem.W.nsIn K mainGlobals "enumerate" = some none)
    (g_Reader : PySem.W.nsIn K mainGlobals "Reader" = some (some (.ref C_Reader)))
    (g_Run : PySem.W.nsIn K mainGlobals "Run" = some (some (.ref C_Run)))
    (g_Machine : PySem.W.nsIn K mainGlobals "Machine" = some (some (.ref C_Machine)))
    (g_Ledger : PySem.W.nsIn K mainGlobals "Ledger" = some (some (.ref C_Ledger)))
    (g_Committee : PySem.W.nsIn K mainGlobals "Committee" = some (some (.ref C_Committee)))
    (g_Chain : PySem.W.nsIn K mainGlobals "Chain" = some (some (.ref C_Chain)))
    (a_Reader_init : PySem.W.findIn K (.ref C_Reader) "__init__" = some (some (.ref f_Reader_init)))
    (i_Reader_init : PySem.W.isFn K (.ref f_Reader_init) = true)
    (l_Reader_init : K.lookup f_Reader_init = some ⟨oc_Reader_init, od_Reader_init, .func (PySem.W.fnOf "__init__" "Reader.__init__" (defArgs s_Reader_init) (defBody s_Reader_init) (defScope s_Reader_init) .none kV_Reader_init dc_Reader_init pm_Reader_init an_Reader_init cd_Reader_init ct_Reader_init), sl_Reader_init⟩)
    (q_Reader_init : PySem.W.codeIn K cd_Reader_init "Reader.__init__" = true)
    (k_Reader_init : PySem.W.keepIn K (.ref f_Reader_init) = true)
    (a_Reader_read_signs : PySem.W.findIn K (.ref C_Reader) "read_signs" = some (some (.ref f_Reader_read_signs)))
    (i_Reader_read_signs : PySem.W.isFn K (.ref f_Reader_read_signs) = true)
    (l_Reader_read_signs : K.lookup f_Reader_read_signs = some ⟨oc_Reader_read_signs, od_Reader_read_signs, .func (PySem.W.fnOf "read_signs" "Reader.read_signs" (defArgs s_Reader_read_signs) (defBody s_Reader_read_signs) (defScope s_Reader_read_signs) .none kV_Reader_read_signs dc_Reader_read_signs pm_Reader_read_signs an_Reader_read_signs cd_Reader_read_signs ct_Reader_read_signs), sl_Reader_read_signs⟩)
    (q_Reader_read_signs : PySem.W.codeIn K cd_Reader_read_signs "Reader.read_signs" = true)
    (k_Reader_read_signs : PySem.W.keepIn K (.ref f_Reader_read_signs) = true)
    (a_Reader_skip : PySem.W.findIn K (.ref C_Reader) "skip" = some (some (.ref f_Reader_skip)))
    (i_Reader_skip : PySem.W.isFn K (.ref f_Reader_skip) = true)
    (l_Reader_skip : K.lookup f_Reader_skip = some ⟨oc_Reader_skip, od_Reader_skip, .func (PySem.W.fnOf "skip" "Reader.skip" (defArgs s_Reader_skip) (defBody s_Reader_skip) (defScope s_Reader_skip) .none kV_Reader_skip dc_Reader_skip pm_Reader_skip an_Reader_skip cd_Reader_skip ct_Reader_skip), sl_Reader_skip⟩)
    (q_Reader_skip : PySem.W.codeIn K cd_Reader_skip "Reader.skip" = true)
    (k_Reader_skip : PySem.W.keepIn K (.ref f_Reader_skip) = true)
    (a_Reader_read_number : PySem.W.findIn K (.ref C_Reader) "read_number" = some (some (.ref f_Reader_read_number)))
    (i_Reader_read_number : PySem.W.isFn K (.ref f_Reader_read_number) = true)
    (l_Reader_read_number : K.lookup f_Reader_read_number = some ⟨oc_Reader_read_number, od_Reader_read_number, .func (PySem.W.fnOf "read_number" "Reader.read_number" (defArgs s_Reader_read_number) (defBody s_Reader_read_number) (defScope s_Reader_read_number) .none kV_Reader_read_number dc_Reader_read_number pm_Reader_read_number an_Reader_read_number cd_Reader_read_number ct_Reader_read_number), sl_Reader_read_number⟩)
    (q_Reader_read_number : PySem.W.codeIn K cd_Reader_read_number "Reader.read_number" = true)
    (k_Reader_read_number : PySem.W.keepIn K (.ref f_Reader_read_number) = true)
    (a_Reader_read_code : PySem.W.findIn K (.ref C_Reader) "read_code" = some (some (.ref f_Reader_read_code)))
    (i_Reader_read_code : PySem.W.isFn K (.ref f_Reader_read_code) = true)
    (l_Reader_read_code : K.lookup f_Reader_read_code = some ⟨oc_Reader_read_code, od_Reader_read_code, .func (PySem.W.fnOf "read_code" "Reader.read_code" (defArgs s_Reader_read_code) (defBody s_Reader_read_code) (defScope s_Reader_read_code) .none kV_Reader_read_code dc_Reader_read_code pm_Reader_read_code an_Reader_read_code cd_Reader_read_code ct_Reader_read_code), sl_Reader_read_code⟩)
    (q_Reader_read_code : PySem.W.codeIn K cd_Reader_read_code "Reader.read_code" = true)
    (k_Reader_read_code : PySem.W.keepIn K (.ref f_Reader_read_code) = true)
    (a_Reader_read_command : PySem.W.findIn K (.ref C_Reader) "read_command" = some (some (.ref f_Reader_read_command)))
    (i_Reader_read_command : PySem.W.isFn K (.ref f_Reader_read_command) = true)
    (l_Reader_read_command : K.lookup f_Reader_read_command = some ⟨oc_Reader_read_command, od_Reader_read_command, .func (PySem.W.fnOf "read_command" "Reader.read_command" (defArgs s_Reader_read_command) (defBody s_Reader_read_command) (defScope s_Reader_read_command) .none kV_Reader_read_command dc_Reader_read_command pm_Reader_read_command an_Reader_read_command cd_Reader_read_command ct_Reader_read_command), sl_Reader_read_command⟩)
    (q_Reader_read_command : PySem.W.codeIn K cd_Reader_read_command "Reader.read_command" = true)
    (k_Reader_read_command : PySem.W.keepIn K (.ref f_Reader_read_command) = true)
    (a_commands_of : PySem.W.nsIn K mainGlobals "commands_of" = some (some (.ref f_commands_of)))
    (l_commands_of : K.lookup f_commands_of = some ⟨oc_commands_of, od_commands_of, .func (PySem.W.fnOf "commands_of" "commands_of" (defArgs s_commands_of) (defBody s_commands_of) (defScope s_commands_of) .none kV_commands_of dc_commands_of pm_commands_of an_commands_of cd_commands_of ct_commands_of), sl_commands_of⟩)
    (q_commands_of : PySem.W.codeIn K cd_commands_of "commands_of" = true)
    (k_commands_of : PySem.W.keepIn K (.ref f_commands_of) = true)
    (a_Run_init : PySem.W.findIn K (.ref C_Run) "__init__" = some (some (.ref f_Run_init)))
    (i_Run_init : PySem.W.isFn K (.ref f_Run_init) = true)
    (l_Run_init : K.lookup f_Run_init = some ⟨oc_Run_init, od_Run_init, .func (PySem.W.fnOf "__init__" "Run.__init__" (defArgs s_Run_init) (defBody s_Run_init) (defScope s_Run_init) .none kV_Run_init dc_Run_init pm_Run_init an_Run_init cd_Run_init ct_Run_init), sl_Run_init⟩)
    (q_Run_init : PySem.W.codeIn K cd_Run_init "Run.__init__" = true)
    (k_Run_init : PySem.W.keepIn K (.ref f_Run_init) = true)
    (a_run : PySem.W.nsIn K mainGlobals "run" = some (some (.ref f_run)))
    (l_run : K.lookup f_run = some ⟨oc_run, od_run, .func (PySem.W.fnOf "run" "run" (defArgs s_run) (defBody s_run) (defScope s_run) .none kV_run dc_run pm_run an_run cd_run ct_run), sl_run⟩)
    (q_run : PySem.W.codeIn K cd_run "run" = true)
    (k_run : PySem.W.keepIn K (.ref f_run) = true)
    (a_plus : PySem.W.nsIn K mainGlobals "_plus" = some (some (.ref f_plus)))
    (l_plus : K.lookup f_plus = some ⟨oc_plus, od_plus, .func (PySem.W.fnOf "_plus" "_plus" (defArgs s_plus) (defBody s_plus) (defScope s_plus) .none kV_plus dc_plus pm_plus an_plus cd_plus ct_plus), sl_plus⟩)
    (q_plus : PySem.W.codeIn K cd_plus "_plus" = true)
    (k_plus : PySem.W.keepIn K (.ref f_plus) = true)
    (a_minus : PySem.W.nsIn K mainGlobals "_minus" = some (some (.ref f_minus)))
    (l_minus : K.lookup f_minus = some ⟨oc_minus, od_minus, .func (PySem.W.fnOf "_minus" "_minus" (defArgs s_minus) (defBody s_minus) (defScope s_minus) .none kV_minus dc_minus pm_minus an_minus cd_minus ct_minus), sl_minus⟩)
    (q_minus : PySem.W.codeIn K cd_minus "_minus" = true)
    (k_minus : PySem.W.keepIn K (.ref f_minus) = true)
    (a_times : PySem.W.nsIn K mainGlobals "_times" = some (some (.ref f_times)))
    (l_times : K.lookup f_times = some ⟨oc_times, od_times, .func (PySem.W.fnOf "_times" "_times" (defArgs s_times) (defBody s_times) (defScope s_times) .none kV_times dc_times pm_times an_times cd_times ct_times), sl_times⟩)
    (q_times : PySem.W.codeIn K cd_times "_times" = true)
    (k_times : PySem.W.keepIn K (.ref f_times) = true)
    (a_append_digit : PySem.W.nsIn K mainGlobals "_append_digit" = some (some (.ref f_append_digit)))
    (l_append_digit : K.lookup f_append_digit = some ⟨oc_append_digit, od_append_digit, .func (PySem.W.fnOf "_append_digit" "_append_digit" (defArgs s_append_digit) (defBody s_append_digit) (defScope s_append_digit) .none kV_append_digit dc_append_digit pm_append_digit an_append_digit cd_append_digit ct_append_digit), sl_append_digit⟩)
    (q_append_digit : PySem.W.codeIn K cd_append_digit "_append_digit" = true)
    (k_append_digit : PySem.W.keepIn K (.ref f_append_digit) = true)
    (a_is_less : PySem.W.nsIn K mainGlobals "_is_less" = some (some (.ref f_is_less)))
    (l_is_less : K.lookup f_is_less = some ⟨oc_is_less, od_is_less, .func (PySem.W.fnOf "_is_less" "_is_less" (defArgs s_is_less) (defBody s_is_less) (defScope s_is_less) .none kV_is_less dc_is_less pm_is_less an_is_less cd_is_less ct_is_less), sl_is_less⟩)
    (q_is_less : PySem.W.codeIn K cd_is_less "_is_less" = true)
    (k_is_less : PySem.W.keepIn K (.ref f_is_less) = true)
    (a_is_equal : PySem.W.nsIn K mainGlobals "_is_equal" = some (some (.ref f_is_equal)))
    (l_is_equal : K.lookup f_is_equal = some ⟨oc_is_equal, od_is_equal, .func (PySem.W.fnOf "_is_equal" "_is_equal" (defArgs s_is_equal) (defBody s_is_equal) (defScope s_is_equal) .none kV_is_equal dc_is_equal pm_is_equal an_is_equal cd_is_equal ct_is_equal), sl_is_equal⟩)
    (q_is_equal : PySem.W.codeIn K cd_is_equal "_is_equal" = true)
    (k_is_equal : PySem.W.keepIn K (.ref f_is_equal) = true)
    (a_Machine_init : PySem.W.findIn K (.ref C_Machine) "__init__" = some (some (.ref f_Machine_init)))
    (i_Machine_init : PySem.W.isFn K (.ref f_Machine_init) = true)
    (l_Machine_init : K.lookup f_Machine_init = some ⟨oc_Machine_init, od_Machine_init, .func (PySem.W.fnOf "__init__" "Machine.__init__" (defArgs s_Machine_init) (defBody s_Machine_init) (defScope s_Machine_init) .none kV_Machine_init dc_Machine_init pm_Machine_init an_Machine_init cd_Machine_init ct_Machine_init), sl_Machine_init⟩)
    (q_Machine_init : PySem.W.codeIn K cd_Machine_init "Machine.__init__" = true)
    (k_Machine_init : PySem.W.keepIn K (.ref f_Machine_init) = true)
    (a_Machine_push : PySem.W.findIn K (.ref C_Machine) "push" = some (some (.ref f_Machine_push)))
    (i_Machine_push : PySem.W.isFn K (.ref f_Machine_push) = true)
    (l_Machine_push : K.lookup f_Machine_push = some ⟨oc_Machine_push, od_Machine_push, .func (PySem.W.fnOf "push" "Machine.push" (defArgs s_Machine_push) (defBody s_Machine_push) (defScope s_Machine_push) .none kV_Machine_push dc_Machine_push pm_Machine_push an_Machine_push cd_Machine_push ct_Machine_push), sl_Machine_push⟩)
    (q_Machine_push : PySem.W.codeIn K cd_Machine_push "Machine.push" = true)
    (k_Machine_push : PySem.W.keepIn K (.ref f_Machine_push) = true)
    (a_Machine_take : PySem.W.findIn K (.ref C_Machine) "take" = some (some (.ref f_Machine_take)))
    (i_Machine_take : PySem.W.isFn K (.ref f_Machine_take) = true)
    (l_Machine_take : K.lookup f_Machine_take = some ⟨oc_Machine_take, od_Machine_take, .func (PySem.W.fnOf "take" "Machine.take" (defArgs s_Machine_take) (defBody s_Machine_take) (defScope s_Machine_take) .none kV_Machine_take dc_Machine_take pm_Machine_take an_Machine_take cd_Machine_take ct_Machine_take), sl_Machine_take⟩)
    (q_Machine_take : PySem.W.codeIn K cd_Machine_take "Machine.take" = true)
    (k_Machine_take : PySem.W.keepIn K (.ref f_Machine_take) = true)
    (a_Machine_push_number : PySem.W.findIn K (.ref C_Machine) "push_number" = some (some (.ref f_Machine_push_number)))
    (i_Machine_push_number : PySem.W.isFn K (.ref f_Machine_push_number) = true)
    (l_Machine_push_number : K.lookup f_Machine_push_number = some ⟨oc_Machine_push_number, od_Machine_push_number, .func (PySem.W.fnOf "push_number" "Machine.push_number" (defArgs s_Machine_push_number) (defBody s_Machine_push_number) (defScope s_Machine_push_number) .none kV_Machine_push_number dc_Machine_push_number pm_Machine_push_number an_Machine_push_number cd_Machine_push_number ct_Machine_push_number), sl_Machine_push_number⟩)
    (q_Machine_push_number : PySem.W.codeIn K cd_Machine_push_number "Machine.push_number" = true)
    (k_Machine_push_number : PySem.W.keepIn K (.ref f_Machine_push_number) = true)
    (a_Machine_combine : PySem.W.findIn K (.ref C_Machine) "combine" = some (some (.ref f_Machine_combine)))
    (i_Machine_combine : PySem.W.isFn K (.ref f_Machine_combine) = true)
    (l_Machine_combine : K.lookup f_Machine_combine = some ⟨oc_Machine_combine, od_Machine_combine, .func (PySem.W.fnOf "combine" "Machine.combine" (defArgs s_Machine_combine) (defBody s_Machine_combine) (defScope s_Machine_combine) .none kV_Machine_combine dc_Machine_combine pm_Machine_combine an_Machine_combine cd_Machine_combine ct_Machine_combine), sl_Machine_combine⟩)
    (q_Machine_combine : PySem.W.codeIn K cd_Machine_combine "Machine.combine" = true)
    (k_Machine_combine : PySem.W.keepIn K (.ref f_Machine_combine) = true)
    (a_Machine_move : PySem.W.findIn K (.ref C_Machine) "move" = some (some (.ref f_Machine_move)))
    (i_Machine_move : PySem.W.isFn K (.ref f_Machine_move) = true)
    (l_Machine_move : K.lookup f_Machine_move = some ⟨oc_Machine_move, od_Machine_move, .func (PySem.W.fnOf "move" "Machine.move" (defArgs s_Machine_move) (defBody s_Machine_move) (defScope s_Machine_move) .none kV_Machine_move dc_Machine_move pm_Machine_move an_Machine_move cd_Machine_move ct_Machine_move), sl_Machine_move⟩)
    (q_Machine_move : PySem.W.codeIn K cd_Machine_move "Machine.move" = true)
    (k_Machine_move : PySem.W.keepIn K (.ref f_Machine_move) = true)
    (a_Machine_jump : PySem.W.findIn K (.ref C_Machine) "jump" = some (some (.ref f_Machine_jump)))
    (i_Machine_jump : PySem.W.isFn K (.ref f_Machine_jump) = true)
    (l_Machine_jump : K.lookup f_Machine_jump = some ⟨oc_Machine_jump, od_Machine_jump, .func (PySem.W.fnOf "jump" "Machine.jump" (defArgs s_Machine_jump) (defBody s_Machine_jump) (defScope s_Machine_jump) .none kV_Machine_jump dc_Machine_jump pm_Machine_jump an_Machine_jump cd_Machine_jump ct_Machine_jump), sl_Machine_jump⟩)
    (q_Machine_jump : PySem.W.codeIn K cd_Machine_jump "Machine.jump" = true)
    (k_Machine_jump : PySem.W.keepIn K (.ref f_Machine_jump) = true)
    (a_Machine_settle : PySem.W.findIn K (.ref C_Machine) "settle" = some (some (.ref f_Machine_settle)))
    (i_Machine_settle : PySem.W.isFn K (.ref f_Machine_settle) = true)
    (l_Machine_settle : K.lookup f_Machine_settle = some ⟨oc_Machine_settle, od_Machine_settle, .func (PySem.W.fnOf "settle" "Machine.settle" (defArgs s_Machine_settle) (defBody s_Machine_settle) (defScope s_Machine_settle) .none kV_Machine_settle dc_Machine_settle pm_Machine_settle an_Machine_settle cd_Machine_settle ct_Machine_settle), sl_Machine_settle⟩)
    (q_Machine_settle : PySem.W.codeIn K cd_Machine_settle "Machine.settle" = true)
    (k_Machine_settle : PySem.W.keepIn K (.ref f_Machine_settle) = true)
    (a_Machine_perform : PySem.W.findIn K (.ref C_Machine) "perform" = some (some (.ref f_Machine_perform)))
    (i_Machine_perform : PySem.W.isFn K (.ref f_Machine_perform) = true)
    (l_Machine_perform : K.lookup f_Machine_perform = some ⟨oc_Machine_perform, od_Machine_perform, .func (PySem.W.fnOf "perform" "Machine.perform" (defArgs s_Machine_perform) (defBody s_Machine_perform) (defScope s_Machine_perform) .none kV_Machine_perform dc_Machine_perform pm_Machine_perform an_Machine_perform cd_Machine_perform ct_Machine_perform), sl_Machine_perform⟩)
    (q_Machine_perform : PySem.W.codeIn K cd_Machine_perform "Machine.perform" = true)
    (k_Machine_perform : PySem.W.keepIn K (.ref f_Machine_perform) = true)
    (a_Machine_finish : PySem.W.findIn K (.ref C_Machine) "finish" = some (some (.ref f_Machine_finish)))
    (i_Machine_finish : PySem.W.isFn K (.ref f_Machine_finish) = true)
    (l_Machine_finish : K.lookup f_Machine_finish = some ⟨oc_Machine_finish, od_Machine_finish, .func (PySem.W.fnOf "finish" "Machine.finish" (defArgs s_Machine_finish) (defBody s_Machine_finish) (defScope s_Machine_finish) .none kV_Machine_finish dc_Machine_finish pm_Machine_finish an_Machine_finish cd_Machine_finish ct_Machine_finish), sl_Machine_finish⟩)
    (q_Machine_finish : PySem.W.codeIn K cd_Machine_finish "Machine.finish" = true)
    (k_Machine_finish : PySem.W.keepIn K (.ref f_Machine_finish) = true)
    (a_Ledger_init : PySem.W.findIn K (.ref C_Ledger) "__init__" = some (some (.ref f_Ledger_init)))
    (i_Ledger_init : PySem.W.isFn K (.ref f_Ledger_init) = true)
    (l_Ledger_init : K.lookup f_Ledger_init = some ⟨oc_Ledger_init, od_Ledger_init, .func (PySem.W.fnOf "__init__" "Ledger.__init__" (defArgs s_Ledger_init) (defBody s_Ledger_init) (defScope s_Ledger_init) .none kV_Ledger_init dc_Ledger_init pm_Ledger_init an_Ledger_init cd_Ledger_init ct_Ledger_init), sl_Ledger_init⟩)
    (q_Ledger_init : PySem.W.codeIn K cd_Ledger_init "Ledger.__init__" = true)
    (k_Ledger_init : PySem.W.keepIn K (.ref f_Ledger_init) = true)
    (a_first_ledger : PySem.W.nsIn K mainGlobals "first_ledger" = some (some (.ref f_first_ledger)))
    (l_first_ledger : K.lookup f_first_ledger = some ⟨oc_first_ledger, od_first_ledger, .func (PySem.W.fnOf "first_ledger" "first_ledger" (defArgs s_first_ledger) (defBody s_first_ledger) (defScope s_first_ledger) .none kV_first_ledger dc_first_ledger pm_first_ledger an_first_ledger cd_first_ledger ct_first_ledger), sl_first_ledger⟩)
    (q_first_ledger : PySem.W.codeIn K cd_first_ledger "first_ledger" = true)
    (k_first_ledger : PySem.W.keepIn K (.ref f_first_ledger) = true)
    (a_after_command : PySem.W.nsIn K mainGlobals "after_command" = some (some (.ref f_after_command)))
    (l_after_command : K.lookup f_after_command = some ⟨oc_after_command, od_after_command, .func (PySem.W.fnOf "after_command" "after_command" (defArgs s_after_command) (defBody s_after_command) (defScope s_after_command) .none kV_after_command dc_after_command pm_after_command an_after_command cd_after_command ct_after_command), sl_after_command⟩)
    (q_after_command : PySem.W.codeIn K cd_after_command "after_command" = true)
    (k_after_command : PySem.W.keepIn K (.ref f_after_command) = true)
    (a_done : PySem.W.nsIn K mainGlobals "_done" = some (some (.ref f_done)))
    (l_done : K.lookup f_done = some ⟨oc_done, od_done, .func (PySem.W.fnOf "_done" "_done" (defArgs s_done) (defBody s_done) (defScope s_done) .none kV_done dc_done pm_done an_done cd_done ct_done), sl_done⟩)
    (q_done : PySem.W.codeIn K cd_done "_done" = true)
    (k_done : PySem.W.keepIn K (.ref f_done) = true)
    (a_payment : PySem.W.nsIn K mainGlobals "_payment" = some (some (.ref f_payment)))
    (l_payment : K.lookup f_payment = some ⟨oc_payment, od_payment, .func (PySem.W.fnOf "_payment" "_payment" (defArgs s_payment) (defBody s_payment) (defScope s_payment) .none kV_payment dc_payment pm_payment an_payment cd_payment ct_payment), sl_payment⟩)
    (q_payment : PySem.W.codeIn K cd_payment "_payment" = true)
    (k_payment : PySem.W.keepIn K (.ref f_payment) = true)
    (a_new_program : PySem.W.nsIn K mainGlobals "_new_program" = some (some (.ref f_new_program)))
    (l_new_program : K.lookup f_new_program = some ⟨oc_new_program, od_new_program, .func (PySem.W.fnOf "_new_program" "_new_program" (defArgs s_new_program) (defBody s_new_program) (defScope s_new_program) .none kV_new_program dc_new_program pm_new_program an_new_program cd_new_program ct_new_program), sl_new_program⟩)
    (q_new_program : PySem.W.codeIn K cd_new_program "_new_program" = true)
    (k_new_program : PySem.W.keepIn K (.ref f_new_program) = true)
    (a_call : PySem.W.nsIn K mainGlobals "_call" = some (some (.ref f_call)))
    (l_call : K.lookup f_call = some ⟨oc_call, od_call, .func (PySem.W.fnOf "_call" "_call" (defArgs s_call) (defBody s_call) (defScope s_call) .none kV_call dc_call pm_call an_call cd_call ct_call), sl_call⟩)
    (q_call : PySem.W.codeIn K cd_call "_call" = true)
    (k_call : PySem.W.keepIn K (.ref f_call) = true)
    (a_exist : PySem.W.nsIn K mainGlobals "_exist" = some (some (.ref f_exist)))
    (l_exist : K.lookup f_exist = some ⟨oc_exist, od_exist, .func (PySem.W.fnOf "_exist" "_exist" (defArgs s_exist) (defBody s_exist) (defScope s_exist) .none kV_exist dc_exist pm_exist an_exist cd_exist ct_exist), sl_exist⟩)
    (q_exist : PySem.W.codeIn K cd_exist "_exist" = true)
    (k_exist : PySem.W.keepIn K (.ref f_exist) = true)
    (a_moved : PySem.W.nsIn K mainGlobals "_moved" = some (some (.ref f_moved)))
    (l_moved : K.lookup f_moved = some ⟨oc_moved, od_moved, .func (PySem.W.fnOf "_moved" "_moved" (defArgs s_moved) (defBody s_moved) (defScope s_moved) .none kV_moved dc_moved pm_moved an_moved cd_moved ct_moved), sl_moved⟩)
    (q_moved : PySem.W.codeIn K cd_moved "_moved" = true)
    (k_moved : PySem.W.keepIn K (.ref f_moved) = true)
    (a_replaced : PySem.W.nsIn K mainGlobals "_replaced" = some (some (.ref f_replaced)))
    (l_replaced : K.lookup f_replaced = some ⟨oc_replaced, od_replaced, .func (PySem.W.fnOf "_replaced" "_replaced" (defArgs s_replaced) (defBody s_replaced) (defScope s_replaced) .none kV_replaced dc_replaced pm_replaced an_replaced cd_replaced ct_replaced), sl_replaced⟩)
    (q_replaced : PySem.W.codeIn K cd_replaced "_replaced" = true)
    (k_replaced : PySem.W.keepIn K (.ref f_replaced) = true)
    (a_first_wrong : PySem.W.nsIn K mainGlobals "_first_wrong" = some (some (.ref f_first_wrong)))
    (l_first_wrong : K.lookup f_first_wrong = some ⟨oc_first_wrong, od_first_wrong, .func (PySem.W.fnOf "_first_wrong" "_first_wrong" (defArgs s_first_wrong) (defBody s_first_wrong) (defScope s_first_wrong) .none kV_first_wrong dc_first_wrong pm_first_wrong an_first_wrong cd_first_wrong ct_first_wrong), sl_first_wrong⟩)
    (q_first_wrong : PySem.W.codeIn K cd_first_wrong "_first_wrong" = true)
    (k_first_wrong : PySem.W.keepIn K (.ref f_first_wrong) = true)
    (a_Committee_init : PySem.W.findIn K (.ref C_Committee) "__init__" = some (some (.ref f_Committee_init)))
    (i_Committee_init : PySem.W.isFn K (.ref f_Committee_init) = true)
    (l_Committee_init : K.lookup f_Committee_init = some ⟨oc_Committee_init, od_Committee_init, .func (PySem.W.fnOf "__init__" "Committee.__init__" (defArgs s_Committee_init) (defBody s_Committee_init) (defScope s_Committee_init) .none kV_Committee_init dc_Committee_init pm_Committee_init an_Committee_init cd_Committee_init ct_Committee_init), sl_Committee_init⟩)
    (q_Committee_init : PySem.W.codeIn K cd_Committee_init "Committee.__init__" = true)
    (k_Committee_init : PySem.W.keepIn K (.ref f_Committee_init) = true)
    (a_Chain_init : PySem.W.findIn K (.ref C_Chain) "__init__" = some (some (.ref f_Chain_init)))
    (i_Chain_init : PySem.W.isFn K (.ref f_Chain_init) = true)
    (l_Chain_init : K.lookup f_Chain_init = some ⟨oc_Chain_init, od_Chain_init, .func (PySem.W.fnOf "__init__" "Chain.__init__" (defArgs s_Chain_init) (defBody s_Chain_init) (defScope s_Chain_init) .none kV_Chain_init dc_Chain_init pm_Chain_init an_Chain_init cd_Chain_init ct_Chain_init), sl_Chain_init⟩)
    (q_Chain_init : PySem.W.codeIn K cd_Chain_init "Chain.__init__" = true)
    (k_Chain_init : PySem.W.keepIn K (.ref f_Chain_init) = true)
    (a_Chain_height : PySem.W.findIn K (.ref C_Chain) "height" = some (some (.ref f_Chain_height)))
    (i_Chain_height : PySem.W.isFn K (.ref f_Chain_height) = true)
    (l_Chain_height : K.lookup f_Chain_height = some ⟨oc_Chain_height, od_Chain_height, .func (PySem.W.fnOf "height" "Chain.height" (defArgs s_Chain_height) (defBody s_Chain_height) (defScope s_Chain_height) .none kV_Chain_height dc_Chain_height pm_Chain_height an_Chain_height cd_Chain_height ct_Chain_height), sl_Chain_height⟩)
    (q_Chain_height : PySem.W.codeIn K cd_Chain_height "Chain.height" = true)
    (k_Chain_height : PySem.W.keepIn K (.ref f_Chain_height) = true)
    (a_Chain_committee : PySem.W.findIn K (.ref C_Chain) "committee" = some (some (.ref f_Chain_committee)))
    (i_Chain_committee : PySem.W.isFn K (.ref f_Chain_committee) = true)
    (l_Chain_committee : K.lookup f_Chain_committee = some ⟨oc_Chain_committee, od_Chain_committee, .func (PySem.W.fnOf "committee" "Chain.committee" (defArgs s_Chain_committee) (defBody s_Chain_committee) (defScope s_Chain_committee) .none kV_Chain_committee dc_Chain_committee pm_Chain_committee an_Chain_committee cd_Chain_committee ct_Chain_committee), sl_Chain_committee⟩)
    (q_Chain_committee : PySem.W.codeIn K cd_Chain_committee "Chain.committee" = true)
    (k_Chain_committee : PySem.W.keepIn K (.ref f_Chain_committee) = true)
    (a_Chain_extend : PySem.W.findIn K (.ref C_Chain) "extend" = some (some (.ref f_Chain_extend)))
    (i_Chain_extend : PySem.W.isFn K (.ref f_Chain_extend) = true)
    (l_Chain_extend : K.lookup f_Chain_extend = some ⟨oc_Chain_extend, od_Chain_extend, .func (PySem.W.fnOf "extend" "Chain.extend" (defArgs s_Chain_extend) (defBody s_Chain_extend) (defScope s_Chain_extend) .none kV_Chain_extend dc_Chain_extend pm_Chain_extend an_Chain_extend cd_Chain_extend ct_Chain_extend), sl_Chain_extend⟩)
    (q_Chain_extend : PySem.W.codeIn K cd_Chain_extend "Chain.extend" = true)
    (k_Chain_extend : PySem.W.keepIn K (.ref f_Chain_extend) = true)
    (a_after_weight : PySem.W.nsIn K mainGlobals "_after_weight" = some (some (.ref f_after_weight)))
    (l_after_weight : K.lookup f_after_weight = some ⟨oc_after_weight, od_after_weight, .func (PySem.W.fnOf "_after_weight" "_after_weight" (defArgs s_after_weight) (defBody s_after_weight) (defScope s_after_weight) .none kV_after_weight dc_after_weight pm_after_weight an_after_weight cd_after_weight ct_after_weight), sl_after_weight⟩)
    (q_after_weight : PySem.W.codeIn K cd_after_weight "_after_weight" = true)
    (k_after_weight : PySem.W.keepIn K (.ref f_after_weight) = true)
    (a_law_cell : PySem.W.nsIn K mainGlobals "_law_cell" = some (some (.ref f_law_cell)))
    (l_law_cell : K.lookup f_law_cell = some ⟨oc_law_cell, od_law_cell, .func (PySem.W.fnOf "_law_cell" "_law_cell" (defArgs s_law_cell) (defBody s_law_cell) (defScope s_law_cell) .none kV_law_cell dc_law_cell pm_law_cell an_law_cell cd_law_cell ct_law_cell), sl_law_cell⟩)
    (q_law_cell : PySem.W.codeIn K cd_law_cell "_law_cell" = true)
    (k_law_cell : PySem.W.keepIn K (.ref f_law_cell) = true)
    (a_law_is_integer : PySem.W.nsIn K mainGlobals "_law_is_integer" = some (some (.ref f_law_is_integer)))
    (l_law_is_integer : K.lookup f_law_is_integer = some ⟨oc_law_is_integer, od_law_is_integer, .func (PySem.W.fnOf "_law_is_integer" "_law_is_integer" (defArgs s_law_is_integer) (defBody s_law_is_integer) (defScope s_law_is_integer) .none kV_law_is_integer dc_law_is_integer pm_law_is_integer an_law_is_integer cd_law_is_integer ct_law_is_integer), sl_law_is_integer⟩)
    (q_law_is_integer : PySem.W.codeIn K cd_law_is_integer "_law_is_integer" = true)
    (k_law_is_integer : PySem.W.keepIn K (.ref f_law_is_integer) = true)
    (a_law_row : PySem.W.nsIn K mainGlobals "_law_row" = some (some (.ref f_law_row)))
    (l_law_row : K.lookup f_law_row = some ⟨oc_law_row, od_law_row, .func (PySem.W.fnOf "_law_row" "_law_row" (defArgs s_law_row) (defBody s_law_row) (defScope s_law_row) .none kV_law_row dc_law_row pm_law_row an_law_row cd_law_row ct_law_row), sl_law_row⟩)
    (q_law_row : PySem.W.codeIn K cd_law_row "_law_row" = true)
    (k_law_row : PySem.W.keepIn K (.ref f_law_row) = true)
    (a_law_weights : PySem.W.nsIn K mainGlobals "_law_weights" = some (some (.ref f_law_weights)))
    (l_law_weights : K.lookup f_law_weights = some ⟨oc_law_weights, od_law_weights, .func (PySem.W.fnOf "_law_weights" "_law_weights" (defArgs s_law_weights) (defBody s_law_weights) (defScope s_law_weights) .none kV_law_weights dc_law_weights pm_law_weights an_law_weights cd_law_weights ct_law_weights), sl_law_weights⟩)
    (q_law_weights : PySem.W.codeIn K cd_law_weights "_law_weights" = true)
    (k_law_weights : PySem.W.keepIn K (.ref f_law_weights) = true)
    (a_law_number : PySem.W.nsIn K mainGlobals "_law_number" = some (some (.ref f_law_number)))
    (l_law_number : K.lookup f_law_number = some ⟨oc_law_number, od_law_number, .func (PySem.W.fnOf "_law_number" "_law_number" (defArgs s_law_number) (defBody s_law_number) (defScope s_law_number) .none kV_law_number dc_law_number pm_law_number an_law_number cd_law_number ct_law_number), sl_law_number⟩)
    (q_law_number : PySem.W.codeIn K cd_law_number "_law_number" = true)
    (k_law_number : PySem.W.keepIn K (.ref f_law_number) = true)
    (a_law_code : PySem.W.nsIn K mainGlobals "_law_code" = some (some (.ref f_law_code)))
    (l_law_code : K.lookup f_law_code = some ⟨oc_law_code, od_law_code, .func (PySem.W.fnOf "_law_code" "_law_code" (defArgs s_law_code) (defBody s_law_code) (defScope s_law_code) .none kV_law_code dc_law_code pm_law_code an_law_code cd_law_code ct_law_code), sl_law_code⟩)
    (q_law_code : PySem.W.codeIn K cd_law_code "_law_code" = true)
    (k_law_code : PySem.W.keepIn K (.ref f_law_code) = true)
    (a_law_place : PySem.W.nsIn K mainGlobals "_law_place" = some (some (.ref f_law_place)))
    (l_law_place : K.lookup f_law_place = some ⟨oc_law_place, od_law_place, .func (PySem.W.fnOf "_law_place" "_law_place" (defArgs s_law_place) (defBody s_law_place) (defScope s_law_place) .none kV_law_place dc_law_place pm_law_place an_law_place cd_law_place ct_law_place), sl_law_place⟩)
    (q_law_place : PySem.W.codeIn K cd_law_place "_law_place" = true)
    (k_law_place : PySem.W.keepIn K (.ref f_law_place) = true)
    (a_law_command : PySem.W.nsIn K mainGlobals "_law_command" = some (some (.ref f_law_command)))
    (l_law_command : K.lookup f_law_command = some ⟨oc_law_command, od_law_command, .func (PySem.W.fnOf "_law_command" "_law_command" (defArgs s_law_command) (defBody s_law_command) (defScope s_law_command) .none kV_law_command dc_law_command pm_law_command an_law_command cd_law_command ct_law_command), sl_law_command⟩)
    (q_law_command : PySem.W.codeIn K cd_law_command "_law_command" = true)
    (k_law_command : PySem.W.keepIn K (.ref f_law_command) = true)
    (a_law_text : PySem.W.nsIn K mainGlobals "_law_text" = some (some (.ref f_law_text)))
    (l_law_text : K.lookup f_law_text = some ⟨oc_law_text, od_law_text, .func (PySem.W.fnOf "_law_text" "_law_text" (defArgs s_law_text) (defBody s_law_text) (defScope s_law_text) .none kV_law_text dc_law_text pm_law_text an_law_text cd_law_text ct_law_text), sl_law_text⟩)
    (q_law_text : PySem.W.codeIn K cd_law_text "_law_text" = true)
    (k_law_text : PySem.W.keepIn K (.ref f_law_text) = true)
    (a_law_fitting : PySem.W.nsIn K mainGlobals "_law_fitting" = some (some (.ref f_law_fitting)))
    (l_law_fitting : K.lookup f_law_fitting = some ⟨oc_law_fitting, od_law_fitting, .func (PySem.W.fnOf "_law_fitting" "_law_fitting" (defArgs s_law_fitting) (defBody s_law_fitting) (defScope s_law_fitting) .none kV_law_fitting dc_law_fitting pm_law_fitting an_law_fitting cd_law_fitting ct_law_fitting), sl_law_fitting⟩)
    (q_law_fitting : PySem.W.codeIn K cd_law_fitting "_law_fitting" = true)
    (k_law_fitting : PySem.W.keepIn K (.ref f_law_fitting) = true)
    (a_law_reckon : PySem.W.nsIn K mainGlobals "_law_reckon" = some (some (.ref f_law_reckon)))
    (l_law_reckon : K.lookup f_law_reckon = some ⟨oc_law_reckon, od_law_reckon, .func (PySem.W.fnOf "_law_reckon" "_law_reckon" (defArgs s_law_reckon) (defBody s_law_reckon) (defScope s_law_reckon) .none kV_law_reckon dc_law_reckon pm_law_reckon an_law_reckon cd_law_reckon ct_law_reckon), sl_law_reckon⟩)
    (q_law_reckon : PySem.W.codeIn K cd_law_reckon "_law_reckon" = true)
    (k_law_reckon : PySem.W.keepIn K (.ref f_law_reckon) = true)
    (a_law_need : PySem.W.nsIn K mainGlobals "_law_need" = some (some (.ref f_law_need)))
    (l_law_need : K.lookup f_law_need = some ⟨oc_law_need, od_law_need, .func (PySem.W.fnOf "_law_need" "_law_need" (defArgs s_law_need) (defBody s_law_need) (defScope s_law_need) .none kV_law_need dc_law_need pm_law_need an_law_need cd_law_need ct_law_need), sl_law_need⟩)
    (q_law_need : PySem.W.codeIn K cd_law_need "_law_need" = true)
    (k_law_need : PySem.W.keepIn K (.ref f_law_need) = true)
    (a_law_act : PySem.W.nsIn K mainGlobals "_law_act" = some (some (.ref f_law_act)))
    (l_law_act : K.lookup f_law_act = some ⟨oc_law_act, od_law_act, .func (PySem.W.fnOf "_law_act" "_law_act" (defArgs s_law_act) (defBody s_law_act) (defScope s_law_act) .none kV_law_act dc_law_act pm_law_act an_law_act cd_law_act ct_law_act), sl_law_act⟩)
    (q_law_act : PySem.W.codeIn K cd_law_act "_law_act" = true)
    (k_law_act : PySem.W.keepIn K (.ref f_law_act) = true)
    (a_law_sign : PySem.W.nsIn K mainGlobals "_law_sign" = some (some (.ref f_law_sign)))
    (l_law_sign : K.lookup f_law_sign = some ⟨oc_law_sign, od_law_sign, .func (PySem.W.fnOf "_law_sign" "_law_sign" (defArgs s_law_sign) (defBody s_law_sign) (defScope s_law_sign) .none kV_law_sign dc_law_sign pm_law_sign an_law_sign cd_law_sign ct_law_sign), sl_law_sign⟩)
    (q_law_sign : PySem.W.codeIn K cd_law_sign "_law_sign" = true)
    (k_law_sign : PySem.W.keepIn K (.ref f_law_sign) = true)
    (a_law_run : PySem.W.nsIn K mainGlobals "_law_run" = some (some (.ref f_law_run)))
    (l_law_run : K.lookup f_law_run = some ⟨oc_law_run, od_law_run, .func (PySem.W.fnOf "_law_run" "_law_run" (defArgs s_law_run) (defBody s_law_run) (defScope s_law_run) .none kV_law_run dc_law_run pm_law_run an_law_run cd_law_run ct_law_run), sl_law_run⟩)
    (q_law_run : PySem.W.codeIn K cd_law_run "_law_run" = true)
    (k_law_run : PySem.W.keepIn K (.ref f_law_run) = true)
    (a_law_after : PySem.W.nsIn K mainGlobals "_law_after" = some (some (.ref f_law_after)))
    (l_law_after : K.lookup f_law_after = some ⟨oc_law_after, od_law_after, .func (PySem.W.fnOf "_law_after" "_law_after" (defArgs s_law_after) (defBody s_law_after) (defScope s_law_after) .none kV_law_after dc_law_after pm_law_after an_law_after cd_law_after ct_law_after), sl_law_after⟩)
    (q_law_after : PySem.W.codeIn K cd_law_after "_law_after" = true)
    (k_law_after : PySem.W.keepIn K (.ref f_law_after) = true)
    (a_law_pairs : PySem.W.nsIn K mainGlobals "_law_pairs" = some (some (.ref f_law_pairs)))
    (l_law_pairs : K.lookup f_law_pairs = some ⟨oc_law_pairs, od_law_pairs, .func (PySem.W.fnOf "_law_pairs" "_law_pairs" (defArgs s_law_pairs) (defBody s_law_pairs) (defScope s_law_pairs) .none kV_law_pairs dc_law_pairs pm_law_pairs an_law_pairs cd_law_pairs ct_law_pairs), sl_law_pairs⟩)
    (q_law_pairs : PySem.W.codeIn K cd_law_pairs "_law_pairs" = true)
    (k_law_pairs : PySem.W.keepIn K (.ref f_law_pairs) = true)
    (a_law_shows : PySem.W.nsIn K mainGlobals "_law_shows" = some (some (.ref f_law_shows)))
    (l_law_shows : K.lookup f_law_shows = some ⟨oc_law_shows, od_law_shows, .func (PySem.W.fnOf "_law_shows" "_law_shows" (defArgs s_law_shows) (defBody s_law_shows) (defScope s_law_shows) .none kV_law_shows dc_law_shows pm_law_shows an_law_shows cd_law_shows ct_law_shows), sl_law_shows⟩)
    (q_law_shows : PySem.W.codeIn K cd_law_shows "_law_shows" = true)
    (k_law_shows : PySem.W.keepIn K (.ref f_law_shows) = true)
    (a_law_block : PySem.W.nsIn K mainGlobals "_law_block" = some (some (.ref f_law_block)))
    (l_law_block : K.lookup f_law_block = some ⟨oc_law_block, od_law_block, .func (PySem.W.fnOf "_law_block" "_law_block" (defArgs s_law_block) (defBody s_law_block) (defScope s_law_block) .none kV_law_block dc_law_block pm_law_block an_law_block cd_law_block ct_law_block), sl_law_block⟩)
    (q_law_block : PySem.W.codeIn K cd_law_block "_law_block" = true)
    (k_law_block : PySem.W.keepIn K (.ref f_law_block) = true)
    (a_law : PySem.W.nsIn K mainGlobals "law" = some (some (.ref f_law)))
    (l_law : K.lookup f_law = some ⟨oc_law, od_law, .func (PySem.W.fnOf "law" "law" (defArgs s_law) (defBody s_law) (defScope s_law) .none kV_law dc_law pm_law an_law cd_law ct_law), sl_law⟩)
    (q_law : PySem.W.codeIn K cd_law "law" = true)
    (k_law : PySem.W.keepIn K (.ref f_law) = true)
    (pg_Reader : PySem.W.plainGet K C_Reader Str.empty = true)
    (hd_Reader : PySem.W.hasDictIn K C_Reader = true)
    (po_Reader : PySem.W.plainOver K C_Reader = true)
    (sa_Reader : PySem.W.findIn K (.ref C_Reader) "__setattr__" = some (some (.builtin "object.__setattr__")))
    (mk_Reader : PySem.W.makesIn K C_Reader = true)
    (kc_Reader : PySem.W.keepIn K (.ref C_Reader) = true)
    (no_Reader_text : PySem.W.findIn K (.ref C_Reader) "text" = some none)
    (no_Reader_at : PySem.W.findIn K (.ref C_Reader) "at" = some none)
    (pg_Run : PySem.W.plainGet K C_Run Str.empty = true)
    (hd_Run : PySem.W.hasDictIn K C_Run = true)
    (po_Run : PySem.W.plainOver K C_Run = true)
    (sa_Run : PySem.W.findIn K (.ref C_Run) "__setattr__" = some (some (.builtin "object.__setattr__")))
    (mk_Run : PySem.W.makesIn K C_Run = true)
    (kc_Run : PySem.W.keepIn K (.ref C_Run) = true)
    (no_Run_well : PySem.W.findIn K (.ref C_Run) "well" = some none)
    (no_Run_store : PySem.W.findIn K (.ref C_Run) "store" = some none)
    (no_Run_paid : PySem.W.findIn K (.ref C_Run) "paid" = some none)
    (no_Run_steps : PySem.W.findIn K (.ref C_Run) "steps" = some none)
    (pg_Machine : PySem.W.plainGet K C_Machine Str.empty = true)
    (hd_Machine : PySem.W.hasDictIn K C_Machine = true)
    (po_Machine : PySem.W.plainOver K C_Machine = true)
    (sa_Machine : PySem.W.findIn K (.ref C_Machine) "__setattr__" = some (some (.builtin "object.__setattr__")))
    (mk_Machine : PySem.W.makesIn K C_Machine = true)
    (kc_Machine : PySem.W.keepIn K (.ref C_Machine) = true)
    (no_Machine_code : PySem.W.findIn K (.ref C_Machine) "code" = some none)
    (no_Machine_given : PySem.W.findIn K (.ref C_Machine) "given" = some none)
    (no_Machine_amount : PySem.W.findIn K (.ref C_Machine) "amount" = some none)
    (no_Machine_store : PySem.W.findIn K (.ref C_Machine) "store" = some none)
    (no_Machine_stack : PySem.W.findIn K (.ref C_Machine) "stack" = some none)
    (no_Machine_place : PySem.W.findIn K (.ref C_Machine) "place" = some none)
    (no_Machine_paid : PySem.W.findIn K (.ref C_Machine) "paid" = some none)
    (no_Machine_steps : PySem.W.findIn K (.ref C_Machine) "steps" = some none)
    (pg_Ledger : PySem.W.plainGet K C_Ledger Str.empty = true)
    (hd_Ledger : PySem.W.hasDictIn K C_Ledger = true)
    (po_Ledger : PySem.W.plainOver K C_Ledger = true)
    (sa_Ledger : PySem.W.findIn K (.ref C_Ledger) "__setattr__" = some (some (.builtin "object.__setattr__")))
    (mk_Ledger : PySem.W.makesIn K C_Ledger = true)
    (kc_Ledger : PySem.W.keepIn K (.ref C_Ledger) = true)
    (no_Ledger_balances : PySem.W.findIn K (.ref C_Ledger) "balances" = some none)
    (no_Ledger_codes : PySem.W.findIn K (.ref C_Ledger) "codes" = some none)
    (no_Ledger_stores : PySem.W.findIn K (.ref C_Ledger) "stores" = some none)
    (pg_Committee : PySem.W.plainGet K C_Committee Str.empty = true)
    (hd_Committee : PySem.W.hasDictIn K C_Committee = true)
    (po_Committee : PySem.W.plainOver K C_Committee = true)
    (sa_Committee : PySem.W.findIn K (.ref C_Committee) "__setattr__" = some (some (.builtin "object.__setattr__")))
    (mk_Committee : PySem.W.makesIn K C_Committee = true)
    (kc_Committee : PySem.W.keepIn K (.ref C_Committee) = true)
    (no_Committee_weights : PySem.W.findIn K (.ref C_Committee) "weights" = some none)
    (no_Committee_size : PySem.W.findIn K (.ref C_Committee) "size" = some none)
    (no_Committee_total : PySem.W.findIn K (.ref C_Committee) "total" = some none)
    (pg_Chain : PySem.W.plainGet K C_Chain Str.empty = true)
    (hd_Chain : PySem.W.hasDictIn K C_Chain = true)
    (po_Chain : PySem.W.plainOver K C_Chain = true)
    (sa_Chain : PySem.W.findIn K (.ref C_Chain) "__setattr__" = some (some (.builtin "object.__setattr__")))
    (mk_Chain : PySem.W.makesIn K C_Chain = true)
    (kc_Chain : PySem.W.keepIn K (.ref C_Chain) = true)
    (no_Chain_blocks : PySem.W.findIn K (.ref C_Chain) "blocks" = some none)
    (no_Chain_receipts : PySem.W.findIn K (.ref C_Chain) "receipts" = some none)
    (no_Chain_committees : PySem.W.findIn K (.ref C_Chain) "committees" = some none)
    (no_Chain_ledgers : PySem.W.findIn K (.ref C_Chain) "ledgers" = some none)
    (g_MARKS : PySem.W.nsIn K mainGlobals "MARKS" = some (some (.ref P_MARKS)))
    (l_MARKS : K.lookup P_MARKS = some ⟨.type "dict", none, .dict #[⟨h_MARKS_p, .str "p" t_MARKS_p, .ref M_MARKS_p⟩, ⟨h_MARKS_w, .str "w" t_MARKS_w, .ref M_MARKS_w⟩, ⟨h_MARKS_d, .str "d" t_MARKS_d, .ref M_MARKS_d⟩, ⟨h_MARKS_k, .str "k" t_MARKS_k, .ref M_MARKS_k⟩] n_MARKS, #[]⟩)
    (kl_MARKS : PySem.W.KeysLit w.params [⟨h_MARKS_p, .str "p" t_MARKS_p, .ref M_MARKS_p⟩, ⟨h_MARKS_w, .str "w" t_MARKS_w, .ref M_MARKS_w⟩, ⟨h_MARKS_d, .str "d" t_MARKS_d, .ref M_MARKS_d⟩, ⟨h_MARKS_k, .str "k" t_MARKS_k, .ref M_MARKS_k⟩])
    (lo_MARKS : (P_MARKS == sysModules) = false)
    (l_MARKS_p : K.lookup M_MARKS_p = some ⟨.type "tuple", od_MARKS_p, .seq #[.str "p" t0_MARKS_p, .str "q" t1_MARKS_p, .str "r" t2_MARKS_p] n_MARKS_p, sl_MARKS_p⟩)
    (l_MARKS_w : K.lookup M_MARKS_w = some ⟨.type "tuple", od_MARKS_w, .seq #[.str "w" t0_MARKS_w, .str "x" t1_MARKS_w] n_MARKS_w, sl_MARKS_w⟩)
    (l_MARKS_d : K.lookup M_MARKS_d = some ⟨.type "tuple", od_MARKS_d, .seq #[.str "d" t0_MARKS_d, .str "z" t1_MARKS_d] n_MARKS_d, sl_MARKS_d⟩)
    (l_MARKS_k : K.lookup M_MARKS_k = some ⟨.type "tuple", od_MARKS_k, .seq #[.str "k" t0_MARKS_k, .str "b" t1_MARKS_k, .str "v" t2_MARKS_k] n_MARKS_k, sl_MARKS_k⟩)
    (g_BadCommand : PySem.W.nsIn K mainGlobals "BadCommand" = some (some (.ref C_BadCommand)))
    (x_BadCommand : PySem.W.excIn K C_BadCommand [.type "ValueError", .type "Exception", .type "BaseException", .type "object"] "ValueError.__new__" = true)
    (kc_BadCommand : PySem.W.keepIn K (.ref C_BadCommand) = true)
    (b_BadCommand : PySem.W.subIn K (.ref C_BadCommand) (.type "BaseException") = some true)
    (t_BadCommand : PySem.W.typeIn K (.ref C_BadCommand) = some (.type "type"))
    (xga_BadCommand : PySem.W.findIn K (.ref C_BadCommand) "__getattribute__" = some (some (.builtin "BaseException.__getattribute__")))
    (xgt_BadCommand : PySem.W.findIn K (.ref C_BadCommand) "__getattr__" = some none)
    (xhd_BadCommand : PySem.W.hasDictIn K C_BadCommand = true)
    (xcc_BadCommand : PySem.W.findIn K (.ref C_BadCommand) "__class__" = some (some (.builtin "object.__class__")))
    (xsp_BadCommand : PySem.W.specialIn K (.builtin "object.__class__") "__get__" = some (some (.builtin "getset_descriptor.__get__")))
    (xtk_BadCommand : PySem.W.takesIn K (.builtin "object.__class__") = some true)
    (xmo_BadCommand : PySem.W.mroIn K C_BadCommand (.type "object") = some true)
    (te1_BadCommand : PySem.W.subIn K (.ref C_BadCommand) (.type "BaseException") = some true)
    (te2_BadCommand : PySem.W.hasDictIn K C_BadCommand = true)
    (te3_BadCommand : PySem.W.typeIn K (.ref C_BadCommand) = some (.type "type"))
    (te4_BadCommand_BadCommand : PySem.W.subIn K (.ref C_BadCommand) (.ref C_BadCommand) = some true)
    (g_OF_TWO : PySem.W.nsIn K mainGlobals "OF_TWO" = some (some (.ref P_OF_TWO)))
    (l_OF_TWO : K.lookup P_OF_TWO = some ⟨.type "dict", none, .dict #[⟨h_OF_TWO_a, .str "a" t_OF_TWO_a, .ref f_plus⟩, ⟨h_OF_TWO_s, .str "s" t_OF_TWO_s, .ref f_minus⟩, ⟨h_OF_TWO_m, .str "m" t_OF_TWO_m, .ref f_times⟩, ⟨h_OF_TWO_t, .str "t" t_OF_TWO_t, .ref f_append_digit⟩, ⟨h_OF_TWO_c, .str "c" t_OF_TWO_c, .ref f_is_less⟩, ⟨h_OF_TWO_e, .str "e" t_OF_TWO_e, .ref f_is_equal⟩] n_OF_TWO, #[]⟩)
    (kl_OF_TWO : PySem.W.KeysLit w.params [⟨h_OF_TWO_a, .str "a" t_OF_TWO_a, .ref f_plus⟩, ⟨h_OF_TWO_s, .str "s" t_OF_TWO_s, .ref f_minus⟩, ⟨h_OF_TWO_m, .str "m" t_OF_TWO_m, .ref f_times⟩, ⟨h_OF_TWO_t, .str "t" t_OF_TWO_t, .ref f_append_digit⟩, ⟨h_OF_TWO_c, .str "c" t_OF_TWO_c, .ref f_is_less⟩, ⟨h_OF_TWO_e, .str "e" t_OF_TWO_e, .ref f_is_equal⟩])
    (lo_OF_TWO : (P_OF_TWO == sysModules) = false)
    (g_Failed : PySem.W.nsIn K mainGlobals "Failed" = some (some (.ref C_Failed)))
    (x_Failed : PySem.W.excIn K C_Failed [.type "ValueError", .type "Exception", .type "BaseException", .type "object"] "ValueError.__new__" = true)
    (kc_Failed : PySem.W.keepIn K (.ref C_Failed) = true)
    (b_Failed : PySem.W.subIn K (.ref C_Failed) (.type "BaseException") = some true)
    (t_Failed : PySem.W.typeIn K (.ref C_Failed) = some (.type "type"))
    (xga_Failed : PySem.W.findIn K (.ref C_Failed) "__getattribute__" = some (some (.builtin "BaseException.__getattribute__")))
    (xgt_Failed : PySem.W.findIn K (.ref C_Failed) "__getattr__" = some none)
    (xhd_Failed : PySem.W.hasDictIn K C_Failed = true)
    (xcc_Failed : PySem.W.findIn K (.ref C_Failed) "__class__" = some (some (.builtin "object.__class__")))
    (xsp_Failed : PySem.W.specialIn K (.builtin "object.__class__") "__get__" = some (some (.builtin "getset_descriptor.__get__")))
    (xtk_Failed : PySem.W.takesIn K (.builtin "object.__class__") = some true)
    (xmo_Failed : PySem.W.mroIn K C_Failed (.type "object") = some true)
    (te1_Failed : PySem.W.subIn K (.ref C_Failed) (.type "BaseException") = some true)
    (te2_Failed : PySem.W.hasDictIn K C_Failed = true)
    (te3_Failed : PySem.W.typeIn K (.ref C_Failed) = some (.type "type"))
    (te4_Failed_Failed : PySem.W.subIn K (.ref C_Failed) (.ref C_Failed) = some true)
    (kt_Ledger_Ledger : PySem.W.kitOne K (.ref C_Ledger) (.ref C_Ledger) = some true)
    (icc_Ledger : PySem.W.findIn K (.ref C_Ledger) "__class__" = some (some (.builtin "object.__class__")))
    (isp_Ledger : PySem.W.specialIn K (.builtin "object.__class__") "__get__" = some (some (.builtin "getset_descriptor.__get__")))
    (itk_Ledger : PySem.W.takesIn K (.builtin "object.__class__") = some true)
    (imo_Ledger : PySem.W.mroIn K C_Ledger (.type "object") = some true) :
    ∃ fd : FuncData, (∀ (s : Shared) (v : Value), BindsTo s fd ⟨[v], []⟩ [("script", v)]) ∧ ∀ base : Heap, K.In base → base.Ns mainGlobals mg → FnOk l.prog w K mg base CX0 10 fa fd ["script"] (spLaw K) := by
  have e := hfa.symm.trans (PySem.W.mg_of X G a_law)
  cases e
  have T : Txt K mg ⟨C_Reader, C_Run, C_Machine, C_Ledger, C_Committee, C_Chain, f_Reader_init, f_Reader_read_signs, f_Reader_skip, f_Reader_read_number, f_Reader_read_code, f_Reader_read_command, f_commands_of, f_Run_init, f_run, f_plus, f_minus, f_times, f_append_digit, f_is_less, f_is_equal, f_Machine_init, f_Machine_push, f_Machine_take, f_Machine_push_number, f_Machine_combine, f_Machine_move, f_Machine_jump, f_Machine_settle, f_Machine_perform, f_Machine_finish, f_Ledger_init, f_first_ledger, f_after_command, f_done, f_payment, f_new_program, f_call, f_exist, f_moved, f_replaced, f_first_wrong, f_Committee_init, f_Chain_init, f_Chain_height, f_Chain_committee, f_Chain_extend, f_after_weight, f_law_cell, f_law_is_integer, f_law_row, f_law_weights, f_law_number, f_law_code, f_law_place, f_law_command, f_law_text, f_law_fitting, f_law_reckon, f_law_need, f_law_act, f_law_sign, f_law_run, f_law_after, f_law_pairs, f_law_shows, f_law_block, P_MARKS, M_MARKS_p, M_MARKS_w, M_MARKS_d, M_MARKS_k, C_BadCommand, C_Failed, P_OF_TWO⟩ := {
    n_len := mg_no X G n_len
    n_range := mg_no X G n_range
    n_isinstance := mg_no X G n_isinstance
    n_int := mg_no X G n_int
    n_bool := mg_no X G n_bool
    n_list := mg_no X G n_list
    n_tuple := mg_no X G n_tuple
    n_str := mg_no X G n_str
    n_dict := mg_no X G n_dict
    n_sorted := mg_no X G n_sorted
    n_max := mg_no X G n_max
    n_abs := mg_no X G n_abs
    n_all := mg_no X G n_all
    n_sum := mg_no X G n_sum
    n_enumerate := mg_no X G n_enumerate
    c_SIGNS := ⟨_, PySem.W.mg_of X G c_SIGNS⟩
    c_DIGITS := ⟨_, PySem.W.mg_of X G c_DIGITS⟩
    c_MOST_DIGITS := ⟨_, PySem.W.mg_of X G c_MOST_DIGITS⟩
    c_CODE_END := ⟨_, PySem.W.mg_of X G c_CODE_END⟩
    c_MODULUS := ⟨_, PySem.W.mg_of X G c_MODULUS⟩
    c_MOST_VALUES := ⟨_, PySem.W.mg_of X G c_MOST_VALUES⟩
    c_MOST_STEPS := ⟨_, PySem.W.mg_of X G c_MOST_STEPS⟩
    c_MOST_MEMBERS := ⟨_, PySem.W.mg_of X G c_MOST_MEMBERS⟩
    c_MOST_WEIGHT := ⟨_, PySem.W.mg_of X G c_MOST_WEIGHT⟩
    g_Reader := PySem.W.mg_of X G g_Reader
    cl_Reader := ⟨pg_Reader, hd_Reader, po_Reader, sa_Reader⟩
    kc_Reader := kc_Reader
    mk_Reader := mk_Reader
    a_Reader_text := no_Reader_text
    a_Reader_at := no_Reader_at
    g_Run := PySem.W.mg_of X G g_Run
    cl_Run := ⟨pg_Run, hd_Run, po_Run, sa_Run⟩
    kc_Run := kc_Run
    mk_Run := mk_Run
    a_Run_well := no_Run_well
    a_Run_store := no_Run_store
    a_Run_paid := no_Run_paid
    a_Run_steps := no_Run_steps
    g_Machine := PySem.W.mg_of X G g_Machine
    cl_Machine := ⟨pg_Machine, hd_Machine, po_Machine, sa_Machine⟩
    kc_Machine := kc_Machine
    mk_Machine := mk_Machine
    a_Machine_code := no_Machine_code
    a_Machine_given := no_Machine_given
    a_Machine_amount := no_Machine_amount
    a_Machine_store := no_Machine_store
    a_Machine_stack := no_Machine_stack
    a_Machine_place := no_Machine_place
    a_Machine_paid := no_Machine_paid
    a_Machine_steps := no_Machine_steps
    g_Ledger := PySem.W.mg_of X G g_Ledger
    cl_Ledger := ⟨pg_Ledger, hd_Ledger, po_Ledger, sa_Ledger⟩
    kc_Ledger := kc_Ledger
    mk_Ledger := mk_Ledger
    a_Ledger_balances := no_Ledger_balances
    a_Ledger_codes := no_Ledger_codes
    a_Ledger_stores := no_Ledger_stores
    g_Committee := PySem.W.mg_of X G g_Committee
    cl_Committee := ⟨pg_Committee, hd_Committee, po_Committee, sa_Committee⟩
    kc_Committee := kc_Committee
    mk_Committee := mk_Committee
    a_Committee_weights := no_Committee_weights
    a_Committee_size := no_Committee_size
    a_Committee_total := no_Committee_total
    g_Chain := PySem.W.mg_of X G g_Chain
    cl_Chain := ⟨pg_Chain, hd_Chain, po_Chain, sa_Chain⟩
    kc_Chain := kc_Chain
    mk_Chain := mk_Chain
    a_Chain_blocks := no_Chain_blocks
    a_Chain_receipts := no_Chain_receipts
    a_Chain_committees := no_Chain_committees
    a_Chain_ledgers := no_Chain_ledgers
    d_Reader_init := ⟨def_mk l_Reader_init q_Reader_init k_Reader_init (fun _ _ _ _ _ _ us hl => match us, hl with | [_, _], _ => rfl), a_Reader_init, i_Reader_init, k_Reader_init⟩
    d_Reader_read_signs := ⟨def_mk l_Reader_read_signs q_Reader_read_signs k_Reader_read_signs (fun _ _ _ _ _ _ us hl => match us, hl with | [_, _], _ => rfl), a_Reader_read_signs, i_Reader_read_signs, k_Reader_read_signs⟩
    d_Reader_skip := ⟨def_mk l_Reader_skip q_Reader_skip k_Reader_skip (fun _ _ _ _ _ _ us hl => match us, hl with | [_, _], _ => rfl), a_Reader_skip, i_Reader_skip, k_Reader_skip⟩
    d_Reader_read_number := ⟨def_mk l_Reader_read_number q_Reader_read_number k_Reader_read_number (fun _ _ _ _ _ _ us hl => match us, hl with | [_], _ => rfl), a_Reader_read_number, i_Reader_read_number, k_Reader_read_number⟩
    d_Reader_read_code := ⟨def_mk l_Reader_read_code q_Reader_read_code k_Reader_read_code (fun _ _ _ _ _ _ us hl => match us, hl with | [_], _ => rfl), a_Reader_read_code, i_Reader_read_code, k_Reader_read_code⟩
    d_Reader_read_command := ⟨def_mk l_Reader_read_command q_Reader_read_command k_Reader_read_command (fun _ _ _ _ _ _ us hl => match us, hl with | [_], _ => rfl), a_Reader_read_command, i_Reader_read_command, k_Reader_read_command⟩
    d_commands_of := ⟨def_mk l_commands_of q_commands_of k_commands_of (fun _ _ _ _ _ _ us hl => match us, hl with | [_], _ => rfl), PySem.W.mg_of X G a_commands_of, k_commands_of⟩
    d_Run_init := ⟨def_mk l_Run_init q_Run_init k_Run_init (fun _ _ _ _ _ _ us hl => match us, hl with | [_, _, _, _, _], _ => rfl), a_Run_init, i_Run_init, k_Run_init⟩
    d_run := ⟨def_mk l_run q_run k_run (fun _ _ _ _ _ _ us hl => match us, hl with | [_, _, _, _], _ => rfl), PySem.W.mg_of X G a_run, k_run⟩
    d_plus := ⟨def_mk l_plus q_plus k_plus (fun _ _ _ _ _ _ us hl => match us, hl with | [_, _], _ => rfl), PySem.W.mg_of X G a_plus, k_plus⟩
    d_minus := ⟨def_mk l_minus q_minus k_minus (fun _ _ _ _ _ _ us hl => match us, hl with | [_, _], _ => rfl), PySem.W.mg_of X G a_minus, k_minus⟩
    d_times := ⟨def_mk l_times q_times k_times (fun _ _ _ _ _ _ us hl => match us, hl with | [_, _], _ => rfl), PySem.W.mg_of X G a_times, k_times⟩
    d_append_digit := ⟨def_mk l_append_digit q_append_digit k_append_digit (fun _ _ _ _ _ _ us hl => match us, hl with | [_, _], _ => rfl), PySem.W.mg_of X G a_append_digit, k_append_digit⟩
    d_is_less := ⟨def_mk l_is_less q_is_less k_is_less (fun _ _ _ _ _ _ us hl => match us, hl with | [_, _], _ => rfl), PySem.W.mg_of X G a_is_less, k_is_less⟩
    d_is_equal := ⟨def_mk l_is_equal q_is_equal k_is_equal (fun _ _ _ _ _ _ us hl => match us, hl with | [_, _], _ => rfl), PySem.W.mg_of X G a_is_equal, k_is_equal⟩
    d_Machine_init := ⟨def_mk l_Machine_init q_Machine_init k_Machine_init (fun _ _ _ _ _ _ us hl => match us, hl with | [_, _, _, _, _], _ => rfl), a_Machine_init, i_Machine_init, k_Machine_init⟩
    d_Machine_push := ⟨def_mk l_Machine_push q_Machine_push k_Machine_push (fun _ _ _ _ _ _ us hl => match us, hl with | [_, _], _ => rfl), a_Machine_push, i_Machine_push, k_Machine_push⟩
    d_Machine_take := ⟨def_mk l_Machine_take q_Machine_take k_Machine_take (fun _ _ _ _ _ _ us hl => match us, hl with | [_], _ => rfl), a_Machine_take, i_Machine_take, k_Machine_take⟩
    d_Machine_push_number := ⟨def_mk l_Machine_push_number q_Machine_push_number k_Machine_push_number (fun _ _ _ _ _ _ us hl => match us, hl with | [_, _], _ => rfl), a_Machine_push_number, i_Machine_push_number, k_Machine_push_number⟩
    d_Machine_combine := ⟨def_mk l_Machine_combine q_Machine_combine k_Machine_combine (fun _ _ _ _ _ _ us hl => match us, hl with | [_, _], _ => rfl), a_Machine_combine, i_Machine_combine, k_Machine_combine⟩
    d_Machine_move := ⟨def_mk l_Machine_move q_Machine_move k_Machine_move (fun _ _ _ _ _ _ us hl => match us, hl with | [_, _], _ => rfl), a_Machine_move, i_Machine_move, k_Machine_move⟩
    d_Machine_jump := ⟨def_mk l_Machine_jump q_Machine_jump k_Machine_jump (fun _ _ _ _ _ _ us hl => match us, hl with | [_, _], _ => rfl), a_Machine_jump, i_Machine_jump, k_Machine_jump⟩
    d_Machine_settle := ⟨def_mk l_Machine_settle q_Machine_settle k_Machine_settle (fun _ _ _ _ _ _ us hl => match us, hl with | [_, _], _ => rfl), a_Machine_settle, i_Machine_settle, k_Machine_settle⟩
    d_Machine_perform := ⟨def_mk l_Machine_perform q_Machine_perform k_Machine_perform (fun _ _ _ _ _ _ us hl => match us, hl with | [_, _], _ => rfl), a_Machine_perform, i_Machine_perform, k_Machine_perform⟩
    d_Machine_finish := ⟨def_mk l_Machine_finish q_Machine_finish k_Machine_finish (fun _ _ _ _ _ _ us hl => match us, hl with | [_], _ => rfl), a_Machine_finish, i_Machine_finish, k_Machine_finish⟩
    d_Ledger_init := ⟨def_mk l_Ledger_init q_Ledger_init k_Ledger_init (fun _ _ _ _ _ _ us hl => match us, hl with | [_, _, _, _], _ => rfl), a_Ledger_init, i_Ledger_init, k_Ledger_init⟩
    d_first_ledger := ⟨def_mk l_first_ledger q_first_ledger k_first_ledger (fun _ _ _ _ _ _ us hl => match us, hl with | [_], _ => rfl), PySem.W.mg_of X G a_first_ledger, k_first_ledger⟩
    d_after_command := ⟨def_mk l_after_command q_after_command k_after_command (fun _ _ _ _ _ _ us hl => match us, hl with | [_, _], _ => rfl), PySem.W.mg_of X G a_after_command, k_after_command⟩
    d_done := ⟨def_mk l_done q_done k_done (fun _ _ _ _ _ _ us hl => match us, hl with | [_, _], _ => rfl), PySem.W.mg_of X G a_done, k_done⟩
    d_payment := ⟨def_mk l_payment q_payment k_payment (fun _ _ _ _ _ _ us hl => match us, hl with | [_, _, _, _], _ => rfl), PySem.W.mg_of X G a_payment, k_payment⟩
    d_new_program := ⟨def_mk l_new_program q_new_program k_new_program (fun _ _ _ _ _ _ us hl => match us, hl with | [_, _, _], _ => rfl), PySem.W.mg_of X G a_new_program, k_new_program⟩
    d_call := ⟨def_mk l_call q_call k_call (fun _ _ _ _ _ _ us hl => match us, hl with | [_, _, _, _], _ => rfl), PySem.W.mg_of X G a_call, k_call⟩
    d_exist := ⟨def_mk l_exist q_exist k_exist (fun _ _ _ _ _ _ us hl => match us, hl with | [_, _], _ => rfl), PySem.W.mg_of X G a_exist, k_exist⟩
    d_moved := ⟨def_mk l_moved q_moved k_moved (fun _ _ _ _ _ _ us hl => match us, hl with | [_, _, _, _], _ => rfl), PySem.W.mg_of X G a_moved, k_moved⟩
    d_replaced := ⟨def_mk l_replaced q_replaced k_replaced (fun _ _ _ _ _ _ us hl => match us, hl with | [_, _, _], _ => rfl), PySem.W.mg_of X G a_replaced, k_replaced⟩
    d_first_wrong := ⟨def_mk l_first_wrong q_first_wrong k_first_wrong (fun _ _ _ _ _ _ us hl => match us, hl with | [_], _ => rfl), PySem.W.mg_of X G a_first_wrong, k_first_wrong⟩
    d_Committee_init := ⟨def_mk l_Committee_init q_Committee_init k_Committee_init (fun _ _ _ _ _ _ us hl => match us, hl with | [_, _], _ => rfl), a_Committee_init, i_Committee_init, k_Committee_init⟩
    d_Chain_init := ⟨def_mk l_Chain_init q_Chain_init k_Chain_init (fun _ _ _ _ _ _ us hl => match us, hl with | [_, _, _], _ => rfl), a_Chain_init, i_Chain_init, k_Chain_init⟩
    d_Chain_height := ⟨def_mk l_Chain_height q_Chain_height k_Chain_height (fun _ _ _ _ _ _ us hl => match us, hl with | [_], _ => rfl), a_Chain_height, i_Chain_height, k_Chain_height⟩
    d_Chain_committee := ⟨def_mk l_Chain_committee q_Chain_committee k_Chain_committee (fun _ _ _ _ _ _ us hl => match us, hl with | [_], _ => rfl), a_Chain_committee, i_Chain_committee, k_Chain_committee⟩
    d_Chain_extend := ⟨def_mk l_Chain_extend q_Chain_extend k_Chain_extend (fun _ _ _ _ _ _ us hl => match us, hl with | [_, _], _ => rfl), a_Chain_extend, i_Chain_extend, k_Chain_extend⟩
    d_after_weight := ⟨def_mk l_after_weight q_after_weight k_after_weight (fun _ _ _ _ _ _ us hl => match us, hl with | [_, _], _ => rfl), PySem.W.mg_of X G a_after_weight, k_after_weight⟩
    d_law_cell := ⟨def_mk l_law_cell q_law_cell k_law_cell (fun _ _ _ _ _ _ us hl => match us, hl with | [_, _], _ => rfl), PySem.W.mg_of X G a_law_cell, k_law_cell⟩
    d_law_is_integer := ⟨def_mk l_law_is_integer q_law_is_integer k_law_is_integer (fun _ _ _ _ _ _ us hl => match us, hl with | [_], _ => rfl), PySem.W.mg_of X G a_law_is_integer, k_law_is_integer⟩
    d_law_row := ⟨def_mk l_law_row q_law_row k_law_row (fun _ _ _ _ _ _ us hl => match us, hl with | [_, _, _], _ => rfl), PySem.W.mg_of X G a_law_row, k_law_row⟩
    d_law_weights := ⟨def_mk l_law_weights q_law_weights k_law_weights (fun _ _ _ _ _ _ us hl => match us, hl with | [_, _], _ => rfl), PySem.W.mg_of X G a_law_weights, k_law_weights⟩
    d_law_number := ⟨def_mk l_law_number q_law_number k_law_number (fun _ _ _ _ _ _ us hl => match us, hl with | [_], _ => rfl), PySem.W.mg_of X G a_law_number, k_law_number⟩
    d_law_code := ⟨def_mk l_law_code q_law_code k_law_code (fun _ _ _ _ _ _ us hl => match us, hl with | [_], _ => rfl), PySem.W.mg_of X G a_law_code, k_law_code⟩
    d_law_place := ⟨def_mk l_law_place q_law_place k_law_place (fun _ _ _ _ _ _ us hl => match us, hl with | [_], _ => rfl), PySem.W.mg_of X G a_law_place, k_law_place⟩
    d_law_command := ⟨def_mk l_law_command q_law_command k_law_command (fun _ _ _ _ _ _ us hl => match us, hl with | [_, _], _ => rfl), PySem.W.mg_of X G a_law_command, k_law_command⟩
    d_law_text := ⟨def_mk l_law_text q_law_text k_law_text (fun _ _ _ _ _ _ us hl => match us, hl with | [_], _ => rfl), PySem.W.mg_of X G a_law_text, k_law_text⟩
    d_law_fitting := ⟨def_mk l_law_fitting q_law_fitting k_law_fitting (fun _ _ _ _ _ _ us hl => match us, hl with | [_], _ => rfl), PySem.W.mg_of X G a_law_fitting, k_law_fitting⟩
    d_law_reckon := ⟨def_mk l_law_reckon q_law_reckon k_law_reckon (fun _ _ _ _ _ _ us hl => match us, hl with | [_, _, _], _ => rfl), PySem.W.mg_of X G a_law_reckon, k_law_reckon⟩
    d_law_need := ⟨def_mk l_law_need q_law_need k_law_need (fun _ _ _ _ _ _ us hl => match us, hl with | [_], _ => rfl), PySem.W.mg_of X G a_law_need, k_law_need⟩
    d_law_act := ⟨def_mk l_law_act q_law_act k_law_act (fun _ _ _ _ _ _ us hl => match us, hl with | [_, _, _, _, _], _ => rfl), PySem.W.mg_of X G a_law_act, k_law_act⟩
    d_law_sign := ⟨def_mk l_law_sign q_law_sign k_law_sign (fun _ _ _ _ _ _ us hl => match us, hl with | [_, _, _, _, _, _], _ => rfl), PySem.W.mg_of X G a_law_sign, k_law_sign⟩
    d_law_run := ⟨def_mk l_law_run q_law_run k_law_run (fun _ _ _ _ _ _ us hl => match us, hl with | [_, _, _, _], _ => rfl), PySem.W.mg_of X G a_law_run, k_law_run⟩
    d_law_after := ⟨def_mk l_law_after q_law_after k_law_after (fun _ _ _ _ _ _ us hl => match us, hl with | [_, _], _ => rfl), PySem.W.mg_of X G a_law_after, k_law_after⟩
    d_law_pairs := ⟨def_mk l_law_pairs q_law_pairs k_law_pairs (fun _ _ _ _ _ _ us hl => match us, hl with | [_], _ => rfl), PySem.W.mg_of X G a_law_pairs, k_law_pairs⟩
    d_law_shows := ⟨def_mk l_law_shows q_law_shows k_law_shows (fun _ _ _ _ _ _ us hl => match us, hl with | [_, _], _ => rfl), PySem.W.mg_of X G a_law_shows, k_law_shows⟩
    d_law_block := ⟨def_mk l_law_block q_law_block k_law_block (fun _ _ _ _ _ _ us hl => match us, hl with | [_, _, _], _ => rfl), PySem.W.mg_of X G a_law_block, k_law_block⟩ }
  have TE : TxtE w K mg ⟨C_Reader, C_Run, C_Machine, C_Ledger, C_Committee, C_Chain, f_Reader_init, f_Reader_read_signs, f_Reader_skip, f_Reader_read_number, f_Reader_read_code, f_Reader_read_command, f_commands_of, f_Run_init, f_run, f_plus, f_minus, f_times, f_append_digit, f_is_less, f_is_equal, f_Machine_init, f_Machine_push, f_Machine_take, f_Machine_push_number, f_Machine_combine, f_Machine_move, f_Machine_jump, f_Machine_settle, f_Machine_perform, f_Machine_finish, f_Ledger_init, f_first_ledger, f_after_command, f_done, f_payment, f_new_program, f_call, f_exist, f_moved, f_replaced, f_first_wrong, f_Committee_init, f_Chain_init, f_Chain_height, f_Chain_committee, f_Chain_extend, f_after_weight, f_law_cell, f_law_is_integer, f_law_row, f_law_weights, f_law_number, f_law_code, f_law_place, f_law_command, f_law_text, f_law_fitting, f_law_reckon, f_law_need, f_law_act, f_law_sign, f_law_run, f_law_after, f_law_pairs, f_law_shows, f_law_block, P_MARKS, M_MARKS_p, M_MARKS_w, M_MARKS_d, M_MARKS_k, C_BadCommand, C_Failed, P_OF_TWO⟩ := {
    g_MARKS := PySem.W.mg_of X G g_MARKS
    tab_MARKS := ktab_mk l_MARKS kl_MARKS lo_MARKS ⟨⟨_, rfl, rfl⟩, ⟨_, rfl, rfl⟩, ⟨_, rfl, rfl⟩, ⟨_, rfl, rfl⟩, trivial⟩
    s_MARKS_p := fun H => .inr ⟨_, _, _, l_MARKS_p, rfl, rfl, (by show 3 ≤ sizeLine; decide), (.cons ⟨_, rfl⟩ (.cons ⟨_, rfl⟩ (.cons ⟨_, rfl⟩ .nil)))⟩
    s_MARKS_w := fun H => .inr ⟨_, _, _, l_MARKS_w, rfl, rfl, (by show 2 ≤ sizeLine; decide), (.cons ⟨_, rfl⟩ (.cons ⟨_, rfl⟩ .nil))⟩
    s_MARKS_d := fun H => .inr ⟨_, _, _, l_MARKS_d, rfl, rfl, (by show 2 ≤ sizeLine; decide), (.cons ⟨_, rfl⟩ (.cons ⟨_, rfl⟩ .nil))⟩
    s_MARKS_k := fun H => .inr ⟨_, _, _, l_MARKS_k, rfl, rfl, (by show 3 ≤ sizeLine; decide), (.cons ⟨_, rfl⟩ (.cons ⟨_, rfl⟩ (.cons ⟨_, rfl⟩ .nil)))⟩
    g_BadCommand := PySem.W.mg_of X G g_BadCommand
    x_BadCommand := x_BadCommand
    kc_BadCommand := kc_BadCommand
    b_BadCommand := b_BadCommand
    t_BadCommand := t_BadCommand
    xc_BadCommand := ⟨(PySem.W.any_some xhd_BadCommand).elim fun cd h => by rw [h.1]; rfl, xga_BadCommand, xgt_BadCommand, b_BadCommand, xhd_BadCommand, xcc_BadCommand, xsp_BadCommand, xtk_BadCommand, xmo_BadCommand⟩
    exm_BadCommand_BadCommand := PySem.W.exm_ref te1_BadCommand te2_BadCommand te3_BadCommand te4_BadCommand_BadCommand
    g_OF_TWO := PySem.W.mg_of X G g_OF_TWO
    tab_OF_TWO := ktab_mk l_OF_TWO kl_OF_TWO lo_OF_TWO ⟨⟨_, rfl, rfl⟩, ⟨_, rfl, rfl⟩, ⟨_, rfl, rfl⟩, ⟨_, rfl, rfl⟩, ⟨_, rfl, rfl⟩, ⟨_, rfl, rfl⟩, trivial⟩
    g_Failed := PySem.W.mg_of X G g_Failed
    x_Failed := x_Failed
    kc_Failed := kc_Failed
    b_Failed := b_Failed
    t_Failed := t_Failed
    xc_Failed := ⟨(PySem.W.any_some xhd_Failed).elim fun cd h => by rw [h.1]; rfl, xga_Failed, xgt_Failed, b_Failed, xhd_Failed, xcc_Failed, xsp_Failed, xtk_Failed, xmo_Failed⟩
    exm_Failed_Failed := PySem.W.exm_ref te1_Failed te2_Failed te3_Failed te4_Failed_Failed
    kt_Ledger_Ledger := kt_Ledger_Ledger
    ic_Ledger := ⟨icc_Ledger, isp_Ledger, itk_Ledger, imo_Ledger⟩ }
  have F5 := fun_mk (st := s_law) l_law q_law k_law
  exact ⟨PySem.W.fnOf "law" "law" (defArgs s_law) (defBody s_law) (defScope s_law) .none kV_law dc_law pm_law an_law cd_law ct_law, fun s v => .of_eq rfl, fun base _ _ => ok_law F5 TE T⟩
theorem walk {l : PySem.W.OpenLaw} {q : Program} {loose : List Str} {XP : (Str → Option Value) → Heap → Prop} {YP : World → Heap → Prop} {d : DefRec} {K : Params → PySem.W.Frag} (hn : l.most = some 63) (hdf : d.params.defaults = [])
    (hY : ∀ (w : World) (h : Heap), YP w h → (K w.params).In h)
    (F : ∀ (w : World) (mg : Str → Option Value) (fa : Addr) (h : Heap), (K w.params).In h → h.Ns mainGlobals mg → mg d.name = some (.ref fa) →
      ∃ fd : FuncData, (∀ (s : Shared) (u : Value), BindsTo s fd ⟨[u], []⟩ [("script", u)]) ∧ ∀ base : Heap, (K w.params).In base → base.Ns mainGlobals mg → FnOk l.prog w (K w.params) mg base CX0 10 fa fd ["script"] (spLaw (K w.params))) :
    PySem.W.WalkO q loose XP YP l.row.toRowW d [] (fun f vs => PySem.call f vs) :=
  L2.walk_of (n := 63) (k := 10) (x := "script") (CX := fun _ => CX0) (sp := fun w => spLaw (K w.params)) hn (by decide) hdf ⟨rfl, by decide, by decide⟩ hY F (fun _ _ a ns hl _ hS => ⟨a, ns, rfl, hS, hl, fun _ => rfl⟩) fun _ _ _ _ _ z => z
end Toy
namespace PySem.W.Fast
theorem tw5379491997595406900 : True := trivial
theorem tw6702489254163358118 : True := trivial
theorem tw7200296551792927901 : True := trivial
theorem tw12699048872309766440 : True := trivial
theorem tw14954083464572649952 : True := trivial
theorem tw15388914224834452771 : True := trivial
theorem tw16289075074481124260 : True := trivial
theorem tw10059471590118380159 : True := trivial
theorem tw6943403579539063714 : True := trivial
theorem tw15301128295036316593 : True := trivial
theorem tw14882520850911463513 : True := trivial
theorem tw1914754477118760737 : True := trivial
theorem tw3570553422888241816 : True := trivial
theorem tw2658684224078273317 : True := trivial
theorem tw11379564024049701168 : True := trivial
theorem tw15801220562858153950 : True := trivial
theorem tw2690956925712473449 : True := trivial
theorem tw12843355615752690484 : True := trivial
theorem tw3110697545920238488 : True := trivial
theorem tw12895789489271704745 : True := trivial
theorem tw15478344724641249324 : True := trivial
theorem tw1879278022637212581 : True := trivial
theorem tw3324015483709418728 : True := trivial
theorem tw6316946900510010826 : True := trivial
theorem tw10119742527388849695 : True := trivial
theorem tw3222587531462161662 : True := trivial
theorem tw5133662167505216486 : True := trivial
theorem tw889543280445031542 : True := trivial
theorem tw13772117857749413468 : True := trivial
theorem tw3495365714997213632 : True := trivial
theorem tw10429420637933476917 : True := trivial
theorem tw15696094904199604336 : True := trivial
theorem tw5858743425471841094 : True := trivial
theorem tw5770264080794257519 : True := trivial
theorem tw16452956998513426665 : True := trivial
theorem tw7761619051875531463 : True := trivial
theorem tw3338278500085565081 : True := trivial
theorem tw11518948077736539998 : True := trivial
theorem tw11157575861829393854 : True := trivial
theorem tw14775971619488071213 : True := trivial
theorem tw1054078660435456424 : True := trivial
theorem tw15283029868448344406 : True := trivial
theorem tw13091114098917634000 : True := trivial
theorem tw16627783614788453547 : True := trivial
theorem tw6549299140299797718 : True := trivial
theorem tw9758147935017623511 : True := trivial
theorem tw7262817230529953499 : True := trivial
theorem tw13186841650484575412 : True := trivial
theorem tw15513046734544809970 : True := trivial
theorem tw1669450914112190908 : True := trivial
theorem tw5362319513302773176 : True := trivial
theorem tw1218218524211666726 : True := trivial
theorem tw14484973049182042347 : True := trivial
theorem tw2027585469842283691 : True := trivial
theorem tw15888976986736825522 : True := trivial
theorem tw6627114545018598563 : True := trivial
theorem tw2043654063107285338 : True := trivial
theorem tw4443562476159098770 : True := trivial
theorem tw13005149829310636973 : True := trivial
theorem tw15580374457914896312 : True := trivial
theorem tw9796856007753242429 : True := trivial
theorem tw7296905745512389489 : True := trivial
theorem tw12292517552742536283 : True := trivial
theorem tw9568278270048104308 : True := trivial
theorem tw6502937533480572254 : True := trivial
theorem tw5371626118655332013 : True := trivial
theorem tw1477044478941517044 : True := trivial
theorem tw1465294319587271413 : True := trivial
theorem tw7917753653967705440 : True := trivial
theorem tw12955006433871596359 : True := trivial
theorem tw7060114240853835024 : True := trivial
theorem tw16074773397857408708 : True := trivial
theorem tw17904419359260328782 : True := trivial
theorem tw7155053297164921767 : True := trivial
theorem tw2706048631663989397 : True := trivial
theorem tw6282240118326482348 : True := trivial
theorem tw8940420747778737136 : True := trivial
theorem tw9759337632402453211 : True := trivial
theorem tw15723468804450399790 : True := trivial
theorem tw4207540829739360416 : True := trivial
theorem tw14181629179788640838 : True := trivial
theorem tw3383429847370672993 : True := trivial
theorem tw6888215185597117075 : True := trivial
theorem tw14964683551175812984 : True := trivial
theorem tw5908941716951709406 : True := trivial
theorem tw5620616983503201608 : True := trivial
theorem tw9745950555251692222 : True := trivial
theorem tw14244150017274591827 : True := trivial
theorem tw13508800937010266420 : True := trivial
theorem tw10817990413796553533 : True := trivial
theorem tw1621667585690686426 : True := trivial
theorem tw14247466957464493482 : True := trivial
theorem tw10454290070007816658 : True := trivial
theorem tw14745113504940467499 : True := trivial
theorem tw5062763907312972077 : True := trivial
theorem tw11616647814674079541 : True := trivial
theorem tw16776171158067589766 : True := trivial
theorem tw1864908396035094074 : True := trivial
theorem tw15150887545520367728 : True := trivial
theorem tw10784473784354737762 : True := trivial
theorem tw9132060646326041052 : True := trivial
theorem tw14879760733147732021 : True := trivial
theorem tw8154928739893817145 : True := trivial
theorem tw10471049839167314752 : True := trivial
theorem tw15441686333411305451 : True := trivial
theorem tw11659867992993165930 : True := trivial
theorem tw17562507760956582894 : True := trivial
theorem tw16240173418509744235 : True := trivial
theorem tw851065266492123750 : True := trivial
theorem tw673021999403890999 : True := trivial
theorem tw13802938546615315996 : True := trivial
theorem tw11764180834219044653 : True := trivial
theorem tw14714315824277499092 : True := trivial
theorem tw7063233655416839301 : True := trivial
theorem tw15191716681884168497 : True := trivial
theorem tw10721033765264045461 : True := trivial
theorem tw8688297490464263013 : True := trivial
theorem tw8730100377980002188 : True := trivial
theorem tw15811096758307566674 : True := trivial
theorem tw15047443999520165767 : True := trivial
theorem tw7344010188573559696 : True := trivial
theorem tw3723651688067668912 : True := trivial
theorem tw1396486373307679566 : True := trivial
theorem tw12640158246172966054 : True := trivial
theorem tw15088489283073329727 : True := trivial
theorem tw13278679988541832705 : True := trivial
theorem tw9122153466320048536 : True := trivial
theorem tw6319737893020033703 : True := trivial
theorem tw14444452074537582187 : True := trivial
theorem tw11729596136048174082 : True := trivial
theorem tw9926692535521549228 : True := trivial
theorem tw11360582414622420947 : True := trivial
theorem tw13983977228632133497 : True := trivial
theorem tw9291889841449560738 : True := trivial
theorem tw2681277624596038863 : True := trivial
theorem tw3756014289257372988 : True := trivial
theorem tw667838194953961097 : True := trivial
theorem tw10958947873733980218 : True := trivial
theorem tw6044282346214974160 : True := trivial
theorem tw11100655279752563716 : True := trivial
theorem tw1711866726335916445 : True := trivial
theorem tw4084540620703995829 : True := trivial
theorem tw13297959936079618925 : True := trivial
theorem tw6742782265419330947 : True := trivial
theorem tw7343279984074753727 : True := trivial
theorem tw6861496443293599882 : True := trivial
theorem tw2860950125707511524 : True := trivial
theorem tw2197310128634472590 : True := trivial
theorem tw4735758449912073558 : True := trivial
theorem tw688621986824436771 : True := trivial
theorem tw15813724103078022212 : True := trivial
theorem tw13756328420041715547 : True := trivial
theorem tw7090337455920949899 : True := trivial
theorem tw9245664126033026989 : True := trivial
theorem tw1414688497909848242 : True := trivial
theorem tw17884108568185500538 : True := trivial
theorem tw17109454805531315283 : True := trivial
theorem tw7550315799204403232 : True := trivial
theorem tw16425775958087780807 : True := trivial
theorem tw308857434696882681 : True := trivial
theorem tw14917501336469745562 : True := trivial
theorem tw16204425285513594774 : True := trivial
theorem tw10417705331242650433 : True := trivial
theorem tw5891011320681455439 : True := trivial
theorem tw4174995233981590715 : True := trivial
theorem tw13934127221416751328 : True := trivial
theorem tw818760349295773075 : True := trivial
theorem tw17145010650950353392 : True := trivial
theorem tw11846618090906439814 : True := trivial
theorem tw6857679034041170031 : True := trivial
theorem tw10893036931219917920 : True := trivial
theorem tw17308108541485968273 : True := trivial
theorem tw5019301724284423610 : True := trivial
theorem tw9789067899297729234 : True := trivial
theorem tw6951614472499340078 : True := trivial
theorem tw11831098510545784723 : True := trivial
theorem tw6854453754045059036 : True := trivial
theorem tw780732177607003864 : True := trivial
theorem tw7964806641468322438 : True := trivial
theorem tw16579039285773717410 : True := trivial
theorem tw1219876728282567582 : True := trivial
theorem tw13426892215915643438 : True := trivial
theorem tw5327913442156264426 : True := trivial
theorem tw9717382703107376509 : True := trivial
theorem tw10628056642036514601 : True := trivial
theorem tw3598753332738383048 : True := trivial
theorem tw16575936197148352603 : True := trivial
theorem tw5539687791514580874 : True := trivial
theorem tw2874786989647150358 : True := trivial
theorem tw5914143010013910063 : True := trivial
theorem tw12116060905226120392 : True := trivial
theorem tw1649511820226322803 : True := trivial
theorem tw3546826260554900642 : True := trivial
theorem tw17549709492747588508 : True := trivial
theorem tw13228991607669162183 : True := trivial
theorem tw2637535189483348294 : True := trivial
theorem tw6555116928154747850 : True := trivial
theorem tw6509708526820401915 : True := trivial
theorem tw408923134369416193 : True := trivial
theorem tw12197196516559277902 : True := trivial
theorem tw8188625904421485036 : True := trivial
theorem tw15722117944428420116 : True := trivial
theorem tw4523351198964345164 : True := trivial
theorem tw16923101458031508972 : True := trivial
theorem tw1615643056589762655 : True := trivial
theorem tw7196129654600841389 : True := trivial
theorem tw1600207346812751235 : True := trivial
theorem tw10677062945387813124 : True := trivial
theorem tw8425257055684115822 : True := trivial
theorem tw6704560273336602773 : True := trivial
theorem tw13452900776236278023 : True := trivial
theorem tw8763935390165830799 : True := trivial
theorem tw11447492301354103342 : True := trivial
theorem tw10853891536363251205 : True := trivial
theorem tw5342349805499870093 : True := trivial
theorem tw14943497713495711293 : True := trivial
theorem tw4819723453463873722 : True := trivial
theorem tw4621966231442867207 : True := trivial
theorem tw6669850198028335247 : True := trivial
theorem tw2603666267341155373 : True := trivial
theorem tw17727610219538808257 : True := trivial
theorem tw5609260536130315931 : True := trivial
theorem tw8516130460451932972 : True := trivial
theorem tw4312666894822971915 : True := trivial
theorem tw3360414034140919632 : True := trivial
theorem tw14868110418110358224 : True := trivial
theorem tw12916694277558791628 : True := trivial
theorem tw13341098633585665291 : True := trivial
theorem tw1997050106142898469 : True := trivial
theorem tw14762519813204872721 : True := trivial
theorem tw15546617073575213695 : True := trivial
theorem tw1705952077744628051 : True := trivial
theorem tw949103067678808724 : True := trivial
theorem tw14159920059388090462 : True := trivial
theorem tw12253089877400880702 : True := trivial
theorem tw3491149281680286904 : True := trivial
theorem tw3643422253185058134 : True := trivial
theorem tw2935126731280253650 : True := trivial
theorem tw15633761188243953593 : True := trivial
theorem tw424140221834229622 : True := trivial
theorem tw2128593330313242975 : True := trivial
theorem tw8371977143837780647 : True := trivial
theorem tw10233485486644486419 : True := trivial
theorem tw2582011257499326710 : True := trivial
theorem tw3920550193544018751 : True := trivial
theorem tw16307158747099438975 : True := trivial
theorem tw14056383336098099971 : True := trivial
theorem tw4340999726845448663 : True := trivial
theorem tw14900271313845776481 : True := trivial
theorem tw4469680329817157615 : True := trivial
theorem tw9686036614051513405 : True := trivial
theorem tw17881711053803583330 : True := trivial
theorem tw15085871575793008560 : True := trivial
theorem tw14671686803029761476 : True := trivial
theorem tw14898923419652954655 : True := trivial
theorem tw6796994729966208779 : True := trivial
theorem tw4444964165325243635 : True := trivial
theorem tw7032493954347304690 : True := trivial
theorem tw15673132429252010593 : True := trivial
theorem tw5613871668593739487 : True := trivial
theorem tw4851327308820182855 : True := trivial
theorem tw17255612789170344446 : True := trivial
theorem tw7850766587007411125 : True := trivial
theorem tw6055947978593238565 : True := trivial
theorem tw10312562354563853582 : True := trivial
theorem tw7475934305575174263 : True := trivial
theorem tw6221774743739493093 : True := trivial
theorem tw13988296392276072782 : True := trivial
theorem tw4053952866026934361 : True := trivial
theorem tw15497992214166208061 : True := trivial
theorem tw16529216610624426474 : True := trivial
theorem tw3496174707457379428 : True := trivial
theorem tw3862293963443716710 : True := trivial
theorem tw7477802070112039614 : True := trivial
theorem tw18094777627708287995 : True := trivial
theorem tw5807405690894226025 : True := trivial
theorem tw1906672287656761483 : True := trivial
theorem tw1772235478238458928 : True := trivial
theorem tw8259621727856661728 : True := trivial
theorem tw5210315556694732806 : True := trivial
theorem tw10123081984509359904 : True := trivial
theorem tw8893365951707915657 : True := trivial
theorem tw13158772086721984325 : True := trivial
theorem tw17308347323317568435 : True := trivial
theorem tw10803742214472928312 : True := trivial
theorem tw10139639076585612416 : True := trivial
theorem tw11436489086974198801 : True := trivial
theorem tw16193456897550678478 : True := trivial
theorem tw15389903263701952162 : True := trivial
theorem tw17629303198026539652 : True := trivial
theorem tw1106750201172828784 : True := trivial
theorem tw3898591743158824399 : True := trivial
theorem tw5575398555984772759 : True := trivial
theorem tw11337924248337619778 : True := trivial
theorem tw4139354537071624103 : True := trivial
theorem tw13931330705042883989 : True := trivial
theorem tw10944344749480119488 : True := trivial
theorem tw6149112060476679084 : True := trivial
theorem tw11118030958817945933 : True := trivial
theorem tw5784167271513249685 : True := trivial
theorem tw17704738263291589560 : True := trivial
theorem tw10754707354806921017 : True := trivial
theorem tw16714125357277186942 : True := trivial
theorem tw7888073533353160884 : True := trivial
theorem tw3603063982847029325 : True := trivial
theorem tw16609208108718477819 : True := trivial
theorem tw1738351286018520464 : True := trivial
theorem tw8568627715788335556 : True := trivial
theorem tw9688886134658731107 : True := trivial
theorem tw8932796314260108981 : True := trivial
theorem tw6685907705019963174 : True := trivial
theorem tw15777746354356636998 : True := trivial
theorem tw429556780046859136 : True := trivial
theorem tw14122645572435368203 : True := trivial
theorem tw1236124768887831374 : True := trivial
theorem tw6713197945672843306 : True := trivial
theorem tw17728365691885187312 : True := trivial
theorem tw16317821285194669582 : True := trivial
theorem tw4047468544531202021 : True := trivial
theorem tw9226819254963922999 : True := trivial
theorem tw9254991949416859223 : True := trivial
theorem tw6902386074879855688 : True := trivial
theorem tw11189731818620339333 : True := trivial
theorem tw14845685863095292225 : True := trivial
theorem tw11075609878193541936 : True := trivial
theorem tw15873825019067125526 : True := trivial
theorem tw3909934931263140854 : True := trivial
theorem tw17410061693216832148 : True := trivial
theorem tw13172260038321072742 : True := trivial
theorem tw10141953320475546547 : True := trivial
theorem tw15045494720272013252 : True := trivial
theorem tw8342600350268082169 : True := trivial
theorem tw1631385764731056997 : True := trivial
theorem tw14701868000410705297 : True := trivial
theorem tw2862972502604721867 : True := trivial
theorem tw3446279708386203152 : True := trivial
theorem tw14028572593891825503 : True := trivial
theorem tw14757974627112289783 : True := trivial
theorem tw3654928608371145610 : True := trivial
theorem tw9480763245970276964 : True := trivial
theorem tw3486210489638360028 : True := trivial
theorem tw5375097443929598491 : True := trivial
theorem tw9628704259174547081 : True := trivial
theorem tw13736842407123769320 : True := trivial
theorem tw12904624409436483139 : True := trivial
theorem tw4575823065763947203 : True := trivial
theorem tw12430461264116185204 : True := trivial
theorem tw5827967820993075347 : True := trivial
theorem tw7074048120500571737 : True := trivial
theorem tw10050538418714244384 : True := trivial
theorem tw6445095590214081391 : True := trivial
theorem tw5266995790779140740 : True := trivial
theorem tw13819016258560443900 : True := trivial
theorem tw9335145048561896668 : True := trivial
theorem tw13219549167413885544 : True := trivial
theorem tw12399290826750325911 : True := trivial
theorem tw3633201451840985761 : True := trivial
theorem tw16859033276871661165 : True := trivial
theorem tw12886079413834780448 : True := trivial
theorem tw7625098061123347068 : True := trivial
theorem tw7819215493303236104 : True := trivial
theorem tw6602560585050731816 : True := trivial
theorem tw1710359856134244977 : True := trivial
theorem tw17399644012951535693 : True := trivial
theorem tw456613067573161345 : True := trivial
theorem tw15919669620580372099 : True := trivial
theorem tw11159002095472121253 : True := trivial
theorem tw10213439054943899768 : True := trivial
theorem tw9204697461328897999 : True := trivial
theorem tw10024281325048382234 : True := trivial
theorem tw3946116929405068367 : True := trivial
theorem tw12247992496826780134 : True := trivial
theorem tw808233841899645793 : True := trivial
theorem tw13829060921113895669 : True := trivial
theorem tw17126935190617844699 : True := trivial
theorem tw2915916316045195664 : True := trivial
theorem tw6167084036552444997 : True := trivial
theorem tw10105361806251459352 : True := trivial
theorem tw5659749275079447235 : True := trivial
theorem tw3572928216757688840 : True := trivial
theorem tw2573747720572307545 : True := trivial
theorem tw17945857552900106408 : True := trivial
theorem tw10148247526318709683 : True := trivial
theorem tw5013525849764093170 : True := trivial
theorem tw10734728090497684749 : True := trivial
theorem tw17023931636338899200 : True := trivial
theorem tw7123602766020760391 : True := trivial
theorem tw12772088183186152177 : True := trivial
theorem tw2366869195987940749 : True := trivial
theorem tw2760703292970488321 : True := trivial
theorem tw2708112663010068193 : True := trivial
theorem tw16265702076509200152 : True := trivial
theorem tw650651349130126890 : True := trivial
theorem tw16309667390002592455 : True := trivial
theorem tw16918373163371873656 : True := trivial
theorem tw14835322345441862195 : True := trivial
theorem tw3410148223073093666 : True := trivial
theorem tw1969974655415364527 : True := trivial
theorem tw6840824484600704305 : True := trivial
theorem tw1152361211808136121 : True := trivial
theorem tw9483205293281669679 : True := trivial
theorem tw8931442590140920161 : True := trivial
theorem tw8820671828989662736 : True := trivial
theorem tw17331821230412172544 : True := trivial
theorem tw9377023153988540061 : True := trivial
theorem tw12782910451681796770 : True := trivial
theorem tw851672415631540267 : True := trivial
theorem tw8232103701510705960 : True := trivial
theorem tw3714485129127726533 : True := trivial
theorem tw13014645865289201255 : True := trivial
theorem tw645814054783137776 : True := trivial
theorem tw7703987717091970466 : True := trivial
theorem tw5835905030612668230 : True := trivial
theorem tw18071228706131190110 : True := trivial
theorem tw1029830699046079883 : True := trivial
theorem tw14684633724197724379 : True := trivial
theorem tw8928825970057568852 : True := trivial
theorem tw11340930057234731842 : True := trivial
theorem tw2989011648781989344 : True := trivial
theorem tw12294349266756014490 : True := trivial
theorem tw257692347821947626 : True := trivial
theorem tw12551441751840314531 : True := trivial
theorem tw6190107070579286582 : True := trivial
theorem tw1110442947692162681 : True := trivial
theorem tw12493828790871491047 : True := trivial
theorem tw1001218529301823326 : True := trivial
theorem tw7019892995246010860 : True := trivial
theorem tw9715641337813457389 : True := trivial
theorem tw9983499089759877271 : True := trivial
theorem tw14867222129684220800 : True := trivial
theorem tw3419890326991066598 : True := trivial
theorem tw2727819238309423597 : True := trivial
theorem tw12564419162910945130 : True := trivial
theorem tw10665071120500586305 : True := trivial
theorem tw12747213530463479861 : True := trivial
theorem tw3828362453828601515 : True := trivial
theorem tw18103074220072135526 : True := trivial
theorem tw10149934296575291313 : True := trivial
theorem tw5636438756384295928 : True := trivial
theorem tw14570220862701059272 : True := trivial
theorem tw12131236779972123458 : True := trivial
theorem tw8714012251212690712 : True := trivial
theorem tw15877311703088521426 : True := trivial
theorem tw12471426310777409858 : True := trivial
theorem tw5233229847140689325 : True := trivial
theorem tw16086757122084242400 : True := trivial
theorem tw13086175195144576744 : True := trivial
theorem tw8690440699508429070 : True := trivial
theorem tw808093244070952775 : True := trivial
theorem tw5367252555072653467 : True := trivial
theorem tw11141310998327573818 : True := trivial
theorem tw5503291832205894587 : True := trivial
theorem tw9038232521170242075 : True := trivial
theorem tw8330321255012945857 : True := trivial
theorem tw5234853138410303451 : True := trivial
theorem tw7796427048243304661 : True := trivial
theorem tw6519475723509298885 : True := trivial
theorem tw15921462890847865332 : True := trivial
theorem tw3143712725745258950 : True := trivial
theorem tw14105812849855273497 : True := trivial
theorem tw2789128782780105303 : True := trivial
theorem tw15917312963585670258 : True := trivial
theorem tw3186004968415445464 : True := trivial
theorem tw4128643040326406222 : True := trivial
theorem tw711014670258779113 : True := trivial
theorem tw6555760205542547194 : True := trivial
theorem tw6725933188273833932 : True := trivial
theorem tw212721047107987885 : True := trivial
theorem tw6119710012797402141 : True := trivial
theorem tw13179551444269557537 : True := trivial
theorem tw16242049473453837696 : True := trivial
theorem tw5885967275904698601 : True := trivial
theorem tw6654541219801999220 : True := trivial
theorem tw9400115876756909364 : True := trivial
theorem tw4253480048030483286 : True := trivial
theorem tw11329350421541032309 : True := trivial
theorem tw9943311043727701003 : True := trivial
theorem tw4792259924776788219 : True := trivial
theorem tw6854244086365315180 : True := trivial
theorem tw3873897709084876594 : True := trivial
theorem tw8223581353726694276 : True := trivial
theorem tw7397339286209944491 : True := trivial
theorem tw3522464528113998774 : True := trivial
theorem tw8448741553154834295 : True := trivial
theorem tw4149057267971253988 : True := trivial
theorem tw4390401887286025200 : True := trivial
theorem tw6544739663144255186 : True := trivial
theorem tw11520419683292732573 : True := trivial
theorem tw4860648436467849212 : True := trivial
theorem tw8478894642022527330 : True := trivial
theorem tw10293982783610809377 : True := trivial
theorem tw13170354334707031816 : True := trivial
theorem tw18014248361874085572 : True := trivial
theorem tw7122697477200576848 : True := trivial
theorem tw17005518011889905673 : True := trivial
theorem tw4826978314739348449 : True := trivial
theorem tw17604640684121106930 : True := trivial
theorem tw11618040042697273047 : True := trivial
theorem tw8444254687399667865 : True := trivial
theorem tw7736469687123337224 : True := trivial
theorem tw603878973881873430 : True := trivial
theorem tw602203726647426784 : True := trivial
theorem tw13034733786970147756 : True := trivial
theorem tw5288686370281495213 : True := trivial
theorem tw9001449847063158836 : True := trivial
theorem tw3868151438500302581 : True := trivial
theorem tw15600034244516370763 : True := trivial
theorem tw18443907850825760714 : True := trivial
theorem tw8584916702951735697 : True := trivial
theorem tw13789598068842804920 : True := trivial
theorem tw4665463318405174747 : True := trivial
theorem tw4285183627676922098 : True := trivial
theorem tw12931388556568880677 : True := trivial
theorem tw6088048889925596482 : True := trivial
theorem tw17445420801450520013 : True := trivial
theorem tw1980882302691750037 : True := trivial
theorem tw7076480337251509845 : True := trivial
theorem tw2917715938240048055 : True := trivial
theorem tw6730464115913566425 : True := trivial
theorem tw14604195037817855330 : True := trivial
theorem tw12763909806632605985 : True := trivial
theorem tw16185713320481185954 : True := trivial
theorem tw5898959013059704745 : True := trivial
theorem tw15080129950043390495 : True := trivial
theorem tw9300781101926246130 : True := trivial
theorem tw4518550489473677632 : True := trivial
theorem tw15938160152454487594 : True := trivial
theorem tw2094021084461820664 : True := trivial
theorem tw6257638246067500475 : True := trivial
theorem tw5398217226420071344 : True := trivial
theorem tw16352702833825409734 : True := trivial
theorem tw8279290560726043633 : True := trivial
theorem tw17037233789621875359 : True := trivial
theorem tw5748950918877253696 : True := trivial
theorem tw13209125597972663647 : True := trivial
theorem tw6899051451834384394 : True := trivial
theorem tw640794057790491577 : True := trivial
theorem tw8364266711934436451 : True := trivial
theorem tw3860861487647385602 : True := trivial
theorem tw16671202166995122245 : True := trivial
theorem tw15627823546117318115 : True := trivial
theorem tw2436831368699317376 : True := trivial
theorem tw194279866628398848 : True := trivial
theorem tw18397113055462251230 : True := trivial
theorem tw15548063185448020069 : True := trivial
theorem tw764168749043802409 : True := trivial
theorem tw7245682762759369 : True := trivial
theorem tw10155738857790944920 : True := trivial
theorem tw12601260270402402177 : True := trivial
theorem tw10876243092433470393 : True := trivial
theorem tw11904432934068202920 : True := trivial
theorem tw13945817115328759996 : True := trivial
theorem tw13675176035202545647 : True := trivial
theorem tw13291361337144582347 : True := trivial
theorem tw15386504085529264922 : True := trivial
theorem tw13206227693188995536 : True := trivial
theorem tw12093202826300879307 : True := trivial
theorem tw18360483103589845068 : True := trivial
theorem tw9959523061403142415 : True := trivial
theorem tw7295026370294634487 : True := trivial
theorem tw3590500255829663953 : True := trivial
theorem tw18321149231403442190 : True := trivial
theorem tw6855508375784846776 : True := trivial
theorem tw4281886784621363271 : True := trivial
theorem tw2608678285063956651 : True := trivial
theorem tw4591314625076173010 : True := trivial
theorem tw9722126449284985156 : True := trivial
theorem tw17024964021963568049 : True := trivial
theorem tw6056307430823439975 : True := trivial
theorem tw15953094522804968499 : True := trivial
theorem tw4726767148519605346 : True := trivial
theorem tw13073236717024138538 : True := trivial
theorem tw5666729441133357955 : True := trivial
theorem tw17754128268337087037 : True := trivial
theorem tw10590296920184029706 : True := trivial
theorem tw14630251054175205300 : True := trivial
theorem tw6920550772069306415 : True := trivial
theorem tw11316574760506936542 : True := trivial
theorem tw18202243690814511375 : True := trivial
theorem tw717366901833369298 : True := trivial
theorem tw17892484362916761443 : True := trivial
theorem tw12710564868587662923 : True := trivial
theorem tw9404427474719273358 : True := trivial
theorem tw3950025118208743991 : True := trivial
theorem tw12451062552394043664 : True := trivial
theorem tw6942854306870853843 : True := trivial
theorem tw4584774752279098343 : True := trivial
theorem tw14420811337160878830 : True := trivial
theorem tw11400069864180023448 : True := trivial
theorem tw7135500852235915080 : True := trivial
theorem tw2965109455203937798 : True := trivial
theorem tw16778926923548210627 : True := trivial
theorem tw725870353464084439 : True := trivial
theorem tw3007901888929786172 : True := trivial
theorem tw7246321434138945832 : True := trivial
theorem tw3634512521098467210 : True := trivial
theorem tw4104337643102451121 : True := trivial
theorem tw3643376275459022637 : True := trivial
theorem tw11528948120290619397 : True := trivial
theorem tw2948887580120660399 : True := trivial
theorem tw14646621043662790222 : True := trivial
theorem tw16867771724062765718 : True := trivial
theorem tw9005721657303384440 : True := trivial
theorem tw6657699993909181910 : True := trivial
theorem tw13929418805528494706 : True := trivial
theorem tw11645051079222137452 : True := trivial
theorem tw15543788665969103965 : True := trivial
theorem tw9492362967216055578 : True := trivial
theorem tw3013532546308317968 : True := trivial
theorem tw9962930835388741883 : True := trivial
theorem tw12620004052193738312 : True := trivial
theorem tw11576521059702923197 : True := trivial
theorem tw9411999425934600623 : True := trivial
theorem tw15003379531392518121 : True := trivial
theorem tw17024850721912573221 : True := trivial
theorem tw9611455392969278052 : True := trivial
theorem tw9928829102597767565 : True := trivial
theorem tw9192158569568771475 : True := trivial
theorem tw6287477266124791678 : True := trivial
theorem tw13212092106705113695 : True := trivial
theorem tw9060243181576442099 : True := trivial
theorem tw4521336815166380492 : True := trivial
theorem tw15769681921208228930 : True := trivial
theorem tw18430998837056928801 : True := trivial
theorem tw11062167172528157473 : True := trivial
theorem tw5814139853326069423 : True := trivial
theorem tw11862396953885110038 : True := trivial
theorem tw4940323631290527807 : True := trivial
theorem tw607979219874642515 : True := trivial
theorem tw8308862723963215610 : True := trivial
theorem tw651653322576690608 : True := trivial
theorem tw14274892566906534007 : True := trivial
theorem tw14755767393073357247 : True := trivial
theorem tw16267167328829305213 : True := trivial
theorem tw9913249283159676797 : True := trivial
theorem tw8293286607144898095 : True := trivial
theorem tw10750046852702891245 : True := trivial
theorem tw6020785256333937404 : True := trivial
theorem tw9712260211496052299 : True := trivial
theorem tw4431192408089986808 : True := trivial
theorem tw4538274237920327156 : True := trivial
theorem tw63165487131668504 : True := trivial
theorem tw11860027741683861211 : True := trivial
theorem tw6053907288067829828 : True := trivial
theorem tw5239825566000698263 : True := trivial
theorem tw11787997064684279788 : True := trivial
theorem tw991066706608610018 : True := trivial
theorem tw10497925492415226859 : True := trivial
theorem tw1064337358382517089 : True := trivial
theorem tw10176216714438090674 : True := trivial
theorem tw12425530333028460351 : True := trivial
theorem tw7851021712262531323 : True := trivial
theorem tw13069625794009099919 : True := trivial
theorem tw16794573540101702708 : True := trivial
theorem tw1518664587582051246 : True := trivial
theorem tw6661754952358176955 : True := trivial
theorem tw15971227963034670858 : True := trivial
theorem tw10804340846431068992 : True := trivial
theorem tw18074299236041539782 : True := trivial
theorem tw1595562588584654287 : True := trivial
theorem tw7963236734649284327 : True := trivial
theorem tw14691757009929449129 : True := trivial
theorem tw14284157456783183314 : True := trivial
theorem tw4312439342654785931 : True := trivial
theorem tw15121523481516278652 : True := trivial
theorem tw16511582046430469935 : True := trivial
theorem tw7119172844837319452 : True := trivial
theorem tw5973297713455573443 : True := trivial
theorem tw4881883474951153274 : True := trivial
theorem tw14991284084868626892 : True := trivial
theorem tw9891839042128741297 : True := trivial
theorem tw13482276144804442164 : True := trivial
theorem tw3141201912483903681 : True := trivial
theorem tw11492311948099239189 : True := trivial
theorem tw6095168099023914633 : True := trivial
theorem tw12836615990066406528 : True := trivial
theorem tw2090499548711727927 : True := trivial
theorem tw4285966673014901365 : True := trivial
theorem tw5641042433214649836 : True := trivial
theorem tw8076956177190651929 : True := trivial
theorem tw13031606379643469287 : True := trivial
theorem tw8434331704219159644 : True := trivial
theorem tw11014655332452512694 : True := trivial
theorem tw15531099568026622945 : True := trivial
theorem tw8526509013986364612 : True := trivial
theorem tw12195029571299337402 : True := trivial
theorem tw16290404561580647235 : True := trivial
theorem tw13937358921899570519 : True := trivial
theorem tw6086694010103522430 : True := trivial
theorem tw2085762627756907399 : True := trivial
theorem tw7236614599629757493 : True := trivial
theorem tw15229697447471360712 : True := trivial
theorem tw13952281627195165907 : True := trivial
theorem tw5692633994994352622 : True := trivial
theorem tw4730833864236331880 : True := trivial
theorem tw17553900937352947859 : True := trivial
theorem tw16297403748468526329 : True := trivial
theorem tw10443364232829665737 : True := trivial
theorem tw1315974919898537887 : True := trivial
theorem tw9769565706909892828 : True := trivial
theorem tw14963996382906648576 : True := trivial
theorem tw13758303930077359965 : True := trivial
theorem tw801219782718944588 : True := trivial
theorem tw6324896889941815852 : True := trivial
theorem tw3079558228247737272 : True := trivial
theorem tw6954059231256507602 : True := trivial
theorem tw13980405987217698872 : True := trivial
theorem tw9876284804820292626 : True := trivial
theorem tw9039643551350314408 : True := trivial
theorem tw816303505486837997 : True := trivial
theorem tw12204934112528111176 : True := trivial
theorem tw7594295112626018475 : True := trivial
theorem tw458428086915826128 : True := trivial
theorem tw1789257439490461449 : True := trivial
theorem tw11135870690897663998 : True := trivial
theorem tw13541947144966640119 : True := trivial
theorem tw2995197490018833424 : True := trivial
theorem tw13177367356556158888 : True := trivial
theorem tw11397544886977434741 : True := trivial
theorem tw1715830919178541142 : True := trivial
theorem tw6081600836365777359 : True := trivial
theorem tw16778749684036404743 : True := trivial
theorem tw9067171352748871512 : True := trivial
theorem tw16237735662940527585 : True := trivial
theorem tw8817908527390854295 : True := trivial
theorem tw5397615161508320494 : True := trivial
theorem tw7175027441207887868 : True := trivial
theorem tw18113348278811765448 : True := trivial
theorem tw3303778851913248226 : True := trivial
theorem tw9681320818925655361 : True := trivial
theorem tw384157265785055110 : True := trivial
theorem tw6298059263839866524 : True := trivial
theorem tw6414853231993411859 : True := trivial
theorem tw14974232076591661214 : True := trivial
theorem tw2327066584280917644 : True := trivial
theorem tw18067267426925686073 : True := trivial
theorem tw16097869620652574071 : True := trivial
theorem tw6125203768049719697 : True := trivial
theorem tw6886979441927224284 : True := trivial
theorem tw10269619918185664319 : True := trivial
theorem tw1219666402963511499 : True := trivial
theorem tw5191196628987818035 : True := trivial
theorem tw6617944541309175967 : True := trivial
theorem tw12287901494331906834 : True := trivial
theorem tw14947283996020630262 : True := trivial
theorem tw2166899652887943330 : True := trivial
theorem tw12843993200984549122 : True := trivial
theorem tw9916417585899941309 : True := trivial
theorem tw15805397520582551180 : True := trivial
theorem tw3235270703596605467 : True := trivial
theorem tw4169384137069636871 : True := trivial
theorem tw6961202730848747867 : True := trivial
theorem tw6611666914443913761 : True := trivial
theorem tw4303441596027052579 : True := trivial
theorem tw12395762035056960578 : True := trivial
theorem tw956479946109169466 : True := trivial
theorem tw3565592828696465853 : True := trivial
theorem tw11065008616342251608 : True := trivial
theorem tw17284394251189679998 : True := trivial
theorem tw1288500039150667115 : True := trivial
theorem tw9941168702134768130 : True := trivial
theorem tw11720473473199301589 : True := trivial
theorem tw1057477773877367672 : True := trivial
theorem tw14008408887855415860 : True := trivial
theorem tw185480890209490646 : True := trivial
theorem tw4320115298855356110 : True := trivial
theorem tw8453648219076359506 : True := trivial
theorem tw407968037123415372 : True := trivial
theorem tw5223311708020989184 : True := trivial
theorem tw13087754386185544946 : True := trivial
theorem tw13426032612097162137 : True := trivial
theorem tw7711384913739838953 : True := trivial
theorem tw2833745658336315859 : True := trivial
theorem tw14393507686000262141 : True := trivial
theorem tw7399741333216715876 : True := trivial
theorem tw9624592881511938783 : True := trivial
theorem tw2238659591047670526 : True := trivial
theorem tw7752797020330060699 : True := trivial
theorem tw5725755357200063724 : True := trivial
theorem tw17413862120110924652 : True := trivial
theorem tw12624499820770119168 : True := trivial
theorem tw13419212227070807617 : True := trivial
theorem tw14381430097616491856 : True := trivial
theorem tw14920394275504206363 : True := trivial
theorem tw17736869132923693119 : True := trivial
theorem tw7395995097074418749 : True := trivial
theorem tw10441204375675511572 : True := trivial
theorem tw7496791811111834452 : True := trivial
theorem tw15041903559548423038 : True := trivial
theorem tw15138165631514415581 : True := trivial
theorem tw10048896909430548759 : True := trivial
theorem tw2694846065077209963 : True := trivial
theorem tw15783270799214124441 : True := trivial
theorem tw12608435123843505220 : True := trivial
theorem tw7103482841897181604 : True := trivial
theorem tw7477227598192805534 : True := trivial
theorem tw3947126432838152069 : True := trivial
theorem tw11890509437929386884 : True := trivial
theorem tw11203920119070142546 : True := trivial
theorem tw11565892619582684304 : True := trivial
theorem tw5464589838000534633 : True := trivial
theorem tw7350393828316290470 : True := trivial
theorem tw11425787714302487912 : True := trivial
theorem tw17454392652665730942 : True := trivial
theorem tw12971223055909945472 : True := trivial
theorem tw11596221797496772263 : True := trivial
theorem tw11522308583120856549 : True := trivial
theorem tw3952591868358943975 : True := trivial
theorem tw12147731559569899876 : True := trivial
theorem tw16504618337506119386 : True := trivial
theorem tw8440610454831655703 : True := trivial
theorem tw17465166919659994725 : True := trivial
theorem tw2596018556826776848 : True := trivial
theorem tw285243894685569336 : True := trivial
theorem tw4789737196381387953 : True := trivial
theorem tw10597209581369712087 : True := trivial
theorem tw2196384670373213920 : True := trivial
theorem tw8330917389211420560 : True := trivial
theorem tw3135841561781127791 : True := trivial
theorem tw7767591680988370013 : True := trivial
theorem tw15434751185720943039 : True := trivial
theorem tw9867696649609726839 : True := trivial
theorem tw6469287769890629637 : True := trivial
theorem tw15201174686578156700 : True := trivial
theorem tw8296772316767752928 : True := trivial
theorem tw2856973543501486295 : True := trivial
theorem tw12486035425152933068 : True := trivial
theorem tw14046495691553356388 : True := trivial
theorem tw18299702366332373955 : True := trivial
theorem tw11706436986536134573 : True := trivial
theorem tw3733603875672527453 : True := trivial
theorem tw15734355430520185581 : True := trivial
theorem tw9182233880136106495 : True := trivial
theorem tw10591279764146568248 : True := trivial
theorem tw16280425777401089165 : True := trivial
theorem tw8937952321223485011 : True := trivial
theorem tw11254287028109600991 : True := trivial
theorem tw14676191959560691716 : True := trivial
theorem tw5407863049016637661 : True := trivial
theorem tw18067262974924460059 : True := trivial
theorem tw13652502906877329750 : True := trivial
theorem tw2940219792419065572 : True := trivial
theorem tw16183731458992516933 : True := trivial
theorem tw7780045730346110316 : True := trivial
theorem tw4446866004020911439 : True := trivial
theorem tw8214383017953643932 : True := trivial
theorem tw13241277925880309279 : True := trivial
theorem tw4662419272699243752 : True := trivial
theorem tw13639007518545328805 : True := trivial
theorem tw9761087978502942774 : True := trivial
theorem tw7798732677792446836 : True := trivial
theorem tw4480525241701835788 : True := trivial
theorem tw8694980064458138753 : True := trivial
theorem tw16903091007171940029 : True := trivial
theorem tw14871786341759151827 : True := trivial
theorem tw3410255983680492279 : True := trivial
theorem tw10553512660365871111 : True := trivial
theorem tw7212629132180383302 : True := trivial
theorem tw15182981305622490648 : True := trivial
theorem tw7333690348744151173 : True := trivial
theorem tw15058421666909358143 : True := trivial
theorem tw4138436044731995471 : True := trivial
theorem tw11798593873016844320 : True := trivial
theorem tw10952972514543872141 : True := trivial
theorem tw17972279558218828983 : True := trivial
theorem tw18344497531447927811 : True := trivial
theorem tw11604610440125952503 : True := trivial
theorem tw9481288746318407033 : True := trivial
theorem tw7623296490351598142 : True := trivial
theorem tw2807044941388253137 : True := trivial
theorem tw3240354231457399387 : True := trivial
theorem tw1830911845262225826 : True := trivial
theorem tw12321825021396020905 : True := trivial
theorem tw17869025808569148863 : True := trivial
theorem tw18014932948748081973 : True := trivial
theorem tw6375405970197730607 : True := trivial
theorem tw16868631354214570553 : True := trivial
theorem tw550135519437658806 : True := trivial
theorem tw2936403258318591897 : True := trivial
theorem tw10520052993879668886 : True := trivial
theorem tw6326929434155897771 : True := trivial
theorem tw128006254708328102 : True := trivial
theorem tw113209912245421481 : True := trivial
theorem tw1272817334131024658 : True := trivial
theorem tw1822583081999250264 : True := trivial
theorem tw12260924950739658294 : True := trivial
theorem tw14438915719827012062 : True := trivial
theorem tw4721559165811200182 : True := trivial
theorem tw17548143520775551245 : True := trivial
theorem tw15318065856524414959 : True := trivial
theorem tw17880043574427599301 : True := trivial
theorem tw6075630698237926284 : True := trivial
theorem tw9686010995249707895 : True := trivial
theorem tw1335264628720872962 : True := trivial
theorem tw724648671951260570 : True := trivial
theorem tw4927865484926731596 : True := trivial
theorem tw9502517175080386931 : True := trivial
theorem tw12641422196411625408 : True := trivial
theorem tw17803358003712321195 : True := trivial
theorem tw8974915512800274584 : True := trivial
theorem tw7835170874304445434 : True := trivial
theorem tw4746313532987019471 : True := trivial
theorem tw6310392623969640191 : True := trivial
theorem tw11140530042398005076 : True := trivial
theorem tw13753339898800778369 : True := trivial
theorem tw11331067902302907719 : True := trivial
theorem tw1462536858146598131 : True := trivial
theorem tw10274715337305469008 : True := trivial
theorem tw4446850595960480507 : True := trivial
theorem tw17865351129313204146 : True := trivial
theorem tw10494290062687884533 : True := trivial
theorem tw343408251853980414 : True := trivial
theorem tw13008253578307228649 : True := trivial
theorem tw11161695302526737374 : True := trivial
theorem tw18307240177348354534 : True := trivial
theorem tw440819729757084022 : True := trivial
theorem tw11487030360484764885 : True := trivial
theorem tw8242659550525899887 : True := trivial
theorem tw17237865701910763961 : True := trivial
theorem tw1400668120948858618 : True := trivial
theorem tw5455561690945235628 : True := trivial
theorem tw16795364554616363017 : True := trivial
theorem tw6950985070234375684 : True := trivial
theorem tw13889694264094636477 : True := trivial
theorem tw320192310069077134 : True := trivial
theorem tw6167239877925962098 : True := trivial
theorem tw13418094984435227759 : True := trivial
theorem tw13514316943343446347 : True := trivial
theorem tw17608748952331259956 : True := trivial
theorem tw5930233074790723265 : True := trivial
theorem tw15347579309942347955 : True := trivial
theorem tw16727454698225735562 : True := trivial
theorem tw9154022123842065116 : True := trivial
theorem tw1247897795918077697 : True := trivial
theorem tw11373110698104711996 : True := trivial
theorem tw15265435242042821761 : True := trivial
theorem tw12125526904260984946 : True := trivial
theorem tw14205900823235151249 : True := trivial
theorem tw3758745037214873898 : True := trivial
theorem tw12404451647484073897 : True := trivial
theorem tw14076384952906711783 : True := trivial
theorem tw6337221285290358598 : True := trivial
theorem tw16786694650101028055 : True := trivial
theorem tw16157543435633341420 : True := trivial
theorem tw8836124390631486331 : True := trivial
theorem tw2135312338855947112 : True := trivial
theorem tw7441611859645813333 : True := trivial
theorem tw3155147514011744420 : True := trivial
theorem tw16596522556641885254 : True := trivial
theorem tw6796334732776116057 : True := trivial
theorem tw16611072787434559277 : True := trivial
theorem tw10542747469712813718 : True := trivial
theorem tw1777492895005966753 : True := trivial
theorem tw1688126680026307459 : True := trivial
theorem tw3377561221387962601 : True := trivial
theorem tw16982697976191788430 : True := trivial
theorem tw8376721950418953426 : True := trivial
theorem tw15211850004339512649 : True := trivial
theorem tw2130133084754712954 : True := trivial
theorem tw13498659340915977996 : True := trivial
theorem tw12877698866497354030 : True := trivial
theorem tw17960844997759621861 : True := trivial
theorem tw15938475710348733587 : True := trivial
theorem tw5885756100038092755 : True := trivial
theorem tw17530305095414611781 : True := trivial
theorem tw5421558219410101938 : True := trivial
theorem tw12402583326450693347 : True := trivial
theorem tw17896790357450663207 : True := trivial
theorem tw427045047341338744 : True := trivial
theorem tw15335894810382034442 : True := trivial
theorem tw10727994487921284552 : True := trivial
theorem tw6359555257140732010 : True := trivial
theorem tw160917162197078009 : True := trivial
theorem tw15133070902437576386 : True := trivial
theorem tw14915068249393278813 : True := trivial
theorem tw3693759482895970666 : True := trivial
theorem tw8437314390744986470 : True := trivial
theorem tw7513754990478660751 : True := trivial
theorem tw10457316025628086254 : True := trivial
theorem tw12039901020525168501 : True := trivial
theorem tw17032899517043650805 : True := trivial
theorem tw15178899131338730214 : True := trivial
theorem tw15592016046639915457 : True := trivial
theorem tw6656449669456034836 : True := trivial
theorem tw17511599594600604590 : True := trivial
theorem tw4942823436367638798 : True := trivial
theorem tw2707227318656989181 : True := trivial
theorem tw8591594922666386159 : True := trivial
theorem tw5568746477415158070 : True := trivial
theorem tw17095012412763795714 : True := trivial
theorem tw13004284439680322483 : True := trivial
theorem tw4628046828071145355 : True := trivial
theorem tw17074640480550992356 : True := trivial
theorem tw7147378212429470108 : True := trivial
theorem tw4503004406547788731 : True := trivial
theorem tw13857858882390652158 : True := trivial
theorem tw14417690741561406125 : True := trivial
theorem tw12877476685502010096 : True := trivial
theorem tw4793067522007314023 : True := trivial
theorem tw6856686638478986923 : True := trivial
theorem tw15456331550613924763 : True := trivial
theorem tw6545115401493969781 : True := trivial
theorem tw2376982322995865957 : True := trivial
theorem tw8046568288567575502 : True := trivial
theorem tw6743246542077242505 : True := trivial
theorem tw11985021996500779465 : True := trivial
theorem tw17737083553979683125 : True := trivial
theorem tw4636691517005786404 : True := trivial
theorem tw13439913073549036120 : True := trivial
theorem tw4543134982431048546 : True := trivial
theorem tw8362093087431020911 : True := trivial
theorem tw9957390498989115677 : True := trivial
theorem tw114687634619149103 : True := trivial
theorem tw2733119178059163891 : True := trivial
theorem tw17338679266440166978 : True := trivial
theorem tw6490203780758634509 : True := trivial
theorem tw3646314275638296084 : True := trivial
theorem tw16689996630008839096 : True := trivial
theorem tw6319884454643903185 : True := trivial
theorem tw1293419403883745569 : True := trivial
theorem tw7944224260292773427 : True := trivial
theorem tw5568264798348790520 : True := trivial
theorem tw6044374983808497540 : True := trivial
theorem tw10896390886232564267 : True := trivial
theorem tw15461042731128110376 : True := trivial
theorem tw4129268283809216469 : True := trivial
theorem tw1257326007274293234 : True := trivial
theorem tw15650359810658416436 : True := trivial
theorem tw1942598833810151994 : True := trivial
theorem tw1387360175639528025 : True := trivial
theorem tw2922652092649686993 : True := trivial
theorem tw7940924712436979604 : True := trivial
theorem tw15840490052023783927 : True := trivial
theorem tw1310829391620980296 : True := trivial
theorem tw4028633746032064387 : True := trivial
theorem tw14990652771096830430 : True := trivial
theorem tw197034290223147346 : True := trivial
theorem tw11824518725156542307 : True := trivial
theorem tw9436582343435791408 : True := trivial
theorem tw17998158587297701033 : True := trivial
theorem tw11930903929793648152 : True := trivial
theorem tw7338079496895976899 : True := trivial
theorem tw16202047124045994851 : True := trivial
theorem tw7547303395702246201 : True := trivial
theorem tw6710106991779108839 : True := trivial
theorem tw13387321295112474209 : True := trivial
theorem tw14062144717188937784 : True := trivial
theorem tw138949965133975982 : True := trivial
theorem tw991295303838811315 : True := trivial
theorem tw17405738013063201343 : True := trivial
theorem tw13487504020354986291 : True := trivial
theorem tw12348877485544102317 : True := trivial
theorem tw15443548661385245835 : True := trivial
theorem tw9676006595491534291 : True := trivial
theorem tw6019985983967796183 : True := trivial
theorem tw1364555365800496373 : True := trivial
theorem tw11744864335612712453 : True := trivial
theorem tw11383459409396361903 : True := trivial
theorem tw3418192492331578199 : True := trivial
theorem tw13407044952413739089 : True := trivial
theorem tw13365586228110868884 : True := trivial
theorem tw8903312668653868385 : True := trivial
theorem tw12932906413954179838 : True := trivial
theorem tw6589295903774297880 : True := trivial
theorem tw41054851629388793 : True := trivial
theorem tw5522546514398481328 : True := trivial
theorem tw295956414441826700 : True := trivial
theorem tw9984540581047440746 : True := trivial
theorem tw2804921864020448318 : True := trivial
theorem tw7833406925625129470 : True := trivial
theorem tw532632187516389705 : True := trivial
theorem tw9176214855138323441 : True := trivial
theorem tw10315587568146961409 : True := trivial
theorem tw1496026864281040110 : True := trivial
theorem tw13087953006422588735 : True := trivial
theorem tw17905045458203593416 : True := trivial
theorem tw17559068877774344158 : True := trivial
theorem tw3883940864580328622 : True := trivial
theorem tw16368454866311454783 : True := trivial
theorem tw18438262914102057983 : True := trivial
theorem tw15068446223672189266 : True := trivial
theorem tw3868699473383355816 : True := trivial
theorem tw17676243442216766494 : True := trivial
theorem tw12476621448696305962 : True := trivial
theorem tw13398085720816441355 : True := trivial
theorem tw12704362683929159103 : True := trivial
theorem tw11607108069139682835 : True := trivial
theorem tw14875565417263842376 : True := trivial
theorem tw5275553255482771118 : True := trivial
theorem tw17231731386778592224 : True := trivial
theorem tw5191773140470257149 : True := trivial
theorem tw867232150312794298 : True := trivial
theorem tw12294290925517777554 : True := trivial
theorem tw6987404058145091286 : True := trivial
theorem tw12152799255046351457 : True := trivial
theorem tw8942835119427673510 : True := trivial
theorem tw7045173356948374377 : True := trivial
theorem tw2012805985167556364 : True := trivial
theorem tw11188204201643381068 : True := trivial
theorem tw8224519955304738475 : True := trivial
theorem tw9864130325919668492 : True := trivial
theorem tw14330154931116712584 : True := trivial
theorem tw7338620553649947454 : True := trivial
theorem tw7258029793376765182 : True := trivial
theorem tw9537335771674459529 : True := trivial
theorem tw13644962031124766073 : True := trivial
theorem tw9297452507865738273 : True := trivial
theorem tw10449986926863974177 : True := trivial
theorem tw2257436218420839886 : True := trivial
theorem tw14561669235245874604 : True := trivial
theorem tw3587884412625994710 : True := trivial
theorem tw12363676759389119636 : True := trivial
theorem tw18313208157846279393 : True := trivial
theorem tw18032762331464285481 : True := trivial
theorem tw7851681827452521518 : True := trivial
theorem tw8555977513249200462 : True := trivial
theorem tw2618715228752316404 : True := trivial
theorem tw9772347009917789065 : True := trivial
theorem tw1263802644373175467 : True := trivial
theorem tw17749622165991188415 : True := trivial
theorem tw10015135998849379701 : True := trivial
theorem tw6634875970342954619 : True := trivial
theorem tw10672584335782904426 : True := trivial
theorem tw17851821676896025702 : True := trivial
theorem tw15379868654598624836 : True := trivial
theorem tw15313940293657559623 : True := trivial
theorem tw17925487893158875066 : True := trivial
theorem tw278134584179978403 : True := trivial
theorem tw8396873677423697037 : True := trivial
theorem tw11930546691939213897 : True := trivial
theorem tw17846776883399686840 : True := trivial
theorem tw5890326241219383249 : True := trivial
theorem tw3491443060421306257 : True := trivial
theorem tw12139520259640027954 : True := trivial
theorem tw9821151680903654313 : True := trivial
theorem tw4320004459671754072 : True := trivial
theorem tw11885200416547074579 : True := trivial
theorem tw15615600862250115456 : True := trivial
theorem tw9209634491560389411 : True := trivial
theorem tw14006237280904504280 : True := trivial
theorem tw17790413421522572071 : True := trivial
theorem tw17795600385135530576 : True := trivial
theorem tw12800934203742108866 : True := trivial
theorem tw16781767693658868047 : True := trivial
theorem tw1583073013072631692 : True := trivial
theorem tw11806483228714748035 : True := trivial
theorem tw7550935816311769594 : True := trivial
theorem tw6206430321099610837 : True := trivial
theorem tw2345869548113229701 : True := trivial
theorem tw16333919762953787234 : True := trivial
theorem tw2499092119937832465 : True := trivial
theorem tw495372603195168735 : True := trivial
theorem tw9041265444879799653 : True := trivial
theorem tw14223388779710449865 : True := trivial
theorem tw15253523021758740625 : True := trivial
theorem tw14449898466826028249 : True := trivial
theorem tw4383650737697724459 : True := trivial
theorem tw17190160278263882722 : True := trivial
theorem tw6246604725106749309 : True := trivial
theorem tw4011950395870063973 : True := trivial
theorem tw16006947782193901896 : True := trivial
theorem tw4913350475751794494 : True := trivial
theorem tw16360432795419553361 : True := trivial
theorem tw551062530834174265 : True := trivial
theorem tw5143771303820466660 : True := trivial
theorem tw11566704846481306940 : True := trivial
theorem tw3663368394880265182 : True := trivial
theorem tw13965815513714170537 : True := trivial
theorem tw11732784975933540143 : True := trivial
theorem tw12823816127335682658 : True := trivial
theorem tw4455880270251492241 : True := trivial
theorem tw13862534001427631429 : True := trivial
theorem tw3475953333679999664 : True := trivial
theorem tw11471091567568984288 : True := trivial
theorem tw15841209409465390588 : True := trivial
theorem tw14794110065524415706 : True := trivial
theorem tw11619207439448259396 : True := trivial
theorem tw4443883879736332817 : True := trivial
theorem tw1935345227586214678 : True := trivial
theorem tw14688346502130052249 : True := trivial
theorem tw11556726216486781672 : True := trivial
theorem tw11588102657152827020 : True := trivial
theorem tw8762416275854319405 : True := trivial
theorem tw15801717422822929236 : True := trivial
theorem tw2257996732419039753 : True := trivial
theorem tw7101222285305644587 : True := trivial
theorem tw11612878038546621547 : True := trivial
theorem tw5989616595838483848 : True := trivial
theorem tw16426909145694968613 : True := trivial
theorem tw5247326914484353698 : True := trivial
theorem tw15710800044559098730 : True := trivial
theorem tw7203825374814441566 : True := trivial
theorem tw16336858776093529476 : True := trivial
theorem tw17330004002745272018 : True := trivial
theorem tw12877678331428175041 : True := trivial
theorem tw13201953508787023328 : True := trivial
theorem tw13030497691038977247 : True := trivial
theorem tw10455376007527387378 : True := trivial
theorem tw14644776365640623951 : True := trivial
theorem tw11290610367251539189 : True := trivial
theorem tw11340692815705907535 : True := trivial
theorem tw11433670945793860494 : True := trivial
theorem tw7276575819448059262 : True := trivial
theorem tw5170972845764208281 : True := trivial
theorem tw15855423280334624854 : True := trivial
theorem tw7141307047098217784 : True := trivial
theorem tw14907013377163153033 : True := trivial
theorem tw12757622478980979120 : True := trivial
theorem tw2268390902214598804 : True := trivial
theorem tw12936455181284843790 : True := trivial
theorem tw9668612290236588884 : True := trivial
theorem tw16795642486609747819 : True := trivial
theorem tw7756219296768369721 : True := trivial
theorem tw515215126214619416 : True := trivial
theorem tw12886271263206107805 : True := trivial
theorem tw5918729132085126114 : True := trivial
theorem tw11378936815510499619 : True := trivial
theorem tw13265219729934600019 : True := trivial
theorem tw8806706421966044809 : True := trivial
theorem tw8811633231319853581 : True := trivial
theorem tw6201021355686204529 : True := trivial
theorem tw10163699157148773694 : True := trivial
theorem tw14663984702340071864 : True := trivial
theorem tw17131968490945264273 : True := trivial
theorem tw3576686167353835943 : True := trivial
theorem tw16741627767759289969 : True := trivial
theorem tw12090545917725999176 : True := trivial
theorem tw2177793606012209289 : True := trivial
theorem tw8269921222069686349 : True := trivial
theorem tw7957011212838555883 : True := trivial
theorem tw5941936389275446267 : True := trivial
theorem tw7906094038720602090 : True := trivial
theorem tw18404563753544112888 : True := trivial
theorem tw6778798439763363657 : True := trivial
theorem tw2827640889064462775 : True := trivial
theorem tw17736608568597610226 : True := trivial
theorem tw9742709207421892282 : True := trivial
theorem tw16865510456387093874 : True := trivial
theorem tw17193930104273665644 : True := trivial
theorem tw10407082021137803763 : True := trivial
theorem tw16528314016404765894 : True := trivial
theorem tw4602830622734347916 : True := trivial
theorem tw9192151966965185959 : True := trivial
theorem tw14611247509472685445 : True := trivial
theorem tw13340740074857498932 : True := trivial
theorem tw8360589929782431435 : True := trivial
theorem tw4706266064244761412 : True := trivial
theorem tw5228463915500723994 : True := trivial
theorem tw4821547593413278625 : True := trivial
theorem tw16153467710048317380 : True := trivial
theorem tw18189482884716286432 : True := trivial
theorem tw10861607722678097645 : True := trivial
theorem tw12712109763133864494 : True := trivial
theorem tw9525151965873019642 : True := trivial
theorem tw16518100598257999599 : True := trivial
theorem tw12471712249419252991 : True := trivial
theorem tw11182166964865914368 : True := trivial
theorem tw17921995150358509802 : True := trivial
theorem tw7534299484858225015 : True := trivial
theorem tw782048813040210652 : True := trivial
theorem tw9449330988584748638 : True := trivial
theorem tw7434791715112866262 : True := trivial
theorem tw18085435564784571985 : True := trivial
theorem tw12980952021181449554 : True := trivial
theorem tw8955538491408516432 : True := trivial
theorem tw16558154832131563910 : True := trivial
theorem tw6369435464809532943 : True := trivial
theorem tw1874983686932839904 : True := trivial
theorem tw4691797400127658271 : True := trivial
theorem tw6980220065124325155 : True := trivial
theorem tw17450142637885017271 : True := trivial
theorem tw11782516360648727564 : True := trivial
theorem tw2403557359764019079 : True := trivial
theorem tw7944037413394141382 : True := trivial
theorem tw10722276197842294030 : True := trivial
theorem tw8729696422473331917 : True := trivial
theorem tw7849721700160445152 : True := trivial
theorem tw9107013875584968876 : True := trivial
theorem tw9761871381925378360 : True := trivial
theorem tw16292021584776610246 : True := trivial
theorem tw2350100660345850980 : True := trivial
theorem tw3207255367706571076 : True := trivial
theorem tw17197471121406515337 : True := trivial
theorem tw16520765167308772109 : True := trivial
theorem tw16317836175286823916 : True := trivial
theorem tw16910743398310431922 : True := trivial
theorem tw10939492501506347421 : True := trivial
theorem tw1008857372485587316 : True := trivial
theorem tw13263915393491217998 : True := trivial
theorem tw17883462935120031383 : True := trivial
theorem tw1803860412908810736 : True := trivial
theorem tw12448363746419847686 : True := trivial
theorem tw5372923448512629618 : True := trivial
theorem tw9710203266988678663 : True := trivial
theorem tw17367787912514891326 : True := trivial
theorem tw14966857062014435417 : True := trivial
theorem tw13310870129127917192 : True := trivial
theorem tw7133417136016249525 : True := trivial
theorem tw16337503098281066321 : True := trivial
theorem tw8532003011294132370 : True := trivial
theorem tw9121685429599446373 : True := trivial
theorem tw4293490146832419737 : True := trivial
theorem tw10493126813391973141 : True := trivial
theorem tw13144814040425173724 : True := trivial
theorem tw15281048114803609326 : True := trivial
theorem tw14731374958093328651 : True := trivial
theorem tw18294828087227138159 : True := trivial
theorem tw2935959937984254460 : True := trivial
theorem tw3835933262451747309 : True := trivial
theorem tw4704011915603016975 : True := trivial
theorem tw1483329050843369016 : True := trivial
theorem tw6639329709896978055 : True := trivial
theorem tw13325279721452748219 : True := trivial
theorem tw17414008653383540885 : True := trivial
theorem tw9254168845739782300 : True := trivial
theorem tw3955852934457497843 : True := trivial
theorem tw7904643159541372351 : True := trivial
theorem tw3623029050621231634 : True := trivial
theorem tw8184632936835207209 : True := trivial
theorem tw5933782747974956313 : True := trivial
theorem tw16381220347514063360 : True := trivial
theorem tw7719731528414782929 : True := trivial
theorem tw14868887693042949827 : True := trivial
theorem tw16897997498235364026 : True := trivial
theorem tw7812179814118413228 : True := trivial
theorem tw10675328328947626539 : True := trivial
theorem tw6098237936693223844 : True := trivial
theorem tw16458488778021870369 : True := trivial
theorem tw6364348051910999432 : True := trivial
theorem tw9675467474290408104 : True := trivial
theorem tw917546950622390498 : True := trivial
theorem tw5792320200078900808 : True := trivial
theorem tw6592719831885826844 : True := trivial
theorem tw823746815753794430 : True := trivial
theorem tw6690603924113316172 : True := trivial
theorem tw574929356200952159 : True := trivial
theorem tw13021952769628903469 : True := trivial
theorem tw7535213788116697865 : True := trivial
theorem tw3180734952351902503 : True := trivial
theorem tw2493983251259255600 : True := trivial
theorem tw10910469160062180899 : True := trivial
theorem tw17241654136257465342 : True := trivial
theorem tw138303690109342065 : True := trivial
theorem tw9442263139774466630 : True := trivial
theorem tw9656337843827423865 : True := trivial
theorem tw3783188851243092293 : True := trivial
theorem tw16679421320149176961 : True := trivial
theorem tw1996297940181239416 : True := trivial
theorem tw564219164290379090 : True := trivial
theorem tw12109364764805519916 : True := trivial
theorem tw8064394480504971805 : True := trivial
theorem tw13597706064882992767 : True := trivial
theorem tw6604536419622101877 : True := trivial
theorem tw17441630629548758903 : True := trivial
theorem tw4521925399310599132 : True := trivial
theorem tw16422965040006548546 : True := trivial
theorem tw8596898669979762060 : True := trivial
theorem tw2030276750434390380 : True := trivial
theorem tw4997153318099051771 : True := trivial
theorem tw355681379238306424 : True := trivial
theorem tw1347324325580948043 : True := trivial
theorem tw7613523457359709994 : True := trivial
theorem tw6358324466061389049 : True := trivial
theorem tw9587992446095283041 : True := trivial
theorem tw13804020880763136437 : True := trivial
theorem tw13493294262167171511 : True := trivial
theorem tw292119883538454155 : True := trivial
theorem tw410123992597679923 : True := trivial
theorem tw12347844441787644424 : True := trivial
theorem tw13753906118873160613 : True := trivial
theorem tw3453518961006818325 : True := trivial
theorem tw6127239096629542487 : True := trivial
theorem tw8762805324660315719 : True := trivial
theorem tw39342389368148263 : True := trivial
theorem tw16473457203095926866 : True := trivial
theorem tw9168224038937409236 : True := trivial
theorem tw4056772608933371623 : True := trivial
theorem tw16049272377969541075 : True := trivial
theorem tw5554558736192459468 : True := trivial
theorem tw15613702148649266880 : True := trivial
theorem tw4435199021540627933 : True := trivial
theorem tw18295800796604701536 : True := trivial
theorem tw4717182805427475066 : True := trivial
theorem tw1455282048899920563 : True := trivial
theorem tw12988377557306412262 : True := trivial
theorem tw7261648295539922885 : True := trivial
theorem tw11679262780866137780 : True := trivial
theorem tw3028454651423341335 : True := trivial
theorem tw17170246678302645348 : True := trivial
theorem tw487541233701629756 : True := trivial
theorem tw2762934989579798385 : True := trivial
theorem tw6675556909839597547 : True := trivial
theorem tw15295613919099641778 : True := trivial
theorem tw4314257620933949473 : True := trivial
theorem tw14105095256302998469 : True := trivial
theorem tw8175134664407717762 : True := trivial
theorem tw4596374959204742751 : True := trivial
theorem tw16444095961363837243 : True := trivial
theorem tw15312522439603182995 : True := trivial
theorem tw16653698682459251220 : True := trivial
theorem tw8754867292737046066 : True := trivial
theorem tw16216823710570277641 : True := trivial
theorem tw2613275265226012256 : True := trivial
theorem tw8563743829026149990 : True := trivial
theorem tw18283047298339781045 : True := trivial
theorem tw11771327885897419086 : True := trivial
theorem tw824565539369777254 : True := trivial
theorem tw12295181302708728070 : True := trivial
theorem tw11834913922193261247 : True := trivial
theorem tw10623641936402925283 : True := trivial
theorem tw16756339442571438925 : True := trivial
theorem tw14042473562867603130 : True := trivial
theorem tw533307483740814493 : True := trivial
theorem tw12683399972507590095 : True := trivial
theorem tw7885314978870635944 : True := trivial
theorem tw4511138077476546844 : True := trivial
theorem tw15356205107192220823 : True := trivial
theorem tw17855546322219425144 : True := trivial
theorem tw10986598530264598959 : True := trivial
theorem tw16168324967189003502 : True := trivial
theorem tw1818260198030368288 : True := trivial
theorem tw2806852066421662901 : True := trivial
theorem tw1667816603848579367 : True := trivial
theorem tw9500994933482240882 : True := trivial
theorem tw11437233740435957254 : True := trivial
theorem tw16695829687650559535 : True := trivial
theorem tw3661625262274462916 : True := trivial
theorem tw3364800270181449838 : True := trivial
theorem tw14729447649277466752 : True := trivial
theorem tw9702964625450219376 : True := trivial
theorem tw10861154668409362843 : True := trivial
theorem tw16941675334964260690 : True := trivial
theorem tw4001005749537538170 : True := trivial
theorem tw9306760895991044179 : True := trivial
theorem tw13190124144875829851 : True := trivial
theorem tw12518452275950984462 : True := trivial
theorem tw1663447569602301249 : True := trivial
theorem tw3549886891869366267 : True := trivial
theorem tw14204278067766224653 : True := trivial
theorem tw12035227093195752649 : True := trivial
theorem tw9598418361541906848 : True := trivial
theorem tw9589707089919447276 : True := trivial
theorem tw3862034396589968273 : True := trivial
theorem tw9021642450396033113 : True := trivial
theorem tw4698304384672716280 : True := trivial
theorem tw11621217728147006158 : True := trivial
theorem tw5670866917460560150 : True := trivial
theorem tw10917735642257662227 : True := trivial
theorem tw696042628053846353 : True := trivial
theorem tw15824074829806132572 : True := trivial
theorem tw12509212270787082316 : True := trivial
theorem tw16070010790400656927 : True := trivial
theorem tw3412511915836161159 : True := trivial
theorem tw15665657293579904461 : True := trivial
theorem tw1858026688571747048 : True := trivial
theorem tw1027335025692384834 : True := trivial
theorem tw13948217979696914664 : True := trivial
theorem tw13594049020800727294 : True := trivial
theorem tw5251331544045111638 : True := trivial
theorem tw2991749076842343014 : True := trivial
theorem tw661267621338193823 : True := trivial
theorem tw5592369994476571714 : True := trivial
theorem tw17441470162220962772 : True := trivial
theorem tw8593984748380479792 : True := trivial
theorem tw13923022322461968080 : True := trivial
theorem tw655711965675081328 : True := trivial
theorem tw5622650133343018278 : True := trivial
theorem tw3034594147681874203 : True := trivial
theorem tw10485405371602107852 : True := trivial
theorem tw3442318642367943114 : True := trivial
theorem tw12011448952364249240 : True := trivial
theorem tw9497169055123918974 : True := trivial
theorem tw7902496558162769487 : True := trivial
theorem tw9535299100364045079 : True := trivial
theorem tw16024570689136352981 : True := trivial
theorem tw1830682194768873770 : True := trivial
theorem tw11395824589973184973 : True := trivial
theorem tw217962420809781641 : True := trivial
theorem tw11134568189515746695 : True := trivial
theorem tw13380176258722478591 : True := trivial
theorem tw5106537418551573859 : True := trivial
theorem tw13589471338195191008 : True := trivial
theorem tw14145619408118594664 : True := trivial
theorem tw3417931198873610335 : True := trivial
theorem tw2164856132454090267 : True := trivial
theorem tw6593830171611582656 : True := trivial
theorem tw14155697104966376703 : True := trivial
theorem tw685087176232074554 : True := trivial
theorem tw17553354162345105106 : True := trivial
theorem tw17941142080171696994 : True := trivial
theorem tw7207043857668258693 : True := trivial
theorem tw9276008785382952889 : True := trivial
theorem tw12324353688150860349 : True := trivial
theorem tw3548211920940121753 : True := trivial
theorem tw18109717979184703585 : True := trivial
theorem tw14908371475797224367 : True := trivial
theorem tw7676603848162282929 : True := trivial
theorem tw10059832379358233277 : True := trivial
theorem tw2111092277215697855 : True := trivial
theorem tw1871856626913057703 : True := trivial
theorem tw15104125729006928097 : True := trivial
theorem tw9415208205634301779 : True := trivial
theorem tw3235483506483077032 : True := trivial
theorem tw13714117341209299581 : True := trivial
theorem tw14002266734326124297 : True := trivial
theorem tw5683176625099393990 : True := trivial
theorem tw11538184061888322479 : True := trivial
theorem tw1947669420875876570 : True := trivial
theorem tw2816454882247938289 : True := trivial
theorem tw10486456731442674569 : True := trivial
theorem tw12401238377611805715 : True := trivial
theorem tw11620424215771365110 : True := trivial
theorem tw17615345438766175137 : True := trivial
theorem tw7120938941038226628 : True := trivial
theorem tw12469677891288728910 : True := trivial
theorem tw13889274245076665250 : True := trivial
theorem tw4143222175375849857 : True := trivial
theorem tw6451577626736543477 : True := trivial
theorem tw2477365836757307497 : True := trivial
theorem tw4282777462611952109 : True := trivial
theorem tw5592200011446803932 : True := trivial
theorem tw8828820909483279040 : True := trivial
theorem tw16397174845243327228 : True := trivial
theorem tw14595285902295948986 : True := trivial
theorem tw6894783380617733263 : True := trivial
theorem tw974476193620200620 : True := trivial
theorem tw17307050087888438913 : True := trivial
theorem tw5172546283035164699 : True := trivial
theorem tw10683114353943288153 : True := trivial
theorem tw6726307436935008047 : True := trivial
theorem tw12499485862052662445 : True := trivial
theorem tw4048392028982310277 : True := trivial
theorem tw10493771530801242226 : True := trivial
theorem tw8607333465807766102 : True := trivial
theorem tw4867477679384831044 : True := trivial
theorem tw2625872359779613721 : True := trivial
theorem tw594527290500447803 : True := trivial
theorem tw12658059512074817815 : True := trivial
theorem tw619107889382526713 : True := trivial
theorem tw474149395905112539 : True := trivial
theorem tw5987561883490199006 : True := trivial
theorem tw1600645055736213989 : True := trivial
theorem tw15826823506916344908 : True := trivial
theorem tw6603548238765562298 : True := trivial
theorem tw18176206976949476447 : True := trivial
theorem tw11847767711256078311 : True := trivial
theorem tw6671680583059174139 : True := trivial
theorem tw12331473015046901992 : True := trivial
theorem tw1955355627594173261 : True := trivial
theorem tw6916723052170500238 : True := trivial
theorem tw8847405150490121162 : True := trivial
theorem tw3443169388450968529 : True := trivial
theorem tw6892213430942652414 : True := trivial
theorem tw2441515560999196901 : True := trivial
theorem tw14468399092579396588 : True := trivial
theorem tw5556339493774997568 : True := trivial
theorem tw2097425833320722754 : True := trivial
theorem tw16045988314007919932 : True := trivial
theorem tw17104351420381601632 : True := trivial
theorem tw7840595301330582848 : True := trivial
theorem tw18207962444668723895 : True := trivial
theorem tw14158337234826976191 : True := trivial
theorem tw3939234358502133575 : True := trivial
theorem tw10792337884084326029 : True := trivial
theorem tw4846411039276468195 : True := trivial
theorem tw2012064304186088207 : True := trivial
theorem tw18198962039256389392 : True := trivial
theorem tw10406777129040844466 : True := trivial
theorem tw7441440800098771058 : True := trivial
theorem tw12539193942239107206 : True := trivial
theorem tw16094519656648799156 : True := trivial
theorem tw12623124782311243665 : True := trivial
theorem tw6163519244186756200 : True := trivial
theorem tw12905157972217862415 : True := trivial
theorem tw16348576803484966225 : True := trivial
theorem tw9803825481403336586 : True := trivial
theorem tw4237206743828862719 : True := trivial
theorem tw16739729944272217426 : True := trivial
theorem tw5436461177596439887 : True := trivial
theorem tw16502036216781070819 : True := trivial
theorem tw4663339633609762321 : True := trivial
theorem tw7510155083278845721 : True := trivial
theorem tw15632270388110854606 : True := trivial
theorem tw13665094721901215152 : True := trivial
theorem tw11181373988481629891 : True := trivial
theorem tw15349093888822968304 : True := trivial
theorem tw11353153462811107723 : True := trivial
theorem tw15962124782845747000 : True := trivial
theorem tw5111151624853627287 : True := trivial
theorem tw2049924886665106390 : True := trivial
theorem tw8808100769078648392 : True := trivial
theorem tw16015505221257232878 : True := trivial
theorem tw2480424560284291708 : True := trivial
theorem tw14431016150627067878 : True := trivial
theorem tw16838666887284830533 : True := trivial
theorem tw11525192089581093250 : True := trivial
theorem tw70498807037558108 : True := trivial
theorem tw2727380434784257061 : True := trivial
theorem tw4989594468506526175 : True := trivial
theorem tw16568937850215371843 : True := trivial
theorem tw930010564258890473 : True := trivial
theorem tw16547750483021666277 : True := trivial
theorem tw7457730746679334770 : True := trivial
theorem tw4507290862972944692 : True := trivial
theorem tw13953359757602237656 : True := trivial
theorem tw732312574247434334 : True := trivial
theorem tw16010172489265326837 : True := trivial
theorem tw18082487685865211517 : True := trivial
theorem tw18014496026373773238 : True := trivial
theorem tw8554600156755370693 : True := trivial
theorem tw12577647869517835489 : True := trivial
theorem tw9696086211761620166 : True := trivial
theorem tw17870718304884439518 : True := trivial
theorem tw8063134159712996188 : True := trivial
theorem tw93261557982341371 : True := trivial
theorem tw7279117958612786691 : True := trivial
theorem tw17242644724163661673 : True := trivial
theorem tw2841536151596093501 : True := trivial
theorem tw11367408556770244275 : True := trivial
theorem tw8622715670224952489 : True := trivial
theorem tw13291102243817034646 : True := trivial
theorem tw491186857770846262 : True := trivial
theorem tw6010749936376067748 : True := trivial
theorem tw743485100934661740 : True := trivial
theorem tw1734872908619131814 : True := trivial
theorem tw3070642799248470989 : True := trivial
theorem tw17092638103596539290 : True := trivial
theorem tw8698618899815701093 : True := trivial
theorem tw16981479803883345905 : True := trivial
theorem tw16876107466916904805 : True := trivial
theorem tw9721523951387243427 : True := trivial
theorem tw8175752709568897239 : True := trivial
theorem tw7107089902565451736 : True := trivial
theorem tw18366694191442730829 : True := trivial
theorem tw15332326983257410895 : True := trivial
theorem tw10779988605301407847 : True := trivial
theorem tw16047832380685191474 : True := trivial
theorem tw3654220668883400580 : True := trivial
theorem tw11025273500432423538 : True := trivial
theorem tw1653661474140921918 : True := trivial
theorem tw18424850614146404831 : True := trivial
theorem tw9869349408540238021 : True := trivial
theorem tw9321246799082692451 : True := trivial
theorem tw1867882063136142005 : True := trivial
theorem tw8865061678117693318 : True := trivial
theorem tw5108158431380627018 : True := trivial
theorem tw6294187653048005805 : True := trivial
theorem tw15956425073814632119 : True := trivial
theorem tw4607002602252501634 : True := trivial
theorem tw6063204998240178853 : True := trivial
theorem tw13745684810256694490 : True := trivial
theorem tw5834577553754628147 : True := trivial
theorem tw750275582406499287 : True := trivial
theorem tw13801351000303474840 : True := trivial
theorem tw5392670768353589378 : True := trivial
theorem tw6520142156727733798 : True := trivial
theorem tw2812113679572632455 : True := trivial
theorem tw11932215018489706324 : True := trivial
theorem tw3924823128427367124 : True := trivial
theorem tw5970768061225405346 : True := trivial
theorem tw18088428786093265317 : True := trivial
theorem tw5715962987434848705 : True := trivial
theorem tw11291899514713585656 : True := trivial
theorem tw2552741409298055512 : True := trivial
theorem tw5083060694040272068 : True := trivial
theorem tw811214334860133095 : True := trivial
theorem tw12626034542779422667 : True := trivial
theorem tw13500288191338140432 : True := trivial
theorem tw331522871486375892 : True := trivial
theorem tw1485408312466622396 : True := trivial
theorem tw14442931758689737373 : True := trivial
theorem tw4911642376753804252 : True := trivial
theorem tw2608739544485136836 : True := trivial
theorem tw6063095575262799357 : True := trivial
theorem tw2070246945343954374 : True := trivial
theorem tw5910450795504426667 : True := trivial
theorem tw10956397867825702447 : True := trivial
theorem tw4771595840870681458 : True := trivial
theorem tw16226818727966268179 : True := trivial
theorem tw6373624437533039682 : True := trivial
theorem tw14252705164096581054 : True := trivial
theorem tw16247413571345158263 : True := trivial
theorem tw2297185824054980039 : True := trivial
theorem tw4414751402241852650 : True := trivial
theorem tw14062483795852728574 : True := trivial
theorem tw8163421238985881702 : True := trivial
theorem tw6149434237172388753 : True := trivial
theorem tw14844003785363428862 : True := trivial
theorem tw8655286422622996876 : True := trivial
theorem tw915830439309977720 : True := trivial
theorem tw15312521097975302558 : True := trivial
theorem tw16842175914140737170 : True := trivial
theorem tw2945769429839659922 : True := trivial
theorem tw3955266212922683391 : True := trivial
theorem tw4411105458221745104 : True := trivial
theorem tw16806447762624348808 : True := trivial
theorem tw15950025295439693292 : True := trivial
theorem tw10699763409834848417 : True := trivial
theorem tw12046390540178859956 : True := trivial
theorem tw5237729106771934359 : True := trivial
theorem tw7842817853751551968 : True := trivial
theorem tw5729263615523921274 : True := trivial
theorem tw4427319137363604045 : True := trivial
theorem tw6535269539076420358 : True := trivial
theorem tw4717470466422284885 : True := trivial
theorem tw2843118347223103591 : True := trivial
theorem tw6447354699508591021 : True := trivial
theorem tw654969674387664532 : True := trivial
theorem tw3513598424388188490 : True := trivial
theorem tw13276040478768725519 : True := trivial
theorem tw18203304103357031962 : True := trivial
theorem tw10079556219415292454 : True := trivial
theorem tw17157895514231115188 : True := trivial
theorem tw1459018322172075653 : True := trivial
theorem tw4300004632885593368 : True := trivial
theorem tw1574458398038224464 : True := trivial
theorem tw7851560821401663365 : True := trivial
theorem tw2657195422706392442 : True := trivial
theorem tw11567029540198264177 : True := trivial
theorem tw5784779288447143288 : True := trivial
theorem tw8465160137693132672 : True := trivial
theorem tw11835915999469128382 : True := trivial
theorem tw15240619060817309429 : True := trivial
theorem tw13241320064406282864 : True := trivial
theorem tw1685155320816730939 : True := trivial
theorem tw8796222274682916419 : True := trivial
theorem tw17876391355589132521 : True := trivial
theorem tw629452298931686355 : True := trivial
theorem tw6477196337264839834 : True := trivial
theorem tw5868182394917820653 : True := trivial
theorem tw15074567349246670958 : True := trivial
theorem tw15419081458417970130 : True := trivial
theorem tw15641580187897885331 : True := trivial
theorem tw10791642867621305633 : True := trivial
theorem tw8577269556314873531 : True := trivial
theorem tw9439388711422846667 : True := trivial
theorem tw16958018644716811701 : True := trivial
theorem tw5113378697193178487 : True := trivial
theorem tw16673466482682623435 : True := trivial
theorem tw14250963848787800796 : True := trivial
theorem tw924701932326250107 : True := trivial
theorem tw17994013817220674756 : True := trivial
theorem tw4927413561728404717 : True := trivial
theorem tw10615176331773112313 : True := trivial
theorem tw1357536257345270860 : True := trivial
theorem tw11529626924411806440 : True := trivial
theorem tw10792260404839262358 : True := trivial
theorem tw7930152167004698755 : True := trivial
theorem tw16240205490895200268 : True := trivial
theorem tw4929403223066961646 : True := trivial
theorem tw14948946553619351714 : True := trivial
theorem tw4641094309098267753 : True := trivial
theorem tw14533356103646857380 : True := trivial
theorem tw15407009219841356742 : True := trivial
theorem tw9040157698064198192 : True := trivial
theorem tw13494247786099895456 : True := trivial
theorem tw9798726674798025421 : True := trivial
theorem tw2674596991758943709 : True := trivial
theorem tw11464896156537934433 : True := trivial
theorem tw368252977896883072 : True := trivial
theorem tw6644838178888991142 : True := trivial
theorem tw10203510493761906111 : True := trivial
theorem tw3746581134679632303 : True := trivial
theorem tw17391818289547491033 : True := trivial
theorem tw7878005411850374067 : True := trivial
theorem tw15729781191551757713 : True := trivial
theorem tw4433436663903201871 : True := trivial
theorem tw8881146989364862501 : True := trivial
theorem tw3383500186875466049 : True := trivial
theorem tw10949822455540983707 : True := trivial
theorem tw4405698472789934460 : True := trivial
theorem tw6763949313679470240 : True := trivial
theorem tw1257297961608031085 : True := trivial
theorem tw16239788225800502525 : True := trivial
theorem tw8296374392668522580 : True := trivial
theorem tw11681774853174705451 : True := trivial
theorem tw2776663979604012986 : True := trivial
theorem tw17829927759817667871 : True := trivial
theorem tw9715917771196739908 : True := trivial
theorem tw14113681282276387680 : True := trivial
theorem tw6456886327738535956 : True := trivial
theorem tw11709224445936409220 : True := trivial
theorem tw16628210442386878179 : True := trivial
theorem tw15039463199795613581 : True := trivial
theorem tw12666598244878721255 : True := trivial
theorem tw4595394201602778594 : True := trivial
theorem tw8707312654363111340 : True := trivial
theorem tw13313477451970788985 : True := trivial
theorem tw10366612731957972524 : True := trivial
theorem tw14168654531626850410 : True := trivial
theorem tw13238673300668499945 : True := trivial
theorem tw17074763438803191531 : True := trivial
theorem tw13423591083834444775 : True := trivial
theorem tw5072144371416222251 : True := trivial
theorem tw10113642052919091436 : True := trivial
theorem tw2849496910816821525 : True := trivial
theorem tw9537073410671760232 : True := trivial
theorem tw16092967279451269370 : True := trivial
theorem tw10920874816648675690 : True := trivial
theorem tw9807579435533686202 : True := trivial
theorem tw5198471039498731749 : True := trivial
theorem tw5898259345762267443 : True := trivial
theorem tw18104135173844595010 : True := trivial
theorem tw4281301027533381527 : True := trivial
theorem tw13444828190097689505 : True := trivial
theorem tw9846180584793353056 : True := trivial
theorem tw18441599516625301978 : True := trivial
theorem tw9471420125393096796 : True := trivial
theorem tw5116159670068498907 : True := trivial
theorem tw5691853401121516169 : True := trivial
theorem tw15455826866905131347 : True := trivial
theorem tw9568707804734155411 : True := trivial
theorem tw2293190232400389531 : True := trivial
theorem tw1585258238097021745 : True := trivial
theorem tw8847741788676474462 : True := trivial
theorem tw1533209435838295888 : True := trivial
theorem tw12766499625700653630 : True := trivial
theorem tw5059711651626346428 : True := trivial
theorem tw1309982607405389734 : True := trivial
theorem tw6676778108291167977 : True := trivial
theorem tw3260703054241578215 : True := trivial
theorem tw11930133607809374 : True := trivial
theorem tw16246769382255680981 : True := trivial
theorem tw13067574922633298193 : True := trivial
theorem tw6558104527111542526 : True := trivial
theorem tw17861017807408253215 : True := trivial
theorem tw11508066353340090041 : True := trivial
theorem tw3833336878276502823 : True := trivial
theorem tw7982193725660233804 : True := trivial
theorem tw10571368045942458029 : True := trivial
theorem tw11719709149877725211 : True := trivial
theorem tw8246203525235585498 : True := trivial
theorem tw9749983530630676701 : True := trivial
theorem tw10562691389856133603 : True := trivial
theorem tw10520324403847029424 : True := trivial
theorem tw12420015141225342560 : True := trivial
theorem tw5883516550646536078 : True := trivial
theorem tw11309700016646510346 : True := trivial
theorem tw8080891551715873268 : True := trivial
theorem tw14328980841506220167 : True := trivial
theorem tw8340478932136019034 : True := trivial
theorem tw31278395164477778 : True := trivial
theorem tw11369533327070843863 : True := trivial
theorem tw6440252909438042728 : True := trivial
theorem tw10031395015673923390 : True := trivial
theorem tw5241859629007264429 : True := trivial
theorem tw13053565890226533312 : True := trivial
theorem tw2415092388056131097 : True := trivial
theorem tw4434299625926606480 : True := trivial
theorem tw10158146477114386684 : True := trivial
theorem tw16197638288823466322 : True := trivial
theorem tw5810478016184190454 : True := trivial
theorem tw3731062248005861200 : True := trivial
theorem tw3316292363888840139 : True := trivial
theorem tw2561834645875845419 : True := trivial
theorem tw15625873251145097797 : True := trivial
theorem tw4280629618934600928 : True := trivial
theorem tw11346161717494644756 : True := trivial
theorem tw11734657845198186993 : True := trivial
theorem tw3206222364569497476 : True := trivial
theorem tw3633552432144576534 : True := trivial
theorem tw329781038938907916 : True := trivial
theorem tw17975086364968452920 : True := trivial
theorem tw15553037688386491600 : True := trivial
theorem tw15972597889529420929 : True := trivial
theorem tw5858959192138139038 : True := trivial
theorem tw6972481938119499597 : True := trivial
theorem tw17316196577216032132 : True := trivial
theorem tw234968147568228030 : True := trivial
theorem tw7833724976509246416 : True := trivial
theorem tw10120971868045413332 : True := trivial
theorem tw8742590957847685847 : True := trivial
theorem tw9694851840044084234 : True := trivial
theorem tw11150135440353912839 : True := trivial
theorem tw1262449744392301959 : True := trivial
theorem tw4610727433083156558 : True := trivial
theorem tw17567261043472814002 : True := trivial
theorem tw7410045421141503808 : True := trivial
theorem tw5385250757340483677 : True := trivial
theorem tw6452964320248239592 : True := trivial
theorem tw9694347248094350314 : True := trivial
theorem tw4461592370009088726 : True := trivial
theorem tw1392042768062048765 : True := trivial
theorem tw16615909695221785671 : True := trivial
theorem tw11203323969108690694 : True := trivial
theorem tw9312298954987165576 : True := trivial
theorem tw1561747156477030982 : True := trivial
theorem tw13821006367921131813 : True := trivial
theorem tw13989818498868437086 : True := trivial
theorem tw8477304144042825517 : True := trivial
theorem tw15515875515792074344 : True := trivial
theorem tw9889650081344266429 : True := trivial
theorem tw386141832289218477 : True := trivial
theorem tw14806627466999897177 : True := trivial
theorem tw1638794592603779893 : True := trivial
theorem tw16803235820809353421 : True := trivial
theorem tw6000217261953977402 : True := trivial
theorem tw13420939728520608685 : True := trivial
theorem tw15847578481309650953 : True := trivial
theorem tw16188232496383394969 : True := trivial
theorem tw6073943053672937945 : True := trivial
theorem tw7325912720326461485 : True := trivial
theorem tw11203190738707887914 : True := trivial
theorem tw7030839280034573233 : True := trivial
theorem tw12803288042314663620 : True := trivial
theorem tw361454239486486510 : True := trivial
theorem tw16057686552414400801 : True := trivial
theorem tw11815236301261081650 : True := trivial
theorem tw17070738179533320625 : True := trivial
theorem tw15436033090331653251 : True := trivial
theorem tw753333057149656940 : True := trivial
theorem tw3407546188610986370 : True := trivial
theorem tw18285103213716982027 : True := trivial
theorem tw4292119655978869746 : True := trivial
theorem tw12695657783211487538 : True := trivial
theorem tw6520785429542678163 : True := trivial
theorem tw16880711356955509286 : True := trivial
theorem tw13417423548858019091 : True := trivial
theorem tw2158488622013378570 : True := trivial
theorem tw17683776690931818696 : True := trivial
theorem tw15580461551837703167 : True := trivial
theorem tw1821334872614553279 : True := trivial
theorem tw9082893956086023504 : True := trivial
theorem tw15279126822857352242 : True := trivial
theorem tw248713408805440745 : True := trivial
theorem tw14312093547113971099 : True := trivial
theorem tw9488225054690202146 : True := trivial
theorem tw5311168832372626954 : True := trivial
theorem tw9606588724757918220 : True := trivial
theorem tw17151717439339942829 : True := trivial
theorem tw733715934233008818 : True := trivial
theorem tw15213457633311244206 : True := trivial
theorem tw5583129290439077366 : True := trivial
theorem tw8439726154952700754 : True := trivial
theorem tw3385523623974764048 : True := trivial
theorem tw13402146225366092889 : True := trivial
theorem tw15241777603297011121 : True := trivial
theorem tw10708044493893490588 : True := trivial
theorem tw5996652198057166163 : True := trivial
theorem tw15161620364623755829 : True := trivial
theorem tw9470691778660781796 : True := trivial
theorem tw2717545330405370484 : True := trivial
theorem tw7632131903575311398 : True := trivial
theorem tw5055368475758403737 : True := trivial
theorem tw1646737963457543822 : True := trivial
theorem tw16886425355225083660 : True := trivial
theorem tw8717229494661867834 : True := trivial
theorem tw5194981640185272018 : True := trivial
theorem tw15325930591191830760 : True := trivial
theorem tw14710383732068494225 : True := trivial
theorem tw6661438297310680424 : True := trivial
theorem tw2472417869771204349 : True := trivial
theorem tw3960870053542212033 : True := trivial
theorem tw17793273296273070897 : True := trivial
theorem tw10271552749666749348 : True := trivial
theorem tw6105000947890169078 : True := trivial
theorem tw1391244021118633548 : True := trivial
theorem tw1649459779228550691 : True := trivial
theorem tw14494759181910151893 : True := trivial
theorem tw6533515375139974081 : True := trivial
theorem tw4287075710923327091 : True := trivial
theorem tw15006770320006715315 : True := trivial
theorem tw5210677399170768407 : True := trivial
theorem tw12712665318244997731 : True := trivial
theorem tw9428978438548886735 : True := trivial
theorem tw276420633869306557 : True := trivial
theorem tw5434451170031492230 : True := trivial
theorem tw15751277757588659518 : True := trivial
theorem tw2810638375037302309 : True := trivial
theorem tw11019194970619499237 : True := trivial
theorem tw9806097663775937169 : True := trivial
theorem tw534146594930556745 : True := trivial
theorem tw3501963535692447381 : True := trivial
theorem tw4407186943676396922 : True := trivial
theorem tw4454515773148275685 : True := trivial
theorem tw11444546373758606104 : True := trivial
theorem tw391181312911205160 : True := trivial
theorem tw18041529753227932458 : True := trivial
theorem tw10685171215563380395 : True := trivial
theorem tw970775262730474538 : True := trivial
theorem tw6210251073960717354 : True := trivial
theorem tw10667074501276870271 : True := trivial
theorem tw8367450739028316325 : True := trivial
theorem tw699088088242318094 : True := trivial
theorem tw15637283979415169065 : True := trivial
theorem tw12157459685454641424 : True := trivial
theorem tw2884352205713136103 : True := trivial
theorem tw9653056649866708132 : True := trivial
theorem tw10158576997712000062 : True := trivial
theorem tw10997700800370710746 : True := trivial
theorem tw16109715236376786335 : True := trivial
theorem tw16206099765936942005 : True := trivial
theorem tw2276838782433965764 : True := trivial
theorem tw16704274354819391445 : True := trivial
theorem tw6495227573100175660 : True := trivial
theorem tw6938481973704908164 : True := trivial
theorem tw17998789727956154582 : True := trivial
theorem tw18425134255677711572 : True := trivial
theorem tw13692930852240515791 : True := trivial
theorem tw6800801702792656812 : True := trivial
theorem tw14526335230327310710 : True := trivial
theorem tw17880175585801686101 : True := trivial
theorem tw6459478213176053247 : True := trivial
theorem tw17069519168165967993 : True := trivial
theorem tw5997348756416077803 : True := trivial
theorem tw9530430493933621268 : True := trivial
theorem tw9221174465832905332 : True := trivial
theorem tw13126141676379979839 : True := trivial
theorem tw15781501461602934260 : True := trivial
theorem tw12296630283948252882 : True := trivial
theorem tw2298460077975822817 : True := trivial
theorem tw18239647033647438571 : True := trivial
theorem tw16312001862041952457 : True := trivial
theorem tw9064330948085186615 : True := trivial
theorem tw14515920198678787211 : True := trivial
theorem tw13186640726036548763 : True := trivial
theorem tw5965473186552303774 : True := trivial
theorem tw13513064202503449594 : True := trivial
theorem tw16753763447336073069 : True := trivial
theorem tw497121688118671863 : True := trivial
theorem tw1712854709213654187 : True := trivial
theorem tw6380046235151765899 : True := trivial
theorem tw3711069154352933676 : True := trivial
theorem tw4389401695717120359 : True := trivial
theorem tw7168799839577575913 : True := trivial
theorem tw10527291054657448231 : True := trivial
theorem tw286537418645537589 : True := trivial
theorem tw3314963448003608614 : True := trivial
theorem tw7419174923453608620 : True := trivial
theorem tw1525367244378091773 : True := trivial
theorem tw11528994183204517621 : True := trivial
theorem tw6212173970880808087 : True := trivial
theorem tw13737084657922275415 : True := trivial
theorem tw3394711385023340381 : True := trivial
theorem tw16609946437048369640 : True := trivial
theorem tw6101770155047538692 : True := trivial
theorem tw2897970680174034824 : True := trivial
theorem tw6543430384318009653 : True := trivial
theorem tw2099966880493345743 : True := trivial
theorem tw12402613122365061419 : True := trivial
theorem tw10125234762174114989 : True := trivial
theorem tw9095523197824828595 : True := trivial
theorem tw16831009304022639372 : True := trivial
theorem tw4564663089953491394 : True := trivial
theorem tw9766523939532401857 : True := trivial
theorem tw10718925494866513754 : True := trivial
theorem tw17523312807452729572 : True := trivial
theorem tw769955445774758775 : True := trivial
theorem tw10998304745859857037 : True := trivial
theorem tw8191480991321083501 : True := trivial
theorem tw15804272639727387880 : True := trivial
theorem tw7972761624648503109 : True := trivial
theorem tw16943484883676745906 : True := trivial
theorem tw2667050996618716025 : True := trivial
theorem tw14929715282396304620 : True := trivial
theorem tw9629478460072676958 : True := trivial
theorem tw16160311808359123342 : True := trivial
theorem tw9701835991013381885 : True := trivial
theorem tw12543335762291554631 : True := trivial
theorem tw13330033418975821617 : True := trivial
theorem tw3608516762716683815 : True := trivial
theorem tw15834966683553949507 : True := trivial
theorem tw8138750096686946757 : True := trivial
theorem tw10568515074954456207 : True := trivial
theorem tw11333174202386773595 : True := trivial
theorem tw2324083710662779175 : True := trivial
theorem tw7011273343984508910 : True := trivial
theorem tw16626398920508930138 : True := trivial
theorem tw6094159440161507990 : True := trivial
theorem tw2615450403217965798 : True := trivial
theorem tw8402052365582221623 : True := trivial
theorem tw18152443768270085538 : True := trivial
theorem tw14311025490455866102 : True := trivial
theorem tw11638520725099345142 : True := trivial
theorem tw6510353870842002537 : True := trivial
theorem tw13135617065879317343 : True := trivial
theorem tw12584074101736690014 : True := trivial
theorem tw7390970346345191438 : True := trivial
theorem tw2727101741619099612 : True := trivial
theorem tw3552663413232227930 : True := trivial
theorem tw13460623180363624405 : True := trivial
theorem tw15160934558517475613 : True := trivial
theorem tw16240152992873310278 : True := trivial
theorem tw3618984703078531681 : True := trivial
theorem tw18186420711714374999 : True := trivial
theorem tw2563610141946897739 : True := trivial
theorem tw5212025103031361939 : True := trivial
theorem tw12852875217318152517 : True := trivial
theorem tw18298430113036323141 : True := trivial
theorem tw5264940595124367802 : True := trivial
theorem tw10671556293345504080 : True := trivial
theorem tw18325547128902726068 : True := trivial
theorem tw14626829308353737841 : True := trivial
theorem tw4451608207289033280 : True := trivial
theorem tw18156380261136485309 : True := trivial
theorem tw664070319046062426 : True := trivial
theorem tw6970679408005943245 : True := trivial
theorem tw4420890032003702057 : True := trivial
theorem tw13969657365433171494 : True := trivial
theorem tw14254297517777856912 : True := trivial
theorem tw16901365138230696911 : True := trivial
theorem tw17039204482364529779 : True := trivial
theorem tw1565013558419069631 : True := trivial
theorem tw529764467613427405 : True := trivial
theorem tw2718417739650839293 : True := trivial
theorem tw2858036770992644037 : True := trivial
theorem tw7428178384710226357 : True := trivial
theorem tw16242591409958934304 : True := trivial
theorem tw71600244502463117 : True := trivial
theorem tw1595847690541720362 : True := trivial
theorem tw16657153874388261087 : True := trivial
theorem tw15707238893199400382 : True := trivial
theorem tw2332177337343846048 : True := trivial
theorem tw17522504518200694595 : True := trivial
theorem tw13926743869942561896 : True := trivial
theorem tw17456459186262921993 : True := trivial
theorem tw2773594907820981391 : True := trivial
theorem tw4820755371810330340 : True := trivial
theorem tw17042462398515736998 : True := trivial
theorem tw11590877638436194298 : True := trivial
theorem tw7626319035232643009 : True := trivial
theorem tw5055159134510353958 : True := trivial
theorem tw5803931619974089651 : True := trivial
theorem tw18305472452647481566 : True := trivial
theorem tw7159597263161364017 : True := trivial
theorem tw3792576152990399952 : True := trivial
theorem tw3702151581554907716 : True := trivial
theorem tw14569087140554114636 : True := trivial
theorem tw13050274184973220283 : True := trivial
theorem tw9972337750598207370 : True := trivial
theorem tw11032109510674930368 : True := trivial
theorem tw13428684240197406843 : True := trivial
theorem tw15709739434052832651 : True := trivial
theorem tw8842671766345268551 : True := trivial
theorem tw4983067629749612307 : True := trivial
theorem tw16099861822158979033 : True := trivial
theorem tw12542076046430377966 : True := trivial
theorem tw10667872421239341586 : True := trivial
theorem tw15919553915596933947 : True := trivial
theorem tw1383275484469514622 : True := trivial
theorem tw5343231135653560279 : True := trivial
theorem tw7318590953573194000 : True := trivial
theorem tw14340105542696648759 : True := trivial
theorem tw16049032209816339287 : True := trivial
theorem tw6289502873878431225 : True := trivial
theorem tw13423264508511158018 : True := trivial
theorem tw6594744609012567594 : True := trivial
theorem tw15126672194547211431 : True := trivial
theorem tw16182795423214515521 : True := trivial
theorem tw9782778265027706620 : True := trivial
theorem tw3944228978335704226 : True := trivial
theorem tw5445475426855268064 : True := trivial
theorem tw3328890323595149791 : True := trivial
theorem tw17111942055622660974 : True := trivial
theorem tw8095933776310720474 : True := trivial
theorem tw18188549175519520337 : True := trivial
theorem tw13278874843511650512 : True := trivial
theorem tw11694373519387912217 : True := trivial
theorem tw10029971121905713217 : True := trivial
theorem tw8560975617730501697 : True := trivial
theorem tw12415870383561949052 : True := trivial
theorem tw17564125578904587188 : True := trivial
theorem tw6827132158152527544 : True := trivial
theorem tw293047537636541175 : True := trivial
theorem tw3252321777579048744 : True := trivial
theorem tw6872345135956253260 : True := trivial
theorem tw10520764916979859874 : True := trivial
theorem tw17596149831375654411 : True := trivial
theorem tw15257857345835398373 : True := trivial
theorem tw15280352280050732916 : True := trivial
theorem tw10762963178556042659 : True := trivial
theorem tw9576137410448187777 : True := trivial
theorem tw5116164583522765773 : True := trivial
theorem tw9111216431908059703 : True := trivial
theorem tw10564966248916721774 : True := trivial
theorem tw5714148562715107382 : True := trivial
theorem tw4834057622891305822 : True := trivial
theorem tw15846647747802741840 : True := trivial
theorem tw258182072672835876 : True := trivial
theorem tw5790873096538923764 : True := trivial
theorem tw7293941747692465293 : True := trivial
theorem tw1913305794190186649 : True := trivial
theorem tw880753044702872639 : True := trivial
theorem tw14024896577244873523 : True := trivial
theorem tw1538238074824994938 : True := trivial
theorem tw7833759164475007575 : True := trivial
theorem tw8011155774836096217 : True := trivial
theorem tw8555869686120099825 : True := trivial
theorem tw9648852917228006435 : True := trivial
theorem tw15454599870274192447 : True := trivial
theorem tw11533485637031373743 : True := trivial
theorem tw4557235534784972978 : True := trivial
theorem tw5874675133562394163 : True := trivial
theorem tw2862365677022264524 : True := trivial
theorem tw5636391925626370382 : True := trivial
theorem tw14023772880297148723 : True := trivial
theorem tw10417982894098276369 : True := trivial
theorem tw11130996503185832432 : True := trivial
theorem tw9655495434616933922 : True := trivial
theorem tw11513328954173140465 : True := trivial
theorem tw8178899551291666075 : True := trivial
theorem tw16391279810975066096 : True := trivial
theorem tw9655998086854780064 : True := trivial
theorem tw3101268068951780718 : True := trivial
theorem tw10542469979299335370 : True := trivial
theorem tw1431096048147939740 : True := trivial
theorem tw2651252472590151186 : True := trivial
theorem tw11096559299026523906 : True := trivial
theorem tw10614051576243972338 : True := trivial
theorem tw6661324313033569382 : True := trivial
theorem tw2877886015158947018 : True := trivial
theorem tw5977149147941963508 : True := trivial
theorem tw4812146173914356109 : True := trivial
theorem tw17588185420535927818 : True := trivial
theorem tw10445922068971208708 : True := trivial
theorem tw4256765682000890467 : True := trivial
theorem tw14893778665591669872 : True := trivial
theorem tw11437217176295382360 : True := trivial
theorem tw9199248619368122792 : True := trivial
theorem tw7749234552851192532 : True := trivial
theorem tw15501190301290790579 : True := trivial
theorem tw4067481194442822225 : True := trivial
theorem tw8764387927541221555 : True := trivial
theorem tw7439092365344558207 : True := trivial
theorem tw2097101165937696361 : True := trivial
theorem tw17083427171924091768 : True := trivial
theorem tw10392463842436291374 : True := trivial
theorem tw13200472272577071106 : True := trivial
theorem tw8564916913835666297 : True := trivial
theorem tw17548168023355480150 : True := trivial
theorem tw17336782086450296560 : True := trivial
theorem tw18402331173767982287 : True := trivial
theorem tw17687672834878441063 : True := trivial
theorem tw12059576729214819855 : True := trivial
theorem tw12465566034769103136 : True := trivial
theorem tw12459787162761613518 : True := trivial
theorem tw15514392727102290513 : True := trivial
theorem tw2395177424795991654 : True := trivial
theorem tw1500461263561520040 : True := trivial
theorem tw1557320902068247745 : True := trivial
theorem tw16122444673025115806 : True := trivial
theorem tw13509370249497914368 : True := trivial
theorem tw182554099182043115 : True := trivial
theorem tw195309036692222651 : True := trivial
theorem tw7052768690104331453 : True := trivial
theorem tw648975110441947642 : True := trivial
theorem tw2613916173313253480 : True := trivial
theorem tw13089418481321874923 : True := trivial
theorem tw6457662408836973224 : True := trivial
theorem tw7374695571250465669 : True := trivial
theorem tw13794950164072245607 : True := trivial
theorem tw11781179169372094275 : True := trivial
theorem tw2076374419621260955 : True := trivial
theorem tw15866821022436810801 : True := trivial
theorem tw860805012291021372 : True := trivial
theorem tw9658234356774069250 : True := trivial
theorem tw10442833353162443898 : True := trivial
theorem tw12852063117642106290 : True := trivial
theorem tw5197979875863755141 : True := trivial
theorem tw14845782635519359520 : True := trivial
theorem tw2356433585329646273 : True := trivial
theorem tw12374204709692675184 : True := trivial
theorem tw5419699211340567883 : True := trivial
theorem tw15458151479576100394 : True := trivial
theorem tw17499141199211372971 : True := trivial
theorem tw13630071539331155617 : True := trivial
theorem tw6249571616619766977 : True := trivial
theorem tw1234285064752916364 : True := trivial
theorem tw12967225754034894994 : True := trivial
theorem tw14370284016362719502 : True := trivial
theorem tw17365149303699626816 : True := trivial
theorem tw5232330632142958981 : True := trivial
theorem tw13791222588884234808 : True := trivial
theorem tw3581194347927762202 : True := trivial
theorem tw5302319483096956009 : True := trivial
theorem tw12379979316390956647 : True := trivial
theorem tw12570941446568447486 : True := trivial
theorem tw1178972718860478524 : True := trivial
theorem tw15792332592219470268 : True := trivial
theorem tw7846761734518649097 : True := trivial
theorem tw7470402756161789322 : True := trivial
theorem tw11005599854616790548 : True := trivial
theorem tw14013561609916839596 : True := trivial
theorem tw13372003517816748666 : True := trivial
theorem tw2743461786031616297 : True := trivial
theorem tw9693934142721595970 : True := trivial
theorem tw7650856072011483696 : True := trivial
theorem tw15264777547733136498 : True := trivial
theorem tw7584042932603336687 : True := trivial
theorem tw14867544787516078472 : True := trivial
theorem tw1940891838387682838 : True := trivial
theorem tw16321266758302572570 : True := trivial
theorem tw14956010780448679826 : True := trivial
theorem tw6756672073650788470 : True := trivial
theorem tw15705511477667486331 : True := trivial
theorem tw348230900149560159 : True := trivial
theorem tw17248102147342178109 : True := trivial
theorem tw12699334321266049947 : True := trivial
theorem tw8022142461861457245 : True := trivial
theorem tw14691203364882255877 : True := trivial
theorem tw5304830427342913871 : True := trivial
theorem tw13002453556149708947 : True := trivial
theorem tw1405720265825934116 : True := trivial
theorem tw7844187178737146373 : True := trivial
theorem tw14824748177243981999 : True := trivial
theorem tw11849006952333698378 : True := trivial
theorem tw87811802748621334 : True := trivial
theorem tw1332827321000936608 : True := trivial
theorem tw13211424840715193490 : True := trivial
theorem tw5167055879679633347 : True := trivial
theorem tw11675985693227391598 : True := trivial
theorem tw15976929693587701947 : True := trivial
theorem tw5806694592476050659 : True := trivial
theorem tw13459356792844873822 : True := trivial
theorem tw4156881475104191780 : True := trivial
theorem tw17394183117270879421 : True := trivial
theorem tw12262237568119759098 : True := trivial
theorem tw8220713424004094055 : True := trivial
theorem tw4670929079178690091 : True := trivial
theorem tw10038725138830271629 : True := trivial
theorem tw13834294264184089068 : True := trivial
theorem tw5330608409880670101 : True := trivial
theorem tw346167461506295471 : True := trivial
theorem tw2859830787857967309 : True := trivial
theorem tw10890923412692324104 : True := trivial
theorem tw18073382602634077569 : True := trivial
theorem tw1532601104416787550 : True := trivial
theorem tw5331940696228093178 : True := trivial
theorem tw6979129099538514630 : True := trivial
theorem tw11182669832042489666 : True := trivial
theorem tw3383298583824469821 : True := trivial
theorem tw1544394717625005196 : True := trivial
theorem tw1487352979449376488 : True := trivial
theorem tw2669258534959959962 : True := trivial
theorem tw945547171639958656 : True := trivial
theorem tw15118679962941167515 : True := trivial
theorem tw2350646321421507168 : True := trivial
theorem tw2735906170786373406 : True := trivial
theorem tw18016693015051930815 : True := trivial
theorem tw15744715906341709029 : True := trivial
theorem tw14980172548392235989 : True := trivial
theorem tw15545828851530998173 : True := trivial
theorem tw17060640053155443498 : True := trivial
theorem tw10439945301972569909 : True := trivial
theorem tw5715026430592207876 : True := trivial
theorem tw2527369847701322834 : True := trivial
theorem tw11021188435587736664 : True := trivial
theorem tw5498710328442742948 : True := trivial
theorem tw6901660278532397020 : True := trivial
theorem tw8582180251824533108 : True := trivial
theorem tw7816912597311430709 : True := trivial
theorem tw623491245183656138 : True := trivial
theorem tw13858023520066672579 : True := trivial
theorem tw11823064305408622944 : True := trivial
theorem tw12750952776102960715 : True := trivial
theorem tw17856454570872788436 : True := trivial
theorem tw7924769930765421743 : True := trivial
theorem tw7110802190774252335 : True := trivial
theorem tw4063628969894819889 : True := trivial
theorem tw4352833431354453275 : True := trivial
theorem tw18338977919654761202 : True := trivial
theorem tw12295570222354611218 : True := trivial
theorem tw188914754258028008 : True := trivial
theorem tw5196683029903846586 : True := trivial
theorem tw13016510637821294228 : True := trivial
theorem tw184782144509677944 : True := trivial
theorem tw10126346865273618136 : True := trivial
theorem tw4194731053126978376 : True := trivial
theorem tw6817289497911614346 : True := trivial
theorem tw4404579405216851707 : True := trivial
theorem tw13645000074678560474 : True := trivial
theorem tw16088834687664602724 : True := trivial
theorem tw7945404164256647981 : True := trivial
theorem tw1986265548374643797 : True := trivial
theorem tw9909515428722441204 : True := trivial
theorem tw4030169141837462604 : True := trivial
theorem tw8221397947563849839 : True := trivial
theorem tw5214828995517152744 : True := trivial
theorem tw5290396321544888015 : True := trivial
theorem tw8384504497100980698 : True := trivial
theorem tw1840396748546576416 : True := trivial
theorem tw8215294527702853684 : True := trivial
theorem tw9806614947195265908 : True := trivial
theorem tw16820614032884644603 : True := trivial
theorem tw17660503291252880610 : True := trivial
theorem tw9534248647791689615 : True := trivial
theorem tw2448947243058161260 : True := trivial
theorem tw9416668140072767005 : True := trivial
theorem tw4751244208219091826 : True := trivial
theorem tw7017524022823876095 : True := trivial
theorem tw6012212163951162819 : True := trivial
theorem tw2959680276966677314 : True := trivial
theorem tw18134768555967832023 : True := trivial
theorem tw13066501650069635486 : True := trivial
theorem tw14781319553801895819 : True := trivial
theorem tw13687352711789075868 : True := trivial
theorem tw15748588518358021719 : True := trivial
theorem tw15121434899578512216 : True := trivial
theorem tw18263872291968166677 : True := trivial
theorem tw16271320243562119035 : True := trivial
theorem tw16367203560727125890 : True := trivial
theorem tw14963102099211817018 : True := trivial
theorem tw13357419458095616132 : True := trivial
theorem tw14246963003974076545 : True := trivial
theorem tw17921810049681490200 : True := trivial
theorem tw6548084511228228598 : True := trivial
theorem tw9806938722345946631 : True := trivial
theorem tw12812025609720155803 : True := trivial
theorem tw5974196314747252545 : True := trivial
theorem tw17022908707849281940 : True := trivial
theorem tw4404369275691401964 : True := trivial
theorem tw3398428075076731495 : True := trivial
theorem tw14802520060193829312 : True := trivial
theorem tw12016350192504273747 : True := trivial
theorem tw3799041161768571948 : True := trivial
theorem tw5810612798580700035 : True := trivial
theorem tw4300441739634824933 : True := trivial
theorem tw12173854858576317866 : True := trivial
theorem tw1105523275551847006 : True := trivial
theorem tw14971019638327681323 : True := trivial
theorem tw15084455433477411850 : True := trivial
theorem tw13472073730796459841 : True := trivial
theorem tw8133932690543770707 : True := trivial
theorem tw10223686381649365537 : True := trivial
theorem tw14765699821527619357 : True := trivial
theorem tw4871587652037517131 : True := trivial
theorem tw3847656914423545889 : True := trivial
theorem tw15638235179333911019 : True := trivial
theorem tw1925733350754617225 : True := trivial
theorem tw11642976273503689768 : True := trivial
theorem tw4907282079077453723 : True := trivial
theorem tw2821712250456007816 : True := trivial
theorem tw220681742075793460 : True := trivial
theorem tw5956296808667408285 : True := trivial
theorem tw2518267068217638147 : True := trivial
theorem tw10195598850613278709 : True := trivial
theorem tw3831613686748897678 : True := trivial
theorem tw4118417726530633462 : True := trivial
theorem tw1910069675960197264 : True := trivial
theorem tw449348994932809903 : True := trivial
theorem tw15163790317716782985 : True := trivial
theorem tw2861020783254015616 : True := trivial
theorem tw11150895323407438377 : True := trivial
theorem tw14148041138629152967 : True := trivial
theorem tw8071805040753259085 : True := trivial
theorem tw3690689145091349843 : True := trivial
theorem tw421714243906065211 : True := trivial
theorem tw7234754707882605310 : True := trivial
theorem tw16615326878767341506 : True := trivial
theorem tw7492501513519088013 : True := trivial
theorem tw12950314169660252458 : True := trivial
theorem tw9975413532515500468 : True := trivial
theorem tw6368840595763386894 : True := trivial
theorem tw13604939204668974128 : True := trivial
theorem tw2320193724698887882 : True := trivial
theorem tw2098896147954255664 : True := trivial
theorem tw17360856531254558991 : True := trivial
theorem tw13995111099134392851 : True := trivial
theorem tw11912102575177440245 : True := trivial
theorem tw7547636817549034704 : True := trivial
theorem tw12175091275912473007 : True := trivial
theorem tw18020866006925454797 : True := trivial
theorem tw10273642280943249675 : True := trivial
theorem tw14099483615543161639 : True := trivial
theorem tw18322381979804108908 : True := trivial
theorem tw16833193436258481394 : True := trivial
theorem tw10156864197566913394 : True := trivial
theorem tw14092175933121183262 : True := trivial
theorem tw4840086563070280028 : True := trivial
theorem tw8477420872327677810 : True := trivial
theorem tw7065154622964674933 : True := trivial
theorem tw5750765816470366171 : True := trivial
theorem tw12814550691252953528 : True := trivial
theorem tw9448377211936380571 : True := trivial
theorem tw2516103935075408021 : True := trivial
theorem tw4283299629915024308 : True := trivial
theorem tw12391487657182442376 : True := trivial
theorem tw1071727863117354214 : True := trivial
theorem tw13361486586246830615 : True := trivial
theorem tw9438687156122392894 : True := trivial
theorem tw16071261531078865535 : True := trivial
theorem tw1871350242504728416 : True := trivial
theorem tw11100797083916756868 : True := trivial
theorem tw17638911546820600014 : True := trivial
theorem tw1011205757261993915 : True := trivial
theorem tw7878011832787502769 : True := trivial
theorem tw12547801834073563836 : True := trivial
theorem tw10433258071011028430 : True := trivial
theorem tw14001332897665869509 : True := trivial
theorem tw8119432822522340077 : True := trivial
theorem tw1074129709366933957 : True := trivial
theorem tw17129365905145145176 : True := trivial
theorem tw4052213081777249353 : True := trivial
theorem tw7077338150461067001 : True := trivial
theorem tw10821767942483720785 : True := trivial
theorem tw1155326207690049959 : True := trivial
theorem tw2049955329320366031 : True := trivial
theorem tw18405805608474838174 : True := trivial
theorem tw10925312246325192403 : True := trivial
theorem tw5152066662099997358 : True := trivial
theorem tw4856169544602709713 : True := trivial
theorem tw17734482749290503896 : True := trivial
theorem tw557832781846465110 : True := trivial
theorem tw13238188094168444888 : True := trivial
theorem tw8396854603678809383 : True := trivial
theorem tw882751486046087639 : True := trivial
theorem tw13442625313438719852 : True := trivial
theorem tw12414955110671117081 : True := trivial
theorem tw5952371358023154420 : True := trivial
theorem tw147885566664839350 : True := trivial
theorem tw14918739159538625387 : True := trivial
theorem tw17465453876358882107 : True := trivial
theorem tw13490852936651902971 : True := trivial
theorem tw16737164258984822967 : True := trivial
theorem tw2276130125174115093 : True := trivial
theorem tw15343597855391026759 : True := trivial
theorem tw551273320688309032 : True := trivial
theorem tw1304400942423898238 : True := trivial
theorem tw16181460383727992262 : True := trivial
theorem tw17793993928923759838 : True := trivial
theorem tw10908234317278123079 : True := trivial
theorem tw11646650612146451484 : True := trivial
theorem tw7963077307798035709 : True := trivial
theorem tw10885337498835891 : True := trivial
theorem tw13230412289194245008 : True := trivial
theorem tw4187811784773195497 : True := trivial
theorem tw9294567148540662315 : True := trivial
theorem tw12895058398236264414 : True := trivial
theorem tw5245230949335897889 : True := trivial
theorem tw9861298793192970550 : True := trivial
theorem tw1096250752843236301 : True := trivial
theorem tw3929138215649072735 : True := trivial
theorem tw17420761075869243056 : True := trivial
theorem tw741648981479689874 : True := trivial
theorem tw7013971153514380702 : True := trivial
theorem tw3638129923821108783 : True := trivial
theorem tw10831812157759573873 : True := trivial
theorem tw10968511399813981752 : True := trivial
theorem tw8417526942560844204 : True := trivial
theorem tw9145218455111760312 : True := trivial
theorem tw8146440873317566859 : True := trivial
theorem tw3535337989743153065 : True := trivial
theorem tw17026470596225605886 : True := trivial
theorem tw14034043042260611096 : True := trivial
theorem tw16981950491550207576 : True := trivial
theorem tw2731258093973841958 : True := trivial
theorem tw9177888740280563915 : True := trivial
theorem tw16607707539248702482 : True := trivial
theorem tw14517870341310858933 : True := trivial
theorem tw6604572910140219548 : True := trivial
theorem tw7917742064252099525 : True := trivial
theorem tw18303226243805490265 : True := trivial
theorem tw17885858302762173170 : True := trivial
theorem tw13982663667956299179 : True := trivial
theorem tw11019053993134211083 : True := trivial
theorem tw14896075022991210654 : True := trivial
theorem tw4020253283313735767 : True := trivial
theorem tw12633063854302687331 : True := trivial
theorem tw10080658610284301687 : True := trivial
theorem tw10369487400327610863 : True := trivial
theorem tw8999564222128688882 : True := trivial
theorem tw2887335383390571519 : True := trivial
theorem tw14326259803749441383 : True := trivial
theorem tw5435843176661473041 : True := trivial
theorem tw11820635662836382973 : True := trivial
theorem tw16926671896698407057 : True := trivial
theorem tw11881973124688631952 : True := trivial
theorem tw15876465030150168556 : True := trivial
theorem tw3057241938009955557 : True := trivial
theorem tw5493186082922193058 : True := trivial
theorem tw5083518471955753402 : True := trivial
theorem tw5724778490205182811 : True := trivial
theorem tw14404264432779410661 : True := trivial
theorem tw10599009295046385603 : True := trivial
theorem tw18048751664866794453 : True := trivial
theorem tw6428048749527471700 : True := trivial
theorem tw13044125129119008465 : True := trivial
theorem tw11693413543341100249 : True := trivial
theorem tw1472165608845031362 : True := trivial
theorem tw9464592548150408223 : True := trivial
theorem tw11328858135043334390 : True := trivial
theorem tw3047739910873741662 : True := trivial
theorem tw14254324911071335037 : True := trivial
theorem tw18060795054459235252 : True := trivial
theorem tw10383172348495565936 : True := trivial
theorem tw5467984631913879121 : True := trivial
theorem tw17839692073312867717 : True := trivial
theorem tw10753747573449611122 : True := trivial
theorem tw1032054441021353255 : True := trivial
theorem tw1356562973560093737 : True := trivial
theorem tw17452268728401672969 : True := trivial
theorem tw16650447004731834471 : True := trivial
theorem tw17722658353014436582 : True := trivial
theorem tw6651059980862386842 : True := trivial
theorem tw870075382449755888 : True := trivial
theorem tw321709053347154488 : True := trivial
theorem tw10645422452580370861 : True := trivial
theorem tw7545155545246137160 : True := trivial
theorem tw12323605160995260825 : True := trivial
theorem tw12088566818069058355 : True := trivial
theorem tw17925674928646543344 : True := trivial
theorem tw8118877345410134032 : True := trivial
theorem tw6181499253915842218 : True := trivial
theorem tw12321616311950167458 : True := trivial
theorem tw14544747361986592721 : True := trivial
theorem tw14494824459440949973 : True := trivial
theorem tw1641673438360741076 : True := trivial
theorem tw13797033084392358692 : True := trivial
theorem tw10916189783329071655 : True := trivial
theorem tw374368158056145768 : True := trivial
theorem tw5264793700112673862 : True := trivial
theorem tw2737806087973597720 : True := trivial
theorem tw166383703061275826 : True := trivial
theorem tw17703972029118983117 : True := trivial
theorem tw2935546889440465559 : True := trivial
theorem tw4223713593575943359 : True := trivial
theorem tw14942120334394054195 : True := trivial
theorem tw16777233172607098390 : True := trivial
theorem tw5645430723310081715 : True := trivial
theorem tw7726580143495261656 : True := trivial
theorem tw7767267105795576630 : True := trivial
theorem tw14598581960013346272 : True := trivial
theorem tw5225184193115399851 : True := trivial
theorem tw13103725324200766249 : True := trivial
theorem tw4961188821518640958 : True := trivial
theorem tw18435380458443416241 : True := trivial
theorem tw5538285223081998076 : True := trivial
theorem tw1434582417996035637 : True := trivial
theorem tw9356898105767420072 : True := trivial
theorem tw10006849614093597989 : True := trivial
theorem tw5932007194708714256 : True := trivial
theorem tw11880589587056620728 : True := trivial
theorem tw3927877313966673949 : True := trivial
theorem tw12423247504535939208 : True := trivial
theorem tw3581183592004696759 : True := trivial
theorem tw320583380024590973 : True := trivial
theorem tw7999220995315224265 : True := trivial
theorem tw6055515382750928205 : True := trivial
theorem tw5784250532608997314 : True := trivial
theorem tw10467760046976439678 : True := trivial
theorem tw433907269973495751 : True := trivial
theorem tw16593748742235823478 : True := trivial
theorem tw14454934941231634483 : True := trivial
theorem tw16213898607301019729 : True := trivial
theorem tw11356538851911000336 : True := trivial
theorem tw7103119816652324793 : True := trivial
theorem tw2566565377195429863 : True := trivial
theorem tw15783664739726675216 : True := trivial
theorem tw16421127190534676806 : True := trivial
theorem tw8982442044584687753 : True := trivial
theorem tw13720657854719901312 : True := trivial
theorem tw17206738648867333096 : True := trivial
theorem tw1431537433781171055 : True := trivial
theorem tw7396455446013897342 : True := trivial
theorem tw15624628031728956064 : True := trivial
theorem tw18120813129673099106 : True := trivial
theorem tw1541278801609109213 : True := trivial
theorem tw9219559764577039921 : True := trivial
theorem tw11618633191882923558 : True := trivial
theorem tw17188200118495799828 : True := trivial
theorem tw9017991382054553025 : True := trivial
theorem tw18220899935901884023 : True := trivial
theorem tw1164622000317446938 : True := trivial
theorem tw6808275451463397211 : True := trivial
theorem tw5689875938625417161 : True := trivial
theorem tw1179058672570133113 : True := trivial
theorem tw13172923775277444951 : True := trivial
theorem tw5551783822930564641 : True := trivial
theorem tw14447070669803910001 : True := trivial
theorem tw6236936849262471801 : True := trivial
theorem tw18279094677338206433 : True := trivial
theorem tw8257615467047325029 : True := trivial
theorem tw14627039959124112409 : True := trivial
theorem tw2683202075754033252 : True := trivial
theorem tw13987876253682882051 : True := trivial
theorem tw518947370092207326 : True := trivial
theorem tw9861119397284404703 : True := trivial
theorem tw16614846146369791568 : True := trivial
theorem tw1102873742920706266 : True := trivial
theorem tw12708842726537588999 : True := trivial
theorem tw8594725595518694579 : True := trivial
theorem tw16205655078935299922 : True := trivial
theorem tw7181315120520540140 : True := trivial
theorem tw3467946585526249172 : True := trivial
theorem tw1715018834622633619 : True := trivial
theorem tw2560652497261427531 : True := trivial
theorem tw13964654407382476843 : True := trivial
theorem tw1528452739627473351 : True := trivial
theorem tw2664280728401246807 : True := trivial
theorem tw5615841502410419632 : True := trivial
theorem tw14702936221181133163 : True := trivial
theorem tw7019207604945720265 : True := trivial
theorem tw5025401705601216133 : True := trivial
theorem tw1429793761177350765 : True := trivial
theorem tw13260210350300468181 : True := trivial
theorem tw4953968281156033563 : True := trivial
theorem tw4288731107647534762 : True := trivial
theorem tw14578542838510675781 : True := trivial
theorem tw15016373755792379514 : True := trivial
theorem tw17128334083073918459 : True := trivial
theorem tw3124194092833372641 : True := trivial
theorem tw8071780012394696210 : True := trivial
theorem tw16589971247574674769 : True := trivial
theorem tw13338456567394424240 : True := trivial
theorem tw7291932912605650314 : True := trivial
theorem tw4858002051423521766 : True := trivial
theorem tw8173203271551752258 : True := trivial
theorem tw10854032618632039029 : True := trivial
theorem tw12412190601898507028 : True := trivial
theorem tw1689438874273757185 : True := trivial
theorem tw9769954531884698915 : True := trivial
theorem tw5727735278663332600 : True := trivial
theorem tw18010137359094785516 : True := trivial
theorem tw15204143587194221054 : True := trivial
theorem tw12892548042267513434 : True := trivial
theorem tw16879639187131836362 : True := trivial
theorem tw14733255644666685658 : True := trivial
theorem tw15223346329713029379 : True := trivial
theorem tw1198366781598033708 : True := trivial
theorem tw6619076576159807283 : True := trivial
theorem tw8435843288314858041 : True := trivial
theorem tw12614677679572959246 : True := trivial
theorem tw10212329919779215821 : True := trivial
theorem tw1224127714971590338 : True := trivial
theorem tw15641499882311852850 : True := trivial
theorem tw5622839203710740013 : True := trivial
theorem tw12024870001322301692 : True := trivial
theorem tw16009911811433916184 : True := trivial
theorem tw14528381521052152777 : True := trivial
theorem tw8756119117146372031 : True := trivial
theorem tw17090097974355681894 : True := trivial
theorem tw17170260255427037973 : True := trivial
theorem tw3962333777107937299 : True := trivial
theorem tw7527238224498284037 : True := trivial
theorem tw17336000171083959376 : True := trivial
theorem tw13842076040142730351 : True := trivial
theorem tw6939292399075495240 : True := trivial
theorem tw13657999315961705073 : True := trivial
theorem tw6581289736947503725 : True := trivial
theorem tw1984061875817750218 : True := trivial
theorem tw6601101874064293773 : True := trivial
theorem tw4297387419915262116 : True := trivial
theorem tw15956899985587426243 : True := trivial
theorem tw7104382729304927773 : True := trivial
theorem tw9910141259343549395 : True := trivial
theorem tw10874957170333891052 : True := trivial
theorem tw9704699364936962335 : True := trivial
theorem tw10599270326714006127 : True := trivial
theorem tw321872316462741797 : True := trivial
theorem tw8546438369703103068 : True := trivial
theorem tw9009332207063292864 : True := trivial
theorem tw10195721926914444277 : True := trivial
theorem tw13123650985038778266 : True := trivial
theorem tw3612618714154113281 : True := trivial
theorem tw2138655556805751270 : True := trivial
theorem tw8321011541126157962 : True := trivial
theorem tw7086216848773701915 : True := trivial
theorem tw7725749978338380055 : True := trivial
theorem tw2876805322858039875 : True := trivial
theorem tw4448118441796314410 : True := trivial
theorem tw6933030500999872121 : True := trivial
theorem tw8005395966948363267 : True := trivial
theorem tw5729865031921109654 : True := trivial
theorem tw18416229095498037662 : True := trivial
theorem tw8416781390842912497 : True := trivial
theorem tw14281862309259219015 : True := trivial
theorem tw6730023093098683587 : True := trivial
theorem tw10319182000962837694 : True := trivial
theorem tw11284666346290360656 : True := trivial
theorem tw9228564535147457440 : True := trivial
theorem tw11263081706994130886 : True := trivial
theorem tw2226452975292317495 : True := trivial
theorem tw6048585846259311191 : True := trivial
theorem tw15562821034966582172 : True := trivial
theorem tw17891143458321462506 : True := trivial
theorem tw6586790583066169123 : True := trivial
theorem tw6692376554222500627 : True := trivial
theorem tw14632853569314602777 : True := trivial
theorem tw9868869792993679577 : True := trivial
theorem tw14050636867301379616 : True := trivial
theorem tw16618168190574891217 : True := trivial
theorem tw8502988906103136432 : True := trivial
theorem tw3401939321329840557 : True := trivial
theorem tw4572314335717657388 : True := trivial
theorem tw9759101003635541941 : True := trivial
theorem tw14991826851254571179 : True := trivial
theorem tw14947521792354055820 : True := trivial
theorem tw17624112876592772021 : True := trivial
theorem tw17922988113729249917 : True := trivial
theorem tw8056544258795033618 : True := trivial
theorem tw7748077632960692422 : True := trivial
theorem tw13901092316440103638 : True := trivial
theorem tw9349060833311610942 : True := trivial
theorem tw12353857081372877075 : True := trivial
theorem tw16574650194518439688 : True := trivial
theorem tw8433059907522083734 : True := trivial
theorem tw13674844870624388658 : True := trivial
theorem tw17599489379972976138 : True := trivial
theorem tw14142949228002724779 : True := trivial
theorem tw8300818103065906120 : True := trivial
theorem tw757747331277808825 : True := trivial
theorem tw8578006046112515212 : True := trivial
theorem tw12026445210465190387 : True := trivial
theorem tw13602948220269496159 : True := trivial
theorem tw14661404797598072940 : True := trivial
theorem tw448541820421367342 : True := trivial
theorem tw9012651799730665187 : True := trivial
theorem tw9644130756848071045 : True := trivial
theorem tw16729321739745170792 : True := trivial
theorem tw15703393668295501264 : True := trivial
theorem tw3653672932179466974 : True := trivial
theorem tw14705524672642316148 : True := trivial
theorem tw15341213470430187753 : True := trivial
theorem tw17670459945108425350 : True := trivial
theorem tw14111214412242300250 : True := trivial
theorem tw1895131920356665629 : True := trivial
theorem tw11289696782650086663 : True := trivial
theorem tw12271495845350401458 : True := trivial
theorem tw4915821493511708835 : True := trivial
theorem tw3115766833838218144 : True := trivial
theorem tw5150481410203537310 : True := trivial
theorem tw11054293594081106435 : True := trivial
theorem tw6421609030361000735 : True := trivial
theorem tw18077386914836989543 : True := trivial
theorem tw13361088513604694477 : True := trivial
theorem tw14486764176665285758 : True := trivial
theorem tw7842126324428806601 : True := trivial
theorem tw11527547630629416328 : True := trivial
theorem tw8298338700504371499 : True := trivial
theorem tw16496023828402055636 : True := trivial
theorem tw12259952711895350928 : True := trivial
theorem tw666625322503945867 : True := trivial
theorem tw2161049041544352482 : True := trivial
theorem tw6509007584731781951 : True := trivial
theorem tw6272739223021825058 : True := trivial
theorem tw18043558286527106279 : True := trivial
theorem tw7634398823234239303 : True := trivial
theorem tw1960452634318507691 : True := trivial
theorem tw11513013803314565716 : True := trivial
theorem tw16675507781031468649 : True := trivial
theorem tw10610819550864582890 : True := trivial
theorem tw12626380595842871654 : True := trivial
theorem tw9752226938423857658 : True := trivial
theorem tw16602171589440700746 : True := trivial
theorem tw14310015057758603711 : True := trivial
theorem tw4827455230264291409 : True := trivial
theorem tw763154217845091529 : True := trivial
theorem tw13887235856611309958 : True := trivial
theorem tw1036507140066912209 : True := trivial
theorem tw11847497886649963885 : True := trivial
theorem tw5806471419314932867 : True := trivial
theorem tw9343898387090523459 : True := trivial
theorem tw8852761112289029251 : True := trivial
theorem tw10572608334186150744 : True := trivial
theorem tw10375375204809260311 : True := trivial
theorem tw8948163765712552925 : True := trivial
theorem tw14486823355968077202 : True := trivial
theorem tw5114375535511855243 : True := trivial
theorem tw1273268563896753229 : True := trivial
theorem tw1193027583880771488 : True := trivial
theorem tw10974802284679760765 : True := trivial
theorem tw5064406097329518261 : True := trivial
theorem tw15781293651756003321 : True := trivial
theorem tw17312592173611918598 : True := trivial
theorem tw477710635420346741 : True := trivial
theorem tw2134540834439576555 : True := trivial
theorem tw2172622530062016477 : True := trivial
theorem tw15312632892002782873 : True := trivial
theorem tw14923400969099939590 : True := trivial
theorem tw8254906317243402166 : True := trivial
theorem tw15626357023715506291 : True := trivial
theorem tw12632649879206012391 : True := trivial
theorem tw3251030655808096564 : True := trivial
theorem tw6281351329301502521 : True := trivial
theorem tw13676048395435690317 : True := trivial
theorem tw8823725690079539649 : True := trivial
theorem tw8025312200390634822 : True := trivial
theorem tw3493445351727704020 : True := trivial
theorem tw15550759069013968166 : True := trivial
theorem tw5516744600857183118 : True := trivial
theorem tw2925654074195438881 : True := trivial
theorem tw6268485728655085150 : True := trivial
theorem tw8455194212004825273 : True := trivial
theorem tw9272463415322777850 : True := trivial
theorem tw7449845573491667800 : True := trivial
theorem tw7771990779619025194 : True := trivial
theorem tw4744724398116864971 : True := trivial
theorem tw10864110248462634972 : True := trivial
theorem tw10571557870775827421 : True := trivial
theorem tw17074556426253025775 : True := trivial
theorem tw1172845852248500483 : True := trivial
theorem tw1290124048769591679 : True := trivial
theorem tw15214428128729867453 : True := trivial
theorem tw13193915210981283803 : True := trivial
theorem tw7471746455682642621 : True := trivial
theorem tw12255433982554191929 : True := trivial
theorem tw15907758019960537884 : True := trivial
theorem tw16237516867655496713 : True := trivial
theorem tw13206762654081779384 : True := trivial
theorem tw10489092629018581778 : True := trivial
theorem tw11394790022047439371 : True := trivial
theorem tw14552079765122316081 : True := trivial
theorem tw1823359871473438156 : True := trivial
theorem tw11612465896507144497 : True := trivial
theorem tw8182528203813526352 : True := trivial
theorem tw16103637552405179076 : True := trivial
theorem tw9115174944244596510 : True := trivial
theorem tw5882999406825281532 : True := trivial
theorem tw13033577045349345411 : True := trivial
theorem tw5496762722325319881 : True := trivial
theorem tw10971210680256754361 : True := trivial
theorem tw8507764273701860779 : True := trivial
theorem tw3359810774906046331 : True := trivial
theorem tw253425398086781963 : True := trivial
theorem tw8392822594888555291 : True := trivial
theorem tw17326174304211407006 : True := trivial
theorem tw5862514810080681328 : True := trivial
theorem tw16829269053851488108 : True := trivial
theorem tw965046043443519071 : True := trivial
theorem tw1269871790823660322 : True := trivial
theorem tw13762210277487050108 : True := trivial
theorem tw6484373705362115651 : True := trivial
theorem tw9627514140330502581 : True := trivial
theorem tw5684502860166193951 : True := trivial
theorem tw1654320648338434459 : True := trivial
theorem tw9103176235415228289 : True := trivial
theorem tw9536560831083722718 : True := trivial
theorem tw9167129260290537735 : True := trivial
theorem tw4820205087587820544 : True := trivial
theorem tw15745218456521481508 : True := trivial
theorem tw3886954560571695511 : True := trivial
theorem tw15676528477105923815 : True := trivial
theorem tw13003270074042930032 : True := trivial
theorem tw13510626863331639230 : True := trivial
theorem tw8254662338633627054 : True := trivial
theorem tw10905438087722542210 : True := trivial
theorem tw4695906809657026354 : True := trivial
theorem tw494012322439285823 : True := trivial
theorem tw11826183423386362274 : True := trivial
theorem tw3657763172292222207 : True := trivial
theorem tw12164135420946870595 : True := trivial
theorem tw5749665285122126032 : True := trivial
theorem tw11209811193235828929 : True := trivial
theorem tw10570504749495485897 : True := trivial
theorem tw17723858266335543944 : True := trivial
theorem tw1997899822906757329 : True := trivial
theorem tw5839963441801411022 : True := trivial
theorem tw6244033104257572591 : True := trivial
theorem tw2007350436229987355 : True := trivial
theorem tw12766155012593342125 : True := trivial
theorem tw17969479551215834821 : True := trivial
theorem tw9690989814115563070 : True := trivial
theorem tw15884994294555472738 : True := trivial
theorem tw17482930884024732984 : True := trivial
theorem tw11909863415064990713 : True := trivial
theorem tw15252202099864572909 : True := trivial
theorem tw10321207283998275923 : True := trivial
theorem tw11031877949834598433 : True := trivial
theorem tw5132785110242084390 : True := trivial
theorem tw4840553812750016986 : True := trivial
theorem tw12797236986070605009 : True := trivial
theorem tw18041059168383276127 : True := trivial
theorem tw9323463348958707900 : True := trivial
theorem tw15933930538743252998 : True := trivial
theorem tw12883201811879407901 : True := trivial
theorem tw6795374250810996480 : True := trivial
theorem tw6581141176840882420 : True := trivial
theorem tw1910121978352686693 : True := trivial
theorem tw17556535779750579553 : True := trivial
theorem tw9543171381878756141 : True := trivial
theorem tw447806689341620352 : True := trivial
theorem tw3918882511882530103 : True := trivial
theorem tw10769504616212689897 : True := trivial
theorem tw13554718202401202782 : True := trivial
theorem tw7406291937112526036 : True := trivial
theorem tw18390468916557504489 : True := trivial
theorem tw18210428183534468098 : True := trivial
theorem tw7886609749868842091 : True := trivial
theorem tw18423212761926115315 : True := trivial
theorem tw5569792993175671767 : True := trivial
theorem tw13181198468610649644 : True := trivial
theorem tw15431300997777809054 : True := trivial
theorem tw18144143455277287331 : True := trivial
theorem tw1421900674246882239 : True := trivial
theorem tw4558259839737106973 : True := trivial
theorem tw14386078289824256769 : True := trivial
theorem tw15816570808547045849 : True := trivial
theorem tw380116867857480419 : True := trivial
theorem tw4802894794658194043 : True := trivial
theorem tw8165280294078875263 : True := trivial
theorem tw11705740491836946277 : True := trivial
theorem tw8042137432418777509 : True := trivial
theorem tw17131920441702458646 : True := trivial
theorem tw4398227185000595616 : True := trivial
theorem tw5610973988351100442 : True := trivial
theorem tw6643220309561242331 : True := trivial
theorem tw65544313566650422 : True := trivial
theorem tw5135005282386061169 : True := trivial
theorem tw9334347252338811771 : True := trivial
theorem tw11360872711915101105 : True := trivial
theorem tw9747659202738740055 : True := trivial
theorem tw3648508946588199127 : True := trivial
theorem tw1372736348341064535 : True := trivial
theorem tw4456259241700317610 : True := trivial
theorem tw1074303537442497819 : True := trivial
theorem tw18172216374211273414 : True := trivial
theorem tw16960035933518187140 : True := trivial
theorem tw16089714629530545030 : True := trivial
theorem tw6989446738413169196 : True := trivial
theorem tw2991728495478864284 : True := trivial
theorem tw11459828568868562544 : True := trivial
theorem tw16183511772390674069 : True := trivial
theorem tw4868567621066886656 : True := trivial
theorem tw4271982248714539901 : True := trivial
theorem tw1638066919330818044 : True := trivial
theorem tw2981279394551299608 : True := trivial
theorem tw12947698974592045441 : True := trivial
theorem tw11942903666257871247 : True := trivial
theorem tw17524642984244423652 : True := trivial
theorem tw6074981484408832352 : True := trivial
theorem tw5262340925613838446 : True := trivial
theorem tw16196119763235425783 : True := trivial
theorem tw4300673001303832190 : True := trivial
theorem tw387912663085958911 : True := trivial
theorem tw14847107936830141466 : True := trivial
theorem tw3055408182355264234 : True := trivial
theorem tw10607147362746022792 : True := trivial
theorem tw1908535591000571072 : True := trivial
theorem tw5429314923057068237 : True := trivial
theorem tw14253024358338166322 : True := trivial
theorem tw10673470608143374151 : True := trivial
theorem tw11291305455444040371 : True := trivial
theorem tw7683036663450825083 : True := trivial
theorem tw8083575559328053536 : True := trivial
theorem tw3019930844454172513 : True := trivial
theorem tw9003201098727229058 : True := trivial
theorem tw16289626104981575365 : True := trivial
theorem tw9566886629452294496 : True := trivial
theorem tw14427083593564503923 : True := trivial
theorem tw18257295048463896966 : True := trivial
theorem tw3031235332062937933 : True := trivial
theorem tw3702330601415803042 : True := trivial
theorem tw12362988184820967933 : True := trivial
theorem tw9090019951414068908 : True := trivial
theorem tw14815664179136216569 : True := trivial
theorem tw5114069186805611265 : True := trivial
theorem tw5108864636078461251 : True := trivial
theorem tw2408484176993028859 : True := trivial
theorem tw11693968446256724663 : True := trivial
theorem tw2663370612028466847 : True := trivial
theorem tw16689251647679533588 : True := trivial
theorem tw6315022072108123719 : True := trivial
theorem tw3272504634115966830 : True := trivial
theorem tw15478401986830493951 : True := trivial
theorem tw16382602223815119844 : True := trivial
theorem tw18111832797748742322 : True := trivial
theorem tw16440446307129901487 : True := trivial
theorem tw4870956999575243634 : True := trivial
theorem tw8873629016448815329 : True := trivial
theorem tw16329269686117991700 : True := trivial
theorem tw13480111061471642797 : True := trivial
theorem tw7084836300521489605 : True := trivial
theorem tw3936256667790439552 : True := trivial
theorem tw5769682953207300168 : True := trivial
theorem tw5808901882000035131 : True := trivial
theorem tw1964684145131088219 : True := trivial
theorem tw10178017695100389008 : True := trivial
theorem tw6500004886512441 : True := trivial
theorem tw10344217592348127655 : True := trivial
theorem tw17159645964202324651 : True := trivial
theorem tw3707340078455229905 : True := trivial
theorem tw9842891941802528881 : True := trivial
theorem tw14073471543276690921 : True := trivial
theorem tw14807363407844900741 : True := trivial
theorem tw836975764244452772 : True := trivial
theorem tw15830056414130930331 : True := trivial
theorem tw2021464835584761219 : True := trivial
theorem tw11323627790505871682 : True := trivial
theorem tw3714384803604371297 : True := trivial
theorem tw7989667238018339650 : True := trivial
theorem tw408332125806103088 : True := trivial
theorem tw6814420856750737025 : True := trivial
theorem tw2502209648276218160 : True := trivial
theorem tw8355737955370918422 : True := trivial
theorem tw16499157265659689738 : True := trivial
theorem tw14706229518612536501 : True := trivial
theorem tw2580043519722423189 : True := trivial
theorem tw11470534117552141531 : True := trivial
theorem tw18438215850065532847 : True := trivial
theorem tw8397107663735496938 : True := trivial
theorem tw5270435749720514058 : True := trivial
theorem tw6383126788753193548 : True := trivial
theorem tw9003122042458610618 : True := trivial
theorem tw14936509301120858602 : True := trivial
theorem tw2572966343623066037 : True := trivial
theorem tw16509423988864687755 : True := trivial
theorem tw15064442847335183538 : True := trivial
theorem tw18373550385539694356 : True := trivial
theorem tw10937717271922079120 : True := trivial
theorem tw18350781842485658159 : True := trivial
theorem tw7217434604351616182 : True := trivial
theorem tw2918683447435546100 : True := trivial
theorem tw3858820051210669086 : True := trivial
theorem tw12565975426388042805 : True := trivial
theorem tw2394944939478104138 : True := trivial
theorem tw12985213377868570007 : True := trivial
theorem tw18296834624218286006 : True := trivial
theorem tw10993723320476137984 : True := trivial
theorem tw6090659324235010296 : True := trivial
theorem tw10024524821519480447 : True := trivial
theorem tw17750157454719979162 : True := trivial
theorem tw6109325211385572469 : True := trivial
theorem tw6879680054353093969 : True := trivial
theorem tw13116381569516289786 : True := trivial
theorem tw5105643107613931153 : True := trivial
theorem tw6258778375684807028 : True := trivial
theorem tw12871713564169842109 : True := trivial
theorem tw10725294868313169619 : True := trivial
theorem tw18394330794193623274 : True := trivial
theorem tw9461886056925206699 : True := trivial
theorem tw2240947107399651740 : True := trivial
theorem tw6123056950728247609 : True := trivial
theorem tw9774049976772714107 : True := trivial
theorem tw5241882672526864644 : True := trivial
theorem tw9653388256208168340 : True := trivial
theorem tw1590921297641266171 : True := trivial
theorem tw2923176090862151973 : True := trivial
theorem tw4797361525382843075 : True := trivial
theorem tw4114549333465190088 : True := trivial
theorem tw14126701786256956624 : True := trivial
theorem tw7371314864118349983 : True := trivial
theorem tw4715832905068482957 : True := trivial
theorem tw13375664146640447207 : True := trivial
theorem tw7617868850550798801 : True := trivial
theorem tw12401493134833115789 : True := trivial
theorem tw3046594568761234191 : True := trivial
theorem tw6934056451050324838 : True := trivial
theorem tw17517246621351462931 : True := trivial
theorem tw3491346119118717352 : True := trivial
theorem tw8464416707208363577 : True := trivial
theorem tw8303739039488496719 : True := trivial
theorem tw9118098637158065681 : True := trivial
theorem tw15270390646406925862 : True := trivial
theorem tw17558092909369942914 : True := trivial
theorem tw7502521171687962674 : True := trivial
theorem tw14847112967813186469 : True := trivial
theorem tw4833139539357123169 : True := trivial
theorem tw4688193805889055192 : True := trivial
theorem tw2690802250119839510 : True := trivial
theorem tw8713212465962838851 : True := trivial
theorem tw9603502616584792452 : True := trivial
theorem tw17120563795828371160 : True := trivial
theorem tw9456590587464646577 : True := trivial
theorem tw8215780216456823637 : True := trivial
theorem tw15957772912657558849 : True := trivial
theorem tw2727268441451857187 : True := trivial
theorem tw7087074095661606678 : True := trivial
theorem tw2891330288103813914 : True := trivial
theorem tw4632136067881767855 : True := trivial
theorem tw9799703372600393540 : True := trivial
theorem tw10182661678351668222 : True := trivial
theorem tw5044678809946379398 : True := trivial
theorem tw17651829585836941150 : True := trivial
theorem tw11796866608684013808 : True := trivial
theorem tw14610906860616657479 : True := trivial
theorem tw10748373434216235827 : True := trivial
theorem tw11318034366795701586 : True := trivial
theorem tw11588314159628226874 : True := trivial
theorem tw16017622424855447041 : True := trivial
theorem tw1852284332861423720 : True := trivial
theorem tw17623028683821592036 : True := trivial
theorem tw13242397982697910424 : True := trivial
theorem tw2166063889057340467 : True := trivial
theorem tw11931541484574513511 : True := trivial
theorem tw7717969732684782318 : True := trivial
theorem tw10118469666735494173 : True := trivial
theorem tw8070084128555804572 : True := trivial
theorem tw8089396606697672835 : True := trivial
theorem tw5966610225722342548 : True := trivial
theorem tw9795277461026847889 : True := trivial
theorem tw16317979745900106113 : True := trivial
theorem tw16215767013921264369 : True := trivial
theorem tw18045386580593838598 : True := trivial
theorem tw15965801437151872087 : True := trivial
theorem tw3746218568369255204 : True := trivial
theorem tw13962166085642065910 : True := trivial
theorem tw4374148510386135511 : True := trivial
theorem tw15062514630852483880 : True := trivial
theorem tw17311600347410707717 : True := trivial
theorem tw1998728866876202854 : True := trivial
theorem tw13346199150269729308 : True := trivial
theorem tw9126310727364921732 : True := trivial
theorem tw16190044565498193100 : True := trivial
theorem tw16035049686261746966 : True := trivial
theorem tw1256698439226739687 : True := trivial
theorem tw13048799887133873085 : True := trivial
theorem tw9960594949402965011 : True := trivial
theorem tw10216567265801684697 : True := trivial
theorem tw1354263201672320900 : True := trivial
theorem tw4560700950246134729 : True := trivial
theorem tw17676523667137108740 : True := trivial
theorem tw8058065068701978824 : True := trivial
theorem tw6370870152408630914 : True := trivial
theorem tw10208289086565810997 : True := trivial
theorem tw526304393331030174 : True := trivial
theorem tw4332245063472247929 : True := trivial
theorem tw18349161501873817250 : True := trivial
theorem tw11713592846797564869 : True := trivial
theorem tw5143705677686384964 : True := trivial
theorem tw13928884849643579343 : True := trivial
theorem tw9676749612049766022 : True := trivial
theorem tw9035170633205442026 : True := trivial
theorem tw4522250830277891591 : True := trivial
theorem tw6258677459973382308 : True := trivial
theorem tw18114226907897563629 : True := trivial
theorem tw16262278645634367846 : True := trivial
theorem tw1455602980202331109 : True := trivial
theorem tw11405353762810215269 : True := trivial
theorem tw13953370415321578322 : True := trivial
theorem tw15880361989131005070 : True := trivial
theorem tw6212350202000712587 : True := trivial
theorem tw2208463759658870193 : True := trivial
theorem tw9046059654724142351 : True := trivial
theorem tw11414858665075672686 : True := trivial
theorem tw1387996499281571818 : True := trivial
theorem tw12753658058025021714 : True := trivial
theorem tw15865013914308946002 : True := trivial
theorem tw9449345550213494695 : True := trivial
theorem tw4289283811974732378 : True := trivial
theorem tw10688932685650079612 : True := trivial
theorem tw12149789800674390837 : True := trivial
theorem tw15498053973018242404 : True := trivial
theorem tw17189889371362285632 : True := trivial
theorem tw12813418106862295802 : True := trivial
theorem tw7421399978393673763 : True := trivial
theorem tw17135942672740867147 : True := trivial
theorem tw7437482370914036537 : True := trivial
theorem tw1351777089879946069 : True := trivial
theorem tw18333304252215450102 : True := trivial
theorem tw16542980849105507362 : True := trivial
theorem tw14592203375555367251 : True := trivial
theorem tw14075343080354357687 : True := trivial
theorem tw1447521177806105736 : True := trivial
theorem tw4692494931871427265 : True := trivial
theorem tw11891720692619742512 : True := trivial
theorem tw10853923136347708386 : True := trivial
theorem tw9565975254325413015 : True := trivial
theorem tw11461262924541429774 : True := trivial
theorem tw6262508972531835204 : True := trivial
theorem tw6451114606443129403 : True := trivial
theorem tw12370511138413281423 : True := trivial
theorem tw2088838083984310832 : True := trivial
theorem tw9597137862188943789 : True := trivial
theorem tw8103157630378665399 : True := trivial
theorem tw7374453829421053738 : True := trivial
theorem tw6228843637393866977 : True := trivial
theorem tw1136202638954667335 : True := trivial
theorem tw977337997426066786 : True := trivial
theorem tw8033416606878101560 : True := trivial
theorem tw12538497259866730958 : True := trivial
theorem tw3117453981942308545 : True := trivial
theorem tw7973734831363423786 : True := trivial
theorem tw998339023418543379 : True := trivial
theorem tw15809982166696011866 : True := trivial
theorem tw6911740543880523783 : True := trivial
theorem tw17478414171761774496 : True := trivial
theorem tw5220883306568901442 : True := trivial
theorem tw10528158698416435587 : True := trivial
theorem tw357080877363366613 : True := trivial
theorem tw8244920918517790623 : True := trivial
theorem tw1129220156794162059 : True := trivial
theorem tw15394676038219961957 : True := trivial
theorem tw519434100013980591 : True := trivial
theorem tw3357922394944758652 : True := trivial
theorem tw13527059704945352782 : True := trivial
theorem tw2455761480870626853 : True := trivial
theorem tw16077449166364681603 : True := trivial
theorem tw15299482469545598847 : True := trivial
theorem tw16305249411335182300 : True := trivial
theorem tw1054430494688103151 : True := trivial
theorem tw4716036420907622599 : True := trivial
theorem tw3652225677202422048 : True := trivial
theorem tw11778690390118353349 : True := trivial
theorem tw14281862433657810601 : True := trivial
theorem tw6046289191960033854 : True := trivial
theorem tw12054417318854185620 : True := trivial
theorem tw17539655346142457280 : True := trivial
theorem tw6653998321721375990 : True := trivial
theorem tw17385196081033491759 : True := trivial
theorem tw18124214860066557166 : True := trivial
theorem tw12338718162156245184 : True := trivial
theorem tw17691534354906544386 : True := trivial
theorem tw15255525161593273619 : True := trivial
theorem tw16145822340584998436 : True := trivial
theorem tw5533568971164484007 : True := trivial
theorem tw1950563531524706200 : True := trivial
theorem tw915243745365719200 : True := trivial
theorem tw12761208867532352826 : True := trivial
theorem tw11890448208972314958 : True := trivial
theorem tw1716736970229690771 : True := trivial
theorem tw8585358055959540560 : True := trivial
theorem tw665384715217384511 : True := trivial
theorem tw11535887975391945160 : True := trivial
theorem tw6757413944866159512 : True := trivial
theorem tw10556459821227151345 : True := trivial
theorem tw17608244023497482583 : True := trivial
theorem tw17367276978633595649 : True := trivial
theorem tw15445555875774084096 : True := trivial
theorem tw13651246038361966671 : True := trivial
theorem tw6757854491935140750 : True := trivial
theorem tw1853966150726070949 : True := trivial
theorem tw7857836214665848413 : True := trivial
theorem tw2787111604331241038 : True := trivial
theorem tw17320909679578080821 : True := trivial
theorem tw9691757365937539785 : True := trivial
theorem tw17687867821740027343 : True := trivial
theorem tw17882351401004043599 : True := trivial
theorem tw15186146714993796135 : True := trivial
theorem tw7049175316885235049 : True := trivial
theorem tw18182225555914329619 : True := trivial
theorem tw7997000786453859837 : True := trivial
theorem tw4867761479436264147 : True := trivial
theorem tw2032251448573677976 : True := trivial
theorem tw321523790370689033 : True := trivial
theorem tw731232051449275691 : True := trivial
theorem tw13916160052106231698 : True := trivial
theorem tw7404717916366729752 : True := trivial
theorem tw13940070749689903796 : True := trivial
theorem tw15949592787571601521 : True := trivial
theorem tw8846585349068785312 : True := trivial
theorem tw12561899693457174546 : True := trivial
theorem tw17179774154849001623 : True := trivial
theorem tw7201038921709578629 : True := trivial
theorem tw2224432156083589668 : True := trivial
theorem tw11076547681582979327 : True := trivial
theorem tw9369800982424945364 : True := trivial
theorem tw1062893487586853216 : True := trivial
theorem tw18395677493060619167 : True := trivial
theorem tw15549717859733448085 : True := trivial
theorem tw16938619010676132680 : True := trivial
theorem tw11787070423634678964 : True := trivial
theorem tw8714340182719959712 : True := trivial
theorem tw8887177074587291763 : True := trivial
theorem tw17647526113870512887 : True := trivial
theorem tw67178277803348358 : True := trivial
theorem tw12496078995991821976 : True := trivial
theorem tw9312094375608019442 : True := trivial
theorem tw3600389034178164814 : True := trivial
theorem tw453346804348500767 : True := trivial
theorem tw10826898748308051318 : True := trivial
theorem tw12088788900161207790 : True := trivial
theorem tw10444753738801821805 : True := trivial
theorem tw12771611881178126332 : True := trivial
theorem tw7359062532146022863 : True := trivial
theorem tw7306044244799167043 : True := trivial
theorem tw14639323298489110200 : True := trivial
theorem tw16372234110139865275 : True := trivial
theorem tw3143832001884321109 : True := trivial
theorem tw16551624586557298310 : True := trivial
theorem tw12439214689852560791 : True := trivial
theorem tw17730739037153308960 : True := trivial
theorem tw17251817671378445418 : True := trivial
theorem tw5743983555431540476 : True := trivial
theorem tw4091122363082828738 : True := trivial
theorem tw16339998898881491133 : True := trivial
theorem tw15255590438270215429 : True := trivial
theorem tw939943525946486526 : True := trivial
theorem tw11925076894002607585 : True := trivial
theorem tw169952276018443948 : True := trivial
theorem tw11880411047847223577 : True := trivial
theorem tw8024508116189759627 : True := trivial
theorem tw399316438049917994 : True := trivial
theorem tw9963753046007953756 : True := trivial
theorem tw3561025903966697863 : True := trivial
theorem tw5420915816511276426 : True := trivial
theorem tw10657661499605789375 : True := trivial
theorem tw10406851142636096182 : True := trivial
theorem tw15894410221264905823 : True := trivial
theorem tw12167161574018212144 : True := trivial
theorem tw11620451924482514093 : True := trivial
theorem tw4949501574573640298 : True := trivial
theorem tw3519451820603605199 : True := trivial
theorem tw10137860009635113736 : True := trivial
theorem tw69389668103642313 : True := trivial
theorem tw12867628729139626289 : True := trivial
theorem tw15107368673322217511 : True := trivial
theorem tw4710259682606057912 : True := trivial
theorem tw486106068045632936 : True := trivial
theorem tw11610771935372551790 : True := trivial
theorem tw8069972599304186563 : True := trivial
theorem tw11746632394291500163 : True := trivial
theorem tw14851187176485611372 : True := trivial
theorem tw9373835257601442913 : True := trivial
theorem tw4125209297574282201 : True := trivial
theorem tw9417900855092293704 : True := trivial
theorem tw518265677812900043 : True := trivial
theorem tw6646811520914348326 : True := trivial
theorem tw7033242352363098089 : True := trivial
theorem tw93709026390867720 : True := trivial
theorem tw7530139801367625683 : True := trivial
theorem tw10371281515181450864 : True := trivial
theorem tw7295855834980758809 : True := trivial
theorem tw14046980798887045067 : True := trivial
theorem tw11156889753667606771 : True := trivial
theorem tw12498031392745822472 : True := trivial
theorem tw15143580280980588922 : True := trivial
theorem tw12796079796275556757 : True := trivial
theorem tw758020580190675780 : True := trivial
theorem tw5802706538767636119 : True := trivial
theorem tw8212483370814645637 : True := trivial
theorem tw2654848662770581321 : True := trivial
theorem tw12285321598898835064 : True := trivial
theorem tw1263313455522169833 : True := trivial
theorem tw8567346272938462398 : True := trivial
theorem tw16248345334267296143 : True := trivial
theorem tw12950160582123440060 : True := trivial
theorem tw13344423875900124604 : True := trivial
theorem tw17600077840025034525 : True := trivial
theorem tw6412208686861269750 : True := trivial
theorem tw5371475792680259684 : True := trivial
theorem tw3822385408190134763 : True := trivial
theorem tw6902200145937348936 : True := trivial
theorem tw8281212933077241815 : True := trivial
theorem tw6724885228733601374 : True := trivial
theorem tw17542109354184811073 : True := trivial
theorem tw12064980879042464026 : True := trivial
theorem tw11955147938507146034 : True := trivial
theorem tw13115040264510585251 : True := trivial
theorem tw7762572349308193233 : True := trivial
theorem tw3256815474725715338 : True := trivial
theorem tw10090257705635111498 : True := trivial
theorem tw12037145183440351096 : True := trivial
theorem tw6039357355604860723 : True := trivial
theorem tw11798193489816928317 : True := trivial
theorem tw4190073033432969714 : True := trivial
theorem tw10082852664847651339 : True := trivial
theorem tw18217778456596427881 : True := trivial
theorem tw17194383481160975647 : True := trivial
theorem tw974224457494454155 : True := trivial
theorem tw16130551472071648440 : True := trivial
theorem tw12805974381726845694 : True := trivial
theorem tw8883579670012626712 : True := trivial
theorem tw7063040354216561627 : True := trivial
theorem tw11622639013274649725 : True := trivial
theorem tw187941456536434752 : True := trivial
theorem tw9268720101711077879 : True := trivial
theorem tw7209710623356212137 : True := trivial
theorem tw15100259642537481988 : True := trivial
theorem tw2931624651284141843 : True := trivial
theorem tw11115259318066600834 : True := trivial
theorem tw13500153511137349590 : True := trivial
theorem tw13071011002553802260 : True := trivial
theorem tw4000514503195716308 : True := trivial
theorem tw5143253035619107815 : True := trivial
theorem tw6163587254775556045 : True := trivial
theorem tw7485489876418269976 : True := trivial
theorem tw11984023969997669509 : True := trivial
theorem tw42531066465217456 : True := trivial
theorem tw5809382935705233136 : True := trivial
theorem tw2153438165302555115 : True := trivial
theorem tw1974496338115677203 : True := trivial
theorem tw15125376104699390194 : True := trivial
theorem tw13067760516296228279 : True := trivial
theorem tw12955316053918539647 : True := trivial
theorem tw9888903811147659859 : True := trivial
theorem tw15314855453914235993 : True := trivial
theorem tw7564369751164668492 : True := trivial
theorem tw11154098419172379155 : True := trivial
theorem tw5333741007097537145 : True := trivial
theorem tw11040482808051640927 : True := trivial
theorem tw9132686701803339765 : True := trivial
theorem tw12243569133965559441 : True := trivial
theorem tw11657342584898373560 : True := trivial
theorem tw7061752416856181602 : True := trivial
theorem tw3645690395187715489 : True := trivial
theorem tw1740562380028899182 : True := trivial
theorem tw16012515079182954687 : True := trivial
theorem tw9124855024804734999 : True := trivial
theorem tw9492906699023399043 : True := trivial
theorem tw6140638623805517950 : True := trivial
theorem tw13154966833362066513 : True := trivial
theorem tw12637140221078155705 : True := trivial
theorem tw2707608629722763121 : True := trivial
theorem tw5607385205513490994 : True := trivial
theorem tw12681802389997427498 : True := trivial
theorem tw13524717406354625928 : True := trivial
theorem tw16515172886189497303 : True := trivial
theorem tw3763058760195553169 : True := trivial
theorem tw7442186111668799213 : True := trivial
theorem tw12062847534109967427 : True := trivial
theorem tw1157224194940609947 : True := trivial
theorem tw17082306761420148276 : True := trivial
theorem tw9518292180274877449 : True := trivial
theorem tw17881722514676680946 : True := trivial
theorem tw12758835637479729696 : True := trivial
theorem tw7438492407156279901 : True := trivial
theorem tw1541879517353827746 : True := trivial
theorem tw17775506130508460219 : True := trivial
theorem tw1505970118757569178 : True := trivial
theorem tw4017408875741572724 : True := trivial
theorem tw12687278829398750073 : True := trivial
theorem tw10638889828215699237 : True := trivial
theorem tw5726397755356092016 : True := trivial
theorem tw18272876470142926385 : True := trivial
theorem tw2595583601540889614 : True := trivial
theorem tw17795380034428848599 : True := trivial
theorem tw11024904818428648374 : True := trivial
theorem tw6523684142389979340 : True := trivial
theorem tw2850135891404709519 : True := trivial
theorem tw7479612076749828160 : True := trivial
theorem tw505405308988019336 : True := trivial
theorem tw6117161547461033970 : True := trivial
theorem tw3622215680400796591 : True := trivial
theorem tw4056895777602306546 : True := trivial
theorem tw5446570585404555530 : True := trivial
theorem tw7846879173965803213 : True := trivial
theorem tw11547963111274114032 : True := trivial
theorem tw369758160502171595 : True := trivial
theorem tw12835207339331921139 : True := trivial
theorem tw18167398051135909214 : True := trivial
theorem tw7672245535822435972 : True := trivial
theorem tw12623159826860165769 : True := trivial
theorem tw10471338339859128084 : True := trivial
theorem tw12796066080422446450 : True := trivial
theorem tw10282148066979553193 : True := trivial
theorem tw15476092305070674672 : True := trivial
theorem tw9765721358742986551 : True := trivial
theorem tw14144850524213857275 : True := trivial
theorem tw15786686752414194126 : True := trivial
theorem tw2005531468640246507 : True := trivial
theorem tw11075939714631718745 : True := trivial
theorem tw8327530832262245749 : True := trivial
theorem tw12968589756168705663 : True := trivial
theorem tw4412685191369580118 : True := trivial
theorem tw1595564448998862615 : True := trivial
theorem tw8073512991192826504 : True := trivial
theorem tw15826310403929489271 : True := trivial
theorem tw12748128345484161153 : True := trivial
theorem tw8698357740436162226 : True := trivial
theorem tw1136046569694717788 : True := trivial
theorem tw10676495510134137853 : True := trivial
theorem tw10894944947912056558 : True := trivial
theorem tw7866880633634974997 : True := trivial
theorem tw4922740215433860106 : True := trivial
theorem tw7570552135468304430 : True := trivial
theorem tw3697515635388750304 : True := trivial
theorem tw7415023210366983590 : True := trivial
theorem tw14231328159445831469 : True := trivial
theorem tw2078883299896113436 : True := trivial
theorem tw471046623787166514 : True := trivial
theorem tw9212995392395008417 : True := trivial
theorem tw17112731667737335640 : True := trivial
theorem tw13324844516087879457 : True := trivial
theorem tw11329291778978820706 : True := trivial
theorem tw3077219899395049215 : True := trivial
theorem tw14353694836977258594 : True := trivial
theorem tw13035769302136442565 : True := trivial
theorem tw783164655508889582 : True := trivial
theorem tw10293087028492442605 : True := trivial
theorem tw14161647519816655698 : True := trivial
theorem tw8804461130622395984 : True := trivial
theorem tw8268210421318175556 : True := trivial
theorem tw17072917626390768403 : True := trivial
theorem tw10391803723103899902 : True := trivial
theorem tw16421880364163178481 : True := trivial
theorem tw3070778510391580277 : True := trivial
theorem tw16188250069791230081 : True := trivial
theorem tw598306697925934867 : True := trivial
theorem tw14084167972903592246 : True := trivial
theorem tw4912866812941041427 : True := trivial
theorem tw13971145328365628912 : True := trivial
theorem tw4206156002508752247 : True := trivial
theorem tw4795776998398373490 : True := trivial
theorem tw17055800588196227221 : True := trivial
theorem tw16705011537386405985 : True := trivial
theorem tw1135143895836860965 : True := trivial
theorem tw17609527567694727884 : True := trivial
theorem tw17286576622417523618 : True := trivial
theorem tw16903676228477964911 : True := trivial
theorem tw8802244631163405023 : True := trivial
theorem tw7579654104281653453 : True := trivial
theorem tw6699489667925872814 : True := trivial
theorem tw11193324356685590172 : True := trivial
theorem tw16197873726608974956 : True := trivial
theorem tw9612983562034571682 : True := trivial
theorem tw7971240557439776639 : True := trivial
theorem tw18427947832025387343 : True := trivial
theorem tw13956970495339946655 : True := trivial
theorem tw14364985124678432988 : True := trivial
theorem tw16073536878349946215 : True := trivial
theorem tw6392965383200777851 : True := trivial
theorem tw6404955907274701336 : True := trivial
theorem tw12772417347669253690 : True := trivial
theorem tw3832204766026321420 : True := trivial
theorem tw17147653023754506481 : True := trivial
theorem tw1513848055881427906 : True := trivial
theorem tw16673466706004310359 : True := trivial
theorem tw4150866988051004938 : True := trivial
theorem tw17265253901631139512 : True := trivial
theorem tw7635323171154589247 : True := trivial
theorem tw15785778531161441519 : True := trivial
theorem tw122911650352661362 : True := trivial
theorem tw9918015432626221945 : True := trivial
theorem tw18145309965157938188 : True := trivial
theorem tw1966188640086826458 : True := trivial
theorem tw1252828848328992494 : True := trivial
theorem tw12858631589389792007 : True := trivial
theorem tw9217846865541106631 : True := trivial
theorem tw16925014301317815178 : True := trivial
theorem tw12204671416906589980 : True := trivial
theorem tw12914432020391767557 : True := trivial
theorem tw4712773250701366725 : True := trivial
theorem tw15233286712586687471 : True := trivial
theorem tw3607623420092856616 : True := trivial
theorem tw7613910433796626401 : True := trivial
theorem tw10054636324420059547 : True := trivial
theorem tw371227490633644593 : True := trivial
theorem tw10939062387984922008 : True := trivial
theorem tw16994798269412199901 : True := trivial
theorem tw1202352794721199674 : True := trivial
theorem tw5138307741156677108 : True := trivial
theorem tw11189885406392990301 : True := trivial
theorem tw5380072786779030518 : True := trivial
theorem tw11652185405709316112 : True := trivial
theorem tw320287465023715280 : True := trivial
theorem tw1698143669977501476 : True := trivial
theorem tw14773963507751292943 : True := trivial
theorem tw16981353310633631687 : True := trivial
theorem tw9314571760005889576 : True := trivial
theorem tw13706034216065446672 : True := trivial
theorem tw10526864387877438505 : True := trivial
theorem tw13636143724399064785 : True := trivial
theorem tw11886153501661520163 : True := trivial
theorem tw974895510780833709 : True := trivial
theorem tw5718013234590720121 : True := trivial
theorem tw3731450897603502293 : True := trivial
theorem tw17848949589216352277 : True := trivial
theorem tw4005119135446286281 : True := trivial
theorem tw3259304153124825304 : True := trivial
theorem tw3288703337697229318 : True := trivial
theorem tw11828851471597960047 : True := trivial
theorem tw18123783757689644156 : True := trivial
theorem tw18082725094375087111 : True := trivial
theorem tw14187754043421626157 : True := trivial
theorem tw9924280162570425332 : True := trivial
theorem tw4948928132027849424 : True := trivial
theorem tw12761542300553173891 : True := trivial
theorem tw3425550075551910555 : True := trivial
theorem tw13780685708298842067 : True := trivial
theorem tw309302748874182493 : True := trivial
theorem tw5960775004792947704 : True := trivial
theorem tw13922673445587092051 : True := trivial
theorem tw10277283432481198509 : True := trivial
theorem tw7970294962751255033 : True := trivial
theorem tw8431872021615223873 : True := trivial
theorem tw6123636497202757141 : True := trivial
theorem tw4413689050968031804 : True := trivial
theorem tw4799210173748032695 : True := trivial
theorem tw7483832884152872373 : True := trivial
theorem tw104353708143446689 : True := trivial
theorem tw891174768701827140 : True := trivial
theorem tw8063440484397251749 : True := trivial
theorem tw6023113764575321539 : True := trivial
theorem tw4270851697920011710 : True := trivial
theorem tw10981888502843257949 : True := trivial
theorem tw11912307123737190611 : True := trivial
theorem tw9872665197416911774 : True := trivial
theorem tw11465939349938899705 : True := trivial
theorem tw12407479521172677966 : True := trivial
theorem tw11727029937144373337 : True := trivial
theorem tw6821588777718158314 : True := trivial
theorem tw378354710885607245 : True := trivial
theorem tw18345024690756950664 : True := trivial
theorem tw5562564494301905393 : True := trivial
theorem tw7789610953654024842 : True := trivial
theorem tw17825432894416907845 : True := trivial
theorem tw7757381492185510164 : True := trivial
theorem tw3904196759563068882 : True := trivial
theorem tw900653470515139252 : True := trivial
theorem tw11070330138621677451 : True := trivial
theorem tw16886535787302235847 : True := trivial
theorem tw7427921771691580336 : True := trivial
theorem tw2483937507444664816 : True := trivial
theorem tw17567125095032647391 : True := trivial
theorem tw4833490810624345726 : True := trivial
theorem tw16898909349145588896 : True := trivial
theorem tw8672555780643825401 : True := trivial
theorem tw16595932603700067250 : True := trivial
theorem tw16331767871018012967 : True := trivial
theorem tw2836787663340507068 : True := trivial
theorem tw7047895124478443833 : True := trivial
theorem tw18360716866515757595 : True := trivial
theorem tw12661380940416386419 : True := trivial
theorem tw8768147047761221808 : True := trivial
theorem tw8853157861513069086 : True := trivial
theorem tw13918874708762789039 : True := trivial
theorem tw15345697086995158437 : True := trivial
theorem tw16819725393701904840 : True := trivial
theorem tw2071364682776222138 : True := trivial
theorem tw4985682382990479209 : True := trivial
theorem tw2046962857795105997 : True := trivial
theorem tw11687525500437939704 : True := trivial
theorem tw12344364876371419709 : True := trivial
theorem tw12319326301181120660 : True := trivial
theorem tw2191565928098801582 : True := trivial
theorem tw10194292658910037383 : True := trivial
theorem tw8848919775722639627 : True := trivial
theorem tw16856915617719794721 : True := trivial
theorem tw16413408251333892277 : True := trivial
theorem tw4223135702231632157 : True := trivial
theorem tw18387421892776820574 : True := trivial
theorem tw12281616050037763311 : True := trivial
theorem tw9056205434327961038 : True := trivial
theorem tw4857230114675235839 : True := trivial
theorem tw13218778293196907921 : True := trivial
theorem tw10459414716587661303 : True := trivial
theorem tw15128962453861237520 : True := trivial
theorem tw17197967103353789665 : True := trivial
theorem tw6641962596875971627 : True := trivial
theorem tw10807144998862487661 : True := trivial
theorem tw17621413229343737016 : True := trivial
theorem tw9366460182043336330 : True := trivial
theorem tw16435084177773473037 : True := trivial
theorem tw14902537520415471554 : True := trivial
theorem tw979789781316472788 : True := trivial
theorem tw10738951226668341136 : True := trivial
theorem tw2833129399356418023 : True := trivial
theorem tw633205786056929071 : True := trivial
theorem tw2568254505556181384 : True := trivial
theorem tw554150123544886163 : True := trivial
theorem tw8998447497308313031 : True := trivial
theorem tw6079013718363967986 : True := trivial
theorem tw11284095102321450384 : True := trivial
theorem tw7592737758637962508 : True := trivial
theorem tw14668511631890026000 : True := trivial
theorem tw13878704578050803468 : True := trivial
theorem tw4102540735083819432 : True := trivial
theorem tw3138034839198429343 : True := trivial
theorem tw3717392823937029675 : True := trivial
theorem tw8704862491182528195 : True := trivial
theorem tw12995040446616567416 : True := trivial
theorem tw3261305158431141032 : True := trivial
theorem tw16430915816663748648 : True := trivial
theorem tw5357091877936116943 : True := trivial
theorem tw2662640654955166554 : True := trivial
theorem tw11970966373588718715 : True := trivial
theorem tw9667371604450902722 : True := trivial
theorem tw16255593473724968407 : True := trivial
theorem tw6224170877121409925 : True := trivial
theorem tw15383970326607434539 : True := trivial
theorem tw6256577904334036347 : True := trivial
theorem tw10776891820448295660 : True := trivial
theorem tw10270072982505997387 : True := trivial
theorem tw5219979963297483672 : True := trivial
theorem tw14501309954146052931 : True := trivial
theorem tw8675598439203599758 : True := trivial
theorem tw7752311834317375110 : True := trivial
theorem tw4234007249639948361 : True := trivial
theorem tw17562571349462056447 : True := trivial
theorem tw7624193190811269767 : True := trivial
theorem tw11978413521935754955 : True := trivial
theorem tw5810045852129580712 : True := trivial
theorem tw12963280968694355505 : True := trivial
theorem tw13974925312860153415 : True := trivial
theorem tw4223499914743316197 : True := trivial
theorem tw14077266782030342966 : True := trivial
theorem tw698504429177521780 : True := trivial
theorem tw17020783420811989910 : True := trivial
theorem tw7760572786443350262 : True := trivial
theorem tw5407512703539401503 : True := trivial
theorem tw4455877380770327973 : True := trivial
theorem tw16677164967058099210 : True := trivial
theorem tw1852154192957344460 : True := trivial
theorem tw3503186257621930470 : True := trivial
theorem tw7470794200935664439 : True := trivial
theorem tw11573185593099305625 : True := trivial
theorem tw7654006143086342640 : True := trivial
theorem tw14489667985885031778 : True := trivial
theorem tw8904832544947513052 : True := trivial
theorem tw1210935260461398290 : True := trivial
theorem tw6380408172572610411 : True := trivial
theorem tw12939918643896636534 : True := trivial
theorem tw15279547404693070714 : True := trivial
theorem tw4089968622267994030 : True := trivial
theorem tw8251314324295617693 : True := trivial
theorem tw2349265898073963093 : True := trivial
theorem tw1237023783824169383 : True := trivial
theorem tw8553029947252318111 : True := trivial
theorem tw4556369529000224054 : True := trivial
theorem tw10697780987829134322 : True := trivial
theorem tw10649358248943494357 : True := trivial
theorem tw4744072821118667512 : True := trivial
theorem tw1654225462191865956 : True := trivial
theorem tw14899822238316720556 : True := trivial
theorem tw7087871906809751190 : True := trivial
theorem tw4543905161523892350 : True := trivial
theorem tw18150920631585633431 : True := trivial
theorem tw2019417871317029861 : True := trivial
theorem tw18395492278998289625 : True := trivial
theorem tw7062426881327642366 : True := trivial
theorem tw11035121408912044153 : True := trivial
theorem tw7908467971804986835 : True := trivial
theorem tw8341282326929209113 : True := trivial
theorem tw16068471518761339393 : True := trivial
theorem tw2429402771025028887 : True := trivial
theorem tw8284893131650743827 : True := trivial
theorem tw15702444901346298762 : True := trivial
theorem tw17395557426613882688 : True := trivial
theorem tw12896497243816047445 : True := trivial
theorem tw15714408780002387794 : True := trivial
theorem tw2672817834829789065 : True := trivial
theorem tw14612961120701237409 : True := trivial
theorem tw10590950498997877294 : True := trivial
theorem tw10063100516307277981 : True := trivial
theorem tw16320150198650911651 : True := trivial
theorem tw13149312471393036938 : True := trivial
theorem tw15949030352441783347 : True := trivial
theorem tw6380962498658763267 : True := trivial
theorem tw8157966078316213159 : True := trivial
theorem tw10296185900602416025 : True := trivial
theorem tw1851115920012264232 : True := trivial
theorem tw819581269629741903 : True := trivial
theorem tw4661213335681879696 : True := trivial
theorem tw9327922152133063983 : True := trivial
theorem tw16134599652051941822 : True := trivial
theorem tw12533228216910394501 : True := trivial
theorem tw8204862711207518542 : True := trivial
theorem tw5948744267144566402 : True := trivial
theorem tw10638337590452602304 : True := trivial
theorem tw8970675070440911417 : True := trivial
theorem tw10642616149093678847 : True := trivial
theorem tw3075745703988315423 : True := trivial
theorem tw17375892359343110470 : True := trivial
theorem tw6493970310749383332 : True := trivial
theorem tw8294240653761010368 : True := trivial
theorem tw11888671384849201089 : True := trivial
theorem tw17089426094003394974 : True := trivial
theorem tw14141370795704582692 : True := trivial
theorem tw9669973334209873961 : True := trivial
theorem tw3715962506518478139 : True := trivial
theorem tw3689404370070098182 : True := trivial
theorem tw17235917836216073354 : True := trivial
theorem tw472374944465832022 : True := trivial
theorem tw17399664032744737460 : True := trivial
theorem tw16709562183493559768 : True := trivial
theorem tw14530766637188190092 : True := trivial
theorem tw5143855100933531191 : True := trivial
theorem tw7369418010696574980 : True := trivial
theorem tw12065843183521838809 : True := trivial
theorem tw12213975467655875948 : True := trivial
theorem tw17944109936872585072 : True := trivial
theorem tw3350155680353798593 : True := trivial
theorem tw2751268379154560606 : True := trivial
theorem tw749238614453308679 : True := trivial
theorem tw14079239420884208600 : True := trivial
theorem tw14547966699756489510 : True := trivial
theorem tw8339304106862704186 : True := trivial
theorem tw16038094158708089341 : True := trivial
theorem tw10562552654083702826 : True := trivial
theorem tw6615780825574726323 : True := trivial
theorem tw49788657751997136 : True := trivial
theorem tw1988703809425603349 : True := trivial
theorem tw13400741754505464685 : True := trivial
theorem tw6383102264296473575 : True := trivial
theorem tw2704706348362125915 : True := trivial
theorem tw2611477950173938640 : True := trivial
theorem tw14594551377673355834 : True := trivial
theorem tw2622060320953548207 : True := trivial
theorem tw322050013519608344 : True := trivial
theorem tw4761573035715830027 : True := trivial
theorem tw16348301618643374911 : True := trivial
theorem tw6277358187822647768 : True := trivial
theorem tw6843069689513503525 : True := trivial
theorem tw15527282005689966578 : True := trivial
theorem tw2239188277882347358 : True := trivial
theorem tw2983808765952569588 : True := trivial
theorem tw7568925542082561425 : True := trivial
theorem tw14831164737375793744 : True := trivial
theorem tw12653628972011944751 : True := trivial
theorem tw13775564890968854687 : True := trivial
theorem tw5946249652032834008 : True := trivial
theorem tw15882181076956814282 : True := trivial
theorem tw2518826522832156782 : True := trivial
theorem tw15046288408497284291 : True := trivial
theorem tw9490294041316450330 : True := trivial
theorem tw3025107956624189606 : True := trivial
theorem tw1674462950621186625 : True := trivial
theorem tw12807490056063713144 : True := trivial
theorem tw8505715930566794922 : True := trivial
theorem tw2608754986961406354 : True := trivial
theorem tw6458250505864935242 : True := trivial
theorem tw1876733965445968993 : True := trivial
theorem tw7128411817126274573 : True := trivial
theorem tw16046674691418223271 : True := trivial
theorem tw18052588157141187013 : True := trivial
theorem tw8610844931807643459 : True := trivial
theorem tw10577917090292771406 : True := trivial
theorem tw7885687886215648802 : True := trivial
theorem tw14380082910158240685 : True := trivial
theorem tw3032662375945684778 : True := trivial
theorem tw7069165829902506475 : True := trivial
theorem tw432192147823525626 : True := trivial
theorem tw3150463307793308396 : True := trivial
theorem tw1209735564487040338 : True := trivial
theorem tw7413730176700592226 : True := trivial
theorem tw13546090980438463593 : True := trivial
theorem tw12338054878227850823 : True := trivial
theorem tw16522775373431457529 : True := trivial
theorem tw10271453395911271312 : True := trivial
theorem tw2177455513319780950 : True := trivial
theorem tw13998557817194492607 : True := trivial
theorem tw8610769654908477443 : True := trivial
theorem tw14650344413015467310 : True := trivial
theorem tw14739618169136809848 : True := trivial
theorem tw15449462363002995229 : True := trivial
theorem tw4533116752497180852 : True := trivial
theorem tw1822384446937712830 : True := trivial
theorem tw13057472754180192713 : True := trivial
theorem tw12007715157498246380 : True := trivial
theorem tw12115468020192433200 : True := trivial
theorem tw213618261673718206 : True := trivial
theorem tw18156476717756619265 : True := trivial
theorem tw7395982261110993349 : True := trivial
theorem tw1372687108412745907 : True := trivial
theorem tw1050381544612997474 : True := trivial
theorem tw2877016460285333601 : True := trivial
theorem tw11774503796414759824 : True := trivial
theorem tw10042318152208064319 : True := trivial
theorem tw6672823884435403723 : True := trivial
theorem tw482998092389996992 : True := trivial
theorem tw14564911930094890972 : True := trivial
theorem tw9749596649865906209 : True := trivial
theorem tw3307385460041185416 : True := trivial
theorem tw12163181167921096325 : True := trivial
theorem tw15546124633844880405 : True := trivial
theorem tw14372593150815540318 : True := trivial
theorem tw17321573298102300428 : True := trivial
theorem tw4164972503551978468 : True := trivial
theorem tw7352943450027355597 : True := trivial
theorem tw4777546781345486319 : True := trivial
theorem tw2306781128497966526 : True := trivial
theorem tw15941429526398382084 : True := trivial
theorem tw1802942519802696937 : True := trivial
theorem tw781579722240643084 : True := trivial
theorem tw13129516388289010306 : True := trivial
theorem tw2977453862124681146 : True := trivial
theorem tw9637842159022018516 : True := trivial
theorem tw10669151546571562655 : True := trivial
theorem tw15496886054038525805 : True := trivial
theorem tw6377521590898890726 : True := trivial
theorem tw11341729550224964117 : True := trivial
theorem tw11923870869552127210 : True := trivial
theorem tw12274147117825663888 : True := trivial
theorem tw5038725983843651322 : True := trivial
theorem tw4532389883727266251 : True := trivial
theorem tw13660215354155998299 : True := trivial
theorem tw2222162872701021220 : True := trivial
theorem tw10960220424665967092 : True := trivial
theorem tw14636922517422607784 : True := trivial
theorem tw3114749146242451648 : True := trivial
end PySem.W.Fast
open PySem PySem.W PyProof.Rows
set_option maxRecDepth 100000 in
set_option maxHeartbeats 0 in
theorem PySem.Challenge.cw_tribunal_k25_chains_of_blocks_holds : PySem.Challenge.rw_tribunal_k25_chains_of_blocks.Holds := by
  w_on; o_law; k_head; (case hw => w_witness2)
  k_fill
  refine Toy.walk (l := PySem.Challenge.rw_tribunal_k25_chains_of_blocks) rfl rfl (fun w h Y => PySem.W.kIn_of Y) ?F
  case F =>
    intro w mg fa h KX G hmg
    refine' Toy.all_mk KX G hmg ?c_SIGNS ?c_DIGITS ?c_MOST_DIGITS ?c_CODE_END ?c_MODULUS ?c_MOST_VALUES ?c_MOST_STEPS ?c_MOST_MEMBERS ?c_MOST_WEIGHT ?n_len ?n_range ?n_isinstance ?n_int ?n_bool ?n_list ?n_tuple ?n_str ?n_dict ?n_sorted ?n_max ?n_abs ?n_all ?n_sum ?n_enumerate ?g_Reader ?g_Run ?g_Machine ?g_Ledger ?g_Committee ?g_Chain ?a_Reader_init ?i_Reader_init ?l_Reader_init ?q_Reader_init ?k_Reader_init ?a_Reader_read_signs ?i_Reader_read_signs ?l_Reader_read_signs ?q_Reader_read_signs ?k_Reader_read_signs ?a_Reader_skip ?i_Reader_skip ?l_Reader_skip ?q_Reader_skip ?k_Reader_skip ?a_Reader_read_number ?i_Reader_read_number ?l_Reader_read_number ?q_Reader_read_number ?k_Reader_read_number ?a_Reader_read_code ?i_Reader_read_code ?l_Reader_read_code ?q_Reader_read_code ?k_Reader_read_code ?a_Reader_read_command ?i_Reader_read_command ?l_Reader_read_command ?q_Reader_read_command ?k_Reader_read_command ?a_commands_of ?l_commands_of ?q_commands_of ?k_commands_of ?a_Run_init ?i_Run_init ?l_Run_init ?q_Run_init ?k_Run_init ?a_run ?l_run ?q_run ?k_run ?a_plus ?l_plus ?q_plus ?k_plus ?a_minus ?l_minus ?q_minus ?k_minus ?a_times ?l_times ?q_times ?k_times ?a_append_digit ?l_append_digit ?q_append_digit ?k_append_digit ?a_is_less ?l_is_less ?q_is_less ?k_is_less ?a_is_equal ?l_is_equal ?q_is_equal ?k_is_equal ?a_Machine_init ?i_Machine_init ?l_Machine_init ?q_Machine_init ?k_Machine_init ?a_Machine_push ?i_Machine_push ?l_Machine_push ?q_Machine_push ?k_Machine_push ?a_Machine_take ?i_Machine_take ?l_Machine_take ?q_Machine_take ?k_Machine_take ?a_Machine_push_number ?i_Machine_push_number ?l_Machine_push_number ?q_Machine_push_number ?k_Machine_push_number ?a_Machine_combine ?i_Machine_combine ?l_Machine_combine ?q_Machine_combine ?k_Machine_combine ?a_Machine_move ?i_Machine_move ?l_Machine_move ?q_Machine_move ?k_Machine_move ?a_Machine_jump ?i_Machine_jump ?l_Machine_jump ?q_Machine_jump ?k_Machine_jump ?a_Machine_settle ?i_Machine_settle ?l_Machine_settle ?q_Machine_settle ?k_Machine_settle ?a_Machine_perform ?i_Machine_perform ?l_Machine_perform ?q_Machine_perform ?k_Machine_perform ?a_Machine_finish ?i_Machine_finish ?l_Machine_finish ?q_Machine_finish ?k_Machine_finish ?a_Ledger_init ?i_Ledger_init ?l_Ledger_init ?q_Ledger_init ?k_Ledger_init ?a_first_ledger ?l_first_ledger ?q_first_ledger ?k_first_ledger ?a_after_command ?l_after_command ?q_after_command ?k_after_command ?a_done ?l_done ?q_done ?k_done ?a_payment ?l_payment ?q_payment ?k_payment ?a_new_program ?l_new_program ?q_new_program ?k_new_program ?a_call ?l_call ?q_call ?k_call ?a_exist ?l_exist ?q_exist ?k_exist ?a_moved ?l_moved ?q_moved ?k_moved ?a_replaced ?l_replaced ?q_replaced ?k_replaced ?a_first_wrong ?l_first_wrong ?q_first_wrong ?k_first_wrong ?a_Committee_init ?i_Committee_init ?l_Committee_init ?q_Committee_init ?k_Committee_init ?a_Chain_init ?i_Chain_init ?l_Chain_init ?q_Chain_init ?k_Chain_init ?a_Chain_height ?i_Chain_height ?l_Chain_height ?q_Chain_height ?k_Chain_height ?a_Chain_committee ?i_Chain_committee ?l_Chain_committee ?q_Chain_committee ?k_Chain_committee ?a_Chain_extend ?i_Chain_extend ?l_Chain_extend ?q_Chain_extend ?k_Chain_extend ?a_after_weight ?l_after_weight ?q_after_weight ?k_after_weight ?a_law_cell ?l_law_cell ?q_law_cell ?k_law_cell ?a_law_is_integer ?l_law_is_integer ?q_law_is_integer ?k_law_is_integer ?a_law_row ?l_law_row ?q_law_row ?k_law_row ?a_law_weights ?l_law_weights ?q_law_weights ?k_law_weights ?a_law_number ?l_law_number ?q_law_number ?k_law_number ?a_law_code ?l_law_code ?q_law_code ?k_law_code ?a_law_place ?l_law_place ?q_law_place ?k_law_place ?a_law_command ?l_law_command ?q_law_command ?k_law_command ?a_law_text ?l_law_text ?q_law_text ?k_law_text ?a_law_fitting ?l_law_fitting ?q_law_fitting ?k_law_fitting ?a_law_reckon ?l_law_reckon ?q_law_reckon ?k_law_reckon ?a_law_need ?l_law_need ?q_law_need ?k_law_need ?a_law_act ?l_law_act ?q_law_act ?k_law_act ?a_law_sign ?l_law_sign ?q_law_sign ?k_law_sign ?a_law_run ?l_law_run ?q_law_run ?k_law_run ?a_law_after ?l_law_after ?q_law_after ?k_law_after ?a_law_pairs ?l_law_pairs ?q_law_pairs ?k_law_pairs ?a_law_shows ?l_law_shows ?q_law_shows ?k_law_shows ?a_law_block ?l_law_block ?q_law_block ?k_law_block ?a_law ?l_law ?q_law ?k_law ?pg_Reader ?hd_Reader ?po_Reader ?sa_Reader ?mk_Reader ?kc_Reader ?no_Reader_text ?no_Reader_at ?pg_Run ?hd_Run ?po_Run ?sa_Run ?mk_Run ?kc_Run ?no_Run_well ?no_Run_store ?no_Run_paid ?no_Run_steps ?pg_Machine ?hd_Machine ?po_Machine ?sa_Machine ?mk_Machine ?kc_Machine ?no_Machine_code ?no_Machine_given ?no_Machine_amount ?no_Machine_store ?no_Machine_stack ?no_Machine_place ?no_Machine_paid ?no_Machine_steps ?pg_Ledger ?hd_Ledger ?po_Ledger ?sa_Ledger ?mk_Ledger ?kc_Ledger ?no_Ledger_balances ?no_Ledger_codes ?no_Ledger_stores ?pg_Committee ?hd_Committee ?po_Committee ?sa_Committee ?mk_Committee ?kc_Committee ?no_Committee_weights ?no_Committee_size ?no_Committee_total ?pg_Chain ?hd_Chain ?po_Chain ?sa_Chain ?mk_Chain ?kc_Chain ?no_Chain_blocks ?no_Chain_receipts ?no_Chain_committees ?no_Chain_ledgers ?g_MARKS ?l_MARKS ?kl_MARKS ?lo_MARKS ?l_MARKS_p ?l_MARKS_w ?l_MARKS_d ?l_MARKS_k ?g_BadCommand ?x_BadCommand ?kc_BadCommand ?b_BadCommand ?t_BadCommand ?xga_BadCommand ?xgt_BadCommand ?xhd_BadCommand ?xcc_BadCommand ?xsp_BadCommand ?xtk_BadCommand ?xmo_BadCommand ?te1_BadCommand ?te2_BadCommand ?te3_BadCommand ?te4_BadCommand_BadCommand ?g_OF_TWO ?l_OF_TWO ?kl_OF_TWO ?lo_OF_TWO ?g_Failed ?x_Failed ?kc_Failed ?b_Failed ?t_Failed ?xga_Failed ?xgt_Failed ?xhd_Failed ?xcc_Failed ?xsp_Failed ?xtk_Failed ?xmo_Failed ?te1_Failed ?te2_Failed ?te3_Failed ?te4_Failed_Failed ?kt_Ledger_Ledger ?icc_Ledger ?isp_Ledger ?itk_Ledger ?imo_Ledger
    (case c_SIGNS => k_is)
    (case c_DIGITS => k_is)
    (case c_MOST_DIGITS => k_is)
    (case c_CODE_END => k_is)
    (case c_MODULUS => k_is)
    (case c_MOST_VALUES => k_is)
    (case c_MOST_STEPS => k_is)
    (case c_MOST_MEMBERS => k_is)
    (case c_MOST_WEIGHT => k_is)
    (case n_len => k_is)
    (case n_range => k_is)
    (case n_isinstance => k_is)
    (case n_int => k_is)
    (case n_bool => k_is)
    (case n_list => k_is)
    (case n_tuple => k_is)
    (case n_str => k_is)
    (case n_dict => k_is)
    (case n_sorted => k_is)
    (case n_max => k_is)
    (case n_abs => k_is)
    (case n_all => k_is)
    (case n_sum => k_is)
    (case n_enumerate => k_is)
    (case g_Reader => k_is)
    (case g_Run => k_is)
    (case g_Machine => k_is)
    (case g_Ledger => k_is)
    (case g_Committee => k_is)
    (case g_Chain => k_is)
    (case a_Reader_init => k_is)
    (case i_Reader_init => k_is)
    (case l_Reader_init => k_is)
    (case q_Reader_init => k_is)
    (case k_Reader_init => k_is)
    (case a_Reader_read_signs => k_is)
    (case i_Reader_read_signs => k_is)
    (case l_Reader_read_signs => k_is)
    (case q_Reader_read_signs => k_is)
    (case k_Reader_read_signs => k_is)
    (case a_Reader_skip => k_is)
    (case i_Reader_skip => k_is)
    (case l_Reader_skip => k_is)
    (case q_Reader_skip => k_is)
    (case k_Reader_skip => k_is)
    (case a_Reader_read_number => k_is)
    (case i_Reader_read_number => k_is)
    (case l_Reader_read_number => k_is)
    (case q_Reader_read_number => k_is)
    (case k_Reader_read_number => k_is)
    (case a_Reader_read_code => k_is)
    (case i_Reader_read_code => k_is)
    (case l_Reader_read_code => k_is)
    (case q_Reader_read_code => k_is)
    (case k_Reader_read_code => k_is)
    (case a_Reader_read_command => k_is)
    (case i_Reader_read_command => k_is)
    (case l_Reader_read_command => k_is)
    (case q_Reader_read_command => k_is)
    (case k_Reader_read_command => k_is)
    (case a_commands_of => k_is)
    (case l_commands_of => k_is)
    (case q_commands_of => k_is)
    (case k_commands_of => k_is)
    (case a_Run_init => k_is)
    (case i_Run_init => k_is)
    (case l_Run_init => k_is)
    (case q_Run_init => k_is)
    (case k_Run_init => k_is)
    (case a_run => k_is)
    (case l_run => k_is)
    (case q_run => k_is)
    (case k_run => k_is)
    (case a_plus => k_is)
    (case l_plus => k_is)
    (case q_plus => k_is)
    (case k_plus => k_is)
    (case a_minus => k_is)
    (case l_minus => k_is)
    (case q_minus => k_is)
    (case k_minus => k_is)
    (case a_times => k_is)
    (case l_times => k_is)
    (case q_times => k_is)
    (case k_times => k_is)
    (case a_append_digit => k_is)
    (case l_append_digit => k_is)
    (case q_append_digit => k_is)
    (case k_append_digit => k_is)
    (case a_is_less => k_is)
    (case l_is_less => k_is)
    (case q_is_less => k_is)
    (case k_is_less => k_is)
    (case a_is_equal => k_is)
    (case l_is_equal => k_is)
    (case q_is_equal => k_is)
    (case k_is_equal => k_is)
    (case a_Machine_init => k_is)
    (case i_Machine_init => k_is)
    (case l_Machine_init => k_is)
    (case q_Machine_init => k_is)
    (case k_Machine_init => k_is)
    (case a_Machine_push => k_is)
    (case i_Machine_push => k_is)
    (case l_Machine_push => k_is)
    (case q_Machine_push => k_is)
    (case k_Machine_push => k_is)
    (case a_Machine_take => k_is)
    (case i_Machine_take => k_is)
    (case l_Machine_take => k_is)
    (case q_Machine_take => k_is)
    (case k_Machine_take => k_is)
    (case a_Machine_push_number => k_is)
    (case i_Machine_push_number => k_is)
    (case l_Machine_push_number => k_is)
    (case q_Machine_push_number => k_is)
    (case k_Machine_push_number => k_is)
    (case a_Machine_combine => k_is)
    (case i_Machine_combine => k_is)
    (case l_Machine_combine => k_is)
    (case q_Machine_combine => k_is)
    (case k_Machine_combine => k_is)
    (case a_Machine_move => k_is)
    (case i_Machine_move => k_is)
    (case l_Machine_move => k_is)
    (case q_Machine_move => k_is)
    (case k_Machine_move => k_is)
    (case a_Machine_jump => k_is)
    (case i_Machine_jump => k_is)
    (case l_Machine_jump => k_is)
    (case q_Machine_jump => k_is)
    (case k_Machine_jump => k_is)
    (case a_Machine_settle => k_is)
    (case i_Machine_settle => k_is)
    (case l_Machine_settle => k_is)
    (case q_Machine_settle => k_is)
    (case k_Machine_settle => k_is)
    (case a_Machine_perform => k_is)
    (case i_Machine_perform => k_is)
    (case l_Machine_perform => k_is)
    (case q_Machine_perform => k_is)
    (case k_Machine_perform => k_is)
    (case a_Machine_finish => k_is)
    (case i_Machine_finish => k_is)
    (case l_Machine_finish => k_is)
    (case q_Machine_finish => k_is)
    (case k_Machine_finish => k_is)
    (case a_Ledger_init => k_is)
    (case i_Ledger_init => k_is)
    (case l_Ledger_init => k_is)
    (case q_Ledger_init => k_is)
    (case k_Ledger_init => k_is)
    (case a_first_ledger => k_is)
    (case l_first_ledger => k_is)
    (case q_first_ledger => k_is)
    (case k_first_ledger => k_is)
    (case a_after_command => k_is)
    (case l_after_command => k_is)
    (case q_after_command => k_is)
    (case k_after_command => k_is)
    (case a_done => k_is)
    (case l_done => k_is)
    (case q_done => k_is)
    (case k_done => k_is)
    (case a_payment => k_is)
    (case l_payment => k_is)
    (case q_payment => k_is)
    (case k_payment => k_is)
    (case a_new_program => k_is)
    (case l_new_program => k_is)
    (case q_new_program => k_is)
    (case k_new_program => k_is)
    (case a_call => k_is)
    (case l_call => k_is)
    (case q_call => k_is)
    (case k_call => k_is)
    (case a_exist => k_is)
    (case l_exist => k_is)
    (case q_exist => k_is)
    (case k_exist => k_is)
    (case a_moved => k_is)
    (case l_moved => k_is)
    (case q_moved => k_is)
    (case k_moved => k_is)
    (case a_replaced => k_is)
    (case l_replaced => k_is)
    (case q_replaced => k_is)
    (case k_replaced => k_is)
    (case a_first_wrong => k_is)
    (case l_first_wrong => k_is)
    (case q_first_wrong => k_is)
    (case k_first_wrong => k_is)
    (case a_Committee_init => k_is)
    (case i_Committee_init => k_is)
    (case l_Committee_init => k_is)
    (case q_Committee_init => k_is)
    (case k_Committee_init => k_is)
    (case a_Chain_init => k_is)
    (case i_Chain_init => k_is)
    (case l_Chain_init => k_is)
    (case q_Chain_init => k_is)
    (case k_Chain_init => k_is)
    (case a_Chain_height => k_is)
    (case i_Chain_height => k_is)
    (case l_Chain_height => k_is)
    (case q_Chain_height => k_is)
    (case k_Chain_height => k_is)
    (case a_Chain_committee => k_is)
    (case i_Chain_committee => k_is)
    (case l_Chain_committee => k_is)
    (case q_Chain_committee => k_is)
    (case k_Chain_committee => k_is)
    (case a_Chain_extend => k_is)
    (case i_Chain_extend => k_is)
    (case l_Chain_extend => k_is)
    (case q_Chain_extend => k_is)
    (case k_Chain_extend => k_is)
    (case a_after_weight => k_is)
    (case l_after_weight => k_is)
    (case q_after_weight => k_is)
    (case k_after_weight => k_is)
    (case a_law_cell => k_is)
    (case l_law_cell => k_is)
    (case q_law_cell => k_is)
    (case k_law_cell => k_is)
    (case a_law_is_integer => k_is)
    (case l_law_is_integer => k_is)
    (case q_law_is_integer => k_is)
    (case k_law_is_integer => k_is)
    (case a_law_row => k_is)
    (case l_law_row => k_is)
    (case q_law_row => k_is)
    (case k_law_row => k_is)
    (case a_law_weights => k_is)
    (case l_law_weights => k_is)
    (case q_law_weights => k_is)
    (case k_law_weights => k_is)
    (case a_law_number => k_is)
    (case l_law_number => k_is)
    (case q_law_number => k_is)
    (case k_law_number => k_is)
    (case a_law_code => k_is)
    (case l_law_code => k_is)
    (case q_law_code => k_is)
    (case k_law_code => k_is)
    (case a_law_place => k_is)
    (case l_law_place => k_is)
    (case q_law_place => k_is)
    (case k_law_place => k_is)
    (case a_law_command => k_is)
    (case l_law_command => k_is)
    (case q_law_command => k_is)
    (case k_law_command => k_is)
    (case a_law_text => k_is)
    (case l_law_text => k_is)
    (case q_law_text => k_is)
    (case k_law_text => k_is)
    (case a_law_fitting => k_is)
    (case l_law_fitting => k_is)
    (case q_law_fitting => k_is)
    (case k_law_fitting => k_is)
    (case a_law_reckon => k_is)
    (case l_law_reckon => k_is)
    (case q_law_reckon => k_is)
    (case k_law_reckon => k_is)
    (case a_law_need => k_is)
    (case l_law_need => k_is)
    (case q_law_need => k_is)
    (case k_law_need => k_is)
    (case a_law_act => k_is)
    (case l_law_act => k_is)
    (case q_law_act => k_is)
    (case k_law_act => k_is)
    (case a_law_sign => k_is)
    (case l_law_sign => k_is)
    (case q_law_sign => k_is)
    (case k_law_sign => k_is)
    (case a_law_run => k_is)
    (case l_law_run => k_is)
    (case q_law_run => k_is)
    (case k_law_run => k_is)
    (case a_law_after => k_is)
    (case l_law_after => k_is)
    (case q_law_after => k_is)
    (case k_law_after => k_is)
    (case a_law_pairs => k_is)
    (case l_law_pairs => k_is)
    (case q_law_pairs => k_is)
    (case k_law_pairs => k_is)
    (case a_law_shows => k_is)
    (case l_law_shows => k_is)
    (case q_law_shows => k_is)
    (case k_law_shows => k_is)
    (case a_law_block => k_is)
    (case l_law_block => k_is)
    (case q_law_block => k_is)
    (case k_law_block => k_is)
    (case a_law => k_is)
    (case l_law => k_is)
    (case q_law => k_is)
    (case k_law => k_is)
    (case pg_Reader => k_is)
    (case hd_Reader => k_is)
    (case po_Reader => k_is)
    (case sa_Reader => k_is)
    (case mk_Reader => k_is)
    (case kc_Reader => k_is)
    (case no_Reader_text => k_is)
    (case no_Reader_at => k_is)
    (case pg_Run => k_is)
    (case hd_Run => k_is)
    (case po_Run => k_is)
    (case sa_Run => k_is)
    (case mk_Run => k_is)
    (case kc_Run => k_is)
    (case no_Run_well => k_is)
    (case no_Run_store => k_is)
    (case no_Run_paid => k_is)
    (case no_Run_steps => k_is)
    (case pg_Machine => k_is)
    (case hd_Machine => k_is)
    (case po_Machine => k_is)
    (case sa_Machine => k_is)
    (case mk_Machine => k_is)
    (case kc_Machine => k_is)
    (case no_Machine_code => k_is)
    (case no_Machine_given => k_is)
    (case no_Machine_amount => k_is)
    (case no_Machine_store => k_is)
    (case no_Machine_stack => k_is)
    (case no_Machine_place => k_is)
    (case no_Machine_paid => k_is)
    (case no_Machine_steps => k_is)
    (case pg_Ledger => k_is)
    (case hd_Ledger => k_is)
    (case po_Ledger => k_is)
    (case sa_Ledger => k_is)
    (case mk_Ledger => k_is)
    (case kc_Ledger => k_is)
    (case no_Ledger_balances => k_is)
    (case no_Ledger_codes => k_is)
    (case no_Ledger_stores => k_is)
    (case pg_Committee => k_is)
    (case hd_Committee => k_is)
    (case po_Committee => k_is)
    (case sa_Committee => k_is)
    (case mk_Committee => k_is)
    (case kc_Committee => k_is)
    (case no_Committee_weights => k_is)
    (case no_Committee_size => k_is)
    (case no_Committee_total => k_is)
    (case pg_Chain => k_is)
    (case hd_Chain => k_is)
    (case po_Chain => k_is)
    (case sa_Chain => k_is)
    (case mk_Chain => k_is)
    (case kc_Chain => k_is)
    (case no_Chain_blocks => k_is)
    (case no_Chain_receipts => k_is)
    (case no_Chain_committees => k_is)
    (case no_Chain_ledgers => k_is)
    (case g_MARKS => k_is)
    (case l_MARKS => k_is)
    (case kl_MARKS => exact ⟨⟨_, _, rfl, rfl⟩, ⟨_, _, rfl, rfl⟩, ⟨_, _, rfl, rfl⟩, ⟨_, _, rfl, rfl⟩, trivial⟩)
    (case lo_MARKS => exact rfl)
    (case l_MARKS_p => k_is)
    (case l_MARKS_w => k_is)
    (case l_MARKS_d => k_is)
    (case l_MARKS_k => k_is)
    (case g_BadCommand => k_is)
    (case x_BadCommand => k_exc)
    (case kc_BadCommand => k_is)
    (case b_BadCommand => k_is)
    (case t_BadCommand => k_is)
    (case xga_BadCommand => k_is)
    (case xgt_BadCommand => k_is)
    (case xhd_BadCommand => k_is)
    (case xcc_BadCommand => k_is)
    (case xsp_BadCommand => k_is)
    (case xtk_BadCommand => k_is)
    (case xmo_BadCommand => k_is)
    (case te1_BadCommand => k_is)
    (case te2_BadCommand => k_is)
    (case te3_BadCommand => k_is)
    (case te4_BadCommand_BadCommand => k_is)
    (case g_OF_TWO => k_is)
    (case l_OF_TWO => k_is)
    (case kl_OF_TWO => exact ⟨⟨_, _, rfl, rfl⟩, ⟨_, _, rfl, rfl⟩, ⟨_, _, rfl, rfl⟩, ⟨_, _, rfl, rfl⟩, ⟨_, _, rfl, rfl⟩, ⟨_, _, rfl, rfl⟩, trivial⟩)
    (case lo_OF_TWO => exact rfl)
    (case g_Failed => k_is)
    (case x_Failed => k_exc)
    (case kc_Failed => k_is)
    (case b_Failed => k_is)
    (case t_Failed => k_is)
    (case xga_Failed => k_is)
    (case xgt_Failed => k_is)
    (case xhd_Failed => k_is)
    (case xcc_Failed => k_is)
    (case xsp_Failed => k_is)
    (case xtk_Failed => k_is)
    (case xmo_Failed => k_is)
    (case te1_Failed => k_is)
    (case te2_Failed => k_is)
    (case te3_Failed => k_is)
    (case te4_Failed_Failed => k_is)
    (case kt_Ledger_Ledger => kit_is)
    (case icc_Ledger => k_is)
    (case isp_Ledger => k_is)
    (case itk_Ledger => k_is)
    (case imo_Ledger => k_is)
